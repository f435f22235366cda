import PyProof.Rows.All
import Wide.All
import OpenK.AllK
import Wide.FinOn
import HandS.ForMost
import HandS.Walk
import HandS.Zip
import HandS.List
import KE.GoesEnum
import KE.GoesZip
import KE.GoesMore
import PySem.Challenge.RW_uprightletters_k60_whole_texts_of_talks
import HandS.IsInst
import HandS.SortKw
import PyProof.ReprRoads
import KE.DatumOrd
import HandS.Codes
import HandS.TupLen
import PyProof.EqKinds
import PyProof.InstEq
import HandS.OwnEq
import HandS.More
import HandS.SlotsOwn
import HandS.ExcInit
import HandS.DictTup
import HandS.Strs
import HandS.TupAny
import HandS.Star
import HandS.TupSets
import KE.KSetDisp
import KE.GoesSet
import HandS.SetFor
import HandS.MakeKwOnly
import HandS.TupLe
import HandS.Style
import HandS.SortInts
import HandS.Conv
import HandS.Deep
import HandS.Lambda
import HandS.Text
import HandS.FStr
import HandS.Iter
import HandS.Ends
set_option Elab.async false
set_option linter.all false
set_option maxRecDepth 100000
set_option maxHeartbeats 4000000
/-! rules of my own: enumerate of a tuple, zip of a list and a tuple -/
namespace PySem
namespace UpR
set_option maxHeartbeats 2000000 in
/-- what enumerate's maker meets when it is handed one thing that begins to be walked -/
theorem enum1_meets {v : Value} {o : Obj} {G : Heap → Prop} (B : Begins v o G) :
    Meets (Builtin.«enumerate.__new__» ⟨[.type "enumerate", v], []⟩) (fun _ R st => G st.heap ∧
      R (.ok (.ret (.ref (st.heap.push o).objs.size)))
        { st with heap := (st.heap.push o).push { cls := .type "enumerate", data := .fields #[.none, .bool false, .ref st.heap.objs.size, rawInt 0, .none, .none] } }) :=
  .of_wp fun prog w A R st hh => by
    obtain ⟨p0, gn, dw, tok, fs⟩ := st
    obtain ⟨hG, hR⟩ := hh
    have sub1 := sub_enumerate
    have it1 : ∀ {A' : Around} {E : Value → Shared → Prop} {Q : Value → Shared → Prop}, Q (.ref p0.objs.size) ⟨p0.push o, gn, dw, tok, fs⟩ → wpAny (model prog w) A' (pyIter v) Q E ⟨p0, gn, dw, tok, fs⟩ :=
      fun hq => B.iter prog w _ _ ⟨p0, gn, dw, tok, fs⟩ _ hG hq
    wp_walk using it1
    refine wpAny_stack_any fun stk => wpAny_pure ?_
    split
    · rename_i cc _ _ _ _ _
      cases (cc == Value.type "enumerate")
      all_goals
        wp_walk using it1
        exact ⟨_, rfl, hR⟩
    · wp_walk using it1
      exact ⟨_, rfl, hR⟩
theorem enum1_begins {prog : Program} {w : World} {A : Around} {E : Value → Shared → Prop} {st : Shared} {v : Value} {o : Obj} {G : Heap → Prop} {Q : Value → Shared → Prop} (B : Begins v o G) (hG : G st.heap)
    (hh : ∀ h', IsEnum h' (st.heap.objs.size + 1) st.heap.objs.size 0 .none → h'.get? st.heap.objs.size = some o → h'.objs.size = st.heap.objs.size + 2 →
      (∀ b u, st.heap.get? b = some u → h'.get? b = some u) → Q (.ref (st.heap.objs.size + 1)) { st with heap := h' }) :
    wpAny (model prog w) A (call (.type "enumerate") [v]) Q E st := by
  refine callType_new F.called_enumerate (by decide) (F.typeCall_enumerate_1 _) (F.newCall_enumerate_1 _) (fun obj => F.args_object_init_2 obj _) F.entry_enumerate_new (enum1_meets B) ⟨hG, ?_⟩
  have sz : (st.heap.push o).objs.size = st.heap.objs.size + 1 := Heap.size_push ..
  show _ ∧ _
  rw [sz]
  have en : IsEnum ((st.heap.push o).push { cls := .type "enumerate", data := .fields #[.none, .bool false, .ref st.heap.objs.size, rawInt 0, .none, .none] }) (st.heap.objs.size + 1) st.heap.objs.size 0 .none := by
    have t := Heap.get?_push_size (st.heap.push o) (o := { cls := .type "enumerate", data := .fields #[.none, .bool false, .ref st.heap.objs.size, rawInt 0, .none, .none] }) rfl
    rw [sz] at t
    exact t
  exact ⟨⟨_, en, rfl⟩, hh _ en (Heap.get?_push_of_some _ (Heap.get?_push_size _ B.free)) (by rw [Heap.size_push, sz]) fun b u e => Heap.get?_push_of_some _ (Heap.get?_push_of_some _ e)⟩
end UpR
end PySem
namespace Up
open PySem PySem.Spec PyProof.Rows L2
/-- the tuple at a, each item in a new pair behind its number -/
def IeT (K : PySem.W.Frag) (a : Addr) : It :=
  ⟨fun i H => ∃ (xs : List V) (x : V), SqT K H a xs ∧ xs[i]? = some x,
   fun i H v H' => ∃ U x, v = .ref U ∧ H U = none ∧ H' = upd H U (.tup [.int (i : Nat), x]) ∧ ∀ xs, SqT K H a xs → xs[i]? = some x,
   fun i H => ∃ xs : List V, SqT K H a xs ∧ xs.length = i⟩
theorem turn_eT {P : Program} {w : World} {K : PySem.W.Frag} {elts : List Expr} {kk : Nat} {tp : Pos} (a e it : Addr) :
    Turn P w K (.Tuple elts kk tp) (IeT K a) [e, it] e (fun i h => (∃ old, IsEnum h e it ((i : Nat) : Int) old) ∧ h.IsTupleIter it a i ∧ e ≠ it ∧ e ≠ a ∧ a ≠ it) where
  mem := List.mem_cons_self ..
  obj := fun i h st b hb => by
    obtain ⟨⟨old, he⟩, ⟨o, ho, _, hd⟩, _⟩ := st
    rcases (show b = e ∨ b = it by simpa using hb) with z | z
    · rw [z]
      exact ⟨_, he, fun v q => nomatch q⟩
    · rw [z]
      exact ⟨o, ho, fun v q => by rw [hd] at q; cases q⟩
  keep := fun i h h' st k => by
    obtain ⟨⟨old, he⟩, hi, ne⟩ := st
    exact ⟨⟨old, k e (by simp) _ he⟩, hi.at fun o q => k it (by simp) o q, ne⟩
  item := by
    intro X hP hw hK hc i pins s σ H E I hf st hg
    subst hP hw hK
    obtain ⟨⟨old, he⟩, hit, nei, nea, nai⟩ := st
    obtain ⟨xs, x, hq, hx⟩ := hg
    obtain ⟨its, rv, p, _⟩ := I.tuple hq
    obtain ⟨u, hu, ru⟩ := rv.get hx
    have hlt : i < its.toArray.size := by
      rcases Nat.lt_or_ge i its.toArray.size with z | z
      · exact z
      · simp at z
        rw [List.getElem?_eq_none z] at hu
        cases hu
    have el : e < s.heap.objs.size := Heap.lt_size he
    have il : it < s.heap.objs.size := by
      obtain ⟨_, q, _⟩ := hit
      exact Heap.lt_size q
    refine wpAny_pyNext_enum_itemD (Draws.tuple (A := X.A.in1) (I.ok.hd hc) it a nai its.toArray) he ⟨hit, p⟩ hlt nei (by simp [nei, nea]) fun x2 h' tk hx2 ho hit' hU hsz hk => ?_
    have ex2 : x2 = u := by
      have z : its[i]? = some x2 := by simpa using hx2
      exact Option.some.inj (z.symm.trans hu)
    subst ex2
    refine ⟨_, rfl, wpAny_letOwnedTupleGo_enum (s := { s with heap := h', toks := tk + 1 }) ho fun h2 he2 sb => ?_⟩
    have hU2 : h2.get? s.heap.objs.size = some { cls := .type "tuple", data := .seq #[.int i tk, x2] } := (sb.2 _ (Nat.ne_of_gt el)).trans hU
    have new : ObjOk X.prog X.w (upd H s.heap.objs.size (.tup [.int (i : Nat), x])) h2 s.heap.objs.size (.tup [.int (i : Nat), x]) :=
      ⟨by show 2 ≤ sizeLine; decide, [.int i tk, x2], .cons ⟨_, rfl⟩ (.cons ru .nil), ⟨_, hU2, rfl, _, rfl⟩⟩
    have J : Inv X pins σ (upd H s.heap.objs.size (.tup [.int (i : Nat), x])) { s with heap := h2, toks := tk + 1 } :=
      I.turnedNew (ch := [e, it]) (fun b ob hb q => (sb.2 b (fun z => hb (by simp [z]))).trans (hk b ob (fun z => hb (by simp [z])) (fun z => hb (by simp [z])) q)) hf (Nat.le_refl _) new
    refine ⟨.ref s.heap.objs.size, _, J, rfl, ⟨_, x, rfl, I.hok.fresh (Nat.le_refl _), rfl, fun ys hy => by rw [I.tuple_inj hy hq]; exact hx⟩, ⟨⟨x2, ?_⟩, hit'.1.at fun o q => (sb.2 it nei.symm).trans q, nei, nea, nai⟩, fun b hb => ?_⟩
    · have e1 : ((i + 1 : Nat) : Int) = (i : Int) + 1 := by omega
      rw [e1]
      exact he2
    · have lb : b < s.heap.objs.size := by
        rcases (show b = e ∨ b = it by simpa using hb) with z | z
        · exact z ▸ el
        · exact z ▸ il
      rw [upd_ne (Nat.ne_of_lt lb)]
      exact (hf b hb).1
  done := by
    intro X hP hw hK hc i pins s σ H E I hf st hg
    subst hP hw hK
    obtain ⟨⟨old, he⟩, hit, nei, nea, nai⟩ := st
    obtain ⟨xs, hq, hx⟩ := hg
    obtain ⟨its, rv, p, _⟩ := I.tuple hq
    obtain ⟨f0, f1, f2, f3, f4, f5⟩ := hf it (by simp)
    have hl := rv.length
    have sz : its.toArray.size = i := by
      rw [List.size_toArray]
      omega
    exact wpAny_pyNext_enum_endD (Draws.tuple (A := X.A.in1) (I.ok.hd hc) it a nai its.toArray) he (by rw [sz]; exact ⟨hit, p⟩) fun h' eb => ⟨rfl, I.turned (t' := s.toks) (fun b o hb q => eb b o hb q) f0 f1 f3 f4 f5⟩
  self := fun A i s Q E st h => let ⟨⟨_, he⟩, _⟩ := st; wpAny_pyIter_enum he h
def iEnT (K : PySem.W.Frag) (ta : TA) : TI := fun σ H R => ta σ H fun vs H1 => ∃ a xs, vs = [.ref a] ∧ SqT K H1 a xs ∧ R (IeT K a) H1
theorem pi_enT {X : Cx} {e : Expr} {ta : TA} {p pos tp : Pos} {elts : List Expr} {kk : Nat} (hg : Gl X "enumerate") (hm : X.mg "enumerate" = none) (ha : PA X [e] ta) (hs : starEach [e] X.env = [(false, eval e X.env)] := by rfl) :
    PI X (.Tuple elts kk tp) (.Call (.Name "enumerate" p) [e] [] pos) (iEnT X.K ta) := by
  refine ⟨fun pins s σ H R I h => ?_⟩
  refine Call_ (ld_blt I hg hm boot_enumerate (PyProof.Rows.callWith_type1 (thn (ha.run pos pins s σ H _ I h) fun us s1 ⟨vs, H1, I1, r1, q1⟩ => ?_) hs rfl))
  obtain ⟨a, xs, rfl, hq, q⟩ := q1
  cases r1 with
  | cons r rr =>
    cases rr
    cases r
    obtain ⟨its, rv, pt, _⟩ := I1.tuple hq
    have la : a < s1.heap.objs.size := by
      obtain ⟨o, ho, _⟩ := id pt
      exact Heap.lt_size ho
    refine PySem.UpR.enum1_begins (begins_tuple a its.toArray) pt fun h' he hit hsz hk => wpAny_pyIter_enum he ?_
    have I2 : Inv X pins σ H1 { s1 with heap := h' } := I1.kept (t' := s1.toks) hk
    refine ⟨s1.heap.objs.size + 1, [s1.heap.objs.size + 1, s1.heap.objs.size], _, _, H1, rfl, I2, turn_eT a (s1.heap.objs.size + 1) s1.heap.objs.size, ⟨⟨.none, he⟩, ⟨_, hit, rfl, rfl⟩, Nat.succ_ne_self _, ?_, ?_⟩, fun b hb => ?_, q⟩
    · exact Nat.ne_of_gt (Nat.lt_succ_of_lt la)
    · exact Nat.ne_of_lt la
    · have hle : s1.heap.objs.size ≤ b := by
        rcases (show b = s1.heap.objs.size + 1 ∨ b = s1.heap.objs.size by simpa using hb) with z | z
        · rw [z]
          exact Nat.le_succ _
        · exact Nat.le_of_eq z.symm
      exact I1.fpOk hle (I1.hok.fresh hle)
/-- a list at a beside a tuple at b, the items in new pairs -/
def IzM (K : PySem.W.Frag) (a b : Addr) : It :=
  ⟨fun i H => ∃ (xs ys : List V) (x y : V), SqL K H a xs ∧ SqT K H b ys ∧ xs[i]? = some x ∧ ys[i]? = some y,
   fun i H v H' => ∃ U x y, v = .ref U ∧ H U = none ∧ H' = upd H U (.tup [x, y]) ∧ (∀ xs, SqL K H a xs → xs[i]? = some x) ∧ ∀ ys, SqT K H b ys → ys[i]? = some y,
   fun i H => ∃ xs ys : List V, SqL K H a xs ∧ SqT K H b ys ∧ i ≤ xs.length ∧ i ≤ ys.length ∧ (i = xs.length ∨ i = ys.length)⟩
theorem no2 {x y z : Addr} (h1 : x ≠ y) (h2 : x ≠ z) : x ∉ ([y, z] : List Addr) := by simp [h1, h2]
theorem nij (n i j : Nat) (h : i ≠ j) : n + i ≠ n + j := by omega
theorem ni0 (n i : Nat) (h : i ≠ 0) : n + i ≠ n := by omega
theorem nik (n i k : Nat) (h : k < n) : n + i ≠ k := by omega
theorem n0j (n j : Nat) (h : j ≠ 0) : n ≠ n + j := by omega
theorem n0k (n k : Nat) (h : k < n) : n ≠ k := by omega
theorem sep_num (n k l : Nat) (h1 : k < n) (h2 : l < n) : ZipSep2 (n + 4) (n + 2) (n + 3) n (n + 1) [n, k] [n + 1, l] where
  TIz := nij n 2 4 (by decide)
  TOz := nij n 3 4 (by decide)
  TITO := nij n 2 3 (by decide)
  TIi1 := ni0 n 2 (by decide)
  mem1 := List.mem_cons_self ..
  zf1 := no2 (ni0 n 4 (by decide)) (nik n 4 k h1)
  Tf1 := no2 (ni0 n 3 (by decide)) (nik n 3 k h1)
  TIi2 := nij n 2 1 (by decide)
  mem2 := List.mem_cons_self ..
  zf2 := no2 (nij n 4 1 (by decide)) (nik n 4 l h2)
  Tf2 := no2 (nij n 3 1 (by decide)) (nik n 3 l h2)
  sep1_2 := no2 (n0j n 1 (by decide)) (n0k n l h2)
  sep2_1 := no2 (ni0 n 1 (by decide)) (nik n 1 k h1)
theorem turn_zM {P : Program} {w : World} {K : PySem.W.Frag} {elts : List Expr} {kk : Nat} {tp : Pos} {a b z TI TO i1 i2 : Addr} (S : ZipSep2 z TI TO i1 i2 [i1, a] [i2, b]) :
    Turn P w K (.Tuple elts kk tp) (IzM K a b) [z, TI, TO, i1, i2] z (fun i h => IsZip h z TI TO .none ∧ IsTupOf2 h TI (.ref i1) (.ref i2) ∧ (∃ x y, IsTupOf2 h TO x y) ∧ h.IsListIter i1 a i ∧ h.IsTupleIter i2 b i ∧ a ≠ i1 ∧ b ≠ i2) where
  mem := List.mem_cons_self ..
  obj := fun i h st c hc => by
    obtain ⟨hz, hTI, ⟨x, y, hTO⟩, ⟨o1, e1, _, d1⟩, ⟨o2, e2, _, d2⟩, _⟩ := st
    rcases (show c = z ∨ c = TI ∨ c = TO ∨ c = i1 ∨ c = i2 by simpa using hc) with q | q | q | q | q <;> rw [q]
    · exact ⟨_, hz, fun v q => nomatch q⟩
    · exact ⟨_, hTI, fun v q => nomatch q⟩
    · exact ⟨_, hTO, fun v q => nomatch q⟩
    · exact ⟨o1, e1, fun v q => by rw [d1] at q; cases q⟩
    · exact ⟨o2, e2, fun v q => by rw [d2] at q; cases q⟩
  keep := fun i h h' st k => by
    obtain ⟨hz, hTI, ⟨x, y, hTO⟩, h1, h2, ne⟩ := st
    exact ⟨k z (by simp) _ hz, k TI (by simp) _ hTI, ⟨x, y, k TO (by simp) _ hTO⟩, h1.at fun o q => k i1 (by simp) o q, h2.at fun o q => k i2 (by simp) o q, ne⟩
  item := by
    intro X hP hw hK hc i pins s σ H E I hf st hg
    subst hP hw hK
    obtain ⟨hz, hTI, ⟨x0, y0, hTO⟩, h1, h2, na, nb⟩ := st
    obtain ⟨xs, ys, x, y, qx, qy, ex, ey⟩ := hg
    obtain ⟨its, rv, p, _⟩ := I.list qx
    obtain ⟨jts, rw2, p2, _⟩ := I.tuple qy
    obtain ⟨u, hu, ru⟩ := rv.get ex
    obtain ⟨v, hv, rvv⟩ := rw2.get ey
    have l1 : i < its.toArray.size := by
      rw [List.size_toArray]
      exact (List.getElem?_eq_some_iff.mp hu).1
    have l2 : i < jts.toArray.size := by
      rw [List.size_toArray]
      exact (List.getElem?_eq_some_iff.mp hv).1
    have lz : z < s.heap.objs.size := Heap.lt_size hz
    have hd1 : X.A.in1.handled = none := I.ok.hd hc
    refine wpAny_pyNext_zipD2_item S (Draws.list (A := X.A.in1) hd1 i1 a na its.toArray) (Draws.tuple (A := X.A.in1) hd1 i2 b nb jts.toArray) hz hTI hTO ⟨h1, p.isList⟩ ⟨h2, p2⟩ l1 l2 fun u2 v2 h' tk eu ev z' TO' g1 g2 hU hsz hk => ?_
    have eu2 : u2 = u := by
      have t : its[i]? = some u2 := by simpa using eu
      exact Option.some.inj (t.symm.trans hu)
    have ev2 : v2 = v := by
      have t : jts[i]? = some v2 := by simpa using ev
      exact Option.some.inj (t.symm.trans hv)
    subst eu2 ev2
    refine ⟨_, rfl, wpAny_letOwnedTupleGo_zip (s := { s with heap := h', toks := tk }) z' fun k2 z2 sb => ?_⟩
    have hU2 : k2.get? s.heap.objs.size = some { cls := .type "tuple", data := .seq #[u2, v2] } := (sb.2 _ (Nat.ne_of_gt lz)).trans hU
    have new : ObjOk X.prog X.w (upd H s.heap.objs.size (.tup [x, y])) k2 s.heap.objs.size (.tup [x, y]) :=
      ⟨by show 2 ≤ sizeLine; decide, [u2, v2], .cons ru (.cons rvv .nil), ⟨_, hU2, rfl, _, rfl⟩⟩
    have J : Inv X pins σ (upd H s.heap.objs.size (.tup [x, y])) { s with heap := k2, toks := tk } :=
      I.turnedNew (ch := [z, TI, TO, i1, i2]) (fun c o hb q => (sb.2 c (fun t => hb (by simp [t]))).trans (hk c o (fun t => hb (by simp [t])) (fun t => hb (by simp [t])) (fun t => hb (by simp [t])) (fun t => hb (by simp [t])) q)) hf (Nat.le_refl _) new
    refine ⟨.ref s.heap.objs.size, _, J, rfl, ⟨_, x, y, rfl, I.hok.fresh (Nat.le_refl _), rfl, fun l hl => by rw [I.list_inj hl qx]; exact ex, fun l hl => by rw [I.tuple_inj hl qy]; exact ey⟩, ⟨z2, ?_, ⟨u2, v2, ?_⟩, ?_, ?_, na, nb⟩, fun c hcm => ?_⟩
    · exact (sb.2 _ S.TIz).trans (hk _ _ S.TIz S.TITO S.TIi1 S.TIi2 hTI)
    · exact (sb.2 _ S.TOz).trans TO'
    · exact g1.1.at fun o q => (sb.2 _ S.zi1.symm).trans q
    · exact g2.1.at fun o q => (sb.2 _ S.zi2.symm).trans q
    · have lt : c < s.heap.objs.size := by
        rcases (show c = z ∨ c = TI ∨ c = TO ∨ c = i1 ∨ c = i2 by simpa using hcm) with q | q | q | q | q <;> rw [q]
        · exact lz
        · exact Heap.lt_size hTI
        · exact Heap.lt_size hTO
        · obtain ⟨_, e1, _⟩ := h1
          exact Heap.lt_size e1
        · obtain ⟨_, e2, _⟩ := h2
          exact Heap.lt_size e2
      rw [upd_ne (Nat.ne_of_lt lt)]
      exact (hf c hcm).1
  done := by
    intro X hP hw hK hc i pins s σ H E I hf st hg
    subst hP hw hK
    obtain ⟨hz, hTI, ⟨x0, y0, hTO⟩, h1, h2, na, nb⟩ := st
    obtain ⟨xs, ys, qx, qy, le1, le2, hend⟩ := hg
    obtain ⟨its, rv, p, _⟩ := I.list qx
    obtain ⟨jts, rw2, p2, _⟩ := I.tuple qy
    have hd1 : X.A.in1.handled = none := I.ok.hd hc
    have s1 : its.toArray.size = xs.length := by rw [List.size_toArray, rv.length]
    have s2 : jts.toArray.size = ys.length := by rw [List.size_toArray, rw2.length]
    exact wpAny_pyNext_zipD2_end S (Draws.list (A := X.A.in1) hd1 i1 a na its.toArray) (Draws.tuple (A := X.A.in1) hd1 i2 b nb jts.toArray) hz hTI hTO ⟨h1, p.isList⟩ ⟨h2, p2⟩ (by omega) (by omega) (by omega) fun h' tk hk =>
      ⟨rfl, I.turnedL (ch := [z, TI, TO, i1, i2]) (fun c o hb q => hk c o (fun t => hb (by simp [t])) (fun t => hb (by simp [t])) (fun t => hb (by simp [t])) (fun t => hb (by simp [t])) q) hf⟩
  self := fun A i s Q E st h => wpAny_pyIter_zip st.1 h
def iZpM (K : PySem.W.Frag) (ta : TA) : TI := fun σ H R => ta σ H fun vs H1 => ∃ a b xs ys, vs = [.ref a, .ref b] ∧ SqL K H1 a xs ∧ SqT K H1 b ys ∧ R (IzM K a b) H1
theorem pi_zpM {X : Cx} {e e2 : Expr} {ta : TA} {p pos tp : Pos} {elts : List Expr} {kk : Nat} (hg : Gl X "zip") (hm : X.mg "zip" = none) (ha : PA X [e, e2] ta)
    (hs : starEach [e, e2] X.env = (false, eval e X.env) :: starEach [e2] X.env := by rfl) (hpl : (backTo pos (starEach [e2] X.env)).any (·.1) = false := by rfl) :
    PI X (.Tuple elts kk tp) (.Call (.Name "zip" p) [e, e2] [] pos) (iZpM X.K ta) := by
  refine ⟨fun pins s σ H R I h => ?_⟩
  refine Call_ (ld_blt I hg hm PyProof.Rows.boot_zip (PyProof.Rows.callWith_type1 (thn (ha.run pos pins s σ H _ I h) fun us s1 ⟨vs, H1, I1, r1, q1⟩ => ?_) hs hpl))
  obtain ⟨a, b, xs, ys, rfl, qx, qy, q⟩ := q1
  cases r1 with
  | cons r rr =>
    cases rr with
    | cons r' rr =>
      cases rr
      cases r
      cases r'
      obtain ⟨its, rv, p1, _⟩ := I1.list qx
      obtain ⟨jts, rw2, p2, _⟩ := I1.tuple qy
      have la : a < s1.heap.objs.size := p1.lt
      have lb : b < s1.heap.objs.size := by
        obtain ⟨o2, ho2, _⟩ := id p2
        exact Heap.lt_size ho2
      refine zip_begins2 (begins_list a its.toArray) (begins_tuple b jts.toArray) p1.isList p2 fun h' hz hTI hTO g1 g2 hsz hk => wpAny_pyIter_zip hz ?_
      have I2 : Inv X pins σ H1 { s1 with heap := h' } := I1.kept (t' := s1.toks) hk
      refine ⟨s1.heap.objs.size + 4, [s1.heap.objs.size + 4, s1.heap.objs.size + 2, s1.heap.objs.size + 3, s1.heap.objs.size, s1.heap.objs.size + 1], _, _, H1, rfl, I2, turn_zM (sep_num _ _ _ la lb), ⟨hz, hTI, ⟨_, _, hTO⟩, ⟨_, g1, rfl, rfl⟩, ⟨_, g2, rfl, rfl⟩, Nat.ne_of_lt la, Nat.ne_of_lt (Nat.lt_succ_of_lt lb)⟩, fun c hcm => ?_, q⟩
      have hle : s1.heap.objs.size ≤ c := by
        rcases (show c = s1.heap.objs.size + 4 ∨ c = s1.heap.objs.size + 2 ∨ c = s1.heap.objs.size + 3 ∨ c = s1.heap.objs.size ∨ c = s1.heap.objs.size + 1 by simpa using hcm) with t | t | t | t | t <;> rw [t]
        · exact Nat.le_add_right _ _
        · exact Nat.le_add_right _ _
        · exact Nat.le_add_right _ _
        · exact Nat.le_refl _
        · exact Nat.le_add_right _ _
      exact I1.fpOk hle (I1.hok.fresh hle)
theorem walk_zM {K : PySem.W.Frag} {a b : Addr} {xs ys : List V} {n : Nat} (hn : n = min xs.length ys.length) : Walk (IzM K a b) n (fun H => SqL K H a xs ∧ SqT K H b ys) (YPair (fun i => xs[i]?) (fun i => ys[i]?)) := by
  subst hn
  refine ⟨fun i _ hi q => ?_, fun _ q => ⟨xs, ys, q.1, q.2, by omega, by omega, by omega⟩, fun i H v H' _ q y => ?_⟩
  · have g1 : i < xs.length := by omega
    have g2 : i < ys.length := by omega
    exact ⟨xs, ys, xs[i], ys[i], q.1, q.2, by simp [g1], by simp [g2]⟩
  · obtain ⟨U, x, z, h1, h2, h3, h4, h5⟩ := y
    exact ⟨U, x, z, h1, h2, h3, h4 xs q.1, h5 ys q.2⟩
theorem walk_enT {K : PySem.W.Frag} {a : Addr} {xs : List V} : Walk (IeT K a) xs.length (fun H => SqT K H a xs) (YPair (fun i => some (.int (i : Nat))) (fun i => xs[i]?)) := by
  refine ⟨fun i _ hi q => ⟨xs, xs[i], q, by simp [hi]⟩, fun _ q => ⟨xs, q, rfl⟩, fun i H v H' _ q y => ?_⟩
  obtain ⟨U, x, h1, h2, h3, h4⟩ := y
  exact ⟨U, .int (i : Nat), x, h1, h2, h3, rfl, h4 xs q⟩
/-- a list or a tuple at a -/
def LTa (K : PySem.W.Frag) (H : Hp) (a : Addr) (xs : List V) : Prop := SqL K H a xs ∨ SqT K H a xs
def SeqW (K : PySem.W.Frag) (H : Hp) (a : Addr) (R : It → Hp → Prop) : Prop := (∃ xs, SqL K H a xs ∧ R (Itl K a) H) ∨ ∃ xs, SqT K H a xs ∧ R (Itt K a) H
def iSeq (K : PySem.W.Frag) (tl : TE) : TI := fun σ H R => tl σ H fun x H1 => ∃ a, x = .ref a ∧ SeqW K H1 a R
/-- what is walked is a list or a tuple -/
theorem pi_seq {X : Cx} {tg l : Expr} {tl : TE} (hl : PE X l tl) : PI X tg l (iSeq X.K tl) := by
  refine ⟨fun pins s σ H R I h => thn (hl.run pins s σ H _ I h) fun v s1 ⟨x, H1, I1, r1, a, e, q1⟩ => ?_⟩
  subst e
  cases r1
  have fp1 : ∀ b ∈ [s1.heap.objs.size], FpOk X pins H1 b := fun b hb => by
    obtain rfl : b = s1.heap.objs.size := by simpa using hb
    exact I1.fpOk (Nat.le_refl _) (I1.hok.fresh (Nat.le_refl _))
  rcases q1 with ⟨xs, hq, q⟩ | ⟨xs, hq, q⟩
  · obtain ⟨its, rv, p, _⟩ := I1.list hq
    exact wpAny_pyIter_list p.isList ⟨s1.heap.objs.size, [s1.heap.objs.size], _, _, H1, rfl, I1.kept (t' := s1.toks) fun b o e => Heap.get?_push_of_some _ e, turn_list a _, ⟨_, Heap.get?_push_size _ rfl, rfl, rfl⟩, fp1, q⟩
  · obtain ⟨its, rv, p, _⟩ := I1.tuple hq
    exact wpAny_pyIter_tuple (show s1.heap.IsTuple a its.toArray from p) ⟨s1.heap.objs.size, [s1.heap.objs.size], _, _, H1, rfl, I1.kept (t' := s1.toks) fun b o e => Heap.get?_push_of_some _ e, turn_tuple a _, ⟨_, Heap.get?_push_size _ rfl, rfl, rfl⟩, fp1, q⟩
theorem seqT_same {K : PySem.W.Frag} {H H' : Hp} {a : Addr} {xs : List V} (e : Same H H') (h : SqT K H a xs) : SqT K H' a xs := by
  rcases h with (h | ⟨o, h⟩) | h
  · exact .inl (.inl (e _ _ h))
  · exact .inl (.inr ⟨o, e _ _ h⟩)
  · exact .inr h
theorem LTa.same {K : PySem.W.Frag} {H H' : Hp} {a : Addr} {xs : List V} (e : Same H H') (h : LTa K H a xs) : LTa K H' a xs := h.imp e.seq (seqT_same e)
/-- its walk, whichever it is: G stands while nothing that is tracked changes -/
theorem seq_of {K : PySem.W.Frag} {H : Hp} {a : Addr} {xs : List V} {R : It → Hp → Prop} (h : LTa K H a xs)
    (k : ∀ (J : It) (G : Hp → Prop), Walk J xs.length G (YAt xs) → (∀ H', Same H H' → G H') → R J H) : SeqW K H a R := by
  rcases h with h | h
  · exact .inl ⟨xs, h, k _ _ walk_list fun H' e => e.seq h⟩
  · exact .inr ⟨xs, h, k _ _ walk_tup fun H' e => seqT_same e h⟩
/-! ### rules where the written part is named: within a comprehension -/
theorem bt_int : bootBuiltins "int" = some (.type "int") := by decide +kernel
theorem bt_bool : bootBuiltins "bool" = some (.type "bool") := by decide +kernel
theorem bt_str : bootBuiltins "str" = some (.type "str") := by decide +kernel
theorem bt_list : bootBuiltins "list" = some (.type "list") := by decide +kernel
theorem bt_tuple : bootBuiltins "tuple" = some (.type "tuple") := by decide +kernel
theorem bb_isinstance : bootBuiltins "isinstance" = some (.builtin "isinstance") := by decide +kernel
theorem bb_max : bootBuiltins "max" = some (.builtin "max") := by decide +kernel
theorem bb_min : bootBuiltins "min" = some (.builtin "min") := by decide +kernel
theorem bb_repr : bootBuiltins "repr" = some (.builtin "repr") := by decide +kernel
section
variable {X : Cx} {K : PySem.W.Frag}
def rTupOf (K : PySem.W.Frag) : List V → Hp → VK → Prop := fun xs H Q => ∃ p ys, xs = [.ref p] ∧ ((SqL K H p ys ∧ ∀ l, H l = none → Q (.ref l) (upd H l (.tup ys))) ∨ (SqT K H p ys ∧ Q (.ref p) H))
theorem call_tupK (e : X.K = K) : CallR X (.type "tuple") (rTupOf K) := e ▸ (call_tuple_of (X := X))
def rLenSq (K : PySem.W.Frag) : List V → Hp → VK → Prop := fun xs H Q => ∃ p ys, xs = [.ref p] ∧ (SqL K H p ys ∨ SqT K H p ys) ∧ Q (.int ys.length) H
theorem call_lenK (e : X.K = K) : CallR X (.builtin "len") (rLenSq K) := e ▸ (call_len_seq (X := X))
theorem ix_listK (e : X.K = K) : IxR X (rIxL K) := e ▸ (ix_list (X := X))
theorem ix_tupK (e : X.K = K) : IxR X (rIxT K) := e ▸ (ix_tup (X := X))
theorem op_inK (e : X.K = K) : OpR X (compareOp .In) (rIn K false) := e ▸ (op_in_seq (X := X))
theorem op_notInK (e : X.K = K) : OpR X (compareOp .NotIn) (rIn K true) := e ▸ (op_notIn_seq (X := X))
theorem op_eqDK (e : X.K = K) (hu : X.A.units + 64 < cLine) : OpR X (compareOp .Eq) (rEqD K) := e ▸ (op_eqD (X := X) hu)
theorem op_neDK (e : X.K = K) (hu : X.A.units + 64 < cLine) : OpR X (compareOp .NotEq) (rNeD K) := e ▸ (op_neD (X := X) hu)
theorem pg_tupK {ts : List Expr} {k n : Nat} {pos : Pos} {t : TGs} (e : X.K = K) (hc : X.calm = true) (h : PGs X ts t)
    (hn : (assignEach ts X.env).length = n := by rfl) (hs : (assignEach ts X.env).findIdx? (·.1) = none := by rfl) : PG X (.Tuple ts k pos) (gTup K n t) := e ▸ (pg_tup hc h hn hs)
end
end Up

set_option Elab.async false
set_option linter.all false
set_option maxRecDepth 100000
set_option maxHeartbeats 2000000
/-! the draws: what a law's own drawing does to the heap -/
namespace Up
open PySem PySem.Spec PyProof.Rows L2
def topS (i : Nat) : Stmt := PySem.Challenge.pw_uprightletters_k60_whole_texts_of_talks.main.body.getD i (.Pass ⟨0, 0, 0, 0⟩)
abbrev sMix : Stmt := (topS 33)
abbrev sFol : Stmt := (topS 34)
abbrev sDrw : Stmt := (topS 35)
abbrev sBeg : Stmt := (topS 36)
theorem scM : FnScope ["cell", "n", "blend"] ["cell", "n"] (defScope sMix) := ⟨rfl, rfl, rfl, by decide +kernel, rfl, by decide +kernel, by decide +kernel⟩
theorem scF : FnScope ["script", "n", "found", "cell"] ["script"] (defScope sFol) := ⟨rfl, rfl, rfl, by decide +kernel, rfl, by decide +kernel, by decide +kernel⟩
theorem scD : FnScope ["m", "limit", "n", "lot", "here", "cell"] ["m", "limit"] (defScope sDrw) := ⟨rfl, rfl, rfl, by decide +kernel, rfl, by decide +kernel, by decide +kernel⟩
theorem scB : FnScope ["script", "m", "cell"] ["script"] (defScope sBeg) := ⟨rfl, rfl, rfl, by decide +kernel, rfl, by decide +kernel, by decide +kernel⟩
/-- built-in names that stand as they are; the drawing's own defs -/
structure TxtB (mg : Str → Option Value) : Prop where
  int : mg "int" = none
  len : mg "len" = none
  range : mg "range" = none
  enumerate : mg "enumerate" = none
section
variable {P : Program} {w : World} {K : PySem.W.Frag} {mg : Str → Option Value} {base : Heap}
/-! ### _law_mixed -/
def spMix : Sp := fun vs H Q _ => ∃ (c n : Int), vs = [.int c, .int n] ∧ -(2 ^ 62) < n ∧ n < 2 ^ 62 ∧ ∀ r : Int, Q (.int r) H
theorem ok_mix {f : Addr} {fd : FuncData} (F : Fun K "_law_mixed" "_law_mixed" sMix f fd) (T : TxtB mg) : FnOk P w K mg base CX0 1 f fd ["cell", "n"] spMix := by
  refine F.ok scM (fun vs H Q E h => ?_) (fun cdv A outer s H vs Q E hr h => ?_)
  · obtain ⟨c, n, rfl, _⟩ := h
    rfl
  · obtain ⟨c, n, rfl, lo, hi, q⟩ := h
    refine ⟨_, (pss_cons (ps_set (i := 2) scM.nd rfl (Or.inl rfl) (pe_op op_add (pe_op op_add (pe_op op_mod (pe_callTy call_int1 (by rfl) T.int bt_int (pa_cons (pe_op op_mul (pe_op op_mul (pv 0) (pe_op op_add pe_int (pe_op op_mul pe_int (pv 1)))) pe_int) pa_nil)) pe_int) (pe_op op_mul (pe_op op_mul pe_int (pv 1)) (pv 1))) (pe_op op_mul pe_int (pv 1)))) (pss_one (ps_ret (pe_op op_fdiv (pe_op op_mod (pe_callTy call_int1 (by rfl) T.int bt_int (pa_cons (pe_op op_mul (pv 2) pe_int) pa_nil)) pe_int) pe_int)))), ?_⟩
    refine ⟨_, rfl, _, rfl, _, _, rfl, rfl, .inl ⟨by decide, by decide⟩, _, _, rfl, rfl, _, _, rfl, rfl, .inr ⟨by omega, by omega⟩, _, _, rfl, rfl, .inr ⟨by decide, by decide⟩, .inl ⟨_, rfl, ?_⟩⟩
    refine ⟨_, _, rfl, rfl, (by show (0 : Int) < 2147483647; decide), ?_⟩
    refine ⟨_, rfl, _, _, rfl, rfl, .inl ⟨by decide, by decide⟩, _, rfl, _, _, rfl, rfl, .inr ⟨by omega, by omega⟩, _, _, rfl, rfl, ?_⟩
    refine ⟨_, rfl, _, _, rfl, rfl, .inl ⟨by decide, by decide⟩, _, _, rfl, rfl, ?_⟩
    refine ⟨_, rfl, _, _, rfl, rfl, .inr ⟨by decide, by decide⟩, .inl ⟨_, rfl, ?_⟩⟩
    refine ⟨_, _, rfl, rfl, (by show (0 : Int) < 2147483629; decide), _, _, rfl, rfl, ⟨by decide, by decide⟩, ?_⟩
    exact q _

/-! ### small lemmas -/
abbrev iL (ns : List Int) : List V := ns.map V.int
theorem same_new {H : Hp} {p : Addr} {o : HO} (h : H p = none) : Same H (upd H p o) := fun b x e => by
  rw [upd_ne (ne_of_none e h)]
  exact e
theorem ix_at {n : Nat} {k : Int} {j : Nat} (e : k = (j : Int)) (h : j < n) : ixN n k = some j := by
  subst e
  unfold ixN
  rw [if_pos (by omega), if_pos (by omega)]
  simp
theorem iL_get {ns : List Int} {j : Nat} (h : j < ns.length) : (iL ns)[j]? = some (.int ns[j]) := by
  rw [List.getElem?_map, List.getElem?_eq_getElem h]
  rfl
theorem iL_at {ns : List Int} {k : Int} {j : Nat} (e : k = (j : Int)) (h : j < ns.length) : atI (iL ns) k = some (.int ns[j]) := at_of e (iL_get h)
theorem iL_set (ns : List Int) (j : Nat) (z : Int) : (iL ns).set j (.int z) = iL (ns.set j z) := List.map_set.symm
theorem iL_app (ns : List Int) (z : Int) : iL ns ++ [V.int z] = iL (ns ++ [z]) := (List.map_append (l₁ := ns) (l₂ := [z]) (f := V.int)).symm
theorem iL_put {H : Hp} {D : Addr} {cs : List Int} {j : Nat} {z : Int} : upd H D (.lst ((iL cs).set j (.int z))) D = some (.lst (iL (cs.set j z))) := by
  rw [upd_same, iL_set]
/-! ### _law_folded -/
def spFol (K : PySem.W.Frag) : Sp := fun vs H Q _ => ∃ (a : Addr) (ns : List Int), vs = [.ref a] ∧ SqL K H a (iL ns) ∧ ns.length ≤ 63 ∧
  ∀ (H' : Hp) (p : Addr) (cs : List Int), Same H H' → H p = none → H' p = some (.lst (iL cs)) → cs.length = 64 → Q (.ref p) H'
theorem ok_fol {f : Addr} {fd : FuncData} (F : Fun K "_law_folded" "_law_folded" sFol f fd) (T : TxtB mg) : FnOk P w K mg base CX0 1 f fd ["script"] (spFol K) := by
  refine F.ok scF (fun vs H Q E h => ?_) (fun cdv A outer s H vs Q E hr h => ?_)
  · obtain ⟨a, ns, rfl, _⟩ := h
    rfl
  · obtain ⟨a, ns, rfl, hS, hlen, q⟩ := h
    refine ⟨_, (pss_cons (ps_setLc (i := 2) (own := [("n", 1)]) (tt := tYes) rfl scF.nd rfl rfl (sw_true rfl rfl rfl (by decide +kernel)) (pi_range1 (by rfl) T.range (pa_cons pe_int pa_nil)) (blkOk_by (own := [("n", 1)]) (N := ["script", "n", "found", "cell"]) (sc := defScope sFol) (by decide +kernel)) (fun _ _ _ _ _ => (pg_name (i := 1) scF.nd rfl (Or.inl rfl))) (fun _ _ _ _ _ => pts_nil) (fun _ _ _ _ _ => (pe_op op_add pe_int (pv 1)))) (pss_cons (ps_for PassesOwn.never rfl (pi_enum (by rfl) T.enumerate (pa_cons (pv 0) pa_nil)) (pg_tup (by rfl) (pgs_cons (pg_name (i := 1) scF.nd rfl (Or.inl rfl)) (pgs_cons (pg_name (i := 3) scF.nd rfl (Or.inl rfl)) pgs_nil))) (pss_one (ps_asg (pe_op op_mod (pe_callTy call_int1 (by rfl) T.int bt_int (pa_cons (pe_op op_add (pe_op op_mul (pe_ix ix_list (pv 2) (pe_op op_mod (pe_callTy call_int1 (by rfl) T.int bt_int (pa_cons (pv 1) pa_nil)) pe_int) (fun _ _ => rfl)) pe_int) (pv 3)) pa_nil)) pe_int) (pg_sub (pv 2) (pe_op op_mod (pe_callTy call_int1 (by rfl) T.int bt_int (pa_cons (pv 1) pa_nil)) pe_int) set_list)))) (pss_cons (ps_for PassesOwn.never rfl (pi_range2 (by rfl) T.range (pa_cons pe_int (pa_cons pe_int pa_nil))) (pg_name (i := 1) scF.nd rfl (Or.inl rfl)) (pss_one (ps_asg (pe_op op_mod (pe_callTy call_int1 (by rfl) T.int bt_int (pa_cons (pe_op op_add (pe_ix ix_list (pv 2) (pv 1) (fun _ _ => rfl)) (pe_op op_mul (pe_ix ix_list (pv 2) (pe_op op_sub (pv 1) pe_int) (fun _ _ => rfl)) pe_int)) pa_nil)) pe_int) (pg_sub (pv 2) (pv 1) set_list)))) (pss_one (ps_ret (pv 2)))))), ?_⟩
    -- found = [17 + n for n in range(64)]
    refine ⟨64, rfl, by decide, by decide, fun D nD => lc_range (lo := 0) (n := 64) (fun i H2 => ∃ cs : List Int, cs.length = i ∧ H2 D = some (.lst (iL cs)) ∧ Same H H2) ⟨[], rfl, upd_same, same_new nD⟩ ?_ ?_⟩
    · rintro i H2 hi ⟨cs, hl, hD, sm⟩
      refine ⟨rfl, ?_⟩
      refine ⟨_, rfl, _, _, rfl, rfl, _, hD, ?_, cs ++ [17 + (0 + (i : Int))], ?_, ?_, fun b o e => ?_⟩
      · rw [List.length_map]
        exact small1000 (by omega)
      · rw [List.length_append, hl]
        rfl
      · rw [upd_same, iL_app]
      · rw [upd_ne (ne_of_none e nD)]
        exact sm b o e
    · rintro H2 ⟨cs, hl, hD, sm⟩
      -- for n, cell in enumerate(script)
      refine ⟨_, rfl, a, _, rfl, sm.seq hS, for_it walk_enum (fun i σ H3 => ∃ (v1 v3 : Option V) (cs : List Int), σ = [some (.ref a), v1, some (.ref D), v3] ∧ cs.length = 64 ∧ H3 D = some (.lst (iL cs)) ∧ Same H H3) ⟨_, _, cs, rfl, hl, hD, sm⟩ (fun i σ H3 _ ⟨_, _, _, _, _, _, sm'⟩ => sm'.seq hS) ?_ ?_⟩
      · rintro i x σ H3 H4 hi ⟨v1, v3, cs, rfl, hl, hD, sm⟩ ⟨U, x1, x2, rfl, nU, rfl, e1, e2⟩
        have hin : i < ns.length := by rw [List.length_map] at hi; exact hi
        have ex1 : x1 = .int (i : Int) := (Option.some.inj e1).symm
        have ex2 : x2 = .int ns[i] := Option.some.inj (e2.symm.trans (iL_get hin))
        subst ex1 ex2
        have hD4 : (upd H3 U (.tup [.int (i : Int), .int ns[i]])) D = some (.lst (iL cs)) := by rw [upd_ne (ne_of_none hD nU)]; exact hD
        have hj : i % 64 < cs.length := by omega
        refine ⟨U, _, rfl, .inl (.inl upd_same), rfl, _, _, rfl, _, _, rfl, rfl, ?_⟩
        refine ⟨_, rfl, _, rfl, .inl ⟨_, rfl, ?_⟩⟩
        refine ⟨_, _, rfl, rfl, (by show (0 : Int) < 64; decide), D, iL cs, _, .int cs[i % 64], rfl, rfl, .inl (.inl hD4), iL_at (by omega) hj, ?_⟩
        refine ⟨_, _, rfl, rfl, .inr ⟨by decide, by decide⟩, _, rfl, _, _, rfl, rfl, .inl ⟨_, rfl, ?_⟩⟩
        refine ⟨_, _, rfl, rfl, (by show (0 : Int) < 2147483647; decide), ?_⟩
        refine ⟨_, rfl, _, rfl, .inl ⟨_, rfl, ?_⟩⟩
        refine ⟨_, _, rfl, rfl, (by show (0 : Int) < 64; decide), D, iL cs, _, i % 64, rfl, rfl, hD4, ix_at (by omega) (by rw [List.length_map]; exact hj), ?_⟩
        refine ⟨_, _, _, rfl, by rw [List.length_set]; exact hl, iL_put, fun b o e => ?_⟩
        · rw [upd_ne (ne_of_none e nD), upd_ne (ne_of_none (sm b o e) nU)]
          exact sm b o e
      · rintro σ H3 ⟨v1, v3, cs, rfl, hl, hD, sm⟩
        -- for n in range(1, 64)
        refine ⟨1, 64, rfl, ⟨by decide, by decide, by decide, by decide⟩, for_range (lo := 1) (n := 63) (fun i σ H3 => ∃ (v1 v3 : Option V) (cs : List Int), σ = [some (.ref a), v1, some (.ref D), v3] ∧ cs.length = 64 ∧ H3 D = some (.lst (iL cs)) ∧ Same H H3) ⟨_, _, cs, rfl, hl, hD, sm⟩ ?_ ?_⟩
        · rintro i σ H3 hi ⟨v1, v3, cs, rfl, hl, hD, sm⟩
          have h1 : i + 1 < cs.length := by omega
          have h0 : i < cs.length := by omega
          refine ⟨_, rfl, _, rfl, D, iL cs, _, .int cs[i + 1], rfl, rfl, .inl (.inl hD), iL_at (by omega) h1, ?_⟩
          refine ⟨_, rfl, _, rfl, _, _, rfl, rfl, D, iL cs, _, .int cs[i], rfl, rfl, .inl (.inl hD), iL_at (by omega) h0, ?_⟩
          refine ⟨_, _, rfl, rfl, .inr ⟨by decide, by decide⟩, _, _, rfl, rfl, .inl ⟨_, rfl, ?_⟩⟩
          refine ⟨_, _, rfl, rfl, (by show (0 : Int) < 2147483647; decide), ?_⟩
          refine ⟨_, rfl, _, rfl, D, iL cs, _, i + 1, rfl, rfl, hD, ix_at (by omega) (by rw [List.length_map]; exact h1), ?_⟩
          refine ⟨_, _, _, rfl, by rw [List.length_set]; exact hl, iL_put, fun b o e => ?_⟩
          · rw [upd_ne (ne_of_none e nD)]
            exact sm b o e
        · rintro σ H3 ⟨v1, v3, cs, rfl, hl, hD, sm⟩
          exact ⟨_, rfl, q H3 D cs sm nD hD hl⟩

/-! ### the drawing's state: m, a dict of two lists and a number -/
abbrev kCe : Key := .inr "cells"
abbrev kGr : Key := .inr "great"
abbrev kSp : Key := .inr "spot"
def mkM (c g : Addr) (n : Int) : List (Key × V) := [(kCe, .ref c), (kGr, .ref g), (kSp, .int n)]
theorem val_ce (c g : Addr) (n : Int) : valV (mkM c g n) kCe = some (.ref c) := by rfl
theorem val_gr (c g : Addr) (n : Int) : valV (mkM c g n) kGr = some (.ref g) := by rfl
theorem val_sp (c g : Addr) (n : Int) : valV (mkM c g n) kSp = some (.int n) := by rfl
theorem put_sp (c g : Addr) (n z : Int) : putK (mkM c g n) kSp (.int z) = mkM c g z := by rfl
theorem put_gr (c g g2 : Addr) (n : Int) : putK (mkM c g n) kGr (.ref g2) = mkM c g2 n := by rfl
theorem merge_m (c g : Addr) (n : Int) : mergeK [] (mkM c g n) = mkM c g n := by rfl
/-- m at m, its list of great numbers at g, at most b draws done -/
structure MAt (H : Hp) (m g : Addr) (b : Nat) : Prop where
  ex : ∃ (c : Addr) (cs gs : List Int) (n : Nat), H m = some (.dK (mkM c g n)) ∧ H c = some (.lst (iL cs)) ∧ cs.length = 64 ∧ H g = some (.lst (iL gs)) ∧ gs.length ≤ 63 ∧ n ≤ b
theorem MAt.mono {H : Hp} {m g : Addr} {a b : Nat} (M : MAt H m g a) (h : a ≤ b) : MAt H m g b := by
  obtain ⟨c, cs, gs, n, h1, h2, h3, h4, h5, h6⟩ := M.ex
  exact ⟨c, cs, gs, n, h1, h2, h3, h4, h5, Nat.le_trans h6 h⟩
theorem MAt.same {H H' : Hp} {m g : Addr} {b : Nat} (M : MAt H m g b) (s : Same H H') : MAt H' m g b := by
  obtain ⟨c, cs, gs, n, h1, h2, h3, h4, h5, h6⟩ := M.ex
  exact ⟨c, cs, gs, n, s _ _ h1, s _ _ h2, h3, s _ _ h4, h5, h6⟩
theorem MAt.m_some {H : Hp} {m g : Addr} {b : Nat} (M : MAt H m g b) : H m ≠ none := by
  obtain ⟨c, cs, gs, n, h1, _⟩ := M.ex
  rw [h1]
  exact fun z => nomatch z
theorem MAt.g_some {H : Hp} {m g : Addr} {b : Nat} (M : MAt H m g b) : H g ≠ none := by
  obtain ⟨c, cs, gs, n, h1, h2, h3, h4, _⟩ := M.ex
  rw [h4]
  exact fun z => nomatch z
/-- all but m and its list stand as they stood -/
def But (m g : Addr) (H H' : Hp) : Prop := ∀ b o, H b = some o → b ≠ m → b ≠ g → H' b = some o
theorem But.trans {m g : Addr} {H H1 H2 : Hp} (a : But m g H H1) (b : But m g H1 H2) : But m g H H2 := fun c o e n1 n2 => b c o (a c o e n1 n2) n1 n2
theorem But.of {m g : Addr} {H H' : Hp} (s : Same H H') : But m g H H' := fun b o e _ _ => s b o e
theorem But.free {m g : Addr} {H H' : Hp} {b : Nat} (s : But m g H H') (M : MAt H' m g b) {a : Addr} (h : H' a = none) : H a = none := by
  cases e : H a with
  | none => rfl
  | some o =>
    by_cases h1 : a = m
    · rw [h1] at h
      exact (M.m_some h).elim
    by_cases h2 : a = g
    · rw [h2] at h
      exact (M.g_some h).elim
    · rw [s a o e h1 h2] at h
      cases h
def spDrw : Sp := fun vs H Q _ => ∃ (m g : Addr) (lim : Int) (b : Nat), vs = [.ref m, .int lim] ∧ 0 < lim ∧ lim < 1000000 ∧ b < 1000000 ∧ MAt H m g b ∧
  ∀ (d : Int) (H' : Hp), 0 ≤ d → d < lim → MAt H' m g (b + 1) → But m g H H' → Q (.int d) H'
theorem dp_iL {K : PySem.W.Frag} {H : Hp} : ∀ ns : List Int, DpAll K H (iL ns) (ns.map PyData.int)
  | [] => .nil
  | n :: ns => .cons (.int n) (dp_iL ns)
theorem eqv_nil : ∀ ns : List Int, PyData.eqv (.list (ns.map PyData.int)) (.list []) = ns.isEmpty
  | [] => rfl
  | _ :: _ => rfl
theorem depth_ints : ∀ ns : List Int, PyData.depthAll (ns.map PyData.int) ≤ 1
  | [] => by decide
  | n :: ns => by
    have h := depth_ints ns
    have e : PyData.depth (.int n) = 0 := by rw [PyData.depth]
    rw [List.map_cons, PyData.depthAll, e]
    omega
theorem lay_ints : ∀ ns : List Int, PyData.canLayAll0 (ns.map PyData.int) = true
  | [] => rfl
  | n :: ns => by
    rw [List.map_cons, PyData.canLayAll0, lay_ints ns, PyData.canLay0]
    rfl
theorem shaped_ints (ns : List Int) : SeqAt.shaped (.list (ns.map PyData.int)) = true := by
  have h := depth_ints ns
  have h3 : PyData.depth (.list (ns.map PyData.int)) ≤ 64 := by
    rw [PyData.depth]
    omega
  unfold SeqAt.shaped
  rw [PyData.canLay0, lay_ints ns, decide_eq_true h3]
  rfl
structure TxtD (K : PySem.W.Frag) (mg : Str → Option Value) (fM : Addr) : Prop extends TxtB mg where
  mix : mg "_law_mixed" = some (.ref fM)
theorem ok_drw {f fM : Addr} {fd fdM : FuncData} (F : Fun K "_law_draw" "_law_draw" sDrw f fd) (T : TxtD K mg fM) (FM : Fun K "_law_mixed" "_law_mixed" sMix fM fdM) (bM : Binds K fdM ["cell", "n"] []) : FnOk P w K mg base CX0 2 f fd ["m", "limit"] spDrw := by
  have GM : FnOk P w K mg base CX0 1 fM fdM ["cell", "n"] spMix := ok_mix FM T.toTxtB
  refine F.ok scD (fun vs H Q E h => ?_) (fun cdv A outer s H vs Q E hr h => ?_)
  · obtain ⟨m, g, lim, b, rfl, _⟩ := h
    rfl
  · obtain ⟨m, g, lim, b, rfl, l0, l1, hb, M, q⟩ := h
    have hu := hu_of hr
    have hr1 : Room 1 _ := hr.mono (by decide)
    obtain ⟨c, cs, gs, n, hm, hc, lc, hg, lg, hn⟩ := M.ex
    have nmc : m ≠ c := ne_of hm hc (by intro z; cases z)
    have nmg : m ≠ g := ne_of hm hg (by intro z; cases z)
    have ncg : c ≠ g := fun z => by
      subst z
      have e2 : iL cs = iL gs := HO.lst.inj (Option.some.inj (hc.symm.trans hg))
      have e3 := congrArg List.length e2
      simp only [List.length_map] at e3
      omega
    refine ⟨_, (pss_cons (ps_set (i := 2) scD.nd rfl (Or.inl rfl) (pe_dget hu (pv 0) pe_str (fun _ _ => rfl))) (pss_cons (ps_dput hu (pv 0) pe_str (pe_op op_add (pv 2) pe_int) rfl) (pss_cons (ps_if (pt_cmpR (op_neD hr.units) (pe_dget hu (pv 0) pe_str (fun _ _ => rfl)) (pe_lst pa_nil) (nomark _)) (pss_cons (ps_set (i := 3) scD.nd rfl (Or.inl rfl) (pe_dget hu (pv 0) pe_str (fun _ _ => rfl))) (pss_cons (ps_set (i := 4) scD.nd rfl (Or.inl rfl) (pe_op op_mod (pe_callTy call_int1 (by rfl) T.int bt_int (pa_cons (pv 2) pa_nil)) (pe_callB call_len_seq (by rfl) T.len PySem.boot_len (pa_cons (pv 3) pa_nil)))) (pss_cons (ps_set (i := 5) scD.nd rfl (Or.inl rfl) (pe_ix ix_list (pv 3) (pv 4) (fun _ _ => rfl))) (pss_one (ps_if (pt_cmpR op_gt (pv 5) pe_int (nomark _)) (pss_cons (ps_asg (pe_op op_fdivN (pv 5) (pv 1)) (pg_sub (pv 3) (pv 4) set_list)) (pss_one (ps_ret (pe_op op_mod (pe_callTy call_int1 (by rfl) T.int bt_int (pa_cons (pv 5) pa_nil)) (pv 1))))) pss_nil))))) pss_nil) (pss_cons (ps_set (i := 3) scD.nd rfl (Or.inl rfl) (pe_dget hu (pv 0) pe_str (fun _ _ => rfl))) (pss_one (ps_ret (pe_op op_mod (pe_callTy call_int1 (by rfl) T.int bt_int (pa_cons (pe_call GM hr1 (by rfl) T.mix FM.kp bM .nil pass0 (pa_cons (pe_call GM hr1 (by rfl) T.mix FM.kp bM .nil pass0 (pa_cons (pe_op op_add (pe_ix ix_list (pv 3) (pe_op op_mod (pe_callTy call_int1 (by rfl) T.int bt_int (pa_cons (pv 2) pa_nil)) pe_int) (fun _ _ => rfl)) (pe_op op_mul pe_int (pe_op op_fdiv (pv 2) pe_int))) (pa_cons (pv 2) pa_nil))) (pa_cons (pe_op op_add (pv 2) pe_int) pa_nil))) pa_nil)) (pv 1)))))))), ?_⟩
    -- n = m['spot']; m['spot'] = n + 1
    refine ⟨_, rfl, m, _, rfl, DGet.k (k := kSp) hm, ?_⟩
    refine ⟨_, rfl, _, _, rfl, rfl, _, rfl, m, _, rfl, DPut.k (k := kSp) hm (by show 3 < sizeLine; decide), ?_⟩
    rw [put_sp]
    have hm1 : (upd H m (.dK (mkM c g ((n : Int) + 1)))) m = some (.dK (mkM c g ((n : Int) + 1))) := upd_same
    have hc1 : (upd H m (.dK (mkM c g ((n : Int) + 1)))) c = some (.lst (iL cs)) := by rw [upd_ne nmc.symm]; exact hc
    have hg1 : (upd H m (.dK (mkM c g ((n : Int) + 1)))) g = some (.lst (iL gs)) := by rw [upd_ne nmg.symm]; exact hg
    have k1 : ∀ b o, H b = some o → b ≠ m → (upd H m (.dK (mkM c g ((n : Int) + 1)))) b = some o := fun b o e h => by rw [upd_ne h]; exact e
    revert hm1 hc1 hg1 k1
    generalize upd H m (.dK (mkM c g ((n : Int) + 1))) = H1
    intro hm1 hc1 hg1 k1
    -- if m['great'] != []
    refine ⟨_, rfl, m, _, rfl, DGet.k (k := kGr) hm1, (by show 0 ≤ sizeLine; decide), fun p np => ?_⟩
    have k2 : Same H1 (upd H1 p (.lst [])) := same_new np
    have hm2 := k2 _ _ hm1
    have hc2 := k2 _ _ hc1
    have hg2 := k2 _ _ hg1
    have hp2 : (upd H1 p (.lst [])) p = some (.lst []) := upd_same
    have k3 : ∀ b o, H b = some o → b ≠ m → (upd H1 p (.lst [])) b = some o := fun b o e h => k2 b o (k1 b o e h)
    revert hm2 hc2 hg2 hp2 k3
    generalize upd H1 p (.lst []) = H2
    intro hm2 hc2 hg2 hp2 k3
    refine ⟨_, _, .lst (.inl (.inl hg2)) (dp_iL gs), .lst (.inl (.inl hp2)) .nil, shaped_ints gs, rfl, _, rfl, ?_⟩
    -- lot = m['cells'], and the rest: whichever way it is reached
    have mat : ∀ (H3 : Hp) (gs' : List Int), H3 m = some (.dK (mkM c g ((n : Int) + 1))) → H3 c = some (.lst (iL cs)) → H3 g = some (.lst (iL gs')) → gs'.length ≤ 63 → MAt H3 m g (b + 1) := fun H3 gs' e1 e2 e3 e4 => ⟨c, cs, gs', n + 1, e1, e2, lc, e3, e4, by omega⟩
    have fin : ∀ z : Int, 0 ≤ z % lim ∧ z % lim < lim := fun z => ⟨Int.emod_nonneg _ (by omega), Int.emod_lt_of_pos _ l0⟩
    cases gs with
    | cons z gs =>
      have hl1 : n % (gs.length + 1) < (z :: gs).length := by
        rw [List.length_cons]
        exact Nat.mod_lt _ (Nat.succ_pos _)
      have elen : ((iL (z :: gs)).length : Int) = ((gs.length + 1 : Nat) : Int) := by rw [List.length_map, List.length_cons]
      refine ⟨_, rfl, m, _, rfl, DGet.k (k := kGr) hm2, ?_⟩
      refine ⟨_, rfl, .inl ⟨_, rfl, _, rfl, g, _, rfl, .inl (.inl (.inl hg2)), _, _, rfl, rfl, (by show (0 : Int) < ((iL (z :: gs)).length : Int); rw [elen]; omega), ?_⟩⟩
      refine ⟨_, rfl, _, rfl, g, _, _, .int (z :: gs)[n % (gs.length + 1)], rfl, rfl, .inl (.inl hg2), iL_at (j := n % (gs.length + 1)) (by rw [elen]; exact (Int.natCast_emod n (gs.length + 1)).symm) hl1, ?_⟩
      refine ⟨_, rfl, _, _, rfl, rfl, _, rfl, ite2 (fun cz => ?_) (fun cz => ?_)⟩
      · refine ⟨_, rfl, _, rfl, _, _, rfl, rfl, ⟨by omega, by omega⟩, _, rfl, _, rfl, g, _, _, n % (gs.length + 1), rfl, rfl, hg2, ix_at (by rw [elen]; exact (Int.natCast_emod n (gs.length + 1)).symm) (by rw [List.length_map]; exact hl1), ?_⟩
        refine ⟨_, rfl, .inl ⟨_, rfl, _, rfl, _, _, rfl, rfl, l0, ?_⟩⟩
        refine q _ _ (fin _).1 (fin _).2 (mat _ _ (by rw [upd_ne nmg]; exact hm2) (by rw [upd_ne ncg]; exact hc2) iL_put (by rw [List.length_set]; exact lg)) fun b o e h1 h2 => ?_
        rw [upd_ne h2]
        exact k3 b o e h1
      · have hj : n % 64 < cs.length := by omega
        refine ⟨_, rfl, m, _, rfl, DGet.k (k := kCe) hm2, ?_⟩
        refine ⟨_, rfl, _, rfl, .inl ⟨_, rfl, _, _, rfl, rfl, (by show (0 : Int) < 64; decide), c, iL cs, _, .int cs[n % 64], rfl, rfl, .inl (.inl hc2), iL_at (by omega) hj, ?_⟩⟩
        refine ⟨_, rfl, _, _, rfl, rfl, ⟨by decide, by decide⟩, _, _, rfl, rfl, .inl ⟨by decide, by decide⟩, _, _, rfl, rfl, _, rfl, ?_⟩
        refine ⟨_, _, rfl, by omega, by omega, fun r => ?_⟩
        refine ⟨_, rfl, _, _, rfl, rfl, ?_⟩
        refine ⟨_, _, rfl, by omega, by omega, fun r2 => .inl ⟨_, rfl, ?_⟩⟩
        refine ⟨_, rfl, _, _, rfl, rfl, l0, ?_⟩
        exact q _ _ (fin _).1 (fin _).2 (mat _ _ hm2 hc2 hg2 lg) fun b o e h1 h2 => k3 b o e h1
    | nil =>
      have hj : n % 64 < cs.length := by omega
      refine ⟨_, rfl, m, _, rfl, DGet.k (k := kCe) hm2, ?_⟩
      refine ⟨_, rfl, _, rfl, .inl ⟨_, rfl, _, _, rfl, rfl, (by show (0 : Int) < 64; decide), c, iL cs, _, .int cs[n % 64], rfl, rfl, .inl (.inl hc2), iL_at (by omega) hj, ?_⟩⟩
      refine ⟨_, rfl, _, _, rfl, rfl, ⟨by decide, by decide⟩, _, _, rfl, rfl, .inl ⟨by decide, by decide⟩, _, _, rfl, rfl, _, rfl, ?_⟩
      refine ⟨_, _, rfl, by omega, by omega, fun r => ?_⟩
      refine ⟨_, rfl, _, _, rfl, rfl, ?_⟩
      refine ⟨_, _, rfl, by omega, by omega, fun r2 => .inl ⟨_, rfl, ?_⟩⟩
      refine ⟨_, rfl, _, _, rfl, rfl, l0, ?_⟩
      exact q _ _ (fin _).1 (fin _).2 (mat _ _ hm2 hc2 hg2 lg) fun b o e h1 h2 => k3 b o e h1

/-! ### _law_begun -/
def spBeg (K : PySem.W.Frag) : Sp := fun vs H Q _ => ∃ (a : Addr) (ns : List Int), vs = [.ref a] ∧ SqL K H a (iL ns) ∧ ns.length ≤ 63 ∧
  ∀ (H' : Hp) (m g : Addr), Same H H' → MAt H' m g 0 → Q (.ref m) H'
structure TxtG (K : PySem.W.Frag) (mg : Str → Option Value) (fF : Addr) : Prop extends TxtB mg where
  fol : mg "_law_folded" = some (.ref fF)
theorem ok_beg {f fF : Addr} {fd fdF : FuncData} (F : Fun K "_law_begun" "_law_begun" sBeg f fd) (T : TxtG K mg fF) (FF : Fun K "_law_folded" "_law_folded" sFol fF fdF) (bF : Binds K fdF ["script"] []) : FnOk P w K mg base CX0 2 f fd ["script"] (spBeg K) := by
  have GF : FnOk P w K mg base CX0 1 fF fdF ["script"] (spFol K) := ok_fol FF T.toTxtB
  refine F.ok scB (fun vs H Q E h => ?_) (fun cdv A outer s H vs Q E hr h => ?_)
  · obtain ⟨a, ns, rfl, _⟩ := h
    rfl
  · obtain ⟨a, ns, rfl, hS, hlen, q⟩ := h
    have hu := hu_of hr
    have hr1 : Room 1 _ := hr.mono (by decide)
    refine ⟨_, (pss_cons (ps_set (i := 1) scB.nd rfl (Or.inl rfl) (pe_disp (pps_cons pe_str (pe_call GF hr1 (by rfl) T.fol FF.kp bF .nil pass0 (pa_cons (pv 0) pa_nil)) (pps_cons pe_str (pe_lst pa_nil) (pps_cons pe_str pe_int pps_nil))) (by rfl) (by rfl) (fun z => by cases z) (by decide))) (pss_cons (ps_dput hu (pv 1) pe_str (pe_lc (own := [("cell", 2)]) (tt := tYes) rfl scB.nd (pi_list (pv 0)) (blkOk_by (own := [("cell", 2)]) (N := ["script", "m", "cell"]) (sc := defScope sBeg) (by decide +kernel)) (fun _ _ _ _ _ => (pg_name (i := 2) scB.nd rfl (Or.inl rfl))) (fun _ _ _ _ _ => pts_nil) (fun _ _ _ _ _ => (pe_ifExp (pt_cmpR op_ge (pv 2) (pe_op op_pow pe_int pe_int) (nomark _)) (pv 2) pe_int))) rfl) (pss_one (ps_ret (pv 1))))), ?_⟩
    intro m nm
    have s0 : Same H (upd H m (.dK [])) := same_new nm
    refine ⟨_, rfl, a, ns, rfl, s0.seq hS, hlen, fun H1 c cs s1 nc hc lc => ⟨(by show 0 ≤ sizeLine; decide), fun g0 ng0 => ?_⟩⟩
    have s2 : Same H1 (upd H1 g0 (.lst [])) := same_new ng0
    have hm1 : H1 m = some (.dK []) := s1 _ _ upd_same
    have nmc : c ≠ m := ne_of hc hm1 (by intro z; cases z)
    refine ⟨s2 _ _ hm1, mkM c g0 0, rfl, (by show 3 ≤ 15; decide), ?_⟩
    have hm3 : (upd (upd H1 g0 (.lst [])) m (.dK (mergeK [] (mkM c g0 0)))) m = some (.dK (mkM c g0 0)) := by rw [upd_same, merge_m]
    have hc3 : (upd (upd H1 g0 (.lst [])) m (.dK (mergeK [] (mkM c g0 0)))) c = some (.lst (iL cs)) := by rw [upd_ne nmc]; exact s2 _ _ hc
    have s3 : Same H (upd (upd H1 g0 (.lst [])) m (.dK (mergeK [] (mkM c g0 0)))) := fun b o e => by
      rw [upd_ne (ne_of_none e nm)]
      exact s2 _ _ (s1 _ _ (s0 _ _ e))
    revert hm3 hc3 s3
    generalize upd (upd H1 g0 (.lst [])) m (.dK (mergeK [] (mkM c g0 0))) = H3
    intro hm3 hc3 s3
    refine ⟨_, rfl, a, rfl, ⟨_, s3.seq hS⟩, fun D nD => lc_list (K := K) (a := a) (xs := iL ns) (fun i H4 => ∃ gs : List Int, gs.length = i ∧ H4 D = some (.lst (iL gs)) ∧ Same H3 H4) ⟨[], rfl, upd_same, same_new nD⟩ (fun i H4 _ ⟨_, _, _, sm⟩ => sm.seq (s3.seq hS)) ?_ ?_⟩
    · rintro i x H4 hi ⟨gs, hl, hD, sm⟩
      have hin : i < ns.length := by
        have h := (List.getElem?_eq_some_iff.mp hi).1
        rw [List.length_map] at h
        exact h
      obtain rfl : x = .int ns[i] := Option.some.inj (hi.symm.trans (iL_get hin))
      have step : ∀ z : Int, ∃ acc : List V, H4 D = some (.lst acc) ∧ acc.length < sizeLine ∧ ∃ gs : List Int, gs.length = i + 1 ∧ (upd H4 D (.lst (acc ++ [V.int z]))) D = some (.lst (iL gs)) ∧ Same H3 (upd H4 D (.lst (acc ++ [V.int z]))) := fun z =>
        ⟨_, hD, by rw [List.length_map]; exact small1000 (by omega), gs ++ [z], by rw [List.length_append, hl]; rfl, by rw [upd_same, iL_app], fun b o e => by rw [upd_ne (ne_of_none e nD)]; exact sm b o e⟩
      refine ⟨rfl, ?_⟩
      refine ⟨_, rfl, _, _, rfl, rfl, ⟨by decide, by decide, by decide⟩, _, _, rfl, rfl, _, rfl, ite2 (fun _ => ?_) (fun _ => ?_)⟩
      · exact ⟨_, rfl, step _⟩
      · exact step 0
    · rintro H4 ⟨gs, hl, hD, sm⟩
      rw [List.length_map] at hl
      have hm4 := sm _ _ hm3
      have nDm : D ≠ m := ne_of hD hm4 (by intro z; cases z)
      refine ⟨_, rfl, m, _, rfl, DPut.k (k := kGr) hm4 (by show 3 < sizeLine; decide), _, rfl, ?_⟩
      rw [put_gr]
      refine q _ m D (fun b o e => ?_) ⟨c, cs, gs, 0, upd_same, by rw [upd_ne nmc]; exact sm _ _ hc3, lc, by rw [upd_ne nDm]; exact hD, by omega, Nat.le_refl _⟩
      rw [upd_ne (ne_of_none e nm)]
      exact sm _ _ (s3 _ _ e)
end
end Up

/-! the checks of values, over data of any kind -/
namespace Up
open PySem PySem.Spec PyProof.Rows L2
abbrev s_is_whole : Stmt := (topS 6)
abbrev s_is_index : Stmt := (topS 7)
abbrev s_is_listing : Stmt := (topS 8)
abbrev s_is_couple : Stmt := (topS 9)
abbrev s_is_doing : Stmt := (topS 10)
theorem sc_is_whole : FnScope ["value"] ["value"] (defScope s_is_whole) := ⟨rfl, rfl, rfl, by decide +kernel, rfl, by decide +kernel, by decide +kernel⟩
theorem sc_is_index : FnScope ["value", "many"] ["value", "many"] (defScope s_is_index) := ⟨rfl, rfl, rfl, by decide +kernel, rfl, by decide +kernel, by decide +kernel⟩
theorem sc_is_listing : FnScope ["value", "most"] ["value", "most"] (defScope s_is_listing) := ⟨rfl, rfl, rfl, by decide +kernel, rfl, by decide +kernel, by decide +kernel⟩
theorem sc_is_couple : FnScope ["value"] ["value"] (defScope s_is_couple) := ⟨rfl, rfl, rfl, by decide +kernel, rfl, by decide +kernel, by decide +kernel⟩
theorem sc_is_doing : FnScope ["value", "many", "word", "letter"] ["value", "many"] (defScope s_is_doing) := ⟨rfl, rfl, rfl, by decide +kernel, rfl, by decide +kernel, by decide +kernel⟩
/-- what a passed value may be: None, a bool, an int, a text, a list, a tuple, a dict -/
inductive Kd (H : Hp) : V → Type where
  | non : Kd H .non
  | bl (b : Bool) : Kd H (.bl b)
  | int (i : Int) : Kd H (.int i)
  | str (x : Str) : Kd H (.str x)
  | lst (a : Addr) (xs : List V) (h : H a = some (.lst xs)) : Kd H (.ref a)
  | tup (a : Addr) (xs : List V) (h : H a = some (.tup xs)) : Kd H (.ref a)
  | dct (a : Addr) (kvs : List (Key × V)) (h : H a = some (.dK kvs)) : Kd H (.ref a)
def Kd.ty {H : Hp} {v : V} : Kd H v → String
  | .non => "NoneType"
  | .bl _ => "bool"
  | .int _ => "int"
  | .str _ => "str"
  | .lst .. => "list"
  | .tup .. => "tuple"
  | .dct .. => "dict"
theorem Kd.tyx {K : PySem.W.Frag} {H : Hp} {v : V} (k : Kd H v) : TyX K H v (.type k.ty) := by
  cases k with
  | non => exact .base .non
  | bl b => exact .base (.bl b)
  | int i => exact .base (.int i)
  | str x => exact .base (.str x)
  | lst a xs h => exact .base (.lst h)
  | tup a xs h => exact .base (.tup h)
  | dct a kvs h => exact .base (.dK h)
def Kd.is {H : Hp} {v : V} (k : Kd H v) (t : String) : Bool := (kitB k.ty t).getD false
theorem Kd.kit {K : PySem.W.Frag} {H : Hp} {v : V} (k : Kd H v) {t : String} (ht : t ∈ ["int", "bool", "str", "list", "tuple"]) : PySem.W.kitOne K (.type k.ty) (.type t) = some (k.is t) := by
  simp only [List.mem_cons, List.not_mem_nil, or_false] at ht
  refine kit_ty ?_
  unfold Kd.is
  cases k <;> rcases ht with rfl | rfl | rfl | rfl | rfl <;> (dsimp only [Kd.ty]; decide +kernel)
theorem Kd.same {H H' : Hp} {v : V} (k : Kd H v) (s : Same H H') : Nonempty (Kd H' v) := by
  cases k with
  | non => exact ⟨.non⟩
  | bl b => exact ⟨.bl b⟩
  | int i => exact ⟨.int i⟩
  | str x => exact ⟨.str x⟩
  | lst a xs h => exact ⟨.lst a xs (s _ _ h)⟩
  | tup a xs h => exact ⟨.tup a xs (s _ _ h)⟩
  | dct a kvs h => exact ⟨.dct a kvs (s _ _ h)⟩
/-- the built-in names that the program's checks use -/
structure TxtC (mg : Str → Option Value) : Prop extends TxtB mg where
  isinstance : mg "isinstance" = none
  bool : mg "bool" = none
  str : mg "str" = none
  list : mg "list" = none
  tuple : mg "tuple" = none
/-- an integer as the program counts -/
def wholeV : V → Bool
  | .int _ => true
  | _ => false
def spWhole : Sp := fun vs H Q _ => ∃ (v : V) (k : Kd H v), vs = [v] ∧ Q (.bl (wholeV v)) H
section
variable {P : Program} {w : World} {K : PySem.W.Frag} {mg : Str → Option Value} {base : Heap}
theorem ok_whole {f : Addr} {fd : FuncData} (F : Fun K "is_whole" "is_whole" s_is_whole f fd) (T : TxtC mg) : FnOk P w K mg base CX0 1 f fd ["value"] spWhole := by
  refine F.ok sc_is_whole (fun vs H Q E h => ?_) (fun cdv A outer s H vs Q E hr h => ?_)
  · obtain ⟨v, k, rfl, _⟩ := h
    rfl
  · obtain ⟨v, k, rfl, q⟩ := h
    refine ⟨_, (pss_one (ps_ret (pe_and (pe_callB call_isi (by rfl) T.isinstance bb_isinstance (pa_cons (pv 0) (pa_cons (pe_bltn (v := .ty "int") (by rfl) T.int bt_int rfl) pa_nil))) (pe_one (pe_not (pe_callB call_isi (by rfl) T.isinstance bb_isinstance (pa_cons (pv 0) (pa_cons (pe_bltn (v := .ty "bool") (by rfl) T.bool bt_bool rfl) pa_nil)))))))), ?_⟩
    refine ⟨_, rfl, v, .ty "int", _, _, _, rfl, .ty _, k.tyx, k.kit (by decide), _, rfl, ?_⟩
    have e1 : (if k.is "int" = true then Q (.bl (!k.is "bool")) H else Q (.bl false) H) := by
      cases k <;> exact q
    by_cases c : k.is "int" = true
    · rw [if_pos c] at e1 ⊢
      exact ⟨_, rfl, v, .ty "bool", _, _, _, rfl, .ty _, k.tyx, k.kit (by decide), _, rfl, e1⟩
    · rw [if_neg c] at e1 ⊢
      exact e1
/-- is_index(value, many): an integer from 0 to many - 1 -/
def indexV (v : V) (many : Int) : Bool := match v with
  | .int i => decide (0 ≤ i) && decide (i < many)
  | _ => false
def spIndex : Sp := fun vs H Q _ => ∃ (v : V) (k : Kd H v) (many : Int), vs = [v, .int many] ∧ Q (.bl (indexV v many)) H
structure TxtI (K : PySem.W.Frag) (mg : Str → Option Value) (fW : Addr) : Prop extends TxtC mg where
  g_is_whole : mg "is_whole" = some (.ref fW)
theorem ok_index {f fW : Addr} {fd fdW : FuncData} (F : Fun K "is_index" "is_index" s_is_index f fd) (T : TxtI K mg fW) (F_is_whole : Fun K "is_whole" "is_whole" s_is_whole fW fdW) (b_is_whole : Binds K fdW ["value"] []) : FnOk P w K mg base CX0 2 f fd ["value", "many"] spIndex := by
  have G_is_whole : FnOk P w K mg base CX0 1 fW fdW ["value"] spWhole := ok_whole F_is_whole T.toTxtC
  refine F.ok sc_is_index (fun vs H Q E h => ?_) (fun cdv A outer s H vs Q E hr h => ?_)
  · obtain ⟨v, k, many, rfl, _⟩ := h
    rfl
  · obtain ⟨v, k, many, rfl, q⟩ := h
    have hr_is_whole : Room 1 _ := hr.mono (by decide)
    refine ⟨_, (pss_one (ps_ret (pe_and (pe_call G_is_whole hr_is_whole (by rfl) T.g_is_whole F_is_whole.kp b_is_whole .nil pass0 (pa_cons (pv 0) pa_nil)) (pe_one (pe_chain op_le op_lt pe_int (pv 0) (pv 1)))))), ?_⟩
    refine ⟨_, rfl, v, k, rfl, _, rfl, ?_⟩
    cases k with
    | int i =>
      refine ⟨_, rfl, _, _, rfl, rfl, _, rfl, ?_⟩
      by_cases c : 0 ≤ i
      · rw [decide_eq_true c]
        refine ⟨_, rfl, _, _, rfl, rfl, ?_⟩
        have e : indexV (.int i) many = decide (i < many) := by
          show (decide (0 ≤ i) && decide (i < many)) = _
          rw [decide_eq_true c]
          rfl
        show Q (.bl (decide (i < many))) H
        rw [← e]
        exact q
      · rw [decide_eq_false c]
        have e : indexV (.int i) many = false := by
          show (decide (0 ≤ i) && decide (i < many)) = _
          rw [decide_eq_false c]
          rfl
        rw [e] at q
        exact q
    | _ => exact q
/-- a tuple of two, as it stands in the heap -/
def Kd.couple {H : Hp} {v : V} : Kd H v → Option (V × V)
  | .tup _ [x, y] _ => some (x, y)
  | _ => none
def spCouple : Sp := fun vs H Q _ => ∃ (v : V) (k : Kd H v), vs = [v] ∧ Q (.bl k.couple.isSome) H
theorem ok_couple {f : Addr} {fd : FuncData} (F : Fun K "is_couple" "is_couple" s_is_couple f fd) (T : TxtC mg) : FnOk P w K mg base CX0 1 f fd ["value"] spCouple := by
  refine F.ok sc_is_couple (fun vs H Q E h => ?_) (fun cdv A outer s H vs Q E hr h => ?_)
  · obtain ⟨v, k, rfl, _⟩ := h
    rfl
  · obtain ⟨v, k, rfl, q⟩ := h
    refine ⟨_, (pss_one (ps_ret (pe_and (pe_callB call_isi (by rfl) T.isinstance bb_isinstance (pa_cons (pv 0) (pa_cons (pe_bltn (v := .ty "tuple") (by rfl) T.tuple bt_tuple rfl) pa_nil))) (pe_one (pe_cmpR op_eq (pe_callB call_len_seq (by rfl) T.len PySem.boot_len (pa_cons (pv 0) pa_nil)) pe_int (nomark _)))))), ?_⟩
    refine ⟨_, rfl, v, .ty "tuple", _, _, _, rfl, .ty _, k.tyx, k.kit (by decide), _, rfl, ?_⟩
    cases k with
    | tup a xs h =>
      refine ⟨_, rfl, a, xs, rfl, .inr (.inl (.inl h)), rfl, ?_⟩
      match xs, h, q with
      | [], h, q => exact q
      | [_], h, q => exact q
      | [_, _], h, q => exact q
      | x :: y :: z :: r, h, q =>
        have e : decide (V.int ((x :: y :: z :: r).length : Int) = V.int 2) = false := by
          refine decide_eq_false fun c => ?_
          have c2 := V.int.inj c
          simp only [List.length_cons] at c2
          omega
        show Q (.bl (decide (V.int ((x :: y :: z :: r).length : Int) = V.int 2))) H
        rw [e]
        exact q
    | _ => exact q
/-- ("send", L) or ("get", L), L from 0 to many - 1 -/
def wordV (x : V) : Bool := match x with
  | .str z => inV (.str z) [.str "send", .str "get"]
  | _ => false
def Kd.doing {H : Hp} {v : V} (k : Kd H v) (many : Int) : Bool := match k.couple with
  | some (x, y) => wordV x && indexV y many
  | none => false
def spDoing : Sp := fun vs H Q _ => ∃ (v : V) (k : Kd H v) (many : Int), vs = [v, .int many] ∧ (∀ x y, k.couple = some (x, y) → Nonempty (Kd H x) ∧ Nonempty (Kd H y)) ∧ ∀ H', Same H H' → Q (.bl (k.doing many)) H'
structure TxtDo (K : PySem.W.Frag) (mg : Str → Option Value) (fC fI : Addr) : Prop extends TxtC mg where
  g_is_couple : mg "is_couple" = some (.ref fC)
  g_is_index : mg "is_index" = some (.ref fI)
theorem ok_doing {f fC fI : Addr} {fd fdC fdI : FuncData} (F : Fun K "is_doing" "is_doing" s_is_doing f fd) (T : TxtDo K mg fC fI) (F_is_couple : Fun K "is_couple" "is_couple" s_is_couple fC fdC) (b_is_couple : Binds K fdC ["value"] [])
    (F_is_index : Fun K "is_index" "is_index" s_is_index fI fdI) (b_is_index : Binds K fdI ["value", "many"] []) (G_is_index : FnOk P w K mg base CX0 2 fI fdI ["value", "many"] spIndex) : FnOk P w K mg base CX0 3 f fd ["value", "many"] spDoing := by
  have G_is_couple : FnOk P w K mg base CX0 1 fC fdC ["value"] spCouple := ok_couple F_is_couple T.toTxtC
  refine F.ok sc_is_doing (fun vs H Q E h => ?_) (fun cdv A outer s H vs Q E hr h => ?_)
  · obtain ⟨v, k, many, rfl, _⟩ := h
    rfl
  · obtain ⟨v, k, many, rfl, hk, q⟩ := h
    have hr_is_couple : Room 1 _ := hr.mono (by decide)
    have hr_is_index : Room 2 _ := hr.mono (by decide)
    refine ⟨_, (pss_cons (ps_if (pt_not (pt_val (pe_call G_is_couple hr_is_couple (by rfl) T.g_is_couple F_is_couple.kp b_is_couple .nil pass0 (pa_cons (pv 0) pa_nil)))) (pss_one (ps_ret pe_bl)) pss_nil) (pss_cons (ps_asg (pv 0) (pg_tup (by rfl) (pgs_cons (pg_name (i := 2) sc_is_doing.nd rfl (Or.inl rfl)) (pgs_cons (pg_name (i := 3) sc_is_doing.nd rfl (Or.inl rfl)) pgs_nil)))) (pss_one (ps_ret (pe_and (pe_callB call_isi (by rfl) T.isinstance bb_isinstance (pa_cons (pv 2) (pa_cons (pe_bltn (v := .ty "str") (by rfl) T.str bt_str rfl) pa_nil))) (pe_and (pe_cmpR op_in_seq (pv 2) (pe_tup (pa_cons pe_str (pa_cons pe_str pa_nil))) (by rfl)) (pe_one (pe_call G_is_index hr_is_index (by rfl) T.g_is_index F_is_index.kp b_is_index .nil pass0 (pa_cons (pv 3) (pa_cons (pv 1) pa_nil)))))))))), ?_⟩
    refine ⟨_, rfl, v, k, rfl, _, rfl, ?_⟩
    have q0 := q
    unfold Kd.doing at q
    cases e : k.couple with
    | none =>
      rw [e] at q
      exact q H (Same.refl H)
    | some p =>
      obtain ⟨x, y⟩ := p
      rw [e] at q
      obtain ⟨⟨kx⟩, ⟨ky⟩⟩ := hk x y e
      obtain ⟨a, rfl, ha⟩ : ∃ a, v = .ref a ∧ H a = some (.tup [x, y]) := by
        cases k with
        | tup a xs h =>
          match xs, h, e with
          | [x', y'], h, e =>
            have e2 := Option.some.inj e
            cases e2
            exact ⟨a, rfl, h⟩
        | _ => cases e
      refine ⟨_, rfl, a, [x, y], rfl, .inl (.inl ha), rfl, x, [y], rfl, y, [], rfl, rfl, ?_⟩
      refine ⟨_, rfl, x, .ty "str", _, _, _, rfl, .ty _, kx.tyx, kx.kit (by decide), _, rfl, ?_⟩
      cases kx with
      | str z =>
        refine ⟨_, rfl, (by show 2 ≤ sizeLine; decide), fun p np => ?_⟩
        have s1 : Same H (upd H p (.tup [.str "send", .str "get"])) := same_new np
        refine ⟨p, [.str "send", .str "get"], rfl, .inr (.inl (.inl upd_same)), rfl, rfl, _, rfl, ?_⟩
        obtain ⟨ky2⟩ := ky.same s1
        have q2 : Q (.bl (wordV (.str z) && indexV y many)) _ := q _ s1
        by_cases c : inV (.str z) [.str "send", .str "get"] = true
        · have e2 : wordV (.str z) = true := c
          rw [e2] at q2
          refine Eq.mpr (if_pos c) ?_
          exact ⟨_, rfl, _, rfl, y, ky2, many, rfl, q2⟩
        · have e3 : inV (.str z) [.str "send", .str "get"] = false := by simpa using c
          have e2 : wordV (.str z) = false := e3
          rw [e2] at q2
          exact Eq.mpr (if_neg c) q2
      | _ => exact q H (Same.refl H)
end
end Up

set_option Elab.async false
set_option linter.all false
set_option maxRecDepth 100000
set_option maxHeartbeats 4000000
/-! defs that are run where nothing is being shown (so that what they make may be shown), and what repr and max tell -/
namespace Up
open PySem PySem.Spec PyProof.Rows L2
/-- no repr is under way -/
def Quiet (A : Around) : Prop := A.guards = some []
/-- as FnOk, where no repr is under way -/
structure FnG (P : Program) (w : World) (K : PySem.W.Frag) (mg : Str → Option Value) (base : Heap) (CX : CXT) (k : Nat) (f : Addr) (fd : FuncData) (ps : List Str) (sp : Sp) : Prop where
  cnt : ∀ vs H Q E, sp vs H Q E → vs.length = ps.length
  go : ∀ (A : Around) (out : List Env) (st : Shared) (H : Hp) (ar : Args) (us : List Value) (vs : List V) (Q : VK) (E : XK), Quiet A → Room k A → Env0 P w K mg base A out st H → BindsTo st fd ar (ps.zip us) → Vals vs us → sp vs H Q E →
    codeAny (model P w) A (.call (.ref f) ar) (CR CX out P w H st Q E) st
theorem FnG.of {P : Program} {w : World} {K : PySem.W.Frag} {mg : Str → Option Value} {base : Heap} {CX : CXT} {k : Nat} {f : Addr} {fd : FuncData} {ps : List Str} {sp : Sp} (F : FnOk P w K mg base CX k f fd ps sp) : FnG P w K mg base CX k f fd ps sp :=
  ⟨F.len, fun A out st H ar us vs Q E _ => F.run A out st H ar us vs Q E⟩
section
variable {X : Cx} {CX : CXT} {k : Nat} {f : Addr} {fd : FuncData} {ps : List Str} {sp : Sp} {dvs : List V} {ds : List Value} {E : XK} {x : Str} {p pos : Pos} {e : Expr} {es : List Expr} {t : TA}
theorem runG {pins : List (Addr × Obj)} {σ : L2.St} {H : Hp} {st : Shared} {Q : VK} {us : List Value} {vs : List V} (hQ : Quiet X.A) (F : FnG X.prog X.w X.K X.mg X.base CX k f fd ps sp) (hr : Room k X.A) (hb : Binds X.K fd ps ds) (hd : Vals dvs ds) (hx : Passes CX X E)
    (I : Inv X pins σ H st) (rv : Vals vs us) (h : sp (vs ++ dvs) H Q E) : wpAny (model X.prog X.w) X.A (call (.ref f) us) (EP X pins σ Q) X.xe st := by
  have rw2 : Vals (vs ++ dvs) (us ++ ds) := rv.append hd
  have ln : (us ++ ds).length = ps.length := rw2.length.symm.trans (F.cnt _ _ _ _ h)
  refine wpAny_call (codeAny_mono (F.go X.A X.stack st H ⟨us, []⟩ (us ++ ds) (vs ++ dvs) Q E hQ hr I.env0 (hb st us I.kIn ln) rw2 h) fun res st2 hq => ?_)
  match res, hq with
  | .error er, hq => exact hx pins σ H st er st2 I hq
  | .ok (.ret u), hq => exact I.after hq
/-- f(..), f a def that is to run where no repr is under way -/
theorem pe_callG (hQ : Quiet X.A) (F : FnG X.prog X.w X.K X.mg X.base CX k f fd ps sp) (hr : Room k X.A) (hg : Gl X x) (hm : X.mg x = some (.ref f)) (hk : PySem.W.keepIn X.K (.ref f) = true) (hb : Binds X.K fd ps ds) (hd : Vals dvs ds) (hx : Passes CX X E)
    (ha : PA X (e :: es) t) (hdb : (x == ("__debug__" : Str)) = false := by decide) (he : starEach (e :: es) X.env = (false, eval e X.env) :: starEach es X.env := by rfl) (hpl : (backTo pos (starEach es X.env)).any (·.1) = false := by rfl) :
    PE X (.Call (.Name x p) (e :: es) [] pos) (tCall sp dvs E t) := by
  refine ⟨fun pins st σ H Q I hh => ?_⟩
  refine wpAny_Call_Name_kw (ld_glob I hg hm ?_ hdb)
  exact PySem.W.callWith_K (h₀ := X.base) I.ok.mod.kin hk (thn (ha.run pos pins st σ H _ I hh) fun us st1 ⟨vs, H1, I1, rv, q⟩ => ⟨I1.kIn, runG hQ F hr hb hd hx I1 rv q⟩) he hpl
end
/-- a def's body, where no repr is under way -/
theorem fn_ofG {CX : CXT} {P : Program} {w : World} {K : PySem.W.Frag} {mg : Str → Option Value} {base : Heap} {k : Nat} {f : Addr} {nm qual : Str} {params : Arguments} {body : List Stmt} {sc : Scope} {dV kV doc pm cdv ct oc : Value} {an od : Option Addr}
    {osl : Array (Option Value)} {N ps : List Str} {sp : Sp} (lk : K.lookup f = some ⟨oc, od, .func (PySem.W.fnOf nm qual params body sc dV kV doc pm an cdv ct), osl⟩) (hcd : PySem.W.codeIn K cdv qual = true) (S : FnScope N ps sc)
    (cnt : ∀ vs H Q E, sp vs H Q E → vs.length = ps.length)
    (hbody : ∀ (A : Around) (out : List Env) (st : Shared) (H : Hp) (vs : List V) (Q : VK) (E : XK), Quiet (A.deeper (envOfC qual sc st.heap.objs.size f cdv)) → Room k (A.deeper (envOfC qual sc st.heap.objs.size f cdv)) → sp vs H Q E →
      ∃ t, PSs (cxOf CX P w K mg base N qual sc f cdv A out st H E) body t ∧ t { nx := fun _ H' => Q .non H', rt := Q } (start N vs) H) :
    FnG P w K mg base CX (k + 1) f (PySem.W.fnOf nm qual params body sc dV kV doc pm an cdv ct) ps sp := by
  refine ⟨cnt, fun A out st H ar us vs Q E hQ hr e0 hb rv hsp => ?_⟩
  have ln := cnt _ _ _ _ hsp
  have KX : K.In st.heap := e0.mod.kin.keeps fun b o e => (e0.bs b o e).1
  have nl : st.heap.NoLimit := e0.mod.nolimit.keeps fun b o e => (e0.bs b o e).1
  have kinds : ∀ y ∈ ps.zip us, sc.names.lookup y.1 = some .local ∨ (sc.names.lookup y.1 = some .cell ∧ ((cellsFrom (st.heap.objs.size + 1) sc.names []).lookup y.1).isSome = true) := fun ⟨n, v⟩ hy =>
    (S.par n (List.of_mem_zip hy).1).imp id fun q => ⟨q, PySem.W.cellsFrom_some _ _ _ (.inl q)⟩
  refine codeAny_call_function hr.depth (KX _ _ lk) rfl S.co S.gen rfl (PySem.W.codeRec_of KX hcd) (hb _ _ _ _ (wpAny_newFunctionEnv_cells S.kind kinds fun env he s1 xc => ?_))
  subst he
  obtain ⟨t, ht, hq⟩ := hbody A out st H vs Q E hQ (hr.deeper _) hsp
  have I : Inv (cxOf CX P w K mg base N qual sc f cdv A out st H E) [] (start N vs) H s1 := inv_start S hr.hd e0 ln rv xc
  refine ⟨nl.keeps xc.toInCall.keep, codeAny_func (wpAny_mono (ht.run [] s1 (start N vs) H _ I hq) (fun fl s' hs => ?_) fun _ _ z => z)⟩
  match fl, hs with
  | .ret u, ⟨v, σ', H', J, rv', q⟩ => exact ⟨v, H', J.os, J.bare, J.base, J.hok, rv', q⟩
  | .next, ⟨σ', H', J, q⟩ => exact ⟨V.non, H', J.os, J.bare, J.base, J.hok, rfl, q⟩
  | .brk, ⟨_, _, _, q⟩ => exact q.elim
  | .cont, ⟨_, _, _, q⟩ => exact q.elim
section
variable {P : Program} {w : World} {K : PySem.W.Frag} {mg : Str → Option Value} {base : Heap}
theorem okG {x qual : Str} {st : Stmt} {f : Addr} {fd : FuncData} {N ps : List Str} {k : Nat} {sp : Sp} (F : Fun K x qual st f fd) (S : FnScope N ps (defScope st)) (cnt : ∀ vs H Q E, sp vs H Q E → vs.length = ps.length)
    (hbody : ∀ (cdv : Value) (A : Around) (out : List Env) (s : Shared) (H : Hp) (vs : List V) (Q : VK) (E : XK), Quiet (A.deeper (envOfC qual (defScope st) s.heap.objs.size f cdv)) → Room k (A.deeper (envOfC qual (defScope st) s.heap.objs.size f cdv)) → sp vs H Q E →
      ∃ t, PSs (cxOf CX0 P w K mg base N qual (defScope st) f cdv A out s H E).nox (defBody st) t ∧ t { nx := fun _ H' => Q .non H', rt := Q } (start N vs) H) : FnG P w K mg base CX0 (k + 1) f fd ps sp := by
  obtain ⟨oc, od, kV, doc, pm, an, cdv, ct, osl, rfl, lk, hcd⟩ := F.ex
  refine fn_ofG lk hcd S cnt fun A out s H vs Q E hQ hr hsp => ?_
  obtain ⟨t, h, q⟩ := hbody cdv A out s H vs Q E hQ hr hsp
  exact ⟨t, h.nox, q⟩
end
/-! ### the law's end, where no repr is under way -/
theorem quiet_top : Quiet callerA := rfl
theorem law_callG {P : Program} {w : World} {K : PySem.W.Frag} {mg mb : Str → Option Value} {k : Nat} {fa a : Addr} {fd : FuncData} {x : Str} {sp : Sp} {s0 : Shared} {vs : List Value} {ns : List Int}
    (KX : K.In s0.heap) (hns : s0.heap.Ns mainGlobals mg) (hb : s0.heap.Ns builtinsNs mb) (hbb : ∀ y : Str, y ≠ "__name__" → mb y = bootBuiltins y) (hlim : s0.heap.NoLimit) (hg : s0.gens = #[])
    (ha : s0.heap.get? a = some { cls := .type "list", data := .seq vs.toArray }) (hi : IntsAre vs ns) (hl : ns.length ≤ sizeLine) (hr : Room k callerA)
    (F : ∀ base : Heap, K.In base → base.Ns mainGlobals mg → FnG P w K mg base CX0 k fa fd [x] sp) (hbind : ∀ (st : Shared) (u : Value), BindsTo st fd ⟨[u], []⟩ [(x, u)])
    (hsp : ∀ H : Hp, SqL K H a (ns.map V.int) → sp [.ref a] H (fun v _ => v = .bl true) fun _ _ _ => False) :
    codeAny (model P w) callerA (.call (.ref fa) ⟨[.ref a], []⟩) (fun res s' => res = .ok (.ret (.bool true)) ∧ OldK s0.heap s'.heap ∧ s'.os = s0.os ∧ AllBare s'.gens) s0 := by
  have rv := vals_ints hi
  have lnV := hi.length
  have mid : ∀ H : Hp, Only H → SqL K H a (ns.map V.int) → HOk P w H s0.heap → (∀ b, H b ≠ none → b = a) → (H a ≠ none → K.lookup a = none) →
      codeAny (model P w) callerA (.call (.ref fa) ⟨[.ref a], []⟩) (fun res s' => res = .ok (.ret (.bool true)) ∧ OldK s0.heap s'.heap ∧ s'.os = s0.os ∧ AllBare s'.gens) s0 := by
    intro H hO hS hok hA hK
    have toBase : ∀ {b : Addr} {o : Obj}, s0.heap.get? b = some o → H b = none → (hidT s0.heap H).get? b = some o := fun e n => hidT_get e n
    have noDict : ∀ {b : Addr} {o : Obj} {es : Array DictEntry} {ep : Nat}, s0.heap.get? b = some o → o.data = .dict es ep → H b = none := fun {b o es ep} e d => by
      cases t : H b with
      | none => rfl
      | some u =>
        obtain rfl : b = a := hA b (by rw [t]; simp)
        cases e.symm.trans ha
        exact nomatch (show Data.seq vs.toArray _ = Data.dict es ep from d)
    have nsB : ∀ {b : Addr} {m : Str → Option Value}, s0.heap.Ns b m → (hidT s0.heap H).Ns b m := fun {b m} ⟨o, es, ep, e, d, r⟩ => ⟨o, es, ep, toBase e (noDict e d), d, r⟩
    have kinB : K.In (hidT s0.heap H) := fun b o e => toBase (KX b o e) (by
      cases t : H b with
      | none => rfl
      | some u =>
        obtain rfl : b = a := hA b (by rw [t]; simp)
        cases e.symm.trans (hK (by rw [t]; simp)))
    have modB : Mod K mg (hidT s0.heap H) := ⟨kinB, nsB hns, ⟨mb, nsB hb, hbb⟩, let ⟨mc, h1, h2⟩ := hlim; ⟨mc, nsB h1, h2⟩⟩
    have e0 : Env0 P w K mg (hidT s0.heap H) callerA [] s0 H := ⟨rfl, modB, fun b o e => of_hidT e, Nat.le_of_eq (hidT_size _ _), trivial, fun b hm => (List.not_mem_nil hm).elim, hok, .of_eq hg⟩
    refine codeAny_mono ((F _ kinB (nsB hns)).go callerA [] s0 H ⟨[.ref a], []⟩ [.ref a] [.ref a] _ _ quiet_top hr e0 (hbind s0 (.ref a)) (.cons rfl .nil) (hsp H hS)) fun res s' h => ?_
    match res, h with
    | .ok (.ret u), ⟨v, H', os, bare, un, hok', rr, q⟩ =>
      obtain rfl : v = .bl true := q
      obtain rfl : u = Value.bool true := rr
      refine ⟨rfl, OldK.of_keep fun b o e => ?_, os, bare⟩
      cases t : H b with
      | none => exact un.keep b o e t List.not_mem_nil List.not_mem_nil
      | some u =>
        rcases hO b with z | ⟨ob, xs, z⟩
        · exact nomatch z.symm.trans t
        · have e1 := (hok b _ z).1
          have e2 := (hok' b _ (un.frzs b ob _ z)).1
          rw [e] at e1
          cases e1
          exact e2
  cases hk : K.lookup a with
  | some o =>
    have e := KX a o hk
    rw [ha] at e
    cases e
    exact mid (fun _ => none) (fun _ => .inl rfl) (.inr ⟨_, vs.toArray, _, hk, rfl, rfl, rfl, by rw [List.size_toArray, lnV]; exact hl, by simpa using rv⟩) (fun b u z => nomatch (show (none : Option HO) = some u from z)) (fun b z => absurd rfl z) fun z => absurd rfl z
  | none =>
    have isA : ∀ {b : Addr} {u : HO}, (if b = a then some (HO.frz { cls := .type "list", data := .seq vs.toArray } (.lst (ns.map V.int))) else none) = some u → b = a := fun {b u} z => by
      by_cases t : b = a
      · exact t
      · rw [if_neg t] at z
        cases z
    refine mid (fun b => if b = a then some (.frz { cls := .type "list", data := .seq vs.toArray } (.lst (ns.map V.int))) else none) (fun b => ?_) (.inl (.inr ⟨{ cls := .type "list", data := .seq vs.toArray }, if_pos rfl⟩)) (fun b u z => ?_) (fun b z => ?_) fun _ => hk
    · by_cases t : b = a
      · exact .inr ⟨_, _, if_pos t⟩
      · exact .inl (if_neg t)
    · have t := isA z
      subst t
      cases (if_pos rfl).symm.trans z
      exact ⟨ha, by rw [List.length_map]; exact hl, vs, _, rv, ha⟩
    · by_cases t : b = a
      · exact t
      · exact absurd (if_neg t) z
theorem walk_ofG {l : PySem.W.OpenLaw} {n k : Nat} {q : Program} {loose : List Str} {XP : (Str → Option Value) → Heap → Prop} {YP : World → Heap → Prop} {d : DefRec} {K : Params → PySem.W.Frag} {sp : PySem.W.Frag → Sp} {x : Str}
    (hn : l.most = some n) (hn2 : n ≤ sizeLine) (hdf : d.params.defaults = []) (hr : Room k callerA)
    (hY : ∀ (w : World) (h : Heap), YP w h → (K w.params).In h)
    (F : ∀ (w : World) (mg : Str → Option Value) (fa : Addr) (h : Heap), (K w.params).In h → h.Ns mainGlobals mg → mg d.name = some (.ref fa) →
      ∃ fd : FuncData, (∀ (st : Shared) (u : Value), BindsTo st fd ⟨[u], []⟩ [(x, u)]) ∧
        ∀ base : Heap, (K w.params).In base → base.Ns mainGlobals mg → FnG l.prog w (K w.params) mg base CX0 k fa fd [x] (sp (K w.params)))
    (hsp : ∀ (K : PySem.W.Frag) (H : Hp) (a : Addr) (ns : List Int), ns.length ≤ n → SqL K H a (ns.map V.int) → sp K [.ref a] H (fun v _ => v = .bl true) fun _ _ _ => False) :
    PySem.W.WalkO q loose XP YP l.row.toRowW d [] (fun f vs => PySem.call f vs) := by
  refine Att.attach_call hn hdf fun w st st1 mg mb fa o pm cd doc a vs ns G Y ho hd hcd hmg hobj hints hlen hg => ?_
  have KX := hY w _ Y
  obtain ⟨fd, hb, hF⟩ := F w mg fa _ KX G.T.g hmg
  exact law_callG KX G.T.g G.T.b G.T.builtins G.T.nolimit hg hobj hints (Nat.le_trans hlen hn2) hr hF hb fun H hS => hsp (K w.params) H a ns hlen hS
/-! ### repr of data: the text hangs on the data alone -/
mutual
/-- data of any depth; as: where its lists and dicts stand -/
inductive Dq (K : PySem.W.Frag) (H : Hp) : V → PyData → List Addr → Prop
  | non : Dq K H .non .none []
  | bl (b : Bool) : Dq K H (.bl b) (.bool b) []
  | int (i : Int) : Dq K H (.int i) (.int i) []
  | str (x : Str) : Dq K H (.str x) (.str x) []
  | lst {a : Addr} {xs : List V} {ds : List PyData} {as : List Addr} : SqL K H a xs → DqAll K H xs ds as → Dq K H (.ref a) (.list ds) (a :: as)
  | tup {a : Addr} {xs : List V} {ds : List PyData} {as : List Addr} : SqT K H a xs → DqAll K H xs ds as → Dq K H (.ref a) (.tuple ds) as
  | dct {a : Addr} : H a = some (.dK []) → Dq K H (.ref a) (.dict []) [a]
inductive DqAll (K : PySem.W.Frag) (H : Hp) : List V → List PyData → List Addr → Prop
  | nil : DqAll K H [] [] []
  | cons {v : V} {vs : List V} {d : PyData} {ds : List PyData} {as bs : List Addr} : Dq K H v d as → DqAll K H vs ds bs → DqAll K H (v :: vs) (d :: ds) (as ++ bs)
end
section
variable {X : Cx} {pins : List (Addr × Obj)} {σ : L2.St} {H : Hp} {s : Shared}
mutual
theorem Dq.reads (I : Inv X pins σ H s) : ∀ (d : PyData) (v : V) (as : List Addr) (u : Value), Dq X.K H v d as → RelV v u → Reads s.heap u d as
  | .none, _, _, _, h, r => by
    cases h
    cases r
    exact Reads.none
  | .bool b, _, _, _, h, r => by
    cases h
    cases r
    exact Reads.bool b
  | .int i, _, _, _, h, r => by
    cases h
    obtain ⟨t, rfl⟩ := r
    exact Reads.int i t
  | .str x, _, _, _, h, r => by
    cases h
    obtain ⟨t, rfl⟩ := r
    exact Reads.str x t
  | .list ds, _, _, _, h, r => by
    cases h with
    | lst hs ha =>
      cases r
      obtain ⟨its, rv, ⟨o, n, ho, hc, _, hd⟩, _⟩ := I.list hs
      exact Reads.list ho hc hd (Dq.readsAll I ds _ _ its ha rv)
  | .tuple ds, _, _, _, h, r => by
    cases h with
    | tup hs ha =>
      cases r
      obtain ⟨its, rv, ⟨o, ho, hc, n, hd⟩, _⟩ := I.tuple hs
      exact Reads.tuple ho hc hd (Dq.readsAll I ds _ _ its ha rv)
  | .dict _, _, _, _, h, r => by
    cases h with
    | dct ha =>
      cases r
      obtain ⟨_, _, vs, kv, o, es, ep, ho, hx, hd, _, he, _⟩ := (show ObjOk X.prog X.w H s.heap _ (.dK []) from I.hok _ _ ha)
      cases kv
      have e0 : es.toList = [] := by
        cases t : es.toList with
        | nil => rfl
        | cons x r =>
          rw [t] at he
          cases he
      refine Reads.dict (as := []) (bs := []) ho hx.1 hd ?_ ?_ <;> rw [e0] <;> exact ReadsAll.nil
theorem Dq.readsAll (I : Inv X pins σ H s) : ∀ (ds : List PyData) (vs : List V) (as : List Addr) (us : List Value), DqAll X.K H vs ds as → Vals vs us → ReadsAll s.heap us ds as
  | [], _, _, _, h, r => by
    cases h
    cases r
    exact ReadsAll.nil
  | d :: ds, _, _, _, h, r => by
    cases h with
    | cons h1 h2 =>
      cases r with
      | cons r1 r2 => exact ReadsAll.cons (Dq.reads I d _ _ _ h1 r1) (Dq.readsAll I ds _ _ _ h2 r2)
end
end
section
variable {X : Cx}
/-- what repr asks: data that may be shown, of no great depth and length; its dicts, if any, are no module table -/
def rRepr (K : PySem.W.Frag) : List V → Hp → VK → Prop := fun xs H Q => ∃ (v : V) (d : PyData) (as : List Addr), xs = [v] ∧ Dq K H v d as ∧ d.showable = true ∧ (d.hasDict = true → ∀ b ∈ as, b ≠ sysModules ∨ ∃ kvs, H b = some (.dK kvs)) ∧
  d.depth ≤ 60 ∧ d.shown.length ≤ sizeLine ∧ Q (.str d.shown) H
theorem call_reprD (hQ : Quiet X.A) (hu : X.A.units + 64 < cLine) : CallR X (.builtin "repr") (rRepr X.K) := by
  intro pins s σ H xs us Q I r h
  obtain ⟨v, d, as, rfl, hd, hs, hm, hp, hz, q⟩ := h
  obtain ⟨u, rfl, ru⟩ := vals1 r
  have fin : ∀ h' u2 tk, (∀ b o, s.heap.get? b = some o → h'.get? b = some o) → EP X pins σ Q (.str d.shown u2) { s with heap := h', toks := tk } := fun h' u2 tk hk => ⟨.str _, H, I.kept hk, ⟨_, rfl⟩, q⟩
  have rd := Dq.reads I d v as u hd ru
  have nos : d.hasDict = true → sysModules ∉ as := fun c hmem => by
    rcases hm c _ hmem with z | ⟨kvs, z⟩
    · exact z rfl
    · obtain ⟨_, nz, _⟩ := (show ObjOk X.prog X.w H s.heap sysModules (.dK kvs) from I.hok _ _ z)
      exact absurd nz (by decide)
  cases hd with
  | non =>
    cases ru
    exact PySem.P.repr_of_none (fin s.heap _ _ fun _ _ e => e)
  | bl b =>
    cases ru
    exact PySem.P.repr_of_bool (by cases b <;> exact (fin s.heap _ _ fun _ _ e => e))
  | int i =>
    obtain ⟨t, rfl⟩ := ru
    exact PySem.P.repr_of_int (by simpa [PyData.showable] using hs) (fin s.heap _ _ fun _ _ e => e)
  | str x =>
    obtain ⟨t, rfl⟩ := ru
    exact PySem.P.repr_of_str (fin s.heap _ _ fun _ _ e => e) (by simpa [PyData.shown] using hz)
  | lst _ _ =>
    cases ru
    exact repr_of_reads' rd hs nos hQ (by omega) (fun _ _ e => e) fin hz
  | tup _ _ =>
    cases ru
    exact repr_of_reads' rd hs nos hQ (by omega) (fun _ _ e => e) fin hz
  | dct _ =>
    cases ru
    exact repr_of_reads' rd hs nos hQ (by omega) (fun _ _ e => e) fin hz
/-- max(xs, default=d) of a list of ints -/
def rMaxD (K : PySem.W.Frag) : List V → List V → Hp → VK → Prop := fun xs zs H Q => ∃ (p : Addr) (ns : List Int) (d : Int), xs = [.ref p] ∧ zs = [.int d] ∧ SqL K H p (ns.map V.int) ∧
  (ns = [] → Q (.int d) H) ∧ ∀ m, m ∈ ns → (∀ a ∈ ns, a ≤ m) → Q (.int m) H
theorem maxOf_ints : ∀ (ys : List Int) (y : Int), PySem.W.maxOf y ys ∈ y :: ys ∧ ∀ a ∈ y :: ys, a ≤ PySem.W.maxOf y ys
  | [], y => ⟨List.mem_cons_self .., fun a h => by
    rcases List.mem_cons.mp h with z | z
    · exact Int.le_of_eq z
    · cases z⟩
  | z :: ys, y => by
    have e : PySem.W.maxOf y (z :: ys) = PySem.W.maxOf (if y < z then z else y) ys := by
      unfold PySem.W.maxOf
      rw [List.foldl_cons]
      congr 1
      show (if decide (y < z) = true then z else y) = _
      by_cases c : y < z <;> simp [c]
    have k : y ≤ (if y < z then z else y) ∧ z ≤ (if y < z then z else y) ∧ ((if y < z then z else y) = y ∨ (if y < z then z else y) = z) := by
      by_cases c : y < z
      · rw [if_pos c]
        exact ⟨by omega, Int.le_refl _, .inr rfl⟩
      · rw [if_neg c]
        exact ⟨Int.le_refl _, by omega, .inl rfl⟩
    rw [e]
    revert k
    generalize (if y < z then z else y) = t
    intro ⟨k1, k2, k3⟩
    obtain ⟨h1, h2⟩ := maxOf_ints ys t
    have hw := h2 _ (List.mem_cons_self ..)
    refine ⟨?_, fun a ha => ?_⟩
    · rcases List.mem_cons.mp h1 with c | c
      · rw [c]
        rcases k3 with c | c <;> rw [c] <;> simp
      · exact List.mem_cons_of_mem _ (List.mem_cons_of_mem _ c)
    · rcases List.mem_cons.mp ha with c | c
      · rw [c]
        exact Int.le_trans k1 hw
      · rcases List.mem_cons.mp c with c | c
        · rw [c]
          exact Int.le_trans k2 hw
        · exact h2 _ (List.mem_cons_of_mem _ c)
theorem call_maxD (hc : X.calm = true) (hu : X.A.units + 64 < cLine) : CallRK X (.builtin "max") ["default"] (rMaxD X.K) := by
  intro pins s σ H xs zs us ws Q I r rz h
  obtain ⟨p, ns, d, rfl, rfl, hq, h0, h1⟩ := h
  obtain ⟨u, rfl, ru⟩ := vals1 r
  obtain ⟨u2, rfl, ru2⟩ := vals1 rz
  cases ru
  obtain ⟨its, rv, pl, _⟩ := I.list hq
  have hold : PySem.W.HoldAll s.heap its.toArray.toList ns := PySem.W.HoldAll.of_ints (by simpa using rv.ints)
  refine PySem.W.max_list_datum_default (α := Int) (I.ok.hd hc) pl.isList hold (by show X.A.units + 1 + 0 < cLine; omega) (fun e h' tk hk => ⟨.int d, H, I.kept hk, ru2, h0 e⟩) fun y ys i v h' tk e hi hv hk => ?_
  have hm := maxOf_ints ys y
  rw [← e] at hm
  refine ⟨.int (PySem.W.maxOf y ys), H, I.kept hk, ?_, h1 _ hm.1 hm.2⟩
  obtain ⟨as, rd⟩ := hv
  cases rd with
  | int i t => exact ⟨t, rfl⟩
end
end Up

/-! rows are copied -/
namespace Up
open PySem PySem.Spec PyProof.Rows L2
abbrev s_copied_rows : Stmt := (topS 15)
theorem sc_copied_rows : FnScope ["rows", "row"] ["rows"] (defScope s_copied_rows) := ⟨rfl, rfl, rfl, by decide +kernel, rfl, by decide +kernel, by decide +kernel⟩
def Kd.up {H H' : Hp} {v : V} (s : Same H H') : Kd H v → Kd H' v
  | .non => .non
  | .bl b => .bl b
  | .int i => .int i
  | .str x => .str x
  | .lst a xs h => .lst a xs (s _ _ h)
  | .tup a xs h => .tup a xs (s _ _ h)
  | .dct a kvs h => .dct a kvs (s _ _ h)
theorem Kd.up_ty {H H' : Hp} {v : V} (s : Same H H') (k : Kd H v) : (k.up s).ty = k.ty := by cases k <;> rfl
def Kd.list? {H : Hp} {v : V} : Kd H v → Option (List V)
  | .lst _ xs _ => some xs
  | .tup _ xs _ => some xs
  | _ => none
theorem Kd.kitLT {K : PySem.W.Frag} {H : Hp} {v : V} (k : Kd H v) : PySem.W.kitAny K (.type k.ty) [.type "list", .type "tuple"] = some k.list?.isSome := by
  have h1 := k.kit (K := K) (t := "list") (by decide)
  have h2 := k.kit (K := K) (t := "tuple") (by decide)
  unfold PySem.W.kitAny
  rw [h1]
  cases k <;> first
    | rfl
    | (unfold PySem.W.kitAny; exact (by rw [h2] <;> rfl))
/-- a list or a tuple, made by the program -/
def LT (H : Hp) (a : Addr) (xs : List V) : Prop := H a = some (.lst xs) ∨ H a = some (.tup xs)
theorem LT.ta {K : PySem.W.Frag} {H : Hp} {a : Addr} {xs : List V} (h : LT H a xs) : LTa K H a xs := h.imp (fun h => .inl (.inl h)) fun h => .inl (.inl h)
theorem LT.same {H H' : Hp} {a : Addr} {xs : List V} (s : Same H H') (h : LT H a xs) : LT H' a xs := h.imp (s _ _) (s _ _)
theorem LT.kd {H : Hp} {a : Addr} {xs : List V} (h : LT H a xs) : ∃ k : Kd H (.ref a), k.list? = some xs := by
  rcases h with h | h
  · exact ⟨.lst a xs h, rfl⟩
  · exact ⟨.tup a xs h, rfl⟩
section
variable {P : Program} {w : World} {K : PySem.W.Frag} {mg : Str → Option Value} {base : Heap}
def listingV {H : Hp} {v : V} (k : Kd H v) (most : Int) : Bool := match k.list? with
  | some xs => decide ((xs.length : Int) ≤ most)
  | none => false
def spListing : Sp := fun vs H Q _ => ∃ (v : V) (k : Kd H v) (most : Int), vs = [v, .int most] ∧ ∀ H', Same H H' → Q (.bl (listingV k most)) H'
theorem ok_listing {f : Addr} {fd : FuncData} (F : Fun K "is_listing" "is_listing" s_is_listing f fd) (T : TxtC mg) : FnOk P w K mg base CX0 1 f fd ["value", "most"] spListing := by
  refine F.ok sc_is_listing (fun vs H Q E h => ?_) (fun cdv A outer s H vs Q E hr h => ?_)
  · obtain ⟨v, k, most, rfl, _⟩ := h
    rfl
  · obtain ⟨v, k, most, rfl, q⟩ := h
    refine ⟨_, (pss_one (ps_ret (pe_and (pe_callB call_isiT (by rfl) T.isinstance bb_isinstance (pa_cons (pv 0) (pa_cons (pe_tup (pa_cons (pe_bltn (v := .ty "list") (by rfl) T.list bt_list rfl) (pa_cons (pe_bltn (v := .ty "tuple") (by rfl) T.tuple bt_tuple rfl) pa_nil))) pa_nil))) (pe_one (pe_cmpR op_le (pe_callB call_len_seq (by rfl) T.len PySem.boot_len (pa_cons (pv 0) pa_nil)) (pv 1) (nomark _)))))), ?_⟩
    refine ⟨_, rfl, (by show 2 ≤ sizeLine; decide), fun p np => ?_⟩
    have s1 : Same H (upd H p (.tup [.ty "list", .ty "tuple"])) := same_new np
    refine ⟨v, p, [.ty "list", .ty "tuple"], _, [.type "list", .type "tuple"], _, rfl, upd_same, .cons (.ty _) (.cons (.ty _) .nil), (k.up s1).tyx, (k.up s1).kitLT, _, rfl, ?_⟩
    have q1 := q _ s1
    unfold listingV at q1
    cases k with
    | lst a xs h => exact ⟨_, rfl, a, xs, rfl, .inl (.inl (.inl (s1 _ _ h))), _, rfl, _, _, rfl, rfl, q1⟩
    | tup a xs h => exact ⟨_, rfl, a, xs, rfl, .inr (.inl (.inl (s1 _ _ h))), _, rfl, _, _, rfl, rfl, q1⟩
    | _ => exact q1
/-- rows, as lists or tuples: the items of each -/
structure RowsIn (H : Hp) (a : Addr) (xss : List (List V)) : Prop where
  ex : ∃ rs : List Addr, LT H a (rs.map V.ref) ∧ rs.length = xss.length ∧ ∀ (i : Nat) (r : Addr) (xs : List V), rs[i]? = some r → xss[i]? = some xs → LT H r xs
/-- rows, as a tuple of tuples -/
structure RowsT (H : Hp) (p : Addr) (xss : List (List V)) : Prop where
  ex : ∃ ts : List Addr, H p = some (.tup (ts.map V.ref)) ∧ ts.length = xss.length ∧ ∀ (i : Nat) (t : Addr) (xs : List V), ts[i]? = some t → xss[i]? = some xs → H t = some (.tup xs)
theorem RowsT.same {H H' : Hp} {p : Addr} {xss : List (List V)} (s : Same H H') (h : RowsT H p xss) : RowsT H' p xss := by
  obtain ⟨ts, h1, h2, h3⟩ := h.ex
  exact ⟨ts, s _ _ h1, h2, fun i t xs e1 e2 => s _ _ (h3 i t xs e1 e2)⟩
theorem RowsIn.same {H H' : Hp} {p : Addr} {xss : List (List V)} (s : Same H H') (h : RowsIn H p xss) : RowsIn H' p xss := by
  obtain ⟨ts, h1, h2, h3⟩ := h.ex
  exact ⟨ts, h1.same s, h2, fun i t xs e1 e2 => (h3 i t xs e1 e2).same s⟩
def spCopy : Sp := fun vs H Q _ => ∃ (a : Addr) (xss : List (List V)), vs = [.ref a] ∧ RowsIn H a xss ∧ 1 ≤ xss.length ∧ xss.length ≤ 6 ∧ ∀ H' p, Same H H' → RowsT H' p xss → Q (.ref p) H'
structure TxtR (K : PySem.W.Frag) (mg : Str → Option Value) (fL : Addr) : Prop extends TxtC mg where
  g_is_listing : mg "is_listing" = some (.ref fL)
  g_MOST_HANDS : ∃ t, mg "MOST_HANDS" = some (.int 6 t)
theorem map_get {l : List Addr} {i : Nat} {x : V} (h : (l.map V.ref)[i]? = some x) : ∃ r, l[i]? = some r ∧ x = .ref r := by
  rw [List.getElem?_map] at h
  cases e : l[i]? with
  | none =>
    rw [e] at h
    cases h
  | some r =>
    rw [e] at h
    exact ⟨r, rfl, (Option.some.inj h).symm⟩
theorem get_of {α β : Type} {l : List α} {m : List β} (h : l.length = m.length) {i : Nat} {x : α} (e : l[i]? = some x) : ∃ y, m[i]? = some y := by
  have h1 := (List.getElem?_eq_some_iff.mp e).1
  exact ⟨m[i]'(by omega), List.getElem?_eq_getElem (by omega)⟩
theorem snoc_get {α : Type} {l : List α} {x y : α} {i : Nat} (h : (l ++ [x])[i]? = some y) : l[i]? = some y ∨ (i = l.length ∧ y = x) := by
  by_cases c : i < l.length
  · rw [List.getElem?_append_left c] at h
    exact .inl h
  · rw [List.getElem?_append_right (by omega)] at h
    have h1 := (List.getElem?_eq_some_iff.mp h).1
    have e : i - l.length = 0 := by
      simp at h1
      omega
    rw [e] at h
    exact .inr ⟨by omega, (Option.some.inj h).symm⟩
theorem ok_copy {f fL : Addr} {fd fdL : FuncData} (F : Fun K "copied_rows" "copied_rows" s_copied_rows f fd) (T : TxtR K mg fL) (F_is_listing : Fun K "is_listing" "is_listing" s_is_listing fL fdL) (b_is_listing : Binds K fdL ["value", "most"] []) : FnOk P w K mg base CX0 2 f fd ["rows"] spCopy := by
  have G_is_listing : FnOk P w K mg base CX0 1 fL fdL ["value", "most"] spListing := ok_listing F_is_listing T.toTxtC
  refine F.ok sc_copied_rows (fun vs H Q E h => ?_) (fun cdv A outer s H vs Q E hr h => ?_)
  · obtain ⟨a, xss, rfl, _⟩ := h
    rfl
  · obtain ⟨a, xss, rfl, hR, l1, l6, q⟩ := h
    obtain ⟨tk, gMH⟩ := T.g_MOST_HANDS
    have hr_is_listing : Room 1 _ := hr.mono (by decide)
    obtain ⟨rs, ha, hl, hrs⟩ := hR.ex
    obtain ⟨k, ek⟩ := ha.kd
    refine ⟨_, (pss_cons (ps_if (PW.pt (pw_or (pt_not (pt_val (pe_call G_is_listing hr_is_listing (by rfl) T.g_is_listing F_is_listing.kp b_is_listing .nil pass0 (pa_cons (pv 0) (pa_cons (pe_glob (v := .int 6) rfl gMH ⟨_, rfl⟩) pa_nil))))) (pw_or1 (pt_cmpR op_eq (pe_callB call_len_seq (by rfl) T.len PySem.boot_len (pa_cons (pv 0) pa_nil)) pe_int (nomark _))))) (pss_one ps_never) pss_nil) (pss_cons (ps_for PassesOwn.never rfl (pi_seq (pv 0)) (pg_name (i := 1) sc_copied_rows.nd rfl (Or.inl rfl)) (pss_one (ps_if (pt_not (pt_val (pe_callB call_isiT (by rfl) T.isinstance bb_isinstance (pa_cons (pv 1) (pa_cons (pe_tup (pa_cons (pe_bltn (v := .ty "list") (by rfl) T.list bt_list rfl) (pa_cons (pe_bltn (v := .ty "tuple") (by rfl) T.tuple bt_tuple rfl) pa_nil))) pa_nil))))) (pss_one ps_never) pss_nil))) (pss_one (ps_ret (pe_callTy call_tuple_of (by rfl) T.tuple bt_tuple (pa_cons (pe_lc (own := [("row", 1)]) (tt := tYes) rfl sc_copied_rows.nd (pi_seq (pv 0)) (blkOk_by (own := [("row", 1)]) (N := ["rows", "row"]) (sc := defScope s_copied_rows) (by decide +kernel)) (fun _ _ _ _ _ => (pg_name (i := 1) sc_copied_rows.nd rfl (Or.inl rfl))) (fun _ _ _ _ _ => pts_nil) (fun _ _ _ _ _ => (pe_callTy (call_tupK (K := K) rfl) (by rfl) T.tuple bt_tuple (pa_cons (pv 1) pa_nil)))) pa_nil)))))), ?_⟩
    -- if not is_listing(rows, MOST_HANDS) or len(rows) == 0: raise
    have e1 : listingV k 6 = true := by
      unfold listingV
      rw [ek]
      refine decide_eq_true ?_
      rw [List.length_map]
      omega
    refine ⟨_, rfl, .ref a, k, 6, rfl, fun H1 s1 => ?_⟩
    rw [e1]
    have ha1 := ha.same s1
    refine ⟨true, rfl, ?_⟩
    have hnz : decide (V.int ((rs.map V.ref).length : Int) = V.int 0) = false := by
      refine decide_eq_false fun c => ?_
      have c2 := V.int.inj c
      rw [List.length_map] at c2
      omega
    refine ⟨_, rfl, a, rs.map V.ref, rfl, ha1.imp (fun h => .inl (.inl h)) (fun h => .inl (.inl h)), rfl, _, rfl, ?_⟩
    rw [hnz]
    -- for row in rows
    refine ⟨_, rfl, a, rfl, seq_of (K := K) ha1.ta fun J G wk hG => for_it wk (fun i σ H2 => ∃ v : Option V, σ = [some (.ref a), v] ∧ Same H1 H2) ⟨_, rfl, Same.refl _⟩ (fun i σ H2 _ ⟨_, _, sm⟩ => hG _ sm) ?_ ?_⟩
    · rintro i x σ H2 H3 hi ⟨v, rfl, sm⟩ ⟨rfl, ex⟩
      obtain ⟨r, er, rfl⟩ := map_get ex
      obtain ⟨xs, exs⟩ := get_of hl er
      obtain ⟨kr, ekr⟩ := ((hrs i r xs er exs).same (s1.trans sm)).kd
      refine ⟨_, rfl, (by show 2 ≤ sizeLine; decide), fun p np => ?_⟩
      have s2 : Same H3 (upd H3 p (.tup [.ty "list", .ty "tuple"])) := same_new np
      have e2 : (kr.up s2).list?.isSome = true := by
        cases kr <;> first | rfl | cases ekr
      refine ⟨.ref r, p, [.ty "list", .ty "tuple"], _, [.type "list", .type "tuple"], _, rfl, upd_same, .cons (.ty _) (.cons (.ty _) .nil), (kr.up s2).tyx, (kr.up s2).kitLT, _, rfl, ?_⟩
      rw [e2]
      exact ⟨_, rfl, sm.trans s2⟩
    · rintro σ H2 ⟨v, rfl, sm⟩
      -- return tuple([tuple(row) for row in rows])
      have ha2 := ha1.same sm
      refine ⟨_, rfl, a, rfl, seq_of (K := K) ha2.ta fun J G wk hG => fun D nD => lc_it wk (fun i H3 => ∃ ts : List Addr, H3 D = some (.lst (ts.map V.ref)) ∧ ts.length = i ∧ Same H2 H3 ∧ ∀ (j : Nat) (t : Addr) (xs : List V), ts[j]? = some t → xss[j]? = some xs → H3 t = some (.tup xs)) ⟨[], upd_same, rfl, same_new nD, fun j t xs e => by cases e⟩ (fun i H3 _ ⟨_, _, _, sm2, _⟩ => hG _ sm2) ?_ ?_⟩
      · rintro i x H3 H4 hi ⟨ts, hD, hlen, sm2, hts⟩ ⟨rfl, ex⟩
        rw [List.length_map] at hi
        obtain ⟨r, er, rfl⟩ := map_get ex
        obtain ⟨xs, exs⟩ := get_of hl er
        have hr2 := (hrs i r xs er exs).same ((s1.trans sm).trans sm2)
        have step : ∀ (t : Addr) (H5 : Hp), Same H4 H5 → H5 t = some (.tup xs) → ∃ acc : List V, H5 D = some (.lst acc) ∧ acc.length < sizeLine ∧ ∃ ts2 : List Addr, (upd H5 D (.lst (acc ++ [.ref t]))) D = some (.lst (ts2.map V.ref)) ∧ ts2.length = i + 1 ∧ Same H2 (upd H5 D (.lst (acc ++ [.ref t]))) ∧ ∀ (j : Nat) (t2 : Addr) (ys : List V), ts2[j]? = some t2 → xss[j]? = some ys → (upd H5 D (.lst (acc ++ [.ref t]))) t2 = some (.tup ys) := by
          intro t H5 s5 ht
          have hD5 := s5 _ _ hD
          refine ⟨_, hD5, by rw [List.length_map]; exact small1000 (by omega), ts ++ [t], by rw [upd_same, List.map_append]; rfl, by rw [List.length_append, hlen]; rfl, fun b o e => ?_, fun j t2 ys e1 e2 => ?_⟩
          · rw [upd_ne (ne_of_none e nD)]
            exact s5 _ _ (sm2 _ _ e)
          · have k2 : H5 t2 = some (.tup ys) := by
              rcases snoc_get e1 with e1 | ⟨rfl, rfl⟩
              · exact s5 _ _ (hts j t2 ys e1 e2)
              · rw [hlen] at e2
                rw [Option.some.inj (e2.symm.trans exs)]
                exact ht
            have nt : t2 ≠ D := fun z => by
              rw [z, hD5] at k2
              cases k2
            rw [upd_ne nt]
            exact k2
        refine ⟨rfl, ?_⟩
        refine ⟨_, rfl, r, xs, rfl, ?_⟩
        rcases hr2 with h | h
        · exact .inl ⟨.inl (.inl h), fun t nt => step t _ (same_new nt) upd_same⟩
        · exact .inr ⟨.inl (.inl h), step r _ (Same.refl _) h⟩
      · rintro H3 ⟨ts, hD, hlen, sm2, hts⟩
        refine ⟨D, ts.map V.ref, rfl, .inl ⟨.inl (.inl hD), fun p np => ?_⟩⟩
        have s4 : Same H3 (upd H3 p (.tup (ts.map V.ref))) := same_new np
        refine q _ p (((s1.trans sm).trans sm2).trans s4) ⟨ts, upd_same, by rw [hlen, List.length_map]; exact hl, fun i t xs e1 e2 => s4 _ _ (hts i t xs e1 e2)⟩
end
end Up

/-! doings, rows of doings, and where each stands (no Python here) -/
namespace Up
open PySem PySem.Spec PyProof.Rows L2
structure Dg where
  s : Bool
  l : Nat
  deriving DecidableEq
def Dg.word (g : Dg) : Str := if g.s then "send" else "get"
def Dg.key (g : Dg) : List Key := [.inr g.word, .inl (g.l : Int)]
def Dg.vs (g : Dg) : List V := [.str g.word, .int (g.l : Int)]
theorem Dg.key_vs (g : Dg) : g.key.map kV = g.vs := rfl
theorem word_ne : ("send" : Str) ≠ "get" := by decide +kernel
theorem Dg.key_inj {g g' : Dg} (h : g.key = g'.key) : g = g' := by
  obtain ⟨s, l⟩ := g
  obtain ⟨s', l'⟩ := g'
  have h1 := List.cons.inj h
  have h2 := List.cons.inj h1.2
  have e1 : (if s then ("send" : Str) else "get") = (if s' then ("send" : Str) else "get") := Sum.inr.inj h1.1
  have e2 : (l : Int) = (l' : Int) := Sum.inl.inj h2.1
  have e3 : l = l' := by omega
  subst e3
  cases s <;> cases s' <;> first | rfl | exact absurd e1 word_ne | exact absurd e1.symm word_ne
abbrev Pl := Dg × Nat × Nat
/-- a row of the hand h, from the number n on -/
def plRow (h n : Nat) : List Dg → List Pl
  | [] => []
  | g :: r => (g, h, n) :: plRow h (n + 1) r
/-- the rows from the hand h on -/
def plAll (h : Nat) : List (List Dg) → List Pl
  | [] => []
  | r :: rs => plRow h 0 r ++ plAll (h + 1) rs
theorem plRow_app (h : Nat) : ∀ (a b : List Dg) (n : Nat), plRow h n (a ++ b) = plRow h n a ++ plRow h (n + a.length) b
  | [], b, n => rfl
  | g :: a, b, n => by
    show (g, h, n) :: plRow h (n + 1) (a ++ b) = _
    rw [plRow_app h a b (n + 1), List.length_cons, show n + (a.length + 1) = n + 1 + a.length by omega]
    rfl
theorem plAll_app : ∀ (a b : List (List Dg)) (h : Nat), plAll h (a ++ b) = plAll h a ++ plAll (h + a.length) b
  | [], b, h => rfl
  | r :: a, b, h => by
    show plRow h 0 r ++ plAll (h + 1) (a ++ b) = _
    rw [plAll_app a b (h + 1), List.length_cons, show h + (a.length + 1) = h + 1 + a.length by omega, ← List.append_assoc]
    rfl
theorem take_snoc {α : Type} {l : List α} {i : Nat} {x : α} (h : l[i]? = some x) : l.take (i + 1) = l.take i ++ [x] := by
  rw [List.take_add_one, h]
  rfl
theorem plRow_snoc {h : Nat} {gs : List Dg} {j : Nat} {g : Dg} (e : gs[j]? = some g) : plRow h 0 (gs.take (j + 1)) = plRow h 0 (gs.take j) ++ [(g, h, j)] := by
  have h1 := (List.getElem?_eq_some_iff.mp e).1
  rw [take_snoc e, plRow_app, List.length_take, Nat.min_eq_left (by omega), Nat.zero_add]
  rfl
theorem plAll_snoc {gss : List (List Dg)} {i : Nat} {gs : List Dg} (e : gss[i]? = some gs) : plAll 0 (gss.take (i + 1)) = plAll 0 (gss.take i) ++ plRow i 0 gs := by
  have h1 := (List.getElem?_eq_some_iff.mp e).1
  rw [take_snoc e, plAll_app, List.length_take, Nat.min_eq_left (by omega), Nat.zero_add]
  show _ ++ (plRow i 0 gs ++ []) = _
  rw [List.append_nil]
/-- what is gone through, behind i rows and j doings more -/
def plTo (gss : List (List Dg)) (i : Nat) (gs : List Dg) (j : Nat) : List Pl := plAll 0 (gss.take i) ++ plRow i 0 (gs.take j)
theorem plTo_pre {gss : List (List Dg)} {i j : Nat} {gs : List Dg} (e : gss[i]? = some gs) : ∃ r, plAll 0 gss = plTo gss i gs j ++ r := by
  have h1 : plAll 0 gss = plAll 0 (gss.take (i + 1)) ++ plAll (0 + (gss.take (i + 1)).length) (gss.drop (i + 1)) := by
    rw [← plAll_app, List.take_append_drop]
  have h2 : plRow i 0 gs = plRow i 0 (gs.take j) ++ plRow i (0 + (gs.take j).length) (gs.drop j) := by
    rw [← plRow_app, List.take_append_drop]
  rw [plAll_snoc e, h2] at h1
  refine ⟨plRow i (0 + (gs.take j).length) (gs.drop j) ++ plAll (0 + (gss.take (i + 1)).length) (gss.drop (i + 1)), ?_⟩
  rw [h1]
  simp only [plTo, List.append_assoc]
theorem plTo_snoc {gss : List (List Dg)} {i j : Nat} {gs : List Dg} {g : Dg} (e : gs[j]? = some g) : plTo gss i gs (j + 1) = plTo gss i gs j ++ [(g, i, j)] := by
  unfold plTo
  rw [plRow_snoc e, List.append_assoc]
theorem plTo_end {gss : List (List Dg)} {i : Nat} {gs : List Dg} (e : gss[i]? = some gs) : plTo gss i gs gs.length = plAll 0 (gss.take (i + 1)) := by
  unfold plTo
  rw [List.take_length, plAll_snoc e]
theorem plTo_zero {gss : List (List Dg)} {i : Nat} {gs : List Dg} : plTo gss i gs 0 = plAll 0 (gss.take i) := by
  unfold plTo
  rw [List.take_zero]
  show _ ++ [] = _
  rw [List.append_nil]
/-- each doing stands once -/
def Once (gss : List (List Dg)) : Prop := ((plAll 0 gss).map (·.1)).Nodup
theorem Once.fresh {gss : List (List Dg)} (o : Once gss) {i j : Nat} {gs : List Dg} {g : Dg} (e : gss[i]? = some gs) (eg : gs[j]? = some g) : g ∉ (plTo gss i gs j).map (·.1) := by
  obtain ⟨r, h⟩ := plTo_pre (j := j + 1) e
  unfold Once at o
  rw [h, plTo_snoc eg, List.map_append, List.map_append] at o
  have o2 := (List.nodup_append.mp o).1
  have o3 := (List.nodup_append.mp o2).2.2
  intro hm
  exact o3 g hm g (List.mem_cons_self ..) rfl
theorem nd_len {α : Type} [DecidableEq α] : ∀ {a b : List α}, a.Nodup → (∀ x ∈ a, x ∈ b) → a.length ≤ b.length
  | [], _, _, _ => Nat.zero_le _
  | x :: a, b, nd, h => by
    have hx : x ∈ b := h x (List.mem_cons_self ..)
    have ih := nd_len (a := a) (b := b.erase x) (List.nodup_cons.mp nd).2 fun y hy => (List.mem_erase_of_ne (fun (c : y = x) => (List.nodup_cons.mp nd).1 (by rw [← c]; exact hy))).mpr (h y (List.mem_cons_of_mem _ hy))
    have hl := List.length_erase_of_mem hx
    have hp : 0 < b.length := List.length_pos_of_mem hx
    rw [List.length_cons]
    omega
end Up

namespace Up
open PySem PySem.Spec PyProof.Rows L2
abbrev s_found_places : Stmt := (topS 16)
theorem sc_found_places : FnScope ["rows", "places", "hand", "row", "number", "item"] ["rows"] (defScope s_found_places) := ⟨rfl, rfl, rfl, by decide +kernel, rfl, by decide +kernel, by decide +kernel⟩
/-- rows of doings, as a tuple of tuples of tuples -/
structure RowsD (H : Hp) (p : Addr) (gss : List (List Dg)) : Prop where
  ex : ∃ ts : List Addr, H p = some (.tup (ts.map V.ref)) ∧ ts.length = gss.length ∧ ∀ (i : Nat) (t : Addr) (gs : List Dg), ts[i]? = some t → gss[i]? = some gs →
    ∃ qs : List Addr, H t = some (.tup (qs.map V.ref)) ∧ qs.length = gs.length ∧ ∀ (j : Nat) (q : Addr) (g : Dg), qs[j]? = some q → gs[j]? = some g → H q = some (.tup g.vs)
theorem RowsD.same {H H' : Hp} {p : Addr} {gss : List (List Dg)} (s : Same H H') (h : RowsD H p gss) : RowsD H' p gss := by
  obtain ⟨ts, h1, h2, h3⟩ := h.ex
  refine ⟨ts, s _ _ h1, h2, fun i t gs e1 e2 => ?_⟩
  obtain ⟨qs, k1, k2, k3⟩ := h3 i t gs e1 e2
  exact ⟨qs, s _ _ k1, k2, fun j q g e3 e4 => s _ _ (k3 j q g e3 e4)⟩
/-- a dict: where each doing stands -/
structure DictP (H : Hp) (kvs : List (List Key × V)) (pl : List Pl) : Prop where
  ks : kvs.map (·.1) = pl.map fun t => t.1.key
  vs : ∀ (i : Nat) (g : Dg) (h n : Nat), pl[i]? = some (g, h, n) → ∃ q, kvs[i]? = some (g.key, .ref q) ∧ H q = some (.tup [.int (h : Int), .int (n : Int)])
theorem DictP.same {H H' : Hp} {kvs : List (List Key × V)} {pl : List Pl} (s : Same H H') (d : DictP H kvs pl) : DictP H' kvs pl :=
  ⟨d.ks, fun i g h n e => let ⟨q, h1, h2⟩ := d.vs i g h n e; ⟨q, h1, s _ _ h2⟩⟩
theorem DictP.len {H : Hp} {kvs : List (List Key × V)} {pl : List Pl} (d : DictP H kvs pl) : kvs.length = pl.length := by
  have e := congrArg List.length d.ks
  simpa using e
theorem val_none {κ : Type} [DecidableEq κ] {kvs : List (κ × V)} {k : κ} (h : k ∉ kvs.map (·.1)) : valV kvs k = none := by
  unfold valV
  rw [List.find?_eq_none.mpr]
  · rfl
  · intro p hp c
    exact h (of_decide_eq_true c ▸ List.mem_map_of_mem hp)
theorem DictP.none {H : Hp} {kvs : List (List Key × V)} {pl : List Pl} (d : DictP H kvs pl) {g : Dg} (h : g ∉ pl.map (·.1)) : valV kvs g.key = Option.none := by
  refine val_none fun c => ?_
  rw [d.ks] at c
  obtain ⟨t, ht, e⟩ := List.mem_map.mp c
  exact h (Dg.key_inj e ▸ List.mem_map_of_mem ht)
theorem DictP.snoc {H H' : Hp} {kvs : List (List Key × V)} {pl : List Pl} (d : DictP H kvs pl) (s : ∀ b o, H b = some o → (∃ xs, o = .tup xs) → H' b = some o) {g : Dg} {h n : Nat} {q : Addr} (hq : H' q = some (.tup [.int (h : Int), .int (n : Int)])) : DictP H' (kvs ++ [(g.key, .ref q)]) (pl ++ [(g, h, n)]) := by
  refine ⟨by rw [List.map_append, List.map_append, d.ks]; rfl, fun i g' h' n' e => ?_⟩
  rcases snoc_get e with e | ⟨e1, e2⟩
  · obtain ⟨q', k1, k2⟩ := d.vs i g' h' n' e
    have lt := (List.getElem?_eq_some_iff.mp k1).1
    exact ⟨q', by rw [List.getElem?_append_left lt]; exact k1, s _ _ k2 ⟨_, rfl⟩⟩
  · cases e2
    refine ⟨q, ?_, hq⟩
    rw [e1, ← d.len, List.getElem?_append_right (Nat.le_refl _), Nat.sub_self]
    rfl
section
variable {P : Program} {w : World} {K : PySem.W.Frag} {mg : Str → Option Value} {base : Heap}
def spPlaces : Sp := fun vs H Q _ => ∃ (p : Addr) (gss : List (List Dg)), vs = [.ref p] ∧ RowsD H p gss ∧ (∀ t ∈ plAll 0 gss, t.1.l < 12) ∧ Once gss ∧ (plAll 0 gss).length ≤ 1000 ∧
  ∀ H' d kvs, Same H H' → H d = none → H' d = some (.dT kvs) → DictP H' kvs (plAll 0 gss) → Q (.ref d) H'
structure TxtP (K : PySem.W.Frag) (mg : Str → Option Value) (fD : Addr) : Prop extends TxtC mg where
  g_is_doing : mg "is_doing" = some (.ref fD)
  g_MOST_LETTERS : ∃ t, mg "MOST_LETTERS" = some (.int 12 t)
theorem doing_kd {H : Hp} {q : Addr} {g : Dg} (h : H q = some (.tup g.vs)) (hl : g.l < 12) : ∃ k : Kd H (.ref q), k.doing 12 = true ∧ ∀ x y, k.couple = some (x, y) → Nonempty (Kd H x) ∧ Nonempty (Kd H y) := by
  refine ⟨.tup q g.vs h, ?_, fun x y e => ?_⟩
  · show (wordV (.str g.word) && indexV (.int (g.l : Int)) 12) = true
    have e1 : wordV (.str g.word) = true := by
      unfold Dg.word
      cases g.s <;> decide +kernel
    rw [e1]
    show (true && (decide (0 ≤ (g.l : Int)) && decide ((g.l : Int) < 12))) = true
    rw [decide_eq_true (by omega), decide_eq_true (by omega)]
    rfl
  · cases e
    exact ⟨⟨.str _⟩, ⟨.int _⟩⟩
theorem ok_places {f fD : Addr} {fd fdD : FuncData} (F : Fun K "found_places" "found_places" s_found_places f fd) (T : TxtP K mg fD) (F_is_doing : Fun K "is_doing" "is_doing" s_is_doing fD fdD) (b_is_doing : Binds K fdD ["value", "many"] []) (G_is_doing : FnOk P w K mg base CX0 3 fD fdD ["value", "many"] spDoing) :
    FnOk P w K mg base CX0 4 f fd ["rows"] spPlaces := by
  refine F.ok sc_found_places (fun vs H Q E h => ?_) (fun cdv A outer s H vs Q E hr h => ?_)
  · obtain ⟨p, gss, rfl, _⟩ := h
    rfl
  · obtain ⟨p, gss, rfl, hR, hl12, ho, hsz, q⟩ := h
    obtain ⟨tk, gML⟩ := T.g_MOST_LETTERS
    have hu := hu_of hr
    have hr_is_doing : Room 3 _ := hr.mono (by decide)
    obtain ⟨ts, hp, hts, hrow⟩ := hR.ex
    refine ⟨_, (pss_cons (ps_set (i := 1) sc_found_places.nd rfl (Or.inl rfl) pe_dnewT) (pss_cons (ps_for PassesOwn.never rfl (pi_enT (by rfl) T.enumerate (pa_cons (pv 0) pa_nil)) (pg_tup (by rfl) (pgs_cons (pg_name (i := 2) sc_found_places.nd rfl (Or.inl rfl)) (pgs_cons (pg_name (i := 3) sc_found_places.nd rfl (Or.inl rfl)) pgs_nil))) (pss_one (ps_for PassesOwn.never rfl (pi_enT (by rfl) T.enumerate (pa_cons (pv 3) pa_nil)) (pg_tup (by rfl) (pgs_cons (pg_name (i := 4) sc_found_places.nd rfl (Or.inl rfl)) (pgs_cons (pg_name (i := 5) sc_found_places.nd rfl (Or.inl rfl)) pgs_nil))) (pss_cons (ps_if (PW.pt (pw_or (pt_not (pt_val (pe_call G_is_doing hr_is_doing (by rfl) T.g_is_doing F_is_doing.kp b_is_doing .nil pass0 (pa_cons (pv 5) (pa_cons (pe_glob (v := .int 12) rfl gML ⟨_, rfl⟩) pa_nil))))) (pw_or1 (pt_cmp (pc_din hu (pv 5) (pv 1)))))) (pss_one ps_never) pss_nil) (pss_one (ps_dput hu (pv 1) (pv 5) (pe_tup (pa_cons (pv 2) (pa_cons (pv 4) pa_nil))) rfl)))))) (pss_one (ps_ret (pv 1))))), ?_⟩
    intro d nd
    have s0 : Same H (upd H d (.dT [])) := same_new nd
    refine ⟨_, rfl, p, _, rfl, .inl (.inl (s0 _ _ hp)), for_it walk_enT (fun i σ H2 => ∃ (v2 v3 v4 v5 : Option V) (kvs : List (List Key × V)), σ = [some (.ref p), some (.ref d), v2, v3, v4, v5] ∧ Same H H2 ∧ H2 d = some (.dT kvs) ∧ DictP H2 kvs (plAll 0 (gss.take i))) ⟨_, _, _, _, [], rfl, s0, upd_same, rfl, fun i g h n e => by cases e⟩ (fun i σ H2 _ ⟨_, _, _, _, _, _, sm, _⟩ => .inl (.inl (sm _ _ hp))) ?_ ?_⟩
    · rintro i x σ H2 H3 hi ⟨v2, v3, v4, v5, kvs, rfl, sm, hd, dp⟩ ⟨U, x1, x2, rfl, nU, rfl, e1, e2⟩
      obtain rfl : x1 = .int (i : Int) := (Option.some.inj e1).symm
      obtain ⟨t, et, rfl⟩ := map_get e2
      obtain ⟨gs, egs⟩ := get_of hts et
      obtain ⟨qs, ht, hql, hqs⟩ := hrow i t gs et egs
      have sU : Same H2 (upd H2 U (.tup [.int (i : Int), .ref t])) := same_new nU
      refine ⟨U, _, rfl, .inl (.inl upd_same), rfl, _, _, rfl, _, _, rfl, rfl, ?_⟩
      refine ⟨_, rfl, t, _, rfl, .inl (.inl (sU _ _ (sm _ _ ht))), for_it walk_enT (fun j σ H4 => ∃ (v4 v5 : Option V) (kvs : List (List Key × V)), σ = [some (.ref p), some (.ref d), some (.int (i : Int)), some (.ref t), v4, v5] ∧ Same H H4 ∧ H4 d = some (.dT kvs) ∧ DictP H4 kvs (plTo gss i gs j)) ⟨_, _, kvs, rfl, sm.trans sU, sU _ _ hd, by rw [plTo_zero]; exact dp.same sU⟩ (fun j σ H4 _ ⟨_, _, _, _, sm4, _⟩ => .inl (.inl (sm4 _ _ ht))) ?_ ?_⟩
      · rintro j x σ H4 H5 hj ⟨v4, v5, kvs, rfl, sm4, hd4, dp4⟩ ⟨W, x1, x2, rfl, nW, rfl, e3, e4⟩
        obtain rfl : x1 = .int (j : Int) := (Option.some.inj e3).symm
        obtain ⟨qd, eq, rfl⟩ := map_get e4
        obtain ⟨g, eg⟩ := get_of hql eq
        have hg := hqs j qd g eq eg
        have sW : Same H4 (upd H4 W (.tup [.int (j : Int), .ref qd])) := same_new nW
        refine ⟨W, _, rfl, .inl (.inl upd_same), rfl, _, _, rfl, _, _, rfl, rfl, ?_⟩
        -- if not is_doing(item, MOST_LETTERS) or item in places: raise
        have hgl : g.l < 12 := by
          obtain ⟨r, er⟩ := plTo_pre (j := j + 1) egs
          refine hl12 (g, i, j) ?_
          rw [er, plTo_snoc eg]
          simp
        obtain ⟨k, ek, kp⟩ := doing_kd (sW _ _ (sm4 _ _ hg)) hgl
        refine ⟨_, rfl, .ref qd, k, 12, rfl, kp, fun H6 s6 => ?_⟩
        rw [ek]
        have hd6 := s6 _ _ (sW _ _ hd4)
        have hg6 := s6 _ _ (sW _ _ (sm4 _ _ hg))
        have dp6 := (dp4.same sW).same s6
        have fr : valV kvs g.key = none := dp6.none (ho.fresh egs eg)
        refine ⟨true, rfl, ?_⟩
        refine ⟨_, rfl, _, rfl, d, _, rfl, DGet.t (k := g.key) hd6 hg6, ?_⟩
        rw [fr]
        refine ⟨_, rfl, ?_⟩
        -- places[item] = (hand, number)
        refine ⟨_, rfl, _, rfl, (by show 2 ≤ sizeLine; decide), fun z nz => ?_⟩
        have sz : Same H6 (upd H6 z (.tup [.int (i : Int), .int (j : Int)])) := same_new nz
        have lk : kvs.length < sizeLine := by
          refine small1000 ?_
          obtain ⟨r, er⟩ := plTo_pre (j := j) egs
          have e := congrArg List.length er
          rw [List.length_append, ← dp6.len] at e
          omega
        refine ⟨_, rfl, _, rfl, d, _, rfl, DPut.t (k := g.key) (sz _ _ hd6) (sz _ _ hg6) lk, ?_⟩
        rw [putK_new _ fr]
        have nzd : z ≠ d := fun c => by
          rw [c, hd6] at nz
          cases nz
        refine ⟨_, _, _, rfl, fun b o e => ?_, upd_same, ?_⟩
        · rw [upd_ne (ne_of_none e nd)]
          exact sz _ _ (s6 _ _ (sW _ _ (sm4 _ _ e)))
        · rw [plTo_snoc eg]
          refine dp6.snoc (fun b o e ⟨xs, ex⟩ => ?_) ?_
          · have nb : b ≠ d := fun c => by
              rw [c, hd6] at e
              rw [ex] at e
              cases e
            rw [upd_ne nb]
            exact sz _ _ e
          · rw [upd_ne nzd]
            exact upd_same
      · rintro σ H4 ⟨v4, v5, kvs, rfl, sm4, hd4, dp4⟩
        rw [List.length_map, hql, plTo_end egs] at dp4
        exact ⟨_, _, _, _, kvs, rfl, sm4, hd4, dp4⟩
    · rintro σ H2 ⟨v2, v3, v4, v5, kvs, rfl, sm, hd, dp⟩
      rw [List.length_map, hts, List.take_length] at dp
      exact ⟨_, rfl, q H2 d kvs sm nd hd dp⟩
end
end Up

namespace Up
open PySem PySem.Spec PyProof.Rows L2
abbrev s_count_letters : Stmt := (topS 17)
abbrev s_check_letters : Stmt := (topS 18)
abbrev s_found_hands : Stmt := (topS 19)
theorem sc_count_letters : FnScope ["places", "word", "letter"] ["places"] (defScope s_count_letters) := ⟨rfl, rfl, rfl, by decide +kernel, rfl, by decide +kernel, by decide +kernel⟩
theorem sc_check_letters : FnScope ["places", "many", "letter", "sending", "getting"] ["places", "many"] (defScope s_check_letters) := ⟨rfl, rfl, rfl, by decide +kernel, rfl, by decide +kernel, by decide +kernel⟩
theorem sc_found_hands : FnScope ["places", "word", "many", "letter"] ["places", "word", "many"] (defScope s_found_hands) := ⟨rfl, rfl, rfl, by decide +kernel, rfl, by decide +kernel, by decide +kernel⟩
structure TxtM (mg : Str → Option Value) : Prop extends TxtC mg where
  max : mg "max" = none
theorem val_some {κ : Type} [DecidableEq κ] : ∀ {kvs : List (κ × V)} {i : Nat} {k : κ} {v : V}, (kvs.map (·.1)).Nodup → kvs[i]? = some (k, v) → valV kvs k = some v
  | [], i, k, v, _, h => by simp at h
  | p :: r, 0, k, v, nd, h => by
    have e : p = (k, v) := Option.some.inj h
    subst e
    exact valV_pos rfl
  | p :: r, i + 1, k, v, nd, h => by
    rw [List.map_cons] at nd
    have hm : k ∈ r.map (·.1) := List.mem_map_of_mem (f := (·.1)) (List.mem_of_getElem? (show r[i]? = some (k, v) from h))
    have ne : ¬ p.1 = k := fun c => (List.nodup_cons.mp nd).1 (c ▸ hm)
    rw [valV_neg ne]
    exact val_some (List.nodup_cons.mp nd).2 (show r[i]? = some (k, v) from h)
theorem DictP.get {H : Hp} {kvs : List (List Key × V)} {pl : List Pl} (d : DictP H kvs pl) (nd : (pl.map (·.1)).Nodup) {g : Dg} {h n : Nat} (hm : (g, h, n) ∈ pl) : ∃ q, valV kvs g.key = some (.ref q) ∧ H q = some (.tup [.int (h : Int), .int (n : Int)]) := by
  obtain ⟨i, lt, e⟩ := List.getElem_of_mem hm
  obtain ⟨q, h1, h2⟩ := d.vs i g h n (List.getElem?_eq_some_iff.mpr ⟨lt, e⟩)
  refine ⟨q, val_some ?_ h1, h2⟩
  rw [d.ks]
  have e2 : (pl.map fun t => t.1.key) = (pl.map (·.1)).map Dg.key := by
    rw [List.map_map]
    rfl
  rw [e2]
  exact List.Pairwise.map _ (fun a b c e => c (Dg.key_inj e)) nd
section
variable {P : Program} {w : World} {K : PySem.W.Frag} {mg : Str → Option Value} {base : Heap}
def spCount : Sp := fun vs H Q _ => ∃ (d : Addr) (kvs : List (List Key × V)) (pl : List Pl) (many : Nat), vs = [.ref d] ∧ H d = some (.dT kvs) ∧ DictP H kvs pl ∧ pl.length ≤ 1000 ∧ (∀ t ∈ pl, t.1.l < many) ∧ (0 < many → ∃ t ∈ pl, t.1.l + 1 = many) ∧
  ∀ H', Same H H' → Q (.int (many : Int)) H'
theorem ok_count {f : Addr} {fd : FuncData} (F : Fun K "count_letters" "count_letters" s_count_letters f fd) (T : TxtM mg) : FnOk P w K mg base CX0 1 f fd ["places"] spCount := by
  refine F.ok sc_count_letters (fun vs H Q E h => ?_) (fun cdv A outer s H vs Q E hr h => ?_)
  · obtain ⟨d, kvs, pl, many, rfl, _⟩ := h
    rfl
  · obtain ⟨d, kvs, pl, many, rfl, hd, dp, hsz, hlt, hex, q⟩ := h
    refine ⟨_, (pss_one (ps_ret (pe_callBK (call_maxD rfl hr.units) (by rfl) T.max bb_max (pa_cons (pe_lock (pe_lc (own := [("word", 1), ("letter", 2)]) (tt := tYes) rfl sc_count_letters.nd (pi_keys (pv 0)) (blkOk_by (own := [("word", 1), ("letter", 2)]) (N := ["places", "word", "letter"]) (sc := defScope s_count_letters) (by decide +kernel)) (fun _ _ _ _ _ => (pg_tupK (K := K) (n := 2) rfl (by rfl) (pgs_cons (pg_name (i := 1) sc_count_letters.nd rfl (Or.inl rfl)) (pgs_cons (pg_name (i := 2) sc_count_letters.nd rfl (Or.inl rfl)) pgs_nil)))) (fun _ _ _ _ _ => pts_nil) (fun _ _ _ _ _ => (pe_op op_add (pv 2) pe_int)))) pa_nil) (pk_cons pe_int pk_nil)))), ?_⟩
    refine ⟨d, .dT kvs, hd, True.intro, fun od => ?_⟩
    have k0 : ∀ b o, H b = some o → b ≠ d → (upd H d (.frz od (.dT kvs))) b = some o := fun b o e n => by
      rw [upd_ne n]
      exact e
    refine ⟨_, rfl, d, od, rfl, .inr ⟨kvs, upd_same, fun D nD => lc_it walk_keysT (fun i H2 => H2 D = some (.lst (iL ((pl.take i).map fun t => ((t.1.l : Int) + 1)))) ∧ H2 d = some (.frz od (.dT kvs)) ∧ ∀ b o, H b = some o → b ≠ d → H2 b = some o) ⟨upd_same, ?_, fun b o e n => ?_⟩ (fun i H2 _ ⟨_, h2, _⟩ => h2) ?_ ?_⟩⟩
    · rw [upd_ne (fun c => by rw [← c, upd_same] at nD; cases nD)]
      exact upd_same
    · have z := k0 b o e n
      rw [upd_ne (ne_of_none z nD)]
      exact z
    · rintro i x H2 H3 hi ⟨hD, hd2, kf⟩ ⟨rfl, k, v, qd, ek, rfl, hq⟩
      have hil : i < pl.length := by
        rw [← dp.len]
        exact hi
      obtain ⟨⟨g, h, n⟩, eg⟩ : ∃ t, pl[i]? = some t := ⟨_, List.getElem?_eq_getElem hil⟩
      obtain ⟨q1, e1, _⟩ := dp.vs i g h n eg
      cases (Option.some.inj (e1.symm.trans ek))
      refine ⟨qd, g.vs, rfl, .inl (.inl hq), rfl, _, _, rfl, _, _, rfl, rfl, rfl, ?_⟩
      refine ⟨_, rfl, _, _, rfl, rfl, _, hD, ?_, ?_, ?_, fun b o e nb => ?_⟩
      · rw [List.length_map, List.length_map, List.length_take]
        exact Nat.lt_of_le_of_lt (Nat.min_le_right _ _) (small1000 hsz)
      · rw [upd_same, iL_app, take_snoc eg, List.map_append]
        rfl
      · rw [upd_ne (fun c => by rw [← c, hd2] at hD; cases hD)]
        exact hd2
      · have z := kf b o e nb
        have z2 : b ≠ D := fun c => by
          have z3 := k0 b o e nb
          rw [c, nD] at z3
          cases z3
        rw [upd_ne z2]
        exact z
    · rintro H2 ⟨hD, hd2, kf⟩
      have eD : pl.take kvs.length = pl := List.take_of_length_le (Nat.le_of_eq dp.len.symm)
      rw [eD] at hD
      have nDd : D ≠ d := fun c => by
        rw [c, hd2] at hD
        cases hD
      have hD' : (upd H2 d (.dT kvs)) D = some (.lst (iL (pl.map fun t => ((t.1.l : Int) + 1)))) := by
        rw [upd_ne nDd]
        exact hD
      have sm : Same H (upd H2 d (.dT kvs)) := fun b o e => by
        by_cases c : b = d
        · subst c
          rw [upd_same, ← e, hd]
        · rw [upd_ne c]
          exact kf b o e c
      refine ⟨hd2, D, _, 0, rfl, rfl, .inl (.inl hD'), fun e0 => ?_, fun m hm hmax => ?_⟩
      · have e1 : pl = [] := List.map_eq_nil_iff.mp e0
        have e2 : many = 0 := by
          rcases Nat.eq_zero_or_pos many with c | c
          · exact c
          · obtain ⟨t, ht, _⟩ := hex c
            rw [e1] at ht
            cases ht
        subst e2
        exact q _ sm
      · obtain ⟨t, ht, rfl⟩ := List.mem_map.mp hm
        have h1 := hlt t ht
        obtain ⟨t2, ht2, e2⟩ := hex (by omega)
        have h2 := hmax _ (List.mem_map_of_mem (f := fun t : Pl => ((t.1.l : Int) + 1)) ht2)
        have e3 : ((t.1.l : Int) + 1) = (many : Int) := by
          have h3 : ((t2.1.l : Int) + 1) ≤ ((t.1.l : Int) + 1) := h2
          omega
        show Q (.int ((t.1.l : Int) + 1)) _
        rw [e3]
        exact q _ sm
/-- each letter below many is sent by the hand S, got by the hand G -/
structure Hands (pl : List Pl) (many : Nat) (S G : Nat → Nat) : Prop where
  snd : ∀ l, l < many → ∃ n, (⟨true, l⟩, S l, n) ∈ pl
  got : ∀ l, l < many → ∃ n, (⟨false, l⟩, G l, n) ∈ pl
  ne : ∀ l, l < many → S l ≠ G l
def spCheck : Sp := fun vs H Q _ => ∃ (d : Addr) (kvs : List (List Key × V)) (pl : List Pl) (many : Nat) (S G : Nat → Nat), vs = [.ref d, .int (many : Int)] ∧ H d = some (.dT kvs) ∧ DictP H kvs pl ∧ (pl.map (·.1)).Nodup ∧ many ≤ 12 ∧ Hands pl many S G ∧
  ∀ H', Same H H' → Q .non H'
theorem ok_check {f : Addr} {fd : FuncData} (F : Fun K "check_letters" "check_letters" s_check_letters f fd) (T : TxtM mg) : FnOk P w K mg base CX0 1 f fd ["places", "many"] spCheck := by
  refine F.ok sc_check_letters (fun vs H Q E h => ?_) (fun cdv A outer s H vs Q E hr h => ?_)
  · obtain ⟨d, kvs, pl, many, S, G, rfl, _⟩ := h
    rfl
  · obtain ⟨d, kvs, pl, many, S, G, rfl, hd, dp, nd, h12, hH, q⟩ := h
    have hu := hu_of hr
    refine ⟨_, (pss_one (ps_for PassesOwn.never rfl (pi_range1 (by rfl) T.range (pa_cons (pv 1) pa_nil)) (pg_name (i := 2) sc_check_letters.nd rfl (Or.inl rfl)) (pss_cons (ps_set (i := 3) sc_check_letters.nd rfl (Or.inl rfl) (pe_dget1 hu (pv 0) (pe_tup (pa_cons pe_str (pa_cons (pv 2) pa_nil))) ⟨by rfl, by rfl, by rfl, by rfl⟩)) (pss_cons (ps_set (i := 4) sc_check_letters.nd rfl (Or.inl rfl) (pe_dget1 hu (pv 0) (pe_tup (pa_cons pe_str (pa_cons (pv 2) pa_nil))) ⟨by rfl, by rfl, by rfl, by rfl⟩)) (pss_one (ps_if (PW.pt (pw_or (pt_cmpR op_isN (pv 3) pe_non (nomark _)) (pw_or (pt_cmpR op_isN (pv 4) pe_non (nomark _)) (pw_or1 (pt_cmpR op_eq (pe_ix ix_tup (pv 3) pe_int (fun _ _ => rfl)) (pe_ix ix_tup (pv 4) pe_int (fun _ _ => rfl)) (nomark _)))))) (pss_one ps_never) pss_nil)))))), ?_⟩
    refine ⟨_, rfl, (many : Int), rfl, by omega, by omega, for_range (lo := 0) (n := many) (fun i σ H2 => ∃ (v2 v3 v4 : Option V), σ = [some (.ref d), some (.int (many : Int)), v2, v3, v4] ∧ Same H H2) ⟨_, _, _, rfl, Same.refl H⟩ ?_ ?_⟩
    · rintro i σ H2 hi ⟨v2, v3, v4, rfl, sm⟩
      obtain ⟨n1, m1⟩ := hH.snd i hi
      obtain ⟨n2, m2⟩ := hH.got i hi
      have ei : (0 + (i : Int)) = (i : Int) := by omega
      -- sending = places.get(("send", letter))
      refine ⟨_, rfl, d, rfl, .inr ⟨kvs, .inl (sm _ _ hd)⟩, _, rfl, (by show 2 ≤ sizeLine; decide), fun a na => ?_⟩
      have sa : Same H2 (upd H2 a (.tup [.str "send", .int (0 + (i : Int))])) := same_new na
      obtain ⟨q1, k1, t1⟩ := ((dp.same sm).same sa).get nd m1
      have ha : (upd H2 a (.tup [.str "send", .int (0 + (i : Int))])) a = some (.tup ((Dg.key ⟨true, i⟩).map kV)) := by
        rw [upd_same, ei]
        rfl
      refine ⟨_, DGet.t (k := Dg.key ⟨true, i⟩) (sa _ _ (sm _ _ hd)) ha, ?_⟩
      rw [k1]
      -- getting = places.get(("get", letter))
      revert sa t1 ha
      generalize upd H2 a (.tup [.str "send", .int (0 + (i : Int))]) = H3
      intro sa t1 ha
      refine ⟨_, rfl, d, rfl, .inr ⟨kvs, .inl (sa _ _ (sm _ _ hd))⟩, _, rfl, (by show 2 ≤ sizeLine; decide), fun b nb => ?_⟩
      have sb : Same H3 (upd H3 b (.tup [.str "get", .int (0 + (i : Int))])) := same_new nb
      obtain ⟨q2, k2, t2⟩ := (((dp.same sm).same sa).same sb).get nd m2
      have hb : (upd H3 b (.tup [.str "get", .int (0 + (i : Int))])) b = some (.tup ((Dg.key ⟨false, i⟩).map kV)) := by
        rw [upd_same, ei]
        rfl
      refine ⟨_, DGet.t (k := Dg.key ⟨false, i⟩) (sb _ _ (sa _ _ (sm _ _ hd))) hb, ?_⟩
      rw [k2]
      have t1b := sb _ _ t1
      have sm4 : Same H (upd H3 b (.tup [.str "get", .int (0 + (i : Int))])) := (sm.trans sa).trans sb
      revert t2 t1b sm4
      generalize upd H3 b (.tup [.str "get", .int (0 + (i : Int))]) = H4
      intro t2 t1b sm4
      refine ⟨_, rfl, rfl, _, rfl, ?_⟩
      refine ⟨_, rfl, rfl, _, rfl, ?_⟩
      refine ⟨_, rfl, q1, _, _, _, rfl, rfl, .inl (.inl t1b), atI_nat (j := 0) rfl, ?_⟩
      refine ⟨_, rfl, q2, _, _, _, rfl, rfl, .inl (.inl t2), atI_nat (j := 0) rfl, rfl, _, rfl, ?_⟩
      have e0 : decide (V.int ((S i : Nat) : Int) = V.int ((G i : Nat) : Int)) = false := decide_eq_false fun c => hH.ne i hi (by have := V.int.inj c; omega)
      rw [e0]
      exact ⟨_, _, _, rfl, sm4⟩
    · rintro σ H2 ⟨v2, v3, v4, rfl, sm⟩
      exact q H2 sm
/-- the hands that send the letters, or that get them -/
def spHands (b : Bool) : Sp := fun vs H Q _ => ∃ (d : Addr) (kvs : List (List Key × V)) (pl : List Pl) (many : Nat) (S : Nat → Nat), vs = [.ref d, .str (Dg.word ⟨b, 0⟩), .int (many : Int)] ∧ H d = some (.dT kvs) ∧ DictP H kvs pl ∧ (pl.map (·.1)).Nodup ∧ many ≤ 12 ∧
  (∀ l, l < many → ∃ n, (⟨b, l⟩, S l, n) ∈ pl) ∧ ∀ H' p, Same H H' → H' p = some (.tup (iL ((List.range many).map fun l => ((S l : Nat) : Int)))) → Q (.ref p) H'
theorem ok_hands {f : Addr} {fd : FuncData} {b : Bool} (F : Fun K "found_hands" "found_hands" s_found_hands f fd) (T : TxtM mg) : FnOk P w K mg base CX0 1 f fd ["places", "word", "many"] (spHands b) := by
  refine F.ok sc_found_hands (fun vs H Q E h => ?_) (fun cdv A outer s H vs Q E hr h => ?_)
  · obtain ⟨d, kvs, pl, many, S, rfl, _⟩ := h
    rfl
  · obtain ⟨d, kvs, pl, many, S, rfl, hd, dp, nd, h12, hS, q⟩ := h
    have hu := hu_of hr
    refine ⟨_, (pss_one (ps_ret (pe_callTy call_tuple_of (by rfl) T.tuple bt_tuple (pa_cons (pe_lc (own := [("letter", 3)]) (tt := tYes) rfl sc_found_hands.nd (pi_range1 (by rfl) T.range (pa_cons (pv 2) pa_nil)) (blkOk_by (own := [("letter", 3)]) (N := ["places", "word", "many", "letter"]) (sc := defScope s_found_hands) (by decide +kernel)) (fun _ _ _ _ _ => (pg_name (i := 3) sc_found_hands.nd rfl (Or.inl rfl))) (fun _ _ _ _ _ => pts_nil) (fun _ _ _ _ _ => (pe_ix (ix_tupK (K := K) rfl) (pe_dget hu (pv 0) (pe_tup (pa_cons (pv 1) (pa_cons (pv 3) pa_nil))) (fun _ _ => rfl)) pe_int (fun _ _ => rfl)))) pa_nil)))), ?_⟩
    refine ⟨_, rfl, (many : Int), rfl, by omega, by omega, fun D nD => lc_range (lo := 0) (n := many) (fun i H2 => H2 D = some (.lst (iL ((List.range i).map fun l => ((S l : Nat) : Int)))) ∧ Same H H2) ⟨upd_same, same_new nD⟩ ?_ ?_⟩
    · rintro i H2 hi ⟨hD, sm⟩
      have ei : (0 + (i : Int)) = (i : Int) := by omega
      obtain ⟨n, m⟩ := hS i hi
      refine ⟨rfl, ?_⟩
      refine ⟨_, rfl, _, rfl, _, rfl, (by show 2 ≤ sizeLine; decide), fun a na => ?_⟩
      have sa : Same H2 (upd H2 a (.tup [.str (Dg.word ⟨b, 0⟩), .int (0 + (i : Int))])) := same_new na
      obtain ⟨q1, k1, t1⟩ := ((dp.same sm).same sa).get nd m
      have ha : (upd H2 a (.tup [.str (Dg.word ⟨b, 0⟩), .int (0 + (i : Int))])) a = some (.tup ((Dg.key ⟨b, i⟩).map kV)) := by
        rw [upd_same, ei]
        rfl
      have g1 := DGet.t (k := Dg.key ⟨b, i⟩) (sa _ _ (sm _ _ hd)) ha
      rw [k1] at g1
      refine ⟨d, .ref q1, rfl, g1, q1, _, _, _, rfl, rfl, .inl (.inl t1), atI_nat (j := 0) rfl, ?_⟩
      have nDa : D ≠ a := ne_of_none hD na
      refine ⟨_, sa _ _ hD, ?_, ?_, fun z o e => ?_⟩
      · rw [List.length_map, List.length_map, List.length_range]
        exact small1000 (by omega)
      · rw [upd_same, iL_app, List.range_succ, List.map_append]
        rfl
      · rw [upd_ne (ne_of_none e nD)]
        exact sa _ _ (sm _ _ e)
    · rintro H2 ⟨hD, sm⟩
      refine ⟨D, _, rfl, .inl ⟨.inl (.inl hD), fun p np => ?_⟩⟩
      exact q _ p (sm.trans (same_new np)) upd_same
end
end Up

namespace Up
open PySem PySem.Spec PyProof.Rows L2
abbrev s_row_clocks : Stmt := (topS 21)
theorem sc_row_clocks : FnScope ["hand", "row", "hands", "clocks", "found", "counts", "number", "word", "letter", "sent", "one", "other"] ["hand", "row", "hands", "clocks"] (defScope s_row_clocks) := ⟨rfl, rfl, rfl, by decide +kernel, rfl, by decide +kernel, by decide +kernel⟩
structure TxtZ (mg : Str → Option Value) : Prop extends TxtM mg where
  zip : mg "zip" = none
/-- what is a tuple stays -/
def Tups (H H' : Hp) : Prop := ∀ b xs, H b = some (.tup xs) → H' b = some (.tup xs)
theorem Same.tups {H H' : Hp} (s : Same H H') : Tups H H' := fun b xs e => s _ _ e
theorem Tups.trans {H H1 H2 : Hp} (a : Tups H H1) (b : Tups H1 H2) : Tups H H2 := fun c xs e => b c xs (a c xs e)
theorem Tups.upd {H : Hp} {a : Addr} {o o' : HO} (h : H a = some o) (n : ∀ xs, o ≠ .tup xs) : Tups H (upd H a o') := fun b xs e => by
  rw [upd_ne]
  · exact e
  · intro c
    rw [c, h] at e
    exact n xs (Option.some.inj e)
def mx (i j : Int) : Int := if j > i then j else i
/-- the counts ahead of the n-th doing of a row -/
def prevC (hands : Nat) (Ck : Dg → List Int) (gs : List Dg) : Nat → List Int
  | 0 => List.replicate hands 0
  | n + 1 => match gs[n]? with
    | some g => Ck g
    | none => []
/-- the clocks of a row's doings, each by the one ahead of it, and by its sending -/
def RowCk (hands : Nat) (Ck : Dg → List Int) (h : Nat) (gs : List Dg) : Prop :=
  ∀ n g, gs[n]? = some g → Ck g = (if g.s then prevC hands Ck gs n else List.zipWith mx (prevC hands Ck gs n) (Ck ⟨true, g.l⟩)).set h ((n : Int) + 1)
/-- a dict of clocks -/
structure DictC (Ck : Dg → List Int) (H : Hp) (kvs : List (List Key × V)) (dn : List Dg) : Prop where
  ks : kvs.map (·.1) = dn.map Dg.key
  vs : ∀ (i : Nat) (g : Dg), dn[i]? = some g → ∃ q, kvs[i]? = some (g.key, .ref q) ∧ H q = some (.tup (iL (Ck g)))
theorem DictC.tups {Ck : Dg → List Int} {H H' : Hp} {kvs : List (List Key × V)} {dn : List Dg} (s : Tups H H') (d : DictC Ck H kvs dn) : DictC Ck H' kvs dn :=
  ⟨d.ks, fun i g e => let ⟨q, h1, h2⟩ := d.vs i g e; ⟨q, h1, s _ _ h2⟩⟩
theorem DictC.len {Ck : Dg → List Int} {H : Hp} {kvs : List (List Key × V)} {dn : List Dg} (d : DictC Ck H kvs dn) : kvs.length = dn.length := by
  have e := congrArg List.length d.ks
  simpa using e
theorem DictC.none {Ck : Dg → List Int} {H : Hp} {kvs : List (List Key × V)} {dn : List Dg} (d : DictC Ck H kvs dn) {g : Dg} (h : g ∉ dn) : valV kvs g.key = Option.none := by
  refine val_none fun c => ?_
  rw [d.ks] at c
  obtain ⟨t, ht, e⟩ := List.mem_map.mp c
  exact h (Dg.key_inj e ▸ ht)
theorem DictC.get {Ck : Dg → List Int} {H : Hp} {kvs : List (List Key × V)} {dn : List Dg} (d : DictC Ck H kvs dn) (nd : dn.Nodup) {g : Dg} (hm : g ∈ dn) : ∃ q, valV kvs g.key = some (.ref q) ∧ H q = some (.tup (iL (Ck g))) := by
  obtain ⟨i, lt, e⟩ := List.getElem_of_mem hm
  obtain ⟨q, h1, h2⟩ := d.vs i g (List.getElem?_eq_some_iff.mpr ⟨lt, e⟩)
  refine ⟨q, val_some ?_ h1, h2⟩
  rw [d.ks]
  exact List.Pairwise.map _ (fun a b c e => c (Dg.key_inj e)) nd
theorem DictC.snoc {Ck : Dg → List Int} {H H' : Hp} {kvs : List (List Key × V)} {dn : List Dg} (d : DictC Ck H kvs dn) (s : Tups H H') {g : Dg} {q : Addr} (hq : H' q = some (.tup (iL (Ck g)))) : DictC Ck H' (kvs ++ [(g.key, .ref q)]) (dn ++ [g]) := by
  refine ⟨by rw [List.map_append, List.map_append, d.ks]; rfl, fun i g' e => ?_⟩
  rcases snoc_get e with e | ⟨e1, rfl⟩
  · obtain ⟨q', k1, k2⟩ := d.vs i g' e
    have lt := (List.getElem?_eq_some_iff.mp k1).1
    exact ⟨q', by rw [List.getElem?_append_left lt]; exact k1, s _ _ k2⟩
  · refine ⟨q, ?_, hq⟩
    rw [e1, ← d.len, List.getElem?_append_right (Nat.le_refl _), Nat.sub_self]
    rfl
def readyG (dn : List Dg) (g : Dg) : Bool := g.s || decide ((⟨true, g.l⟩ : Dg) ∈ dn)
/-- a row as far as its gettings find their sendings -/
def reach (dn : List Dg) (gs : List Dg) : List Dg := gs.takeWhile (readyG dn)
theorem reach_all {dn : List Dg} : ∀ {gs : List Dg} {j : Nat}, (∀ i g, i < j → gs[i]? = some g → readyG dn g = true) → j ≤ gs.length → (∀ g, gs[j]? = some g → readyG dn g = false) → reach dn gs = gs.take j
  | [], j, _, _, _ => by simp [reach]
  | g :: r, 0, _, _, h => by
    have e := h g rfl
    simp [reach, List.takeWhile_cons, e]
  | g :: r, j + 1, h, hl, hn => by
    have e := h 0 g (by omega) rfl
    have ih := reach_all (dn := dn) (gs := r) (j := j) (fun i g' hi eg => h (i + 1) g' (by omega) eg) (by simpa using hl) (fun g' eg => hn g' eg)
    unfold reach at ih ⊢
    rw [List.takeWhile_cons, e, ih]
    rfl
theorem rep_ints : ∀ n : Nat, (List.replicate n [V.int 0]).flatten = iL (List.replicate n 0)
  | 0 => rfl
  | n + 1 => by
    rw [List.replicate_succ, List.flatten_cons, rep_ints n, List.replicate_succ]
    rfl
section
variable {P : Program} {w : World} {K : PySem.W.Frag} {mg : Str → Option Value} {base : Heap}
/-- a row of doings at t -/
def RowD (H : Hp) (t : Addr) (gs : List Dg) : Prop := ∃ qs : List Addr, H t = some (.tup (qs.map V.ref)) ∧ qs.length = gs.length ∧ ∀ (j : Nat) (q : Addr) (g : Dg), qs[j]? = some q → gs[j]? = some g → H q = some (.tup g.vs)
def spRowC (Ck : Dg → List Int) : Sp := fun vs H Q _ => ∃ (h : Nat) (t : Addr) (gs : List Dg) (hands : Nat) (c : Addr) (ckv : List (List Key × V)) (dn : List Dg), vs = [.int (h : Int), .ref t, .int (hands : Int), .ref c] ∧ RowD H t gs ∧ H c = some (.dT ckv) ∧ DictC Ck H ckv dn ∧ dn.Nodup ∧ h < hands ∧ hands ≤ 6 ∧
  gs.Nodup ∧ gs.length ≤ 100 ∧ RowCk hands Ck h gs ∧ (∀ g, (Ck g).length = hands) ∧ ∀ H' d kvs, Same H H' → H d = none → H' d = some (.dT kvs) → DictC Ck H' kvs (reach dn gs) → Q (.ref d) H'
theorem ok_rowc {f : Addr} {fd : FuncData} {Ck : Dg → List Int} (F : Fun K "row_clocks" "row_clocks" s_row_clocks f fd) (T : TxtZ mg) : FnOk P w K mg base CX0 1 f fd ["hand", "row", "hands", "clocks"] (spRowC Ck) := by
  refine F.ok sc_row_clocks (fun vs H Q E h => ?_) (fun cdv A outer s H vs Q E hr h => ?_)
  · obtain ⟨h, t, gs, hands, c, ckv, dn, rfl, _⟩ := h
    rfl
  · obtain ⟨h, t, gs, hands, c, ckv, dn, rfl, ⟨qs, ht, hql, hqs⟩, hc, dc, nd, hh, h6, gnd, g100, rck, ckl, q⟩ := h
    have hu := hu_of hr
    refine ⟨_, (pss_cons (ps_set (i := 4) sc_row_clocks.nd rfl (Or.inl rfl) pe_dnewT) (pss_cons (ps_set (i := 5) sc_row_clocks.nd rfl (Or.inl rfl) (pe_op op_rep (pe_lst (pa_cons pe_int pa_nil)) (pv 2))) (pss_cons (ps_for PassesOwn.never rfl (pi_enT (by rfl) T.enumerate (pa_cons (pv 1) pa_nil)) (pg_tup (by rfl) (pgs_cons (pg_name (i := 6) sc_row_clocks.nd rfl (Or.inl rfl)) (pgs_cons (pg_tup (by rfl) (pgs_cons (pg_name (i := 7) sc_row_clocks.nd rfl (Or.inl rfl)) (pgs_cons (pg_name (i := 8) sc_row_clocks.nd rfl (Or.inl rfl)) pgs_nil))) pgs_nil))) (C8.pss_cut (ps_if (pt_cmpR op_eq (pv 7) pe_str (nomark _)) (pss_cons (ps_set (i := 9) sc_row_clocks.nd rfl (Or.inl rfl) (pe_dget1 hu (pv 3) (pe_tup (pa_cons pe_str (pa_cons (pv 8) pa_nil))) ⟨by rfl, by rfl, by rfl, by rfl⟩)) (pss_cons (ps_if (pt_cmpR op_isN (pv 9) pe_non (nomark _)) (pss_one (ps_ret (pv 4))) pss_nil) (pss_one (ps_setLc (i := 5) (own := [("one", 10), ("other", 11)]) (tt := tYes) rfl sc_row_clocks.nd rfl rfl (sw_true rfl rfl rfl (by decide +kernel)) (pi_zpM (by rfl) T.zip (pa_cons (pv 5) (pa_cons (pv 9) pa_nil))) (blkOk_by (own := [("one", 10), ("other", 11)]) (N := ["hand", "row", "hands", "clocks", "found", "counts", "number", "word", "letter", "sent", "one", "other"]) (sc := defScope s_row_clocks) (by decide +kernel)) (fun _ _ _ _ _ => (pg_tupK (K := K) (n := 2) rfl (by rfl) (pgs_cons (pg_name (i := 10) sc_row_clocks.nd rfl (Or.inl rfl)) (pgs_cons (pg_name (i := 11) sc_row_clocks.nd rfl (Or.inl rfl)) pgs_nil)))) (fun _ _ _ _ _ => pts_nil) (fun _ _ _ _ _ => (pe_callB (call_max2 rfl) (by rfl) T.max bb_max (pa_cons (pv 10) (pa_cons (pv 11) pa_nil)))))))) pss_nil) (pss_cons (ps_asg (pe_op op_add (pv 6) pe_int) (pg_sub (pv 5) (pv 0) set_list)) (pss_one (ps_dput hu (pv 4) (pe_tup (pa_cons (pv 7) (pa_cons (pv 8) pa_nil))) (pe_callTy call_tuple_of (by rfl) T.tuple bt_tuple (pa_cons (pv 5) pa_nil)) rfl))))) (pss_one (ps_ret (pv 4)))))), ?_⟩
    intro d nD
    have s0 : Same H (upd H d (.dT [])) := same_new nD
    -- counts = [0] * hands
    refine ⟨(by show 1 ≤ sizeLine; decide), fun l0 nl0 => ?_⟩
    have sl0 : Same (upd H d (.dT [])) (upd (upd H d (.dT [])) l0 (.lst [.int 0])) := same_new nl0
    refine ⟨_, rfl, l0, (hands : Int), _, rfl, rfl, upd_same, by omega, by omega, ?_, fun ca nca => ?_⟩
    · have e : (hands : Int).toNat = hands := by omega
      rw [e]
      show 1 * hands ≤ sizeLine
      rw [Nat.one_mul]
      exact Nat.le_of_lt (small1000 (by omega))
    · rw [show ((hands : Int)).toNat = hands by omega, rep_ints]
      have sca := same_new (o := .lst (iL (List.replicate hands 0))) nca
      have s1 : Same H (upd (upd (upd H d (.dT [])) l0 (.lst [.int 0])) ca (.lst (iL (List.replicate hands 0)))) := (s0.trans sl0).trans sca
      have d1 : (upd (upd (upd H d (.dT [])) l0 (.lst [.int 0])) ca (.lst (iL (List.replicate hands 0)))) d = some (.dT []) := sca _ _ (sl0 _ _ upd_same)
      have c1 : (upd (upd (upd H d (.dT [])) l0 (.lst [.int 0])) ca (.lst (iL (List.replicate hands 0)))) ca = some (.lst (iL (List.replicate hands 0))) := upd_same
      have nHca : H ca = none := (s0.trans sl0).free nca
      revert s1 d1 c1
      generalize upd (upd (upd H d (.dT [])) l0 (.lst [.int 0])) ca (.lst (iL (List.replicate hands 0))) = H1
      intro s1 d1 c1
      have prl : ∀ j, j ≤ gs.length → (prevC hands Ck gs j).length = hands := by
        intro j hj
        cases j with
        | zero => exact List.length_replicate ..
        | succ j =>
          show (match gs[j]? with | some g => Ck g | none => []).length = hands
          rw [List.getElem?_eq_getElem (by omega)]
          exact ckl _
      refine ⟨_, rfl, t, _, rfl, .inl (.inl (s1 _ _ ht)), for_it walk_enT (fun j σ H3 => ∃ (v6 v7 v8 v9 v10 v11 : Option V) (ca : Addr) (kvs : List (List Key × V)), σ = [some (.int (h : Int)), some (.ref t), some (.int (hands : Int)), some (.ref c), some (.ref d), some (.ref ca), v6, v7, v8, v9, v10, v11] ∧ Same H H3 ∧ H ca = none ∧ H3 d = some (.dT kvs) ∧ DictC Ck H3 kvs (gs.take j) ∧
          H3 ca = some (.lst (iL (prevC hands Ck gs j))) ∧ ∀ i g, i < j → gs[i]? = some g → readyG dn g = true) ⟨_, _, _, _, _, _, ca, [], rfl, s1, nHca, d1, ⟨rfl, fun i g e => by cases e⟩, c1, fun i g e => by omega⟩ (fun j σ H3 _ ⟨_, _, _, _, _, _, _, _, _, sm, _⟩ => .inl (.inl (sm _ _ ht))) ?_ ?_⟩
      · rintro j x σ H3 H4 hj ⟨v6, v7, v8, v9, v10, v11, ca, kvs, rfl, sm, nca, hd, dc3, hca, rdy⟩ ⟨U, x1, x2, rfl, nU, rfl, e1, e2⟩
        obtain rfl : x1 = .int (j : Int) := (Option.some.inj e1).symm
        obtain ⟨qd, eq, rfl⟩ := map_get e2
        obtain ⟨g, eg⟩ := get_of hql eq
        have hjl : j < gs.length := (List.getElem?_eq_some_iff.mp eg).1
        have hg := hqs j qd g eq eg
        have sU : Same H3 (upd H3 U (.tup [.int (j : Int), .ref qd])) := same_new nU
        have sm4 := sm.trans sU
        have hd4 := sU _ _ hd
        have hca4 := sU _ _ hca
        have dc4 := dc3.tups (Same.tups sU)
        have hU4 : (upd H3 U (.tup [.int (j : Int), .ref qd])) U = some (.tup [.int (j : Int), .ref qd]) := upd_same
        revert sm4 hd4 hca4 dc4 hU4
        generalize upd H3 U (.tup [.int (j : Int), .ref qd]) = H4
        intro sm4 hd4 hca4 dc4 hU4
        refine ⟨U, _, rfl, .inl (.inl hU4), rfl, _, _, rfl, _, _, rfl, qd, g.vs, rfl, .inl (.inl (sm4 _ _ hg)), rfl, _, _, rfl, _, _, rfl, rfl, rfl, ?_⟩
        -- behind the if: the counts ahead, the sending's taken in
        refine ⟨fun σ' H5 => readyG dn g = true ∧ ∃ (v9 v10 v11 : Option V) (ca : Addr), σ' = [some (.int (h : Int)), some (.ref t), some (.int (hands : Int)), some (.ref c), some (.ref d), some (.ref ca), some (.int (j : Int)), some (.str g.word), some (.int (g.l : Int)), v9, v10, v11] ∧ Same H H5 ∧ H ca = none ∧ H5 d = some (.dT kvs) ∧ DictC Ck H5 kvs (gs.take j) ∧
          H5 ca = some (.lst (iL (if g.s then prevC hands Ck gs j else List.zipWith mx (prevC hands Ck gs j) (Ck ⟨true, g.l⟩)))), ?_, ?_⟩
        · refine ⟨_, rfl, rfl, _, rfl, ?_⟩
          obtain ⟨b, l⟩ := g
          cases b with
          | true =>
            have e0 : decide (V.str (Dg.word ⟨true, l⟩) = V.str "get") = false := decide_eq_false fun z => word_ne (V.str.inj z)
            refine Eq.mpr (if_neg (by rw [e0]; exact Bool.false_ne_true)) ?_
            exact ⟨rfl, _, _, _, ca, rfl, sm4, nca, hd4, dc4, hca4⟩
          | false =>
            have e0 : decide (V.str (Dg.word ⟨false, l⟩) = V.str "get") = true := decide_eq_true rfl
            refine Eq.mpr (if_pos e0) ?_
            -- sent = clocks.get(("send", letter))
            refine ⟨_, rfl, c, rfl, .inr ⟨ckv, .inl (sm4 _ _ hc)⟩, _, rfl, (by show 2 ≤ sizeLine; decide), fun a na => ?_⟩
            have sa : Same H4 (upd H4 a (.tup [.str "send", .int (l : Int)])) := same_new na
            have ha : (upd H4 a (.tup [.str "send", .int (l : Int)])) a = some (.tup ((Dg.key ⟨true, l⟩).map kV)) := upd_same
            have g1 := DGet.t (k := Dg.key ⟨true, l⟩) (sa _ _ (sm4 _ _ hc)) ha
            have sm5 := sm4.trans sa
            have hd5 := sa _ _ hd4
            have hca5 := sa _ _ hca4
            have dc5 := dc4.tups (Same.tups sa)
            revert g1 sm5 hd5 hca5 dc5
            generalize upd H4 a (.tup [.str "send", .int (l : Int)]) = H5
            intro g1 sm5 hd5 hca5 dc5
            refine ⟨_, g1, ?_⟩
            by_cases hm : (⟨true, l⟩ : Dg) ∈ dn
            · obtain ⟨q1, k1, t1⟩ := (dc.tups (Same.tups sm5)).get nd hm
              rw [k1]
              refine ⟨_, rfl, rfl, _, rfl, ?_⟩
              -- counts = [max(one, other) for one, other in zip(counts, sent)]
              have lp := prl j (by omega)
              have lc := ckl ⟨true, l⟩
              refine ⟨_, rfl, _, rfl, ca, q1, _, _, rfl, .inl (.inl hca5), .inl (.inl t1), fun D nDD => lc_it (walk_zM rfl) (fun i H6 => H6 D = some (.lst (iL ((List.zipWith mx (prevC hands Ck gs j) (Ck ⟨true, l⟩)).take i))) ∧ Same H5 H6) ⟨upd_same, same_new nDD⟩ (fun i H6 _ ⟨_, s6⟩ => ⟨.inl (.inl (s6 _ _ hca5)), .inl (.inl (s6 _ _ t1))⟩) ?_ ?_⟩
              · rintro i x H6 H7 hi ⟨hD, s6⟩ ⟨W, x1, x2, rfl, nW, rfl, f1, f2⟩
                rw [List.length_map, List.length_map, lp, lc, Nat.min_self] at hi
                have i1 : i < (prevC hands Ck gs j).length := by omega
                have i2 : i < (Ck ⟨true, l⟩).length := by omega
                obtain rfl : x1 = .int (prevC hands Ck gs j)[i] := Option.some.inj (f1.symm.trans (iL_get i1))
                obtain rfl : x2 = .int (Ck ⟨true, l⟩)[i] := Option.some.inj (f2.symm.trans (iL_get i2))
                have sW : Same H6 (upd H6 W (.tup [.int (prevC hands Ck gs j)[i], .int (Ck ⟨true, l⟩)[i]])) := same_new nW
                refine ⟨W, _, rfl, .inl (.inl upd_same), rfl, _, _, rfl, _, _, rfl, rfl, rfl, ?_⟩
                refine ⟨_, rfl, _, rfl, _, _, rfl, _, sW _ _ hD, ?_, ?_, fun b o e => ?_⟩
                · rw [List.length_map, List.length_take]
                  exact Nat.lt_of_le_of_lt (Nat.min_le_left _ _) (small1000 (by omega))
                · have ez : (List.zipWith mx (prevC hands Ck gs j) (Ck ⟨true, l⟩))[i]? = some (mx (prevC hands Ck gs j)[i] (Ck ⟨true, l⟩)[i]) := by
                    rw [List.getElem?_zipWith, List.getElem?_eq_getElem i1, List.getElem?_eq_getElem i2]
                  rw [upd_same, take_snoc ez]
                  exact congrArg (fun z => some (HO.lst z)) (iL_app _ _)
                · rw [upd_ne (ne_of_none e nDD)]
                  exact sW _ _ (s6 _ _ e)
              · rintro H6 ⟨hD, s6⟩
                rw [List.length_map, List.length_map, lp, lc, Nat.min_self, List.take_of_length_le (by rw [List.length_zipWith, lp, lc, Nat.min_self]; exact Nat.le_refl _)] at hD
                refine ⟨?_, _, _, _, D, rfl, sm5.trans s6, sm5.free nDD, s6 _ _ hd5, dc5.tups (Same.tups s6), hD⟩
                exact decide_eq_true hm
            · rw [(dc.tups (Same.tups sm5)).none hm]
              refine ⟨_, rfl, rfl, _, rfl, ?_⟩
              refine ⟨_, rfl, q H5 d kvs sm5 nD hd5 ?_⟩
              rw [reach_all (j := j) rdy (by omega) (fun g' e => by
                rw [eg] at e
                cases e
                exact decide_eq_false hm)]
              exact dc5
        · rintro σ' H5 ⟨rg, v9, v10, v11, ca, rfl, sm5, nca, hd5, dc5, hca5⟩
          have lp := prl j (by omega)
          have lc := ckl ⟨true, g.l⟩
          have eck := rck j g eg
          revert hca5 eck
          generalize ez : (if g.s then prevC hands Ck gs j else List.zipWith mx (prevC hands Ck gs j) (Ck ⟨true, g.l⟩)) = L
          intro hca5 eck
          have lL : L.length = hands := by
            rw [← ez]
            split
            · exact lp
            · rw [List.length_zipWith, lp, lc, Nat.min_self]
          have ncd : ca ≠ d := ne_of hca5 hd5 (by intro z; cases z)
          -- counts[hand] = number + 1
          refine ⟨_, rfl, _, _, rfl, rfl, _, rfl, _, rfl, ca, _, _, h, rfl, rfl, hca5, ix_at rfl (by rw [List.length_map]; omega), ?_⟩
          have hca6 : (upd H5 ca (.lst ((iL L).set h (.int ((j : Int) + 1))))) ca = some (.lst (iL (Ck g))) := by
            rw [iL_put, eck]
          have tp6 : Tups H5 (upd H5 ca (.lst ((iL L).set h (.int ((j : Int) + 1))))) := Tups.upd hca5 fun xs z => by cases z
          have k6 : ∀ b o, H b = some o → (upd H5 ca (.lst ((iL L).set h (.int ((j : Int) + 1))))) b = some o := fun b o e => by
            rw [upd_ne (ne_of_none e nca)]
            exact sm5 _ _ e
          have hd6 : (upd H5 ca (.lst ((iL L).set h (.int ((j : Int) + 1))))) d = some (.dT kvs) := by
            rw [upd_ne ncd.symm]
            exact hd5
          revert hca6 tp6 k6 hd6
          generalize upd H5 ca (.lst ((iL L).set h (.int ((j : Int) + 1)))) = H6
          intro hca6 tp6 k6 hd6
          have dc6 := dc5.tups tp6
          -- found[(word, letter)] = tuple(counts)
          refine ⟨_, rfl, ca, _, rfl, .inl ⟨.inl (.inl hca6), fun p np => ?_⟩⟩
          have sp : Same H6 (upd H6 p (.tup (iL (Ck g)))) := same_new np
          refine ⟨_, rfl, _, rfl, _, rfl, (by show 2 ≤ sizeLine; decide), fun z nz => ?_⟩
          have sz : Same (upd H6 p (.tup (iL (Ck g)))) (upd (upd H6 p (.tup (iL (Ck g)))) z (.tup [.str g.word, .int (g.l : Int)])) := same_new nz
          have hp7 : (upd (upd H6 p (.tup (iL (Ck g)))) z (.tup [.str g.word, .int (g.l : Int)])) p = some (.tup (iL (Ck g))) := sz _ _ upd_same
          have hz7 : (upd (upd H6 p (.tup (iL (Ck g)))) z (.tup [.str g.word, .int (g.l : Int)])) z = some (.tup (g.key.map kV)) := upd_same
          have s7 := Same.trans sp sz
          have hd7 := s7 _ _ hd6
          have hca7 := s7 _ _ hca6
          have dc7 := dc6.tups (Same.tups s7)
          have k7 : ∀ b o, H b = some o → (upd (upd H6 p (.tup (iL (Ck g)))) z (.tup [.str g.word, .int (g.l : Int)])) b = some o := fun b o e => s7 _ _ (k6 b o e)
          revert hp7 hz7 hd7 hca7 dc7 k7
          clear sp nz sz s7
          generalize upd (upd H6 p (.tup (iL (Ck g)))) z (.tup [.str g.word, .int (g.l : Int)]) = H7
          intro hp7 hz7 hd7 hca7 dc7 k7
          have gnew : g ∉ gs.take j := fun hm => by
            obtain ⟨i, hi, ei⟩ := List.getElem_of_mem hm
            rw [List.length_take] at hi
            have e1 : gs[i]? = some g := by
              rw [List.getElem_take] at ei
              exact List.getElem?_eq_some_iff.mpr ⟨by omega, ei⟩
            have e2 := nd_ix gnd e1 eg
            omega
          have fr := dc7.none gnew
          have lk : kvs.length < sizeLine := by
            rw [dc7.len, List.length_take]
            exact Nat.lt_of_le_of_lt (Nat.min_le_left _ _) (small1000 (by omega))
          refine ⟨d, _, rfl, DPut.t (k := g.key) hd7 hz7 lk, ?_⟩
          rw [putK_new _ fr]
          have ncd7 : ca ≠ d := ne_of hca7 hd7 (by intro z; cases z)
          refine ⟨_, _, _, _, _, _, ca, _, rfl, fun b o e => ?_, nca, upd_same, ?_, ?_, fun i g' hi e => ?_⟩
          · rw [upd_ne (ne_of_none e nD)]
            exact k7 b o e
          · rw [take_snoc eg]
            exact dc7.snoc (Tups.upd hd7 fun xs z => by cases z) (by rw [upd_ne (ne_of hp7 hd7 (by intro z; cases z))]; exact hp7)
          · rw [upd_ne ncd7]
            show H7 ca = some (.lst (iL (match gs[j]? with | some g => Ck g | none => [])))
            rw [eg]
            exact hca7
          · by_cases c : i < j
            · exact rdy i g' c e
            · have e3 : i = j := by omega
              rw [e3, eg] at e
              cases e
              exact rg
      · rintro σ H3 ⟨v6, v7, v8, v9, v10, v11, ca, kvs, rfl, sm, nca, hd, dc3, hca, rdy⟩
        rw [List.length_map, hql] at dc3 rdy
        refine ⟨_, rfl, q H3 d kvs sm nD hd ?_⟩
        rw [reach_all (j := gs.length) (fun i g hi eg => rdy i g hi eg) (Nat.le_refl _) (fun g eg => by rw [List.getElem?_eq_none (Nat.le_refl _)] at eg; cases eg)]
        exact dc3
end
end Up

namespace Up
open PySem PySem.Spec PyProof.Rows L2
abbrev s_tinit : Stmt := (inClass (topS 14) 0)
abbrev s_teq : Stmt := (inClass (topS 14) 2)
abbrev s_tlen : Stmt := (inClass (topS 14) 1)
theorem sc_tinit : FnScope ["self", "rows"] ["self", "rows"] (defScope s_tinit) := ⟨rfl, rfl, rfl, by decide +kernel, rfl, by decide +kernel, by decide +kernel⟩
theorem sc_teq : FnScope ["self", "other"] ["self", "other"] (defScope s_teq) := ⟨rfl, rfl, rfl, by decide +kernel, rfl, by decide +kernel, by decide +kernel⟩
theorem sc_tlen : FnScope ["self"] ["self"] (defScope s_tlen) := ⟨rfl, rfl, rfl, by decide +kernel, rfl, by decide +kernel, by decide +kernel⟩
/-- rows that make a talk: many letters, each sent by S, got by G; Ck the clocks -/
structure Valid (gss : List (List Dg)) (many : Nat) (S G : Nat → Nat) (Ck : Dg → List Int) : Prop where
  h1 : 1 ≤ gss.length
  h6 : gss.length ≤ 6
  lt : ∀ t ∈ plAll 0 gss, t.1.l < many
  m12 : many ≤ 12
  len : (plAll 0 gss).length ≤ 24
  once : Once gss
  hd : Hands (plAll 0 gss) many S G
  ck : ∀ (h : Nat) (gs : List Dg), gss[h]? = some gs → RowCk gss.length Ck h gs
  ckl : ∀ g, (Ck g).length = gss.length
  rk : ∃ rk : Dg → Nat, (∀ (h : Nat) (gs : List Dg), gss[h]? = some gs → ∀ (n : Nat) (g g' : Dg), gs[n]? = some g → gs[n + 1]? = some g' → rk g < rk g') ∧ ∀ l, l < many → rk ⟨true, l⟩ < rk ⟨false, l⟩
/-- rows of doings, as lists or tuples of tuples -/
structure RowsG (H : Hp) (a : Addr) (gss : List (List Dg)) : Prop where
  ex : ∃ rs : List Addr, LT H a (rs.map V.ref) ∧ rs.length = gss.length ∧ ∀ (i : Nat) (t : Addr) (gs : List Dg), rs[i]? = some t → gss[i]? = some gs →
    ∃ qs : List Addr, LT H t (qs.map V.ref) ∧ qs.length = gs.length ∧ ∀ (j : Nat) (q : Addr) (g : Dg), qs[j]? = some q → gs[j]? = some g → H q = some (.tup g.vs)
theorem RowsG.same {H H' : Hp} {p : Addr} {gss : List (List Dg)} (s : Same H H') (h : RowsG H p gss) : RowsG H' p gss := by
  obtain ⟨ts, h1, h2, h3⟩ := h.ex
  refine ⟨ts, h1.same s, h2, fun i t gs e1 e2 => ?_⟩
  obtain ⟨qs, k1, k2, k3⟩ := h3 i t gs e1 e2
  exact ⟨qs, k1.same s, k2, fun j q g e3 e4 => s _ _ (k3 j q g e3 e4)⟩
/-- the rows' items, as they are copied -/
theorem RowsG.items {H : Hp} {a : Addr} {gss : List (List Dg)} (h : RowsG H a gss) : ∃ xss : List (List V), xss.length = gss.length ∧ RowsIn H a xss ∧ ∀ H' p, Same H H' → RowsT H' p xss → RowsD H' p gss := by
  obtain ⟨rs, h1, h2, h3⟩ := h.ex
  have key : ∀ i : Nat, ∃ xs : List V, ∀ (t : Addr) (gs : List Dg), rs[i]? = some t → gss[i]? = some gs →
      LT H t xs ∧ ∃ qs : List Addr, xs = qs.map V.ref ∧ qs.length = gs.length ∧ ∀ (j : Nat) (q : Addr) (g : Dg), qs[j]? = some q → gs[j]? = some g → H q = some (.tup g.vs) := by
    intro i
    cases et : rs[i]? with
    | none => exact ⟨[], fun t gs e => by cases e⟩
    | some t =>
      obtain ⟨gs, eg⟩ := get_of h2 et
      obtain ⟨qs, k1, k2, k3⟩ := h3 i t gs et eg
      refine ⟨qs.map V.ref, fun t' gs' e1 e2 => ?_⟩
      cases e1
      rw [eg] at e2
      cases e2
      exact ⟨k1, qs, rfl, k2, k3⟩
  refine ⟨(List.range gss.length).map fun i => (key i).choose, by rw [List.length_map, List.length_range], ⟨rs, h1, by rw [List.length_map, List.length_range]; exact h2, fun i r xs e1 e2 => ?_⟩, fun H' p s hT => ?_⟩
  · have hi := (List.getElem?_eq_some_iff.mp e1).1
    rw [List.getElem?_map, List.getElem?_range (by omega)] at e2
    obtain rfl : (key i).choose = xs := Option.some.inj e2
    obtain ⟨gs, eg⟩ := get_of h2 e1
    exact ((key i).choose_spec r gs e1 eg).1
  · obtain ⟨ts, t1, t2, t3⟩ := hT.ex
    rw [List.length_map, List.length_range] at t2
    refine ⟨ts, t1, t2, fun i t gs e1 e2 => ?_⟩
    have hi := (List.getElem?_eq_some_iff.mp e2).1
    have hr : rs[i]? = some rs[i] := List.getElem?_eq_getElem (by omega)
    obtain ⟨_, qs, eq, ql, qk⟩ := (key i).choose_spec _ gs hr e2
    have ht := t3 i t _ e1 (by rw [List.getElem?_map, List.getElem?_range hi]; rfl)
    refine ⟨qs, ?_, ql, fun j q g e3 e4 => s _ _ (qk j q g e3 e4)⟩
    rw [ht]
    exact congrArg (fun z => some (HO.tup z)) eq
/-- a talk's fields -/
def tf (r p : Addr) (many : Nat) (s g c : Addr) : List (Str × V) := [("rows", .ref r), ("places", .ref p), ("many", .int (many : Int)), ("senders", .ref s), ("getters", .ref g), ("clocks", .ref c)]
def tf1 (r : Addr) : List (Str × V) := [("rows", .ref r)]
def tf2 (r p : Addr) : List (Str × V) := [("rows", .ref r), ("places", .ref p)]
def tf3 (r p : Addr) (many : Nat) : List (Str × V) := [("rows", .ref r), ("places", .ref p), ("many", .int (many : Int))]
def tf4 (r p : Addr) (many : Nat) (s : Addr) : List (Str × V) := [("rows", .ref r), ("places", .ref p), ("many", .int (many : Int)), ("senders", .ref s)]
def tf5 (r p : Addr) (many : Nat) (s g : Addr) : List (Str × V) := [("rows", .ref r), ("places", .ref p), ("many", .int (many : Int)), ("senders", .ref s), ("getters", .ref g)]
theorem put1 (r : Addr) : putF "rows" (.ref r) [] = tf1 r := rfl
theorem put2 (r p : Addr) : putF "places" (.ref p) (tf1 r) = tf2 r p := rfl
theorem put3 (r p : Addr) (many : Nat) : putF "many" (.int (many : Int)) (tf2 r p) = tf3 r p many := rfl
theorem put4 (r p : Addr) (many : Nat) (s : Addr) : putF "senders" (.ref s) (tf3 r p many) = tf4 r p many s := rfl
theorem put5 (r p : Addr) (many : Nat) (s g : Addr) : putF "getters" (.ref g) (tf4 r p many s) = tf5 r p many s g := rfl
theorem put6 (r p : Addr) (many : Nat) (s g c : Addr) : putF "clocks" (.ref c) (tf5 r p many s g) = tf r p many s g c := rfl
structure TalkAt (H : Hp) (x C : Addr) (gss : List (List Dg)) (many : Nat) (S G : Nat → Nat) (Ck : Dg → List Int) : Prop where
  ex : ∃ (dx r p s g c : Addr) (kvs ckv : List (List Key × V)) (dn : List Dg), H x = some (.ins C dx (tf r p many s g c)) ∧ RowsD H r gss ∧ H p = some (.dT kvs) ∧ DictP H kvs (plAll 0 gss) ∧
    H s = some (.tup (iL ((List.range many).map fun l => ((S l : Nat) : Int)))) ∧ H g = some (.tup (iL ((List.range many).map fun l => ((G l : Nat) : Int)))) ∧ H c = some (.dT ckv) ∧ DictC Ck H ckv dn ∧ dn.Nodup ∧ ∀ g, g ∈ dn ↔ g ∈ (plAll 0 gss).map (·.1)
/-- its dicts are new -/
def TalkNw (H H' : Hp) (x C : Addr) : Prop := ∃ (dx r p : Addr) (many : Nat) (s g c : Addr), H' x = some (.ins C dx (tf r p many s g c)) ∧ H p = none ∧ H c = none
theorem TalkAt.same {H H' : Hp} {x C : Addr} {gss : List (List Dg)} {many : Nat} {S G : Nat → Nat} {Ck : Dg → List Int} (e : Same H H') (t : TalkAt H x C gss many S G Ck) : TalkAt H' x C gss many S G Ck := by
  obtain ⟨dx, r, p, s, g, c, kvs, ckv, dn, h1, h2, h3, h4, h5, h6, h7, h8, h9, h10⟩ := t.ex
  exact ⟨dx, r, p, s, g, c, kvs, ckv, dn, e _ _ h1, h2.same e, e _ _ h3, h4.same e, e _ _ h5, e _ _ h6, e _ _ h7, h8.tups (Same.tups e), h9, h10⟩
section
variable {P : Program} {w : World} {K : PySem.W.Frag} {mg : Str → Option Value} {base : Heap}
def spClocks (Sl : List (List Dg) → Prop) (Ck : Dg → List Int) : Sp := fun vs H Q _ => ∃ (p : Addr) (gss : List (List Dg)) (many : Nat) (S G : Nat → Nat), vs = [.ref p] ∧ Sl gss ∧ RowsD H p gss ∧ Valid gss many S G Ck ∧
  ∀ H' d kvs dn, Same H H' → H d = none → H' d = some (.dT kvs) → DictC Ck H' kvs dn → dn.Nodup → (∀ g, g ∈ dn ↔ g ∈ (plAll 0 gss).map (·.1)) → Q (.ref d) H'
def spTInit (C : Addr) (Sl : List (List Dg) → Prop) (Ck : Dg → List Int) : Sp := fun vs H Q _ => ∃ (x dx a : Addr) (gss : List (List Dg)) (many : Nat) (S G : Nat → Nat), vs = [.ref x, .ref a] ∧ H x = some (.ins C dx []) ∧ Sl gss ∧ RowsG H a gss ∧ Valid gss many S G Ck ∧
  ∀ H', (∀ b o, H b = some o → b ≠ x → H' b = some o) → TalkAt H' x C gss many S G Ck → TalkNw H H' x C → Q .non H'
structure TxtT (K : PySem.W.Frag) (mg : Str → Option Value) (C fCo fPl fCn fCh fHa fCl : Addr) : Prop extends TxtZ mg where
  cl : Cls K C
  nRows : NoAttr K C "rows"
  nPlaces : NoAttr K C "places"
  nMany : NoAttr K C "many"
  nSenders : NoAttr K C "senders"
  nGetters : NoAttr K C "getters"
  nClocks : NoAttr K C "clocks"
  g_Talk : mg "Talk" = some (.ref C)
  g_copied_rows : mg "copied_rows" = some (.ref fCo)
  g_found_places : mg "found_places" = some (.ref fPl)
  g_count_letters : mg "count_letters" = some (.ref fCn)
  g_check_letters : mg "check_letters" = some (.ref fCh)
  g_found_hands : mg "found_hands" = some (.ref fHa)
  g_found_clocks : mg "found_clocks" = some (.ref fCl)
theorem ok_tinit {f C fCo fPl fCn fCh fHa fCl : Addr} {fd fdCo fdPl fdCn fdCh fdHa fdCl : FuncData} {Sl : List (List Dg) → Prop} {Ck : Dg → List Int} (F : Fun K "__init__" "Talk.__init__" s_tinit f fd) (T : TxtT K mg C fCo fPl fCn fCh fHa fCl)
    (F_copied_rows : Fun K "copied_rows" "copied_rows" s_copied_rows fCo fdCo) (b_copied_rows : Binds K fdCo ["rows"] []) (G_copied_rows : FnOk P w K mg base CX0 2 fCo fdCo ["rows"] spCopy)
    (F_found_places : Fun K "found_places" "found_places" s_found_places fPl fdPl) (b_found_places : Binds K fdPl ["rows"] []) (G_found_places : FnOk P w K mg base CX0 4 fPl fdPl ["rows"] spPlaces)
    (F_count_letters : Fun K "count_letters" "count_letters" s_count_letters fCn fdCn) (b_count_letters : Binds K fdCn ["places"] []) (F_check_letters : Fun K "check_letters" "check_letters" s_check_letters fCh fdCh) (b_check_letters : Binds K fdCh ["places", "many"] [])
    (F_found_hands : Fun K "found_hands" "found_hands" s_found_hands fHa fdHa) (b_found_hands : Binds K fdHa ["places", "word", "many"] [])
    (kp_clocks : PySem.W.keepIn K (.ref fCl) = true) (b_found_clocks : Binds K fdCl ["rows"] []) (G_found_clocks : FnOk P w K mg base CX0 4 fCl fdCl ["rows"] (spClocks Sl Ck)) :
    FnOk P w K mg base CX0 5 f fd ["self", "rows"] (spTInit C Sl Ck) := by
  have G_count_letters : FnOk P w K mg base CX0 1 fCn fdCn ["places"] spCount := ok_count F_count_letters T.toTxtM
  have G_check_letters : FnOk P w K mg base CX0 1 fCh fdCh ["places", "many"] spCheck := ok_check F_check_letters T.toTxtM
  have G_hS : FnOk P w K mg base CX0 1 fHa fdHa ["places", "word", "many"] (spHands true) := ok_hands F_found_hands T.toTxtM
  have G_hG : FnOk P w K mg base CX0 1 fHa fdHa ["places", "word", "many"] (spHands false) := ok_hands F_found_hands T.toTxtM
  refine F.ok sc_tinit (fun vs H Q E h => ?_) (fun cdv A outer s H vs Q E hr h => ?_)
  · obtain ⟨x, dx, a, gss, many, S, G, rfl, _⟩ := h
    rfl
  · obtain ⟨x, dx, a, gss, many, S, G, rfl, hx, hSl, hR, hV, q⟩ := h
    have hr_copied_rows : Room 2 _ := hr.mono (by decide)
    have hr_found_places : Room 4 _ := hr
    have hr1 : Room 1 _ := hr.mono (by decide)
    have hr_found_clocks : Room 4 _ := hr
    refine ⟨_, (pss_cons (ps_fld (pv 0) (pe_call G_copied_rows hr_copied_rows (by rfl) T.g_copied_rows F_copied_rows.kp b_copied_rows .nil pass0 (pa_cons (pv 1) pa_nil)) rfl) (pss_cons (ps_fld (pv 0) (pe_call G_found_places hr_found_places (by rfl) T.g_found_places F_found_places.kp b_found_places .nil pass0 (pa_cons (pe_fld (pv 0) rfl) pa_nil)) rfl) (pss_cons (ps_fld (pv 0) (pe_call G_count_letters hr1 (by rfl) T.g_count_letters F_count_letters.kp b_count_letters .nil pass0 (pa_cons (pe_fld (pv 0) rfl) pa_nil)) rfl) (pss_cons (ps_expr (pe_call G_check_letters hr1 (by rfl) T.g_check_letters F_check_letters.kp b_check_letters .nil pass0 (pa_cons (pe_fld (pv 0) rfl) (pa_cons (pe_fld (pv 0) rfl) pa_nil)))) (pss_cons (ps_fld (pv 0) (pe_call G_hS hr1 (by rfl) T.g_found_hands F_found_hands.kp b_found_hands .nil pass0 (pa_cons (pe_fld (pv 0) rfl) (pa_cons pe_str (pa_cons (pe_fld (pv 0) rfl) pa_nil)))) rfl) (pss_cons (ps_fld (pv 0) (pe_call G_hG hr1 (by rfl) T.g_found_hands F_found_hands.kp b_found_hands .nil pass0 (pa_cons (pe_fld (pv 0) rfl) (pa_cons pe_str (pa_cons (pe_fld (pv 0) rfl) pa_nil)))) rfl) (pss_cons (ps_fld (pv 0) (pe_call G_found_clocks hr_found_clocks (by rfl) T.g_found_clocks kp_clocks b_found_clocks .nil pass0 (pa_cons (pe_fld (pv 0) rfl) pa_nil)) rfl) (pss_one (ps_if (pt_cmpR op_lt (pe_callB call_len_dT (by rfl) T.len PySem.boot_len (pa_cons (pe_fld (pv 0) rfl) pa_nil)) (pe_callB call_len_dT (by rfl) T.len PySem.boot_len (pa_cons (pe_fld (pv 0) rfl) pa_nil)) (nomark _)) (pss_one ps_never) pss_nil))))))))), ?_⟩
    obtain ⟨xss, xl, hIn, hOut⟩ := hR.items
    have v1 := hV.h1
    have v6 := hV.h6
    have v24 := hV.len
    have v12 := hV.m12
    -- self.rows = copied_rows(rows)
    refine ⟨_, rfl, a, xss, rfl, hIn, by omega, by omega, fun H1 r s1 hT => ?_⟩
    have hD1 : RowsD H1 r gss := hOut H1 r s1 hT
    refine ⟨_, rfl, x, C, dx, [], rfl, s1 _ _ hx, T.cl, T.nRows, (by show 0 < 1000; decide), ?_⟩
    have up : ∀ (H' : Hp) (o : HO), (∀ b o, H b = some o → b ≠ x → H' b = some o) → ∀ b o', H b = some o' → b ≠ x → (upd H' x o) b = some o' := fun H' o k b o' e n => by
      rw [upd_ne n]
      exact k b o' e n
    have tupx : ∀ (H' : Hp) (fs : List (Str × V)) (o : HO), H' x = some (.ins C dx fs) → Tups H' (upd H' x o) := fun H' fs o e => Tups.upd e fun xs z => by cases z
    have rd : ∀ (H' H'' : Hp) (p : Addr), Tups H' H'' → RowsD H' p gss → RowsD H'' p gss := fun H' H'' p t h => by
      obtain ⟨ts, k1, k2, k3⟩ := h.ex
      refine ⟨ts, t _ _ k1, k2, fun i t' gs e1 e2 => ?_⟩
      obtain ⟨qs, j1, j2, j3⟩ := k3 i t' gs e1 e2
      exact ⟨qs, t _ _ j1, j2, fun j q g e3 e4 => t _ _ (j3 j q g e3 e4)⟩
    have dpt : ∀ (H' H'' : Hp) (kvs : List (List Key × V)), Tups H' H'' → DictP H' kvs (plAll 0 gss) → DictP H'' kvs (plAll 0 gss) := fun H' H'' kvs t d => ⟨d.ks, fun i g h n e => let ⟨q, h1, h2⟩ := d.vs i g h n e; ⟨q, h1, t _ _ h2⟩⟩
    rw [put1]
    have k1 := up H1 (.ins C dx (tf1 r)) fun b o e _ => s1 b o e
    have x1 : (upd H1 x (.ins C dx (tf1 r))) x = some (.ins C dx (tf1 r)) := upd_same
    have r1 : RowsD (upd H1 x (.ins C dx (tf1 r))) r gss := rd _ _ r (tupx H1 [] _ (s1 _ _ hx)) hD1
    revert k1 x1 r1
    generalize upd H1 x (.ins C dx (tf1 r)) = J1
    intro k1 x1 r1
    -- self.places = found_places(self.rows)
    refine ⟨_, rfl, x, C, dx, _, _, rfl, x1, T.cl, T.nRows, rfl, r, gss, rfl, r1, fun t ht => Nat.lt_of_lt_of_le (hV.lt t ht) v12, hV.once, by omega, fun H2 p kvs s2 np hp dp => ?_⟩
    refine ⟨_, rfl, x, C, dx, _, rfl, s2 _ _ x1, T.cl, T.nPlaces, (by show 1 < 1000; decide), ?_⟩
    rw [put2]
    have px : p ≠ x := fun c => by
      rw [c, x1] at np
      cases np
    have k2 := up H2 (.ins C dx (tf2 r p)) fun b o e n => s2 _ _ (k1 b o e n)
    have x2 : (upd H2 x (.ins C dx (tf2 r p))) x = some (.ins C dx (tf2 r p)) := upd_same
    have t2 := tupx H2 _ (.ins C dx (tf2 r p)) (s2 _ _ x1)
    have r2 := rd _ _ r t2 (r1.same s2)
    have p2 : (upd H2 x (.ins C dx (tf2 r p))) p = some (.dT kvs) := by
      rw [upd_ne px]
      exact hp
    have d2 := dpt _ _ kvs t2 dp
    revert k2 x2 r2 p2 d2
    clear t2
    generalize upd H2 x (.ins C dx (tf2 r p)) = J2
    intro k2 x2 r2 p2 d2
    -- self.many = count_letters(self.places)
    refine ⟨_, rfl, x, C, dx, _, _, rfl, x2, T.cl, T.nPlaces, rfl, p, kvs, plAll 0 gss, many, rfl, p2, d2, by omega, hV.lt, fun hm => ?_, fun H3 s3 => ?_⟩
    · obtain ⟨n, hn⟩ := hV.hd.snd (many - 1) (by omega)
      exact ⟨_, hn, by show many - 1 + 1 = many; omega⟩
    refine ⟨_, rfl, x, C, dx, _, rfl, s3 _ _ x2, T.cl, T.nMany, (by show 2 < 1000; decide), ?_⟩
    rw [put3]
    have k3 := up H3 (.ins C dx (tf3 r p many)) fun b o e n => s3 _ _ (k2 b o e n)
    have x3 : (upd H3 x (.ins C dx (tf3 r p many))) x = some (.ins C dx (tf3 r p many)) := upd_same
    have t3 := tupx H3 _ (.ins C dx (tf3 r p many)) (s3 _ _ x2)
    have r3 := rd _ _ r t3 (r2.same s3)
    have p3 : (upd H3 x (.ins C dx (tf3 r p many))) p = some (.dT kvs) := by
      rw [upd_ne px]
      exact s3 _ _ p2
    have d3 := dpt _ _ kvs t3 (d2.same s3)
    revert k3 x3 r3 p3 d3
    clear t3
    generalize upd H3 x (.ins C dx (tf3 r p many)) = J3
    intro k3 x3 r3 p3 d3
    -- check_letters(self.places, self.many)
    refine ⟨_, rfl, x, C, dx, _, _, rfl, x3, T.cl, T.nPlaces, rfl, _, rfl, x, C, dx, _, _, rfl, x3, T.cl, T.nMany, rfl, p, kvs, plAll 0 gss, many, S, G, rfl, p3, d3, hV.once, v12, hV.hd, fun H4 s4 => ?_⟩
    -- self.senders, self.getters
    refine ⟨_, rfl, x, C, dx, _, _, rfl, s4 _ _ x3, T.cl, T.nPlaces, rfl, _, rfl, x, C, dx, _, _, rfl, s4 _ _ x3, T.cl, T.nMany, rfl, p, kvs, plAll 0 gss, many, S, rfl, s4 _ _ p3, d3.same s4, hV.once, v12, hV.hd.snd, fun H5 sp s5 hs5 => ?_⟩
    have s45 := Same.trans s4 s5
    refine ⟨_, rfl, x, C, dx, _, rfl, s45 _ _ x3, T.cl, T.nSenders, (by show 3 < 1000; decide), ?_⟩
    rw [put4]
    have k5 := up H5 (.ins C dx (tf4 r p many sp)) fun b o e n => s45 _ _ (k3 b o e n)
    have x5 : (upd H5 x (.ins C dx (tf4 r p many sp))) x = some (.ins C dx (tf4 r p many sp)) := upd_same
    have t5 := tupx H5 _ (.ins C dx (tf4 r p many sp)) (s45 _ _ x3)
    have r5 := rd _ _ r t5 (r3.same s45)
    have p5 : (upd H5 x (.ins C dx (tf4 r p many sp))) p = some (.dT kvs) := by
      rw [upd_ne px]
      exact s45 _ _ p3
    have d5 := dpt _ _ kvs t5 (d3.same s45)
    have sp5 := t5 _ _ hs5
    revert k5 x5 r5 p5 d5 sp5
    clear t5
    generalize upd H5 x (.ins C dx (tf4 r p many sp)) = J5
    intro k5 x5 r5 p5 d5 sp5
    refine ⟨_, rfl, x, C, dx, _, _, rfl, x5, T.cl, T.nPlaces, rfl, _, rfl, x, C, dx, _, _, rfl, x5, T.cl, T.nMany, rfl, p, kvs, plAll 0 gss, many, G, rfl, p5, d5, hV.once, v12, hV.hd.got, fun H6 gp s6 hg6 => ?_⟩
    refine ⟨_, rfl, x, C, dx, _, rfl, s6 _ _ x5, T.cl, T.nGetters, (by show 4 < 1000; decide), ?_⟩
    rw [put5]
    have k6 := up H6 (.ins C dx (tf5 r p many sp gp)) fun b o e n => s6 _ _ (k5 b o e n)
    have x6 : (upd H6 x (.ins C dx (tf5 r p many sp gp))) x = some (.ins C dx (tf5 r p many sp gp)) := upd_same
    have t6 := tupx H6 _ (.ins C dx (tf5 r p many sp gp)) (s6 _ _ x5)
    have r6 := rd _ _ r t6 (r5.same s6)
    have p6 : (upd H6 x (.ins C dx (tf5 r p many sp gp))) p = some (.dT kvs) := by
      rw [upd_ne px]
      exact s6 _ _ p5
    have d6 := dpt _ _ kvs t6 (d5.same s6)
    have sp6 := t6 _ _ (s6 _ _ sp5)
    have gp6 := t6 _ _ hg6
    revert k6 x6 r6 p6 d6 sp6 gp6
    clear t6
    generalize upd H6 x (.ins C dx (tf5 r p many sp gp)) = J6
    intro k6 x6 r6 p6 d6 sp6 gp6
    -- self.clocks = found_clocks(self.rows)
    refine ⟨_, rfl, x, C, dx, _, _, rfl, x6, T.cl, T.nRows, rfl, r, gss, many, S, G, rfl, hSl, r6, hV, fun H7 c ckv dn s7 nc hc dc nd hdn => ?_⟩
    refine ⟨_, rfl, x, C, dx, _, rfl, s7 _ _ x6, T.cl, T.nClocks, (by show 5 < 1000; decide), ?_⟩
    rw [put6]
    have cx : c ≠ x := fun z => by
      rw [z, x6] at nc
      cases nc
    have k7 := up H7 (.ins C dx (tf r p many sp gp c)) fun b o e n => s7 _ _ (k6 b o e n)
    have x7 : (upd H7 x (.ins C dx (tf r p many sp gp c))) x = some (.ins C dx (tf r p many sp gp c)) := upd_same
    have t7 := tupx H7 _ (.ins C dx (tf r p many sp gp c)) (s7 _ _ x6)
    have r7 := rd _ _ r t7 (r6.same s7)
    have p7 : (upd H7 x (.ins C dx (tf r p many sp gp c))) p = some (.dT kvs) := by
      rw [upd_ne px]
      exact s7 _ _ p6
    have c7 : (upd H7 x (.ins C dx (tf r p many sp gp c))) c = some (.dT ckv) := by
      rw [upd_ne cx]
      exact hc
    have d7 := dpt _ _ kvs t7 (d6.same s7)
    have dc7 := dc.tups t7
    have sp7 := t7 _ _ (s7 _ _ sp6)
    have gp7 := t7 _ _ (s7 _ _ gp6)
    revert k7 x7 r7 p7 d7 sp7 gp7 c7 dc7
    clear t7
    generalize upd H7 x (.ins C dx (tf r p many sp gp c)) = J7
    intro k7 x7 r7 p7 c7 d7 dc7 sp7 gp7
    -- if len(self.clocks) < len(self.places): raise
    have el : ckv.length = kvs.length := by
      rw [dc7.len, d7.len]
      have e1 : ((plAll 0 gss).map (·.1)).length = (plAll 0 gss).length := List.length_map ..
      rw [← e1]
      exact Nat.le_antisymm (nd_len nd fun g hg => (hdn g).mp hg) (nd_len hV.once fun g hg => (hdn g).mpr hg)
    refine ⟨_, rfl, x, C, dx, _, _, rfl, x7, T.cl, T.nClocks, rfl, c, ckv, rfl, c7, _, rfl, x, C, dx, _, _, rfl, x7, T.cl, T.nPlaces, rfl, p, kvs, rfl, p7, _, _, rfl, rfl, _, rfl, ?_⟩
    rw [decide_eq_false (by rw [el]; omega)]
    have hp0 : H p = none := by
      cases e : H p with
      | none => rfl
      | some o =>
        rw [k1 p o e px] at np
        cases np
    have hc0 : H c = none := by
      cases e : H c with
      | none => rfl
      | some o =>
        rw [k6 c o e cx] at nc
        cases nc
    exact q J7 k7 ⟨dx, r, p, sp, gp, c, kvs, ckv, dn, x7, r7, p7, d7, sp7, gp7, c7, dc7, nd, hdn⟩ ⟨dx, r, p, many, sp, gp, c, x7, hp0, hc0⟩
end
end Up

namespace Up
open PySem PySem.Spec PyProof.Rows L2
theorem DictC.put {Ck : Dg → List Int} {H : Hp} {kvs : List (List Key × V)} {dn : List Dg} (d : DictC Ck H kvs dn) (nd : dn.Nodup) {g : Dg} {q : Addr} (hq : H q = some (.tup (iL (Ck g)))) :
    ∃ dn', DictC Ck H (putK kvs g.key (.ref q)) dn' ∧ dn'.Nodup ∧ ∀ x, x ∈ dn' ↔ x ∈ dn ∨ x = g := by
  by_cases hm : g ∈ dn
  · refine ⟨dn, ⟨?_, fun i x e => ?_⟩, nd, fun x => ⟨.inl, fun c => c.elim id fun c => c ▸ hm⟩⟩
    · obtain ⟨q', k1, _⟩ := d.get nd hm
      unfold putK
      rw [valV_any, k1]
      show (kvs.map fun kv => if kv.1 = g.key then (kv.1, V.ref q) else kv).map (·.1) = _
      rw [List.map_map, ← d.ks]
      refine List.map_congr_left fun p _ => ?_
      show (if p.1 = g.key then (p.1, V.ref q) else p).1 = p.1
      split <;> rfl
    · obtain ⟨q', k1, _⟩ := d.get nd hm
      obtain ⟨q2, e1, e2⟩ := d.vs i x e
      unfold putK
      rw [valV_any, k1]
      show ∃ q0, (kvs.map fun kv => if kv.1 = g.key then (kv.1, V.ref q) else kv)[i]? = _ ∧ _
      rw [List.getElem?_map, e1]
      by_cases c : x.key = g.key
      · refine ⟨q, ?_, ?_⟩
        · show some (if x.key = g.key then (x.key, V.ref q) else (x.key, V.ref q2)) = _
          rw [if_pos c]
        · rw [Dg.key_inj c]
          exact hq
      · refine ⟨q2, ?_, e2⟩
        show some (if x.key = g.key then (x.key, V.ref q) else (x.key, V.ref q2)) = _
        rw [if_neg c]
  · refine ⟨dn ++ [g], ?_, ?_, fun x => by simp⟩
    · rw [putK_new _ (d.none hm)]
      exact d.snoc (fun _ _ e => e) hq
    · refine List.nodup_append.mpr ⟨nd, List.nodup_cons.mpr ⟨List.not_mem_nil, List.nodup_nil⟩, fun a ha b hb => ?_⟩
      rcases List.mem_cons.mp hb with e | e
      · subst e
        exact fun c => hm (c ▸ ha)
      · cases e
/-! ### the passes come to rest only when all doings have their clocks -/
theorem plRow_mem {h : Nat} {g : Dg} {n : Nat} : ∀ {gs : List Dg} {k : Nat}, gs[n]? = some g → (g, h, k + n) ∈ plRow h k gs
  | [], k, e => by simp at e
  | x :: r, k, e => by
    cases n with
    | zero =>
      have e2 : x = g := Option.some.inj e
      subst e2
      exact List.mem_cons_self ..
    | succ n =>
      have h2 := plRow_mem (h := h) (k := k + 1) (gs := r) (n := n) e
      rw [show k + 1 + n = k + (n + 1) by omega] at h2
      exact List.mem_cons_of_mem _ h2
theorem plAll_mem {gs : List Dg} {i : Nat} : ∀ {gss : List (List Dg)} {h : Nat}, gss[i]? = some gs → ∀ t ∈ plRow (h + i) 0 gs, t ∈ plAll h gss
  | [], h, e, t, ht => by simp at e
  | r :: rs, h, e, t, ht => by
    cases i with
    | zero =>
      have e2 : r = gs := Option.some.inj e
      subst e2
      exact List.mem_append_left _ ht
    | succ i =>
      refine List.mem_append_right _ (plAll_mem (h := h + 1) (gss := rs) e t ?_)
      rw [show h + 1 + i = h + (i + 1) by omega]
      exact ht
theorem plRow_of {h : Nat} {t : Pl} : ∀ {gs : List Dg} {k : Nat}, t ∈ plRow h k gs → ∃ n : Nat, gs[n]? = some t.1
  | [], k, e => by cases e
  | x :: r, k, e => by
    rcases List.mem_cons.mp e with c | c
    · subst c
      exact ⟨0, rfl⟩
    · obtain ⟨n, hn⟩ := plRow_of c
      exact ⟨n + 1, hn⟩
theorem plAll_of {t : Pl} : ∀ {gss : List (List Dg)} {h : Nat}, t ∈ plAll h gss → ∃ (i n : Nat) (gs : List Dg), gss[i]? = some gs ∧ gs[n]? = some t.1
  | [], h, e => by cases e
  | r :: rs, h, e => by
    rcases List.mem_append.mp e with c | c
    · obtain ⟨n, hn⟩ := plRow_of c
      exact ⟨0, n, r, rfl, hn⟩
    · obtain ⟨i, n, gs, h1, h2⟩ := plAll_of c
      exact ⟨i + 1, n, gs, h1, h2⟩
theorem in_all {gss : List (List Dg)} {i n : Nat} {gs : List Dg} {g : Dg} (e : gss[i]? = some gs) (eg : gs[n]? = some g) : g ∈ (plAll 0 gss).map (·.1) := by
  have h1 := plRow_mem (h := 0 + i) (k := 0) eg
  exact List.mem_map_of_mem (f := (·.1)) (plAll_mem e _ h1)
theorem reach_mem {dn : List Dg} {g : Dg} : ∀ {gs : List Dg} {n : Nat}, gs[n]? = some g → (∀ i x, i ≤ n → gs[i]? = some x → readyG dn x = true) → g ∈ reach dn gs
  | [], n, e, _ => by simp at e
  | x :: r, 0, e, h => by
    have e2 : x = g := Option.some.inj e
    subst e2
    unfold reach
    rw [List.takeWhile_cons, h 0 x (Nat.le_refl _) rfl]
    exact List.mem_cons_self ..
  | x :: r, n + 1, e, h => by
    unfold reach
    rw [List.takeWhile_cons, h 0 x (Nat.zero_le _) rfl]
    exact List.mem_cons_of_mem _ (reach_mem (dn := dn) (gs := r) (n := n) e fun i y hi ey => h (i + 1) y (by omega) ey)
theorem reach_sub {dn dn' : List Dg} (h : ∀ x ∈ dn, x ∈ dn') : ∀ {gs : List Dg}, ∀ x ∈ reach dn gs, x ∈ reach dn' gs
  | [], x, hx => by cases hx
  | g :: r, x, hx => by
    unfold reach at hx ⊢
    rw [List.takeWhile_cons] at hx ⊢
    cases c : readyG dn g with
    | false =>
      rw [c] at hx
      cases hx
    | true =>
      rw [c] at hx
      have c2 : readyG dn' g = true := by
        unfold readyG at c ⊢
        rcases Bool.or_eq_true_iff.mp c with z | z
        · rw [z]
          rfl
        · rw [Bool.or_eq_true_iff]
          exact .inr (decide_eq_true (h _ (of_decide_eq_true z)))
      rw [c2]
      rcases List.mem_cons.mp hx with z | z
      · exact List.mem_cons.mpr (.inl z)
      · exact List.mem_cons_of_mem _ (reach_sub h (gs := r) x z)
theorem reach_in {dn : List Dg} {gs : List Dg} : ∀ x ∈ reach dn gs, x ∈ gs := fun x hx => (List.takeWhile_sublist (readyG dn)).subset hx
theorem Valid.rest {gss : List (List Dg)} {many : Nat} {S G : Nat → Nat} {Ck : Dg → List Int} (v : Valid gss many S G Ck) {dn : List Dg} (fx : ∀ (i : Nat) (gs : List Dg), gss[i]? = some gs → ∀ x ∈ reach dn gs, x ∈ dn) : ∀ g ∈ (plAll 0 gss).map (·.1), g ∈ dn := by
  obtain ⟨rk, r1, r2⟩ := v.rk
  have up : ∀ (h : Nat) (gs : List Dg), gss[h]? = some gs → ∀ (d n : Nat) (g g' : Dg), gs[n]? = some g → gs[n + d + 1]? = some g' → rk g < rk g' := by
    intro h gs eg d
    induction d with
    | zero => exact fun n g g' e1 e2 => r1 h gs eg n g g' e1 e2
    | succ d ih =>
      intro n g g' e1 e2
      have hl := (List.getElem?_eq_some_iff.mp e2).1
      have e3 : gs[n + d + 1]? = some gs[n + d + 1] := List.getElem?_eq_getElem (by omega)
      exact Nat.lt_trans (ih n g _ e1 e3) (r1 h gs eg (n + d + 1) _ g' e3 e2)
  have all : ∀ (k : Nat) (g : Dg), rk g ≤ k → g ∈ (plAll 0 gss).map (·.1) → g ∈ dn := by
    intro k
    induction k with
    | zero =>
      intro g hk hg
      obtain ⟨t, ht, rfl⟩ := List.mem_map.mp hg
      obtain ⟨i, n, gs, e1, e2⟩ := plAll_of ht
      refine fx i gs e1 _ (reach_mem e2 fun j x hj ex => ?_)
      have ej : j = n := by
        rcases Nat.lt_or_ge j n with c | c
        · have := up i gs e1 (n - j - 1) j x t.1 ex (by rw [show j + (n - j - 1) + 1 = n by omega]; exact e2)
          omega
        · omega
      subst ej
      rw [e2] at ex
      have ex2 : t.1 = x := Option.some.inj ex
      rw [← ex2]
      unfold readyG
      cases hs : t.1.s with
      | true => rfl
      | false =>
        have hl := v.lt t ht
        have := r2 t.1.l hl
        have e3 : t.1 = ⟨false, t.1.l⟩ := by rw [← hs]
        rw [← e3] at this
        omega
    | succ k ih =>
      intro g hk hg
      obtain ⟨t, ht, rfl⟩ := List.mem_map.mp hg
      obtain ⟨i, n, gs, e1, e2⟩ := plAll_of ht
      refine fx i gs e1 _ (reach_mem e2 fun j x hj ex => ?_)
      have hx : rk x ≤ k + 1 := by
        rcases Nat.lt_or_ge j n with c | c
        · have := up i gs e1 (n - j - 1) j x t.1 ex (by rw [show j + (n - j - 1) + 1 = n by omega]; exact e2)
          omega
        · have ej : j = n := by omega
          subst ej
          rw [e2] at ex
          rw [← (Option.some.inj ex : t.1 = x)]
          exact hk
      unfold readyG
      cases hs : x.s with
      | true => rfl
      | false =>
        have hx2 := in_all e1 ex
        obtain ⟨t2, ht2, et2⟩ := List.mem_map.mp hx2
        have hl := v.lt t2 ht2
        rw [et2] at hl
        have h3 := r2 x.l hl
        have e3 : x = ⟨false, x.l⟩ := by rw [← hs]
        rw [← e3] at h3
        obtain ⟨n2, m2⟩ := v.hd.snd x.l hl
        have h4 := ih ⟨true, x.l⟩ (by omega) (List.mem_map_of_mem (f := (·.1)) m2)
        rw [decide_eq_true h4]
        rfl
  exact fun g hg => all (rk g) g (Nat.le_refl _) hg
abbrev s_found_clocks : Stmt := (topS 20)
theorem sc_found_clocks : FnScope ["rows", "clocks", "before", "hand", "row", "found", "doing"] ["rows"] (defScope s_found_clocks) := ⟨rfl, rfl, rfl, by decide +kernel, rfl, by decide +kernel, by decide +kernel⟩
structure TxtF (K : PySem.W.Frag) (mg : Str → Option Value) (fR : Addr) : Prop extends TxtZ mg where
  g_row_clocks : mg "row_clocks" = some (.ref fR)
theorem nd_more {α : Type} [DecidableEq α] {a b : List α} (ha : a.Nodup) (hb : b.Nodup) (h : ∀ x ∈ a, x ∈ b) (l : b.length ≤ a.length) : ∀ x ∈ b, x ∈ a := fun x hx => by
  by_cases c : x ∈ a
  · exact c
  · have n := nd_len (a := x :: a) (b := b) (List.nodup_cons.mpr ⟨c, ha⟩) fun y hy => by
      rcases List.mem_cons.mp hy with e | e
      · exact e ▸ hx
      · exact h y e
    rw [List.length_cons] at n
    omega
theorem plRow_map (h : Nat) : ∀ (gs : List Dg) (n : Nat), (plRow h n gs).map (·.1) = gs
  | [], _ => rfl
  | g :: r, n => by
    show g :: (plRow h (n + 1) r).map (·.1) = _
    rw [plRow_map h r (n + 1)]
theorem Once.row {gss : List (List Dg)} (o : Once gss) {i : Nat} {gs : List Dg} (e : gss[i]? = some gs) : gs.Nodup := by
  obtain ⟨r, h⟩ := plTo_pre (j := gs.length) e
  unfold Once at o
  rw [h, List.map_append] at o
  have o2 := (List.nodup_append.mp o).1
  unfold plTo at o2
  rw [List.map_append, List.take_length, plRow_map] at o2
  exact (List.nodup_append.mp o2).2.1
/-- all rows -/
def Sl0 (_ : List (List Dg)) : Prop := True
section
variable {P : Program} {w : World} {K : PySem.W.Frag} {mg : Str → Option Value} {base : Heap}
theorem ok_clocks {f fR : Addr} {fd fdR : FuncData} {Ck : Dg → List Int} (F : Fun K "found_clocks" "found_clocks" s_found_clocks f fd) (T : TxtF K mg fR) (F_row_clocks : Fun K "row_clocks" "row_clocks" s_row_clocks fR fdR) (b_row_clocks : Binds K fdR ["hand", "row", "hands", "clocks"] []) :
    FnOk P w K mg base CX0 2 f fd ["rows"] (spClocks Sl0 Ck) := by
  have G_row_clocks : FnOk P w K mg base CX0 1 fR fdR ["hand", "row", "hands", "clocks"] (spRowC Ck) := ok_rowc F_row_clocks T.toTxtZ
  refine F.ok sc_found_clocks (fun vs H Q E h => ?_) (fun cdv A outer s H vs Q E hr h => ?_)
  · obtain ⟨p, gss, _, _, _, rfl, _⟩ := h
    rfl
  · obtain ⟨p, gss, many, S, G, rfl, _, hR, hV, q⟩ := h
    have hu := hu_of hr
    have hr_row_clocks : Room 1 _ := hr
    obtain ⟨ts, hp, hts, hrow⟩ := hR.ex
    have v6' := hV.h6
    have v24 := hV.len
    refine ⟨_, (pss_cons (ps_set (i := 1) sc_found_clocks.nd rfl (Or.inl rfl) pe_dnewT) (pss_cons (ps_set (i := 2) sc_found_clocks.nd rfl (Or.inl rfl) (pe_un un_neg pe_int)) (pss_cons (ps_while PassesOwn.never (pt_cmpR op_lt (pv 2) (pe_callB call_len_dT (by rfl) T.len PySem.boot_len (pa_cons (pv 1) pa_nil)) (nomark _)) (pss_cons (ps_set (i := 2) sc_found_clocks.nd rfl (Or.inl rfl) (pe_callB call_len_dT (by rfl) T.len PySem.boot_len (pa_cons (pv 1) pa_nil))) (pss_one (ps_for PassesOwn.never rfl (pi_enT (by rfl) T.enumerate (pa_cons (pv 0) pa_nil)) (pg_tup (by rfl) (pgs_cons (pg_name (i := 3) sc_found_clocks.nd rfl (Or.inl rfl)) (pgs_cons (pg_name (i := 4) sc_found_clocks.nd rfl (Or.inl rfl)) pgs_nil))) (pss_cons (ps_set (i := 5) sc_found_clocks.nd rfl (Or.inl rfl) (pe_call G_row_clocks hr_row_clocks (by rfl) T.g_row_clocks F_row_clocks.kp b_row_clocks .nil pass0 (pa_cons (pv 3) (pa_cons (pv 4) (pa_cons (pe_callB call_len_seq (by rfl) T.len PySem.boot_len (pa_cons (pv 0) pa_nil)) (pa_cons (pv 1) pa_nil)))))) (pss_one (ps_lock (ps_for PassesOwn.never rfl (pi_keys (pv 5)) (pg_name (i := 6) sc_found_clocks.nd rfl (Or.inl rfl)) (pss_one (ps_dput hu (pv 1) (pv 6) (pe_dget hu (pv 5) (pv 6) (fun _ _ => rfl)) rfl)))))))))) (pss_one (ps_ret (pv 1)))))), ?_⟩
    intro d nD
    have s0 : Same H (upd H d (.dT [])) := same_new nD
    let Inv0 : Int → Option V → Option V → Option V → Option V → List (List Key × V) → List Dg → L2.St → Hp → Prop := fun b v3 v4 v5 v6 kvs dn σ H2 => σ = [some (.ref p), some (.ref d), some (.int b), v3, v4, v5, v6] ∧ Same H H2 ∧ H2 d = some (.dT kvs) ∧ DictC Ck H2 kvs dn ∧ dn.Nodup ∧ (∀ x ∈ dn, x ∈ ((plAll 0 gss).map (·.1) : List Dg))
    refine ⟨_, rfl, fun m σ H2 => ∃ (b : Int) (v3 v4 v5 v6 : Option V) (kvs : List (List Key × V)) (dn : List Dg), Inv0 b v3 v4 v5 v6 kvs dn σ H2 ∧ m = 2 * (24 - dn.length) + (if b < (dn.length : Int) then 1 else 0) ∧
      (b < (dn.length : Int) ∨ ∀ (i : Nat) (gs : List Dg), gss[i]? = some gs → ∀ x ∈ reach dn gs, x ∈ dn), ⟨_, -1, none, none, none, none, [], [], ⟨rfl, s0, upd_same, ⟨rfl, fun i g e => by cases e⟩, List.nodup_nil, (fun x hx => by cases hx)⟩, rfl, .inl (by decide)⟩, ?_⟩
    rintro m σ H2 ⟨b, v3, v4, v5, v6, kvs, dn, ⟨rfl, sm, hd, dc, nd, sub⟩, em, fx⟩
    have d24 : dn.length ≤ 24 := by
      have h1 := nd_len nd sub
      rw [List.length_map] at h1
      omega
    have el : (kvs.length : Int) = (dn.length : Int) := by rw [dc.len]
    refine ⟨_, rfl, _, rfl, d, kvs, rfl, hd, _, _, rfl, rfl, _, rfl, ?_⟩
    rw [el]
    by_cases c : b < (dn.length : Int)
    · rw [decide_eq_true c]
      rw [if_pos c] at em
      refine ⟨fun σ' H' => ∃ m', m' < m ∧ ∃ (b : Int) (v3 v4 v5 v6 : Option V) (kvs : List (List Key × V)) (dn : List Dg), Inv0 b v3 v4 v5 v6 kvs dn σ' H' ∧ m' = 2 * (24 - dn.length) + (if b < (dn.length : Int) then 1 else 0) ∧
        (b < (dn.length : Int) ∨ ∀ (i : Nat) (gs : List Dg), gss[i]? = some gs → ∀ x ∈ reach dn gs, x ∈ dn), fun σ' H' h => h, ?_⟩
      -- before = len(clocks)
      refine ⟨_, rfl, d, kvs, rfl, hd, ?_⟩
      -- for hand, row in enumerate(rows)
      refine ⟨_, rfl, p, _, rfl, .inl (.inl (sm _ _ hp)), for_it walk_enT (fun i σ H3 => ∃ (v3 v4 v5 v6 : Option V) (kvs1 : List (List Key × V)) (dn1 : List Dg), Inv0 (dn.length : Int) v3 v4 v5 v6 kvs1 dn1 σ H3 ∧ (∀ x ∈ dn, x ∈ dn1) ∧
          ∀ (k : Nat) (gs : List Dg), k < i → gss[k]? = some gs → ∀ x ∈ reach dn gs, x ∈ dn1) ⟨_, _, _, _, kvs, dn, ⟨by rw [← el]; rfl, sm, hd, dc, nd, sub⟩, fun x hx => hx, fun k gs hk => by omega⟩ (fun i σ H3 _ ⟨_, _, _, _, _, _, ⟨_, sm3, _⟩, _⟩ => .inl (.inl (sm3 _ _ hp))) ?_ ?_⟩
      · rintro i x σ H3 H4 hi ⟨v3, v4, v5, v6, kvs1, dn1, ⟨rfl, sm3, hd3, dc3, nd3, sub3⟩, inc3, don3⟩ ⟨U, x1, x2, rfl, nU, rfl, e1, e2⟩
        obtain rfl : x1 = .int (i : Int) := (Option.some.inj e1).symm
        obtain ⟨t, et, rfl⟩ := map_get e2
        obtain ⟨gs, egs⟩ := get_of hts et
        obtain ⟨qs, ht, hql, hqs⟩ := hrow i t gs et egs
        have sU : Same H3 (upd H3 U (.tup [.int (i : Int), .ref t])) := same_new nU
        refine ⟨U, _, rfl, .inl (.inl upd_same), rfl, _, _, rfl, _, _, rfl, rfl, ?_⟩
        have il : i < gss.length := (List.getElem?_eq_some_iff.mp egs).1
        have gnd : gs.Nodup := hV.once.row egs
        have gl : gs.length ≤ 24 := by
          have h1 := nd_len gnd (b := (plAll 0 gss).map (·.1)) fun y hy => by
            obtain ⟨n, ln, en⟩ := List.getElem_of_mem hy
            exact in_all egs (List.getElem?_eq_some_iff.mpr ⟨ln, en⟩)
          rw [List.length_map] at h1
          omega
        have sm4 := Same.trans sm3 sU
        -- found = row_clocks(hand, row, len(rows), clocks)
        refine ⟨_, rfl, _, rfl, _, rfl, p, _, rfl, .inr (.inl (.inl (sm4 _ _ hp))), _, rfl, ?_⟩
        refine ⟨i, t, gs, gss.length, d, kvs1, dn1, ?_, ⟨qs, sm4 _ _ ht, hql, fun j q g a b => sm4 _ _ (hqs j q g a b)⟩, sU _ _ hd3, dc3.tups (Same.tups sU), nd3, il, v6', gnd, by omega, hV.ck i gs egs, hV.ckl, fun H5 fd5 more s5 nf hf df => ?_⟩
        · rw [List.length_map, hts]
          rfl
        have hd5 := s5 _ _ (sU _ _ hd3)
        have dc5 := (dc3.tups (Same.tups sU)).tups (Same.tups s5)
        have sm5 : Same H H5 := Same.trans sm4 s5
        have nHf : H fd5 = none := sm4.free nf
        have nfd : d ≠ fd5 := fun z => by
          rw [← z, sU _ _ hd3] at nf
          cases nf
        have rnd : (reach dn1 gs).Nodup := List.Nodup.sublist (List.takeWhile_sublist (readyG dn1)) gnd
        -- for doing in found, found locked
        refine ⟨fd5, _, hf, True.intro, fun od => ?_⟩
        have tpl : Tups H5 (upd H5 fd5 (.frz od (.dT more))) := Tups.upd hf fun xs z => by cases z
        refine ⟨_, rfl, fd5, od, rfl, .inr ⟨more, upd_same, for_it walk_keysT (fun j σ H6 => ∃ (v6 : Option V) (kvs2 : List (List Key × V)) (dn2 : List Dg), σ = [some (.ref p), some (.ref d), some (.int (dn.length : Int)), some (.int (i : Int)), some (.ref t), some (.ref fd5), v6] ∧ H6 fd5 = some (.frz od (.dT more)) ∧ H6 d = some (.dT kvs2) ∧
            DictC Ck H6 more (reach dn1 gs) ∧ DictC Ck H6 kvs2 dn2 ∧ dn2.Nodup ∧ (∀ x, x ∈ dn2 ↔ x ∈ dn1 ∨ x ∈ (reach dn1 gs).take j) ∧ ∀ b o, H b = some o → H6 b = some o)
          ⟨_, kvs1, dn1, rfl, upd_same, by rw [upd_ne nfd]; exact hd5, df.tups tpl, dc5.tups tpl, nd3, fun x => by rw [List.take_zero]; simp, fun b o e => by rw [upd_ne (ne_of_none e nHf)]; exact sm5 _ _ e⟩ (fun j σ H6 _ ⟨_, _, _, _, hz, _⟩ => hz) ?_ ?_⟩⟩
        · rintro j x σ Hz H6 hj ⟨v6, kvs2, dn2, rfl, hf6, hd6, df6, dc6, nd6, mem6, k6⟩ ⟨rfl, k, v, q0, ek, rfl, hq0⟩
          have lj : j < (reach dn1 gs).length := by rw [← df6.len]; exact hj
          have eg : (reach dn1 gs)[j]? = some (reach dn1 gs)[j] := List.getElem?_eq_getElem lj
          revert eg
          generalize (reach dn1 gs)[j] = g
          intro eg
          obtain ⟨q1, ea, hq1⟩ := df6.vs j g eg
          rw [ek] at ea
          obtain ⟨rfl, rfl⟩ : k = g.key ∧ v = .ref q1 := ⟨congrArg Prod.fst (Option.some.inj ea), congrArg Prod.snd (Option.some.inj ea)⟩
          have hv : valV more g.key = some (.ref q1) := val_some (by rw [df6.ks]; exact List.Pairwise.map _ (fun a b c e => c (Dg.key_inj e)) rnd) ek
          have l2 : dn2.length ≤ 1000 := by
            have h1 := nd_len nd6 (b := (plAll 0 gss).map (·.1)) fun y hy => by
              rcases (mem6 y).mp hy with c | c
              · exact sub3 y c
              · obtain ⟨n, ln, en⟩ := List.getElem_of_mem (reach_in y (List.mem_of_mem_take c))
                exact in_all egs (List.getElem?_eq_some_iff.mpr ⟨ln, en⟩)
            rw [List.length_map] at h1
            omega
          refine ⟨_, rfl, _, rfl, fd5, .ref q1, rfl, .inr ⟨more, g.key, q0, .inr ⟨od, hf6⟩, rfl, hq0, hv.symm⟩, _, rfl, _, rfl, d, _, rfl, DPut.t (k := g.key) hd6 hq0 (by rw [dc6.len]; exact small1000 (by omega)), ?_⟩
          obtain ⟨dn3, d3, nd3', m3⟩ := dc6.put nd6 hq1
          have tp : Tups H6 (upd H6 d (.dT (putK kvs2 g.key (.ref q1)))) := Tups.upd hd6 fun xs z => by cases z
          refine ⟨_, _, dn3, rfl, by rw [upd_ne nfd.symm]; exact hf6, upd_same, df6.tups tp, d3.tups tp, nd3', fun x => ?_, fun b o e => by rw [upd_ne (ne_of_none e nD)]; exact k6 b o e⟩
          rw [m3, mem6, take_snoc eg, List.mem_append]
          constructor
          · rintro ((c | c) | c)
            · exact .inl c
            · exact .inr (.inl c)
            · exact .inr (.inr (by rw [c]; exact List.mem_cons_self ..))
          · rintro (c | c | c)
            · exact .inl (.inl c)
            · exact .inl (.inr c)
            · rcases List.mem_cons.mp c with z | z
              · exact .inr z
              · cases z
        · rintro σ H6 ⟨v6, kvs2, dn2, rfl, hf6, hd6, df6, dc6, nd6, mem6, k6⟩
          rw [df6.len, List.take_length] at mem6
          have tp : Tups H6 (upd H6 fd5 (.dT more)) := Tups.upd hf6 fun xs z => by cases z
          refine ⟨hf6, _, _, _, _, kvs2, dn2, ⟨rfl, fun b o e => by rw [upd_ne (ne_of_none e nHf)]; exact k6 b o e, by rw [upd_ne nfd]; exact hd6, dc6.tups tp, nd6, fun z hz => ?_⟩, fun z hz => (mem6 z).mpr (.inl (inc3 z hz)), fun k gs' hk ek z hz => ?_⟩
          · rcases (mem6 z).mp hz with c | c
            · exact sub3 z c
            · obtain ⟨n, ln, en⟩ := List.getElem_of_mem (reach_in z c)
              exact in_all egs (List.getElem?_eq_some_iff.mpr ⟨ln, en⟩)
          · by_cases ci : k < i
            · exact (mem6 z).mpr (.inl (don3 k gs' ci ek z hz))
            · have e3 : k = i := by omega
              subst e3
              rw [egs] at ek
              cases ek
              exact (mem6 z).mpr (.inr (reach_sub inc3 z hz))
      · rintro σ H3 ⟨v3, v4, v5, v6, kvs1, dn1, ⟨rfl, sm3, hd3, dc3, nd3, sub3⟩, inc3, don3⟩
        have l0 := nd_len nd inc3
        have l1 := nd_len nd3 sub3
        rw [List.length_map] at l1 don3
        rw [hts] at don3
        by_cases cl : (dn.length : Int) < (dn1.length : Int)
        · refine ⟨_, ?_, (dn.length : Int), v3, v4, v5, v6, kvs1, dn1, ⟨rfl, sm3, hd3, dc3, nd3, sub3⟩, rfl, .inl cl⟩
          rw [if_pos cl, em]
          omega
        · have back := nd_more nd nd3 inc3 (by omega)
          refine ⟨_, ?_, (dn.length : Int), v3, v4, v5, v6, kvs1, dn1, ⟨rfl, sm3, hd3, dc3, nd3, sub3⟩, rfl, .inr fun i gs e x hx => ?_⟩
          · rw [if_neg cl, em]
            omega
          · exact don3 i gs ((List.getElem?_eq_some_iff.mp e).1) e x (reach_sub back x hx)
    · rw [decide_eq_false c]
      refine ⟨_, rfl, q H2 d kvs dn sm nD hd dc nd fun g => ⟨sub g, fun hg => hV.rest (fx.resolve_left c) g hg⟩⟩
end
end Up

set_option Elab.async false
set_option linter.all false
set_option maxRecDepth 100000
set_option maxHeartbeats 4000000
/-! an own class's == against anything, the other way round, and != -/
namespace Up
open PySem PySem.Spec PyProof.Rows L2 PySem.SeqAt
section
variable {prog : Program} {w : World} {A : Around} {E : Value → Shared → Prop} {K : PySem.W.Frag}
/-- a text and an int stand as values -/
def Form (T : String) (u : Value) : Prop := (T = "str" → ∃ z t, u = .str z t) ∧ (T = "int" → ∃ i t, u = .int i t)
/-- how a builtin type's == declines an instance of the class at C -/
structure Decl (K : PySem.W.Frag) (C : Addr) (T : String) : Prop where
  slot : ∃ (id : String) (B : Builtin), Slot T "__eq__" id ∧ entryFor table id = some B ∧ (∀ u v, argsOk id ⟨[u, v], []⟩) ∧
    ∀ {prog : Program} {w : World} {A : Around} {E : Value → Shared → Prop} {Q : PySem.Fin → Shared → Prop} {s : Shared} {u : Value} {a : Addr} {ox : Obj} {od : Option Obj}, K.In s.heap → PySem.W.InstAt s.heap a ox C od → (∀ z, ox.data ≠ .prim z) → s.TypeIs u T → Form T u → Q (.done (.ret .notImplemented)) s →
      wpAny (model prog w) A (B ⟨[u, .ref a], []⟩) Q E s
  sub : PySem.W.subIn K (.ref C) (.type T) = some false
theorem notInst {M : Model} {h : Heap} {a C : Addr} {ox : Obj} {od : Option Obj} {T : String} (X : K.In h) (J : PySem.W.InstAt h a ox C od) (e : PySem.W.subIn K (.ref C) (.type T) = some false) : PySem.W.Looks M h (isInstance (.ref a) (.type T)) false :=
  J.type.andThen (PySem.W.looks_subIn X e)
theorem decl_list {C : Addr} (e : PySem.W.subIn K (.ref C) (.type "list") = some false) : Decl K C "list" := by
  refine ⟨⟨_, _, F.slot_list_eq, F.entry_list_eq, fun u v => F.args_list_eq_2 u v, ?_⟩, e⟩
  intro prog w A E Q s u a ox od X J np hT hF hq
  have L := PySem.W.looks_subIn (M := model prog w) X e
  obtain ⟨ho, hc, _⟩ := J
  obtain ⟨cls, dict, data, slots⟩ := ox
  simp only at hc np
  subst hc
  obtain ⟨hp, g, d, tk, os⟩ := s
  repeat (first | exact hq | with_reducible refine wpAny_loadPart_at ho ?_ | (with_reducible refine L.at ?_) | wp_step)
theorem decl_tuple {C : Addr} (e : PySem.W.subIn K (.ref C) (.type "tuple") = some false) : Decl K C "tuple" := by
  refine ⟨⟨_, _, F.slot_tuple_eq, F.entry_tuple_eq, fun u v => F.args_tuple_eq_2 u v, ?_⟩, e⟩
  intro prog w A E Q s u a ox od X J np hT hF hq
  have L := PySem.W.looks_subIn (M := model prog w) X e
  obtain ⟨ho, hc, _⟩ := J
  obtain ⟨cls, dict, data, slots⟩ := ox
  simp only at hc np
  subst hc
  obtain ⟨hp, g, d, tk, os⟩ := s
  repeat (first | exact hq | with_reducible refine wpAny_loadPart_at ho ?_ | (with_reducible refine L.at ?_) | wp_step)
theorem decl_dict {C : Addr} (e : PySem.W.subIn K (.ref C) (.type "dict") = some false) : Decl K C "dict" := by
  refine ⟨⟨_, _, F.slot_dict_eq, F.entry_dict_eq, fun u v => F.args_dict_eq_2 u v, ?_⟩, e⟩
  intro prog w A E Q s u a ox od X J np hT hF hq
  have L := PySem.W.looks_subIn (M := model prog w) X e
  obtain ⟨ho, hc, _⟩ := J
  obtain ⟨cls, dict, data, slots⟩ := ox
  simp only at hc np
  subst hc
  obtain ⟨hp, g, d, tk, os⟩ := s
  repeat (first | exact hq | with_reducible refine wpAny_loadPart_at ho ?_ | (with_reducible refine L.at ?_) | wp_step)
theorem decl_str {C : Addr} (e : PySem.W.subIn K (.ref C) (.type "str") = some false) : Decl K C "str" := by
  refine ⟨⟨_, _, F.slot_str_eq, F.entry_str_eq, fun u v => F.args_str_eq_2 u v, ?_⟩, e⟩
  intro prog w A E Q s u a ox od X J np hT hF hq
  have L := PySem.W.looks_subIn (M := model prog w) X e
  obtain ⟨ho, hc, _⟩ := J
  obtain ⟨cls, dict, data, slots⟩ := ox
  simp only at hc np
  subst hc
  obtain ⟨hp, g, d, tk, os⟩ := s
  obtain ⟨z, t, rfl⟩ := hF.1 rfl
  cases data <;> first | exact absurd rfl (np _) | skip
  all_goals repeat (first | exact hq | with_reducible refine wpAny_loadPart_at ho ?_ | (with_reducible refine L.at ?_) | wp_step)
theorem decl_int {C : Addr} (e : PySem.W.subIn K (.ref C) (.type "int") = some false) : Decl K C "int" := by
  refine ⟨⟨_, _, F.slot_int_eq, F.entry_int_eq, fun u v => F.args_int_eq_2 u v, ?_⟩, e⟩
  intro prog w A E Q s u a ox od X J np hT hF hq
  have L := PySem.W.looks_subIn (M := model prog w) X e
  obtain ⟨ho, hc, _⟩ := J
  obtain ⟨cls, dict, data, slots⟩ := ox
  simp only at hc np
  subst hc
  obtain ⟨hp, g, d, tk, os⟩ := s
  obtain ⟨z, t, rfl⟩ := hF.2 rfl
  cases data <;> first | exact absurd rfl (np _) | skip
  all_goals repeat (first | exact hq | with_reducible refine wpAny_loadPart_at ho ?_ | (with_reducible refine L.at ?_) | wp_step)
theorem decl_NoneType {C : Addr} (e : PySem.W.subIn K (.ref C) (.type "NoneType") = some false) : Decl K C "NoneType" := by
  refine ⟨⟨_, _, F.slot_NoneType_eq, F.entry_NoneType_eq, fun u v => F.args_NoneType_eq_2 u v, ?_⟩, e⟩
  intro prog w A E Q s u a ox od X J np hT hF hq
  have L := PySem.W.looks_subIn (M := model prog w) X e
  obtain ⟨ho, hc, _⟩ := J
  obtain ⟨cls, dict, data, slots⟩ := ox
  simp only at hc np
  subst hc
  obtain ⟨hp, g, d, tk, os⟩ := s
  repeat (first | exact hq | with_reducible refine wpAny_loadPart_at ho ?_ | (with_reducible refine L.at ?_) | wp_step)
end
end Up

set_option Elab.async false
set_option linter.all false
set_option maxRecDepth 100000
set_option maxHeartbeats 4000000
/-! an own class's == against anything, the other way round, and != -/
namespace Up
open PySem PySem.Spec PyProof.Rows L2 PySem.SeqAt
section
variable {X : Cx} {CX : CXT} {C f : Addr} {n : Nat} {sp : Sp} {E : XK}
theorem looks_type {M : Model} {s : Shared} {u : Value} {T : String} (h : s.TypeIs u T) : PySem.W.Looks M s.heap (typeOf u) (.type T) := by
  cases u with
  | ref a =>
    obtain ⟨o, h1, h2⟩ := (show ∃ o, s.heap.get? a = some o ∧ o.cls = .type T from h)
    have L : PySem.W.Looks M s.heap (loadPart a (some headPart)) o := .ld h1
    exact L.andThen (by rw [h2]; exact .now)
  | _ => exact .of_pure h
theorem form_of {K : PySem.W.Frag} {H : Hp} {x : V} {u : Value} {T : String} (t : TyB K H x T) (r : RelV x u) : Form T u := by
  cases t <;> refine ⟨fun e => ?_, fun e => ?_⟩ <;> first | exact absurd e (by decide) | skip
  all_goals exact ⟨_, r⟩
/-- the callee runs, inside a builtin -/
theorem runR_in1 {pins : List (Addr × Obj)} {σ : L2.St} {H : Hp} {s : Shared} {Q : VK} {us : List Value} {vs : List V} (F : FnR X.prog X.w X.K X.mg X.base CX n f sp) (hr : Room n X.A.in1) (hx : Passes CX X E) (I : Inv X pins σ H s) (r : Vals vs us) (h : sp vs H Q E) :
    codeAny (model X.prog X.w) X.A.in1 (.call (.ref f) ⟨us, []⟩) (fun r s' => match r with | .ok (.ret v) => EP X pins σ Q v s' | .ok _ => False | .error e => X.xe e s') s := by
  refine codeAny_mono (F X.A.in1 X.stack s H us vs Q E hr I.env0.in1 r h) fun r s' hq => ?_
  cases r with
  | error e => exact hx pins σ H s e s' I hq
  | ok fl =>
    cases fl with
    | ret u => exact I.after hq
    | next => exact False.elim hq
    | brk => exact False.elim hq
    | cont => exact False.elim hq
/-- what is known of a value's type -/
inductive TyY (K : PySem.W.Frag) (H : Hp) : V → Value → Prop where
  | b {x : V} {T : String} (t : TyB K H x T) : TyY K H x (.type T)
  | i {b C dx : Addr} {fs : List (Str × V)} (e : H b = some (.ins C dx fs)) : TyY K H (.ref b) (.ref C)
theorem TyY.looks {pins : List (Addr × Obj)} {σ : L2.St} {H : Hp} {s : Shared} {x : V} {u t : Value} {M : Model} (I : Inv X pins σ H s) (r : RelV x u) (y : TyY X.K H x t) : PySem.W.Looks M s.heap (typeOf u) t := by
  cases y with
  | b t => exact looks_type (t.is I r)
  | i e =>
    obtain rfl : u = Value.ref _ := r
    obtain ⟨mA, O, _⟩ := ins_get I.hok e
    obtain ⟨od, J, _⟩ := O.look
    exact J.type
/-- x == y, x an instance of the class at C -/
def rEqO (K : PySem.W.Frag) (C : Addr) (sp : Sp) (E : XK) : R2 := fun x y H Q => ∃ (a dx : Addr) (fs : List (Str × V)) (t : Value), x = .ref a ∧ H a = some (.ins C dx fs) ∧ TyY K H y t ∧ PySem.W.notFirst K C t = true ∧ sp [x, y] H Q E
theorem op_eqO (hs : PySem.W.findIn X.K (.ref C) "__eq__" = some (some (.ref f))) (hf : PySem.W.isFn X.K (.ref f) = true) (F : FnR X.prog X.w X.K X.mg X.base CX n f sp) (hr : Room n X.A) (hx : Passes CX X E) : OpR X (compareOp .Eq) (rEqO X.K C sp E) := by
  intro pins s σ H x y v u Q I rx ry h
  obtain ⟨a, dx, fs, t, rfl, ha, ht, hn, q⟩ := h
  obtain rfl : v = Value.ref a := rx
  obtain ⟨mA, O, _⟩ := ins_get I.hok ha
  obtain ⟨od, J, _⟩ := O.look
  obtain ⟨m, hF⟩ := I.fr
  show wpAny (model X.prog X.w) X.A (richCompare .Eq (.ref a) u) (EP X pins σ Q) X.xe s
  refine PySem.W.cmp_K (op := .Eq) (tb := t) hr.units0 hF I.ok.mod.kin J (ht.looks I ry) hn hs hf ?_
  refine wpAny_mono (wpAny_call (run_fnR (us := [.ref a, u]) (vs := [.ref a, y]) F hr hx I (.cons rfl (.cons ry .nil)) q)) (fun w s' z => ?_) fun _ _ x => x
  obtain ⟨z', H', I', rz, qz⟩ := z
  exact SlX.cmpback rz ⟨z', H', I', rz, qz⟩
/-- x == y, y an instance of the class at C, x of a builtin type -/
def rEqR (K : PySem.W.Frag) (C : Addr) (sp : Sp) (E : XK) : R2 := fun x y H Q => ∃ (a dx : Addr) (fs : List (Str × V)) (T : String), y = .ref a ∧ H a = some (.ins C dx fs) ∧ TyB K H x T ∧ Decl K C T ∧ sp [y, x] H Q E
theorem op_eqR (hs : PySem.W.findIn X.K (.ref C) "__eq__" = some (some (.ref f))) (hf : PySem.W.isFn X.K (.ref f) = true) (F : FnR X.prog X.w X.K X.mg X.base CX n f sp) (hr : Room n X.A) (hx : Passes CX X E) : OpR X (compareOp .Eq) (rEqR X.K C sp E) := by
  intro pins s σ H x y v u Q I rx ry h
  obtain ⟨a, dx, fs, T, rfl, ha, ht, D, q⟩ := h
  obtain rfl : u = Value.ref a := ry
  obtain ⟨mA, O, _⟩ := ins_get I.hok ha
  obtain ⟨od, J, _⟩ := O.look
  have hT := ht.is I rx
  have LT : PySem.W.Looks (model X.prog X.w) s.heap (typeOf v) (.type T) := looks_type hT
  obtain ⟨id, B, S, hB, hA, hD⟩ := D.slot
  have two : wpAny (model X.prog X.w) X.A (tryCompare (.ref a) "__eq__" v) (fun r s' => ∃ z, r = some z ∧ EP X pins σ Q z s') X.xe s := by
    unfold tryCompare
    refine wpAny_bind (PySem.W.ifBound_K I.kIn J hs hf (wpAny_mono (wpAny_call (run_fnR (us := [.ref a, v]) (vs := [.ref a, x]) F hr hx I (.cons rfl (.cons rx .nil)) q)) (fun z s' hz => ?_) fun _ _ e => e))
    obtain ⟨z', H', I', rz, qz⟩ := hz
    have back := SlX.cmpback rz (P := EP X pins σ Q) ⟨z', H', I', rz, qz⟩
    cases z <;> first | exact back.elim | exact wpAny_pure ⟨_, rfl, back⟩
  show wpAny (model X.prog X.w) X.A (richCompare .Eq v (.ref a)) (EP X pins σ Q) X.xe s
  unfold richCompare
  rw [hT.oneThing_none]
  refine wpAny_holding (wpAny_bind (wpAny_cRoomFor hr.units0 ?_))
  refine wpAny_bind (LT.here (wpAny_bind (J.type.here ?_)))
  have ne : ((Value.type T) != (Value.ref C)) = true := rfl
  simp only [ne, if_true]
  refine wpAny_bind ((PySem.W.looks_subIn I.kIn D.sub).here ?_)
  simp only [Bool.false_eq_true, if_false]
  refine wpAny_bind ?_
  have one : wpAny (model X.prog X.w) X.A (tryCompare v (cmpInfo .Eq).2.1 (.ref a)) (fun r s' => r = none ∧ s' = s) X.xe s := by
    unfold tryCompare
    refine wpAny_bind (wpAny_callSpecialIfBound?_slot hT S (wpAny_call (codeAny_call_builtin S.plain hB (S.check _ _ _ _ _ _ _ _ hT (hA _ _) (hD I.kIn J (fun z c => nomatch c) hT (form_of ht rx) ?_)))))
    exact wpAny_pure ⟨rfl, rfl⟩
  refine wpAny_mono one (fun r s' z => ?_) fun _ _ e => e
  obtain ⟨rfl, rfl⟩ := z
  refine wpAny_bind (wpAny_mono two (fun r s' z => ?_) fun _ _ e => e)
  obtain ⟨z, rfl, hz⟩ := z
  exact wpAny_pure hz
/-- x != y, both instances of the class at C -/
def rNeO (C : Addr) (sp : Sp) (E : XK) : R2 := fun x y H Q => ∃ (a dx b dy : Addr) (fs gs : List (Str × V)), x = .ref a ∧ y = .ref b ∧ H a = some (.ins C dx fs) ∧ H b = some (.ins C dy gs) ∧ sp [x, y] H (fun v H' => ∃ r : Bool, v = .bl r ∧ Q (.bl (!r)) H') E
theorem op_neO (hs : PySem.W.findIn X.K (.ref C) "__eq__" = some (some (.ref f))) (hf : PySem.W.isFn X.K (.ref f) = true) (hne : PySem.W.findIn X.K (.ref C) "__ne__" = some (some (.builtin "object.__ne__"))) (hmo : PySem.W.mroIn X.K C (.type "object") = some true)
    (F : FnR X.prog X.w X.K X.mg X.base CX n f sp) (hr : Room (n + 1) X.A) (hx : Passes CX X E) : OpR X (compareOp .NotEq) (rNeO C sp E) := by
  intro pins s σ H x y v u Q I rx ry h
  obtain ⟨a, dx, b, dy, fs, gs, rfl, rfl, ha, hb, q⟩ := h
  obtain rfl : v = Value.ref a := rx
  obtain rfl : u = Value.ref b := ry
  obtain ⟨mA, O, _⟩ := ins_get I.hok ha
  obtain ⟨od, J, _⟩ := O.look
  obtain ⟨mB, O', _⟩ := ins_get I.hok hb
  obtain ⟨od', J', _⟩ := O'.look
  show wpAny (model X.prog X.w) X.A (richCompare .NotEq (.ref a) (.ref b)) (EP X pins σ Q) X.xe s
  unfold richCompare
  simp only [oneThing_ref]
  refine wpAny_holding (wpAny_bind (wpAny_cRoomFor hr.units0 ?_))
  refine wpAny_bind (J.type.here (wpAny_bind (J'.type.here ?_)))
  rw [show (Value.ref C != Value.ref C) = false by simp]
  simp only [Bool.false_eq_true, if_false]
  refine wpAny_bind (wpAny_pure ?_)
  simp only [Bool.false_eq_true, if_false]
  refine wpAny_bind ?_
  have sub : PySem.W.Looks (model X.prog X.w) s.heap (isInstance (.ref a) (.type "object")) true := J.type.andThen (PySem.W.looks_mroIn I.kIn hmo)
  have hu := hr.units0
  have one : wpAny (model X.prog X.w) X.A (tryCompare (.ref a) (cmpInfo .NotEq).2.1 (.ref b)) (fun r s' => ∃ z, r = some z ∧ EP X pins σ Q z s') X.xe s := by
    unfold tryCompare
    have st : wpAny (model X.prog X.w) X.A (callSpecialIfBound? (.ref a) (cmpInfo .NotEq).2.1 [.ref b]) (fun o s' => ∃ z, o = some (.bool z) ∧ EP X pins σ Q (.bool z) s') X.xe s := by
      simp only [callSpecialIfBound?, bindSpecialIfBound?]
      refine wpAny_holding (wpAny_bind (wpAny_bind (wpAny_bind (J.type.here ((PySem.W.looks_findIn I.kIn hne).here ?_)))))
      simp only [PySem.F.cmp_object.ne.bind]
      have fin : wpAny (model X.prog X.w) X.A (call (.builtin "object.__ne__") ([.ref a] ++ [.ref b]) >>= fun v => pure (some v)) (fun o s' => ∃ z, o = some (.bool z) ∧ EP X pins σ Q (.bool z) s') X.xe s := by
        refine wpAny_bind (wpAny_call (codeAny_call_builtin PySem.F.cmp_object.ne.plain PySem.F.cmpEntry_ne (PySem.W.check_slot (self := .ref a) (rest := [.ref b]) (kw := []) PySem.F.cmpKind_ne PySem.F.cmpSplit_ne sub (PySem.F.cmpArgs_ne _ _) ?_)))
        obtain ⟨hp, g, d, tk, os⟩ := s
        unfold Builtin.«object.__ne__»
        have eq1 : wpAny (model X.prog X.w) X.A.in1 (callSpecialIfBound? (.ref a) "__eq__" [.ref b]) (fun o s' => ∃ r : Bool, o = some (.bool r) ∧ EP X pins σ Q (.bool (!r)) s') X.xe ⟨hp, g, d, tk, os⟩ := by
          refine PySem.W.ifBound_K I.kIn J hs hf (wpAny_mono (wpAny_call (runR_in1 F hr.in1 hx I (us := [.ref a, .ref b]) (vs := [.ref a, .ref b]) (.cons rfl (.cons rfl .nil)) q)) (fun w s' z => ?_) fun _ _ e => e)
          obtain ⟨z', H', I', rz, r, ez, qz⟩ := z
          subst ez
          obtain rfl : w = Value.bool r := rz
          exact ⟨r, rfl, .bl (!r), H', I', rfl, qz⟩
        have hu1 : X.A.in1.units < cLine := hr.in1.units0
        repeat (first | with_reducible refine wpAny_cRoomFor hu1 ?_ | refine wpAny_bind (m := callSpecialIfBound? (.ref a) (Str.ofString "__eq__") [.ref b]) (wpAny_mono eq1 (fun o s' hz => ?_) fun _ _ e => e) | wp_step)
        obtain ⟨r, rfl, hz⟩ := hz
        refine wpAny_bind (m := truthy (.bool r)) (wpAny_truthy_bool ?_)
        exact wpAny_pure (wpAny_pure ⟨_, rfl, hz⟩)
      refine wpAny_bind (wpAny_askSetting (wpAny_ite ?_))
      split
      · exact wpAny_bind (wpAny_pure (wpAny_pure fin))
      · exact wpAny_tryCatch (wpAny_bind (wpAny_pure (wpAny_pure fin)))
    refine wpAny_bind (wpAny_mono st (fun o s' z => ?_) fun _ _ e => e)
    obtain ⟨z, rfl, hz⟩ := z
    exact wpAny_pure ⟨_, rfl, hz⟩
  refine wpAny_mono one (fun r s' z => ?_) fun _ _ e => e
  obtain ⟨z, rfl, hz⟩ := z
  exact wpAny_pure hz
end
end Up

namespace Up
open PySem PySem.Spec PyProof.Rows L2
/-! ### Talk.__eq__ -/
def dgD (g : Dg) : PyData := .tuple [.str g.word, .int (g.l : Int)]
def rowD (gs : List Dg) : PyData := .tuple (gs.map dgD)
def rowsD (gss : List (List Dg)) : PyData := .tuple (gss.map rowD)
theorem DpAll.of {K : PySem.W.Frag} {H : Hp} {α : Type} {f : α → PyData} : ∀ {vs : List V} {as : List α}, vs.length = as.length → (∀ (i : Nat) v a, vs[i]? = some v → as[i]? = some a → Dp K H v (f a)) → DpAll K H vs (as.map f)
  | [], [], _, _ => .nil
  | v :: vs, a :: as, l, h => .cons (h 0 v a rfl rfl) (DpAll.of (by simpa using l) fun i v' a' e1 e2 => h (i + 1) v' a' e1 e2)
theorem RowsD.data {K : PySem.W.Frag} {H : Hp} {p : Addr} {gss : List (List Dg)} (h : RowsD H p gss) : Dp K H (.ref p) (rowsD gss) := by
  obtain ⟨ts, h1, h2, h3⟩ := h.ex
  refine .tup (.inl (.inl h1)) (DpAll.of (by rw [List.length_map]; exact h2) fun i v gs e1 e2 => ?_)
  obtain ⟨t, et, rfl⟩ := map_get e1
  obtain ⟨qs, k1, k2, k3⟩ := h3 i t gs et e2
  refine .tup (.inl (.inl k1)) (DpAll.of (by rw [List.length_map]; exact k2) fun j v g e3 e4 => ?_)
  obtain ⟨q, eq, rfl⟩ := map_get e3
  exact .tup (.inl (.inl (k3 j q g eq e4))) (.cons (.str _) (.cons (.int _) .nil))
theorem dgD_eqv (g g' : Dg) : PyData.eqv (dgD g) (dgD g') = decide (g = g') := by
  obtain ⟨s, l⟩ := g
  obtain ⟨s', l'⟩ := g'
  simp only [dgD, PyData.eqv, PyData.eqvAll, Dg.word]
  cases s <;> cases s' <;> by_cases c : l = l'
  all_goals first | subst c | skip
  all_goals simp [*]
  all_goals first | omega | decide | skip
theorem all_eqv {α : Type} [DecidableEq α] {f : α → PyData} (h : ∀ a b, PyData.eqv (f a) (f b) = decide (a = b)) : ∀ as bs : List α, PyData.eqvAll (as.map f) (bs.map f) = decide (as = bs)
  | [], [] => rfl
  | [], _ :: _ => rfl
  | _ :: _, [] => rfl
  | a :: as, b :: bs => by
    show (PyData.eqv (f a) (f b) && PyData.eqvAll (as.map f) (bs.map f)) = _
    rw [h, all_eqv h as bs]
    by_cases c : a = b <;> by_cases d : as = bs <;> simp [c, d]
theorem rowD_eqv (a b : List Dg) : PyData.eqv (rowD a) (rowD b) = decide (a = b) := by
  show PyData.eqvAll (a.map dgD) (b.map dgD) = _
  exact all_eqv dgD_eqv a b
theorem rowsD_eqv (a b : List (List Dg)) : PyData.eqv (rowsD a) (rowsD b) = decide (a = b) := by
  show PyData.eqvAll (a.map rowD) (b.map rowD) = _
  exact all_eqv rowD_eqv a b
theorem all_can {α : Type} {f : α → PyData} {n : Nat} (h : ∀ a, (f a).canLay0 = true ∧ (f a).depth ≤ n) : ∀ as : List α, PyData.canLayAll0 (as.map f) = true ∧ PyData.depthAll (as.map f) ≤ n
  | [] => by simp [PyData.canLayAll0, PyData.depthAll]
  | a :: as => by
    have h1 := h a
    have h2 := all_can h as
    simp only [List.map_cons, PyData.canLayAll0, PyData.depthAll, h1.1, h2.1, Bool.and_self, true_and]
    omega
theorem rowsD_shaped (gss : List (List Dg)) : SeqAt.shaped (rowsD gss) = true := by
  have h1 : ∀ g, (dgD g).canLay0 = true ∧ (dgD g).depth ≤ 1 := fun g => by
    have e1 : PyData.strOk g.word = true := by
      unfold Dg.word
      split <;> decide +kernel
    exact ⟨by simp only [dgD, PyData.canLay0, PyData.canLayAll0, e1]; rfl, by simp [dgD, PyData.depth, PyData.depthAll]⟩
  have h2 : ∀ gs, (rowD gs).canLay0 = true ∧ (rowD gs).depth ≤ 2 := fun gs => by
    have h := all_can h1 gs
    exact ⟨by simp only [rowD, PyData.canLay0]; exact h.1, by simp only [rowD, PyData.depth]; omega⟩
  have h := all_can h2 gss
  unfold SeqAt.shaped rowsD
  rw [Bool.and_eq_true]
  exact ⟨by simp only [PyData.canLay0]; exact h.1, decide_eq_true (by simp only [PyData.depth]; omega)⟩
/-- what a comparison sees of a talk -/
structure RowsOf (H : Hp) (x C : Addr) (gss : List (List Dg)) : Prop where
  ex : ∃ (dx r : Addr) (fs : List (Str × V)), H x = some (.ins C dx fs) ∧ fs.lookup ("rows" : Str) = some (.ref r) ∧ RowsD H r gss
theorem RowsOf.same {H H' : Hp} {x C : Addr} {gss : List (List Dg)} (s : Same H H') (h : RowsOf H x C gss) : RowsOf H' x C gss := by
  obtain ⟨dx, r, fs, h1, h2, h3⟩ := h.ex
  exact ⟨dx, r, fs, s _ _ h1, h2, h3.same s⟩
theorem TalkAt.rows {H : Hp} {x C : Addr} {gss : List (List Dg)} {many : Nat} {S G : Nat → Nat} {Ck : Dg → List Int} (t : TalkAt H x C gss many S G Ck) : RowsOf H x C gss := by
  obtain ⟨dx, r, p, s, g, c, kvs, ckv, dn, h1, h2, _⟩ := t.ex
  exact ⟨dx, r, _, h1, rfl, h2⟩
/-- what is asked of the class for isinstance(.., Talk) -/
structure IsTalk (K : PySem.W.Frag) (C : Addr) : Prop where
  ha : PySem.W.findIn K (.ref C) "__class__" = some (some (.builtin "object.__class__"))
  hn : PySem.W.specialIn K (.builtin "object.__class__") "__get__" = some (some (.builtin "getset_descriptor.__get__"))
  htk : PySem.W.takesIn K (.builtin "object.__class__") = some true
  hm : PySem.W.mroIn K C (.type "object") = some true
  self : PySem.W.kitOne K (.ref C) (.ref C) = some true
def spTEq (K : PySem.W.Frag) (C : Addr) : Sp := fun vs H Q _ => ∃ (x : Addr) (y : V) (gss : List (List Dg)), vs = [.ref x, y] ∧ RowsOf H x C gss ∧
  ((∃ t : Value, TyX K H y t ∧ PySem.W.kitOne K t (.ref C) = some false ∧ Q (.bl false) H) ∨ ∃ (z : Addr) (gss' : List (List Dg)), y = .ref z ∧ RowsOf H z C gss' ∧ Q (.bl (decide (gss = gss'))) H)
section
variable {P : Program} {w : World} {K : PySem.W.Frag} {mg : Str → Option Value} {base : Heap}
theorem ok_teq {f C fCo fPl fCn fCh fHa fCl : Addr} {fd : FuncData} (F : Fun K "__eq__" "Talk.__eq__" s_teq f fd) (T : TxtT K mg C fCo fPl fCn fCh fHa fCl) (J : IsTalk K C) : FnOk P w K mg base CX0 1 f fd ["self", "other"] (spTEq K C) := by
  refine F.ok sc_teq (fun vs H Q E h => ?_) (fun cdv A outer s H vs Q E hr h => ?_)
  · obtain ⟨x, y, gss, rfl, _⟩ := h
    rfl
  · obtain ⟨x, y, gss, rfl, hx, h⟩ := h
    have hu : (A.deeper (envOfC "Talk.__eq__" (defScope s_teq) s.heap.objs.size f cdv)).units + 64 < cLine := by
      have := hr.un
      omega
    refine ⟨_, (pss_one (ps_ret (pe_and (pe_callB call_isi (by rfl) T.isinstance bb_isinstance (pa_cons (pv 1) (pa_cons (pe_glob (v := .ref C) rfl T.g_Talk rfl) pa_nil))) (pe_one (pe_cmpR (op_eqD hu) (pe_fld (pv 0) rfl) (pe_fld (pv 1) rfl) (nomark _)))))), ?_⟩
    obtain ⟨dx, r, fs, ex, er, hR⟩ := hx.ex
    rcases h with ⟨t, ht, ek, q⟩ | ⟨z, gss', rfl, hz, q⟩
    · exact ⟨_, rfl, _, _, _, _, _, rfl, .own C, ht, ek, false, rfl, q⟩
    · obtain ⟨dz, r', fz, ez, er', hR'⟩ := hz.ex
      refine ⟨_, rfl, _, _, _, _, _, rfl, .own C, .base (.ins ez T.cl J.ha J.hn J.htk J.hm), J.self, true, rfl, ?_⟩
      rw [if_pos rfl]
      refine ⟨_, rfl, x, C, dx, fs, _, rfl, ex, T.cl, T.nRows, er, _, rfl, z, C, dz, fz, _, rfl, ez, T.cl, T.nRows, er', _, _, hR.data, hR'.data, rowsD_shaped _, rowsD_shaped _, ?_⟩
      rw [rowsD_eqv]
      exact q
end
end Up

/-! defs read as plain functions: values as trees, expressions as functions of the names' values -/
namespace Up
open PySem PySem.Spec PyProof.Rows L2
/-- where the classes stand, and the world -/
structure Cm where
  cls : Nat → Addr
  w : World
  tabs : List (Addr × Str)
inductive Val where
  | non
  | bl (b : Bool)
  | int (i : Int)
  | str (x : Str)
  | lst (xs : List Val)
  | tup (xs : List Val)
  | dct (ks : List (List Key)) (xs : List Val)
  | ins (c : Nat) (ns : List Str) (xs : List Val)
  | set (xs : List Int)
  | dk0
  | exc (c : Nat) (ns : List Str) (xs : List Val)
  | loc (a : Addr)
  | idk (kis : List (Int × Int))
def idkH (kis : List (Int × Int)) : List (Key × V) := kis.map fun p => (.inl p.1, .int p.2)
/-- the tree of a value; nothing of it stands where P holds -/
inductive Rep (cm : Cm) (P : Addr → Prop) (H : Hp) : Bool → List V → List Val → Prop where
  | nil : Rep cm P H false [] []
  | cons {v : V} {vs : List V} {x : Val} {xs : List Val} : Rep cm P H true [v] [x] → Rep cm P H false vs xs → Rep cm P H false (v :: vs) (x :: xs)
  | non : Rep cm P H true [.non] [.non]
  | bl (b : Bool) : Rep cm P H true [.bl b] [.bl b]
  | int (i : Int) : Rep cm P H true [.int i] [.int i]
  | str (x : Str) : Rep cm P H true [.str x] [.str x]
  | lst {a : Addr} {vs : List V} {xs : List Val} : ¬ P a → H a = some (.lst vs) → Rep cm P H false vs xs → Rep cm P H true [.ref a] [.lst xs]
  | tup {a : Addr} {vs : List V} {xs : List Val} : ¬ P a → H a = some (.tup vs) → Rep cm P H false vs xs → Rep cm P H true [.ref a] [.tup xs]
  | dct {a : Addr} {kvs : List (List Key × V)} {ks : List (List Key)} {vs : List V} {xs : List Val} : ¬ P a → H a = some (.dT kvs) → kvs.length = ks.length → vs.length = ks.length →
      (∀ (i : Nat) (k : List Key) (v : V), ks[i]? = some k → vs[i]? = some v → valV kvs k = some v) → (∀ k, k ∉ ks → valV kvs k = none) → Rep cm P H false vs xs → Rep cm P H true [.ref a] [.dct ks xs]
  | ins {a dx : Addr} {c : Nat} {fs : List (Str × V)} {xs : List Val} : ¬ P a → H a = some (.ins (cm.cls c) dx fs) → Rep cm P H false (fs.map (·.2)) xs → Rep cm P H true [.ref a] [.ins c (fs.map (·.1)) xs]
  | set {a : Addr} {S : Int → Bool} {n : Nat} {xs : List Int} : ¬ P a → H a = some (SetO cm.w a S n) → (∀ i, S i = decide (i ∈ xs)) → n = xs.length → Rep cm P H true [.ref a] [.set xs]
  | dk0 {a : Addr} : ¬ P a → H a = some (.dK []) → Rep cm P H true [.ref a] [.dk0]
  | exc {a : Addr} {c : Nat} {d : Option Addr} {fs : List (Str × V)} {xs : List Val} : ¬ P a → H a = some (exo a (cm.cls c) d) → (∀ d', d = some d' → ¬ P d' ∧ H d' = some (exd d' fs)) → (d = none → fs = []) → Rep cm P H false (fs.map (·.2)) xs → Rep cm P H true [.ref a] [.exc c (fs.map (·.1)) xs]
  | loc (a : Addr) : Rep cm P H true [.ref a] [.loc a]
  | idk {a : Addr} {kis : List (Int × Int)} : ¬ P a → H a = some (.dK (idkH kis)) → Rep cm P H true [.ref a] [.idk kis]
abbrev Re (cm : Cm) (P : Addr → Prop) (H : Hp) (v : V) (x : Val) : Prop := Rep cm P H true [v] [x]
abbrev Res (cm : Cm) (P : Addr → Prop) (H : Hp) (vs : List V) (xs : List Val) : Prop := Rep cm P H false vs xs
/-- what stands outside P stays -/
def Keep (P : Addr → Prop) (H H' : Hp) : Prop := ∀ b o, H b = some o → ¬ P b → H' b = some o
theorem Keep.of {P : Addr → Prop} {H H' : Hp} (s : Same H H') : Keep P H H' := fun b o e _ => s b o e
theorem Keep.refl {P : Addr → Prop} {H : Hp} : Keep P H H := fun _ _ e _ => e
theorem Keep.trans {P : Addr → Prop} {H H1 H2 : Hp} (a : Keep P H H1) (b : Keep P H1 H2) : Keep P H H2 := fun c o e n => b c o (a c o e n) n
section
variable {cm : Cm} {P P' : Addr → Prop} {H H' : Hp}
theorem Rep.keep (s : Keep P H H') : ∀ {b : Bool} {vs : List V} {xs : List Val}, Rep cm P H b vs xs → Rep cm P H' b vs xs := fun h => by
  induction h with
  | nil => exact .nil
  | cons _ _ i1 i2 => exact .cons i1 i2
  | non => exact .non
  | bl b => exact .bl b
  | int i => exact .int i
  | str x => exact .str x
  | lst n e _ ih => exact .lst n (s _ _ e n) ih
  | tup n e _ ih => exact .tup n (s _ _ e n) ih
  | dct n e l1 l2 g1 g2 _ ih => exact .dct n (s _ _ e n) l1 l2 g1 g2 ih
  | ins n e _ ih => exact .ins n (s _ _ e n) ih
  | set n e h1 h2 => exact .set n (s _ _ e n) h1 h2
  | dk0 n e => exact .dk0 n (s _ _ e n)
  | exc n e k z _ ih => exact .exc n (s _ _ e n) (fun d' q => ⟨(k d' q).1, s _ _ (k d' q).2 (k d' q).1⟩) z ih
  | loc a => exact .loc a
  | idk n e => exact .idk n (s _ _ e n)
theorem Rep.same (s : Same H H') {b : Bool} {vs : List V} {xs : List Val} (h : Rep cm P H b vs xs) : Rep cm P H' b vs xs := h.keep (.of s)
/-- less is hidden -/
theorem Rep.less (s : ∀ a, P' a → P a) : ∀ {b : Bool} {vs : List V} {xs : List Val}, Rep cm P H b vs xs → Rep cm P' H b vs xs := fun h => by
  induction h with
  | nil => exact .nil
  | cons _ _ i1 i2 => exact .cons i1 i2
  | non => exact .non
  | bl b => exact .bl b
  | int i => exact .int i
  | str x => exact .str x
  | lst n e _ ih => exact .lst (fun c => n (s _ c)) e ih
  | tup n e _ ih => exact .tup (fun c => n (s _ c)) e ih
  | dct n e l1 l2 g1 g2 _ ih => exact .dct (fun c => n (s _ c)) e l1 l2 g1 g2 ih
  | ins n e _ ih => exact .ins (fun c => n (s _ c)) e ih
  | set n e h1 h2 => exact .set (fun c => n (s _ c)) e h1 h2
  | dk0 n e => exact .dk0 (fun c => n (s _ c)) e
  | exc n e k z _ ih => exact .exc (fun c => n (s _ c)) e (fun d' q => ⟨fun c => (k d' q).1 (s _ c), (k d' q).2⟩) z ih
  | loc a => exact .loc a
  | idk n e => exact .idk (fun c => n (s _ c)) e
theorem Res.length {vs : List V} {xs : List Val} (h : Res cm P H vs xs) : vs.length = xs.length := by
  have k : ∀ (b : Bool) (vs : List V) (xs : List Val), Rep cm P H b vs xs → b = false → vs.length = xs.length := fun b vs xs h => by
    induction h with
    | nil => exact fun _ => rfl
    | cons _ _ _ i2 => exact fun e => congrArg (· + 1) (i2 e)
    | _ => exact fun e => nomatch e
  exact k _ _ _ h rfl
theorem Res.get : ∀ {vs : List V} {xs : List Val} {i : Nat} {x : Val}, Res cm P H vs xs → xs[i]? = some x → ∃ v, vs[i]? = some v ∧ Re cm P H v x
  | _, _, i, _, .nil, e => by simp at e
  | _, _, 0, _, .cons h _, e => by
    simp at e
    subst e
    exact ⟨_, rfl, h⟩
  | _, _, i + 1, _, .cons _ t, e => by
    obtain ⟨v, h1, h2⟩ := Res.get (i := i) t (by simpa using e)
    exact ⟨v, by simpa using h1, h2⟩
theorem Res.getV {vs : List V} {xs : List Val} {i : Nat} {v : V} (h : Res cm P H vs xs) (e : vs[i]? = some v) : ∃ x, xs[i]? = some x ∧ Re cm P H v x := by
  have lt := (List.getElem?_eq_some_iff.mp e).1
  rw [h.length] at lt
  obtain ⟨v', h1, h2⟩ := h.get (List.getElem?_eq_getElem lt)
  rw [e] at h1
  cases h1
  exact ⟨_, List.getElem?_eq_getElem lt, h2⟩
theorem Res.of : ∀ {vs : List V} {xs : List Val}, vs.length = xs.length → (∀ (i : Nat) v x, vs[i]? = some v → xs[i]? = some x → Re cm P H v x) → Res cm P H vs xs
  | [], [], _, _ => .nil
  | v :: vs, x :: xs, l, h => .cons (h 0 v x rfl rfl) (Res.of (by simpa using l) fun i v' x' e1 e2 => h (i + 1) v' x' e1 e2)
theorem Res.append : ∀ {vs ws : List V} {xs ys : List Val}, Res cm P H vs xs → Res cm P H ws ys → Res cm P H (vs ++ ws) (xs ++ ys)
  | _, _, _, _, .nil, s => s
  | _, _, _, _, .cons r t, s => .cons r (Res.append t s)
theorem Res.snoc {vs : List V} {xs : List Val} {v : V} {x : Val} (h : Res cm P H vs xs) (r : Re cm P H v x) : Res cm P H (vs ++ [v]) (xs ++ [x]) := h.append (.cons r .nil)
end
/-- hidden things stand somewhere, and are no tuples -/
def NT (H : Hp) (a : Addr) : Prop := ∃ o, H a = some o ∧ ∀ vs, o ≠ .tup vs
theorem NT.ne {H : Hp} {a : Addr} (h : NT H a) : H a ≠ none := by
  obtain ⟨o, e, _⟩ := h
  rw [e]
  exact fun z => nomatch z
theorem NT.same {H H' : Hp} {a : Addr} (s : Same H H') (h : NT H a) : NT H' a := by
  obtain ⟨o, e, n⟩ := h
  exact ⟨o, s _ _ e, n⟩
def Hid (P : Addr → Prop) (H : Hp) : Prop := ∀ a, P a → NT H a
theorem Hid.same {P : Addr → Prop} {H H' : Hp} (s : Same H H') (h : Hid P H) : Hid P H' := fun a p => (h a p).same s
theorem Hid.new {P : Addr → Prop} {H : Hp} (h : Hid P H) {a : Addr} (n : H a = none) : ¬ P a := fun p => (h a p).ne n
theorem Hid.tup {P : Addr → Prop} {H : Hp} (h : Hid P H) {a : Addr} {vs : List V} (e : H a = some (.tup vs)) : ¬ P a := fun p => by
  obtain ⟨o, e1, n⟩ := h a p
  rw [e] at e1
  cases e1
  exact n _ rfl
/-! ### the names' values -/
abbrev En := List (Option Val)
structure Slots (cm : Cm) (P : Addr → Prop) (H : Hp) (σ : L2.St) (env : En) : Prop where
  len : σ.length = env.length
  at_ : ∀ (i : Nat) (x : Val), env[i]? = some (some x) → ∃ v, σ[i]? = some (some v) ∧ Re cm P H v x
  hid : Hid P H
section
variable {cm : Cm} {P P' : Addr → Prop} {H H' : Hp} {σ : L2.St} {env : En}
theorem Slots.keep (s : Keep P H H') (hd : Hid P H') (h : Slots cm P H σ env) : Slots cm P H' σ env := ⟨h.len, fun i x e => let ⟨v, h1, h2⟩ := h.at_ i x e; ⟨v, h1, h2.keep s⟩, hd⟩
theorem Slots.same (s : Same H H') (h : Slots cm P H σ env) : Slots cm P H' σ env := h.keep (.of s) (h.hid.same s)
theorem Slots.set (h : Slots cm P H σ env) {i : Nat} {v : V} {x : Val} (r : Re cm P H v x) : Slots cm P H (σ.set i (some v)) (env.set i (some x)) := by
  refine ⟨by rw [List.length_set, List.length_set]; exact h.len, fun j y e => ?_, h.hid⟩
  by_cases c : i = j
  · subst c
    have lt := (List.getElem?_eq_some_iff.mp e).1
    rw [List.length_set] at lt
    rw [List.getElem?_set_self lt] at e
    cases e
    exact ⟨v, List.getElem?_set_self (by rw [h.len]; exact lt), r⟩
  · rw [List.getElem?_set_ne c] at e ⊢
    exact h.at_ j y e
theorem Slots.out (h : Slots cm P H σ env) {i : Nat} {o : Option V} : Slots cm P H (σ.set i o) (env.set i none) := by
  refine ⟨by rw [List.length_set, List.length_set]; exact h.len, fun j y e => ?_, h.hid⟩
  by_cases c : i = j
  · subst c
    have lt := (List.getElem?_eq_some_iff.mp e).1
    rw [List.length_set] at lt
    rw [List.getElem?_set_self lt] at e
    cases e
  · rw [List.getElem?_set_ne c] at e ⊢
    exact h.at_ j y e
def wipeE (env : En) : List Nat → En
  | [] => env
  | v :: vs => (wipeE env vs).set v none
theorem Slots.wipe (h : Slots cm P H σ env) : ∀ vs : List Nat, Slots cm P H (L2.wipe σ vs) (wipeE env vs)
  | [] => h
  | v :: vs => (Slots.wipe h vs).out
theorem wipe_set {σ : L2.St} {i : Nat} {o : Option V} : ∀ {vs : List Nat}, i ∈ vs → L2.wipe (σ.set i o) vs = L2.wipe σ vs
  | v :: vs, h => by
    show (L2.wipe (σ.set i o) vs).set v none = (L2.wipe σ vs).set v none
    by_cases c : i ∈ vs
    · rw [wipe_set c]
    · have e : i = v := by
        rcases List.mem_cons.mp h with z | z
        · exact z
        · exact absurd z c
      subst e
      have k : ∀ (ws : List Nat), i ∉ ws → L2.wipe (σ.set i o) ws = (L2.wipe σ ws).set i o := by
        intro ws
        induction ws with
        | nil => exact fun _ => rfl
        | cons w ws ih =>
          intro hn
          have n1 : i ≠ w := fun z => hn (z ▸ List.mem_cons_self ..)
          show (L2.wipe (σ.set i o) ws).set w none = ((L2.wipe σ ws).set w none).set i o
          rw [ih fun z => hn (List.mem_cons_of_mem _ z), List.set_comm _ _ n1]
      rw [k vs c, List.set_set]
theorem wipe_wipe {σ : L2.St} : ∀ {vs ws : List Nat}, (∀ i ∈ ws, i ∈ vs) → L2.wipe (L2.wipe σ ws) vs = L2.wipe σ vs
  | vs, [], _ => rfl
  | vs, w :: ws, h => by
    show L2.wipe ((L2.wipe σ ws).set w none) vs = _
    rw [wipe_set (h w (List.mem_cons_self ..)), wipe_wipe fun i hi => h i (List.mem_cons_of_mem _ hi)]
end
/-! ### readings that are functions -/
def tV (cm : Cm) (f : En → Option Val) : TE := fun σ H Q => ∃ (P : Addr → Prop) (env : En) (x : Val), Slots cm P H σ env ∧ f env = some x ∧ ∀ v H', Same H H' → Re cm P H' v x → Q v H'
def tVT (cm : Cm) (f : En → Option Bool) : TT := fun σ H Q => ∃ (P : Addr → Prop) (env : En) (b : Bool), Slots cm P H σ env ∧ f env = some b ∧ ∀ H', Same H H' → Q b H'
def tVA (cm : Cm) (f : En → Option (List Val)) : TA := fun σ H Q => ∃ (P : Addr → Prop) (env : En) (xs : List Val), Slots cm P H σ env ∧ f env = some xs ∧ ∀ vs H', Same H H' → Res cm P H' vs xs → Q vs H'
abbrev VE (X : Cx) (cm : Cm) (e : Expr) (f : En → Option Val) : Prop := PE X e (tV cm f)
abbrev VT (X : Cx) (cm : Cm) (e : Expr) (f : En → Option Bool) : Prop := PT X e (tVT cm f)
abbrev VA (X : Cx) (cm : Cm) (es : List Expr) (f : En → Option (List Val)) : Prop := PA X es (tVA cm f)
section
variable {X : Cx} {cm : Cm} {a b c e : Expr} {es : List Expr} {f g h : En → Option Val} {pos : Pos}
theorem _root_.L2.PE.weak {t t' : TE} (h : PE X e t) (k : ∀ σ H Q, t' σ H Q → t σ H Q) : PE X e t' := ⟨fun pins s σ H Q I q => h.run pins s σ H Q I (k σ H Q q)⟩
theorem _root_.L2.PT.weak {t t' : TT} (h : PT X e t) (k : ∀ σ H Q, t' σ H Q → t σ H Q) : PT X e t' := ⟨fun pins s σ H Q I q => h.run pins s σ H Q I (k σ H Q q)⟩
theorem _root_.L2.PA.weak {t t' : TA} (h : PA X es t) (k : ∀ σ H Q, t' σ H Q → t σ H Q) : PA X es t' := ⟨fun pos pins s σ H Q I q => h.run pos pins s σ H Q I (k σ H Q q)⟩
def getE (i : Nat) : En → Option Val := fun env => (env[i]?).join
theorem ve_var {i : Nat} {x : Str} (hN : X.N[i]? = some x) (hv : Vis X.env.scope x) (hd : (x == ("__debug__" : Str)) = false := by decide) (hcd : (x == ("__classdict__" : Str)) = false := by decide) : VE X cm (.Name x pos) (getE i) := by
  refine (pe_var hN hv hd hcd).weak fun σ H Q ⟨P, env, x, hs, hf, q⟩ => ?_
  unfold getE at hf
  obtain ⟨v, h1, h2⟩ := hs.at_ i x (by
    cases e : env[i]? with
    | none => rw [e] at hf; cases hf
    | some o =>
      rw [e] at hf
      cases o with
      | none => cases hf
      | some y => cases hf; rfl)
  exact ⟨v, h1, q v H (Same.refl H) h2⟩
def cst (x : Val) : En → Option Val := fun _ => some x
theorem ve_int {i j} : VE X cm (.Constant (.int i) j pos) (cst (.int i)) := pe_int.weak fun σ H Q ⟨P, env, x, hs, hf, q⟩ => by
  cases hf
  exact q _ H (Same.refl H) (.int i)
theorem ve_bl {k : Bool} {j} : VE X cm (.Constant (.bool k) j pos) (cst (.bl k)) := pe_bl.weak fun σ H Q ⟨P, env, x, hs, hf, q⟩ => by
  cases hf
  exact q _ H (Same.refl H) (.bl k)
theorem ve_non {j} : VE X cm (.Constant .none j pos) (cst .non) := pe_non.weak fun σ H Q ⟨P, env, x, hs, hf, q⟩ => by
  cases hf
  exact q _ H (Same.refl H) .non
theorem ve_str {z : Str} {j} : VE X cm (.Constant (.str z) j pos) (cst (.str z)) := pe_str.weak fun σ H Q ⟨P, env, x, hs, hf, q⟩ => by
  cases hf
  exact q _ H (Same.refl H) (.str z)
theorem ve_glob {x : Str} {i : Int} {t : Tok} (hg : Gl X x) (hm : X.mg x = some (.int i t)) (hd : (x == ("__debug__" : Str)) = false := by decide) : VE X cm (.Name x pos) (cst (.int i)) :=
  (pe_glob (v := .int i) hg hm ⟨t, rfl⟩ hd).weak fun σ H Q ⟨P, env, x, hs, hf, q⟩ => by
    cases hf
    exact q _ H (Same.refl H) (.int i)
/-! ### two values by an operator -/
/-- what an operator's rule gives, told by trees -/
def OpV (cm : Cm) (r : R2) (op : Val → Val → Option Val) : Prop := ∀ (P : Addr → Prop) (x y z : Val) (v u : V) (H : Hp) (Q : VK), op x y = some z → Re cm P H v x → Re cm P H u y → (∀ v' H', Same H H' → Re cm P H' v' z → Q v' H') → r v u H Q
def bin2 (op : Val → Val → Option Val) (f g : En → Option Val) : En → Option Val := fun env => (f env).bind fun x => (g env).bind fun y => op x y
theorem tV_two {r : R2} {op : Val → Val → Option Val} (o : OpV cm r op) (σ : L2.St) (H : Hp) (Q : VK) (q : tV cm (bin2 op f g) σ H Q) : tOp r (tV cm f) (tV cm g) σ H Q := by
  obtain ⟨P, env, z, hs, hf, q⟩ := q
  unfold bin2 at hf
  obtain ⟨x, ex, hf⟩ := Option.bind_eq_some_iff.mp hf
  obtain ⟨y, ey, hf⟩ := Option.bind_eq_some_iff.mp hf
  refine ⟨P, env, x, hs, ex, fun v H1 s1 r1 => ⟨P, env, y, hs.same s1, ey, fun u H2 s2 r2 => ?_⟩⟩
  exact o P x y z v u H2 Q hf (r1.same s2) r2 fun v' H3 s3 r3 => q v' H3 (s1.trans (s2.trans s3)) r3
theorem ve_op {op : Operator} {r : R2} {k : Val → Val → Option Val} (ho : OpR X (binaryOp op) r) (o : OpV cm r k) (ha : VE X cm a f) (hb : VE X cm b g) : VE X cm (.BinOp a op b pos) (bin2 k f g) := (pe_op ho ha hb).weak (tV_two o)
theorem ve_cmp {op : CmpOp} {r : R2} {k : Val → Val → Option Val} (ho : OpR X (compareOp op) r) (o : OpV cm r k) (ha : VE X cm a f) (hb : VE X cm b g) (hm : behindInMarks op b = false) : VE X cm (.Compare a [op] [b] pos) (bin2 k f g) := (pe_cmpR ho ha hb hm).weak (tV_two o)
def isB : Val → Option Bool
  | .bl b => some b
  | _ => none
def tst (f : En → Option Val) : En → Option Bool := fun env => (f env).bind isB
theorem isB_some {x : Val} {k : Bool} (h : isB x = some k) : x = .bl k := by
  cases x <;> cases h
  rfl
theorem tV_test (σ : L2.St) (H : Hp) (Q : Bool → Hp → Prop) (q : tVT cm (tst f) σ H Q) : ∀ R : VK, (∀ k H', Q k H' → R (.bl k) H') → tV cm f σ H R := fun R hR => by
  obtain ⟨P, env, k, hs, hf, q⟩ := q
  unfold tst at hf
  obtain ⟨x, ex, hf⟩ := Option.bind_eq_some_iff.mp hf
  cases isB_some hf
  refine ⟨P, env, _, hs, ex, fun v H1 s1 r1 => ?_⟩
  cases r1
  exact hR _ _ (q H1 s1)
theorem vt_cmp {op : CmpOp} {r : R2} {k : Val → Val → Option Val} (ho : OpR X (compareOp op) r) (o : OpV cm r k) (ha : VE X cm a f) (hb : VE X cm b g) (hm : behindInMarks op b = false) : VT X cm (.Compare a [op] [b] pos) (tst (bin2 k f g)) :=
  (pt_cmpR ho ha hb hm).weak fun σ H Q q => tV_two o σ H _ (tV_test σ H Q q _ fun k H' q => ⟨k, rfl, q⟩)
theorem vt_val (h : VE X cm e f) (he : ∀ whole, isTrue e X.env whole = (do let v ← whole; standAt e.pos; holding [v] (truthy v)) := by intro _; rfl) : VT X cm e (tst f) :=
  (pt_val h he).weak fun σ H Q q => tV_test σ H Q q _ fun k H' q => ⟨k, rfl, q⟩
/-! ### and, or, not; one or the other -/
def andF (f g : En → Option Val) : En → Option Val := fun env => (f env).bind fun x => (isB x).bind fun k => if k = true then g env else some (.bl false)
def orF (f g : En → Option Val) : En → Option Val := fun env => (f env).bind fun x => (isB x).bind fun k => if k = true then some (.bl true) else g env
def notF (f : En → Option Val) : En → Option Val := fun env => (f env).bind fun x => (isB x).bind fun k => some (.bl (!k))
theorem ve_one {op} (h : VE X cm a f) : VE X cm (.BoolOp op [a] pos) f := pe_one h
theorem ve_and {rest : List Expr} (ha : VE X cm a f) (hb : VE X cm (.BoolOp .And (b :: rest) pos) g) : VE X cm (.BoolOp .And (a :: b :: rest) pos) (andF f g) :=
  (pe_and ha hb).weak fun σ H Q ⟨P, env, z, hs, hf, q⟩ => by
    unfold andF at hf
    obtain ⟨x, ex, h1⟩ := Option.bind_eq_some_iff.mp hf
    obtain ⟨k, ek, h2⟩ := Option.bind_eq_some_iff.mp h1
    clear hf h1
    cases isB_some ek
    refine ⟨P, env, _, hs, ex, fun v H1 s1 r1 => ?_⟩
    cases r1
    refine ⟨k, rfl, ?_⟩
    by_cases c : k = true
    · rw [if_pos c] at h2 ⊢
      exact ⟨P, env, z, hs.same s1, h2, fun v H2 s2 r2 => q v H2 (s1.trans s2) r2⟩
    · rw [if_neg c] at h2 ⊢
      cases h2
      exact q _ H1 s1 (.bl false)
theorem ve_or {rest : List Expr} (ha : VE X cm a f) (hb : VE X cm (.BoolOp .Or (b :: rest) pos) g) : VE X cm (.BoolOp .Or (a :: b :: rest) pos) (orF f g) :=
  (pe_or ha hb).weak fun σ H Q ⟨P, env, z, hs, hf, q⟩ => by
    unfold orF at hf
    obtain ⟨x, ex, h1⟩ := Option.bind_eq_some_iff.mp hf
    obtain ⟨k, ek, h2⟩ := Option.bind_eq_some_iff.mp h1
    clear hf h1
    cases isB_some ek
    refine ⟨P, env, _, hs, ex, fun v H1 s1 r1 => ?_⟩
    cases r1
    refine ⟨k, rfl, ?_⟩
    by_cases c : k = true
    · rw [if_pos c] at h2 ⊢
      cases h2
      exact q _ H1 s1 (.bl true)
    · rw [if_neg c] at h2 ⊢
      exact ⟨P, env, z, hs.same s1, h2, fun v H2 s2 r2 => q v H2 (s1.trans s2) r2⟩
theorem ve_not (ha : VE X cm a f) : VE X cm (.UnaryOp .Not a pos) (notF f) :=
  (pe_not ha).weak fun σ H Q ⟨P, env, z, hs, hf, q⟩ => by
    unfold notF at hf
    obtain ⟨x, ex, h1⟩ := Option.bind_eq_some_iff.mp hf
    obtain ⟨k, ek, h2⟩ := Option.bind_eq_some_iff.mp h1
    clear hf h1
    cases isB_some ek
    cases h2
    refine ⟨P, env, _, hs, ex, fun v H1 s1 r1 => ?_⟩
    cases r1
    exact ⟨k, rfl, q _ H1 s1 (.bl _)⟩
abbrev VW (X : Cx) (cm : Cm) (e : Expr) (f : En → Option Bool) : Prop := PW X e (tVT cm f)
theorem _root_.L2.PW.weak {t t' : TT} (h : PW X e t) (k : ∀ σ H Q, t' σ H Q → t σ H Q) : PW X e t' := ⟨fun wh pins s σ H Q I q => h.run wh pins s σ H Q I (k σ H Q q)⟩
def andT (f g : En → Option Bool) : En → Option Bool := fun env => (f env).bind fun k => if k = true then g env else some false
def orT (f g : En → Option Bool) : En → Option Bool := fun env => (f env).bind fun k => if k = true then some true else g env
def notT (f : En → Option Bool) : En → Option Bool := fun env => (f env).bind fun k => some (!k)
theorem vw_and1 {f : En → Option Bool} (ha : VT X cm a f) : VW X cm (.BoolOp .And [a] pos) f := pw_and1 ha
theorem vw_or1 {f : En → Option Bool} (ha : VT X cm a f) : VW X cm (.BoolOp .Or [a] pos) f := pw_or1 ha
theorem vw_and {f g : En → Option Bool} {rest : List Expr} (ha : VT X cm a f) (hb : VW X cm (.BoolOp .And (b :: rest) pos) g) : VW X cm (.BoolOp .And (a :: b :: rest) pos) (andT f g) :=
  (pw_and ha hb).weak fun σ H Q ⟨P, env, z, hs, hf, q⟩ => by
    unfold andT at hf
    obtain ⟨k, ek, hf⟩ := Option.bind_eq_some_iff.mp hf
    refine ⟨P, env, k, hs, ek, fun H1 s1 => ?_⟩
    by_cases c : k = true
    · rw [if_pos c] at hf ⊢
      exact ⟨P, env, z, hs.same s1, hf, fun H2 s2 => q H2 (s1.trans s2)⟩
    · rw [if_neg c] at hf ⊢
      cases hf
      exact q H1 s1
theorem vw_or {f g : En → Option Bool} {rest : List Expr} (ha : VT X cm a f) (hb : VW X cm (.BoolOp .Or (b :: rest) pos) g) : VW X cm (.BoolOp .Or (a :: b :: rest) pos) (orT f g) :=
  (pw_or ha hb).weak fun σ H Q ⟨P, env, z, hs, hf, q⟩ => by
    unfold orT at hf
    obtain ⟨k, ek, hf⟩ := Option.bind_eq_some_iff.mp hf
    refine ⟨P, env, k, hs, ek, fun H1 s1 => ?_⟩
    by_cases c : k = true
    · rw [if_pos c] at hf ⊢
      cases hf
      exact q H1 s1
    · rw [if_neg c] at hf ⊢
      exact ⟨P, env, z, hs.same s1, hf, fun H2 s2 => q H2 (s1.trans s2)⟩
theorem vt_not {f : En → Option Bool} (ha : VT X cm a f) : VT X cm (.UnaryOp .Not a pos) (notT f) :=
  (pt_not ha).weak fun σ H Q ⟨P, env, z, hs, hf, q⟩ => by
    unfold notT at hf
    obtain ⟨k, ek, hf⟩ := Option.bind_eq_some_iff.mp hf
    cases hf
    exact ⟨P, env, k, hs, ek, fun H1 s1 => q H1 s1⟩
def iteF (c : En → Option Bool) (f g : En → Option Val) : En → Option Val := fun env => (c env).bind fun k => if k = true then f env else g env
theorem ve_ite {k : En → Option Bool} (hc : VT X cm c k) (ha : VE X cm a f) (hb : VE X cm b g) : VE X cm (.IfExp c a b pos) (iteF k f g) :=
  (pe_ifExp hc ha hb).weak fun σ H Q ⟨P, env, z, hs, hf, q⟩ => by
    unfold iteF at hf
    obtain ⟨k, ek, hf⟩ := Option.bind_eq_some_iff.mp hf
    refine ⟨P, env, k, hs, ek, fun H1 s1 => ?_⟩
    by_cases c : k = true
    · rw [if_pos c] at hf ⊢
      exact ⟨P, env, z, hs.same s1, hf, fun v H2 s2 => q v H2 (s1.trans s2)⟩
    · rw [if_neg c] at hf ⊢
      exact ⟨P, env, z, hs.same s1, hf, fun v H2 s2 => q v H2 (s1.trans s2)⟩
/-! ### lists of arguments, tuples, lists -/
def noF : En → Option (List Val) := fun _ => some []
def consF (f : En → Option Val) (g : En → Option (List Val)) : En → Option (List Val) := fun env => (f env).bind fun x => (g env).bind fun xs => some (x :: xs)
theorem va_nil : VA X cm [] noF := pa_nil.weak fun σ H Q ⟨P, env, z, hs, hf, q⟩ => by
  cases hf
  exact q [] H (Same.refl H) .nil
theorem va_cons {k : En → Option (List Val)} (ha : VE X cm e f) (hr : VA X cm es k) (hs : starEach (e :: es) X.env = (false, eval e X.env) :: starEach es X.env := by rfl) : VA X cm (e :: es) (consF f k) :=
  (pa_cons ha hr hs).weak fun σ H Q ⟨P, env, z, hs, hf, q⟩ => by
    unfold consF at hf
    obtain ⟨x, ex, hf⟩ := Option.bind_eq_some_iff.mp hf
    obtain ⟨xs, ey, hf⟩ := Option.bind_eq_some_iff.mp hf
    cases hf
    exact ⟨P, env, x, hs, ex, fun v H1 s1 r1 => ⟨P, env, xs, hs.same s1, ey, fun vs H2 s2 r2 => q (v :: vs) H2 (s1.trans s2) (.cons (r1.same s2) r2)⟩⟩
/-- a new place, not hidden -/
def most : Nat := 100000
theorem most_line {n : Nat} (h : n ≤ most) : n < sizeLine := by
  unfold most at h
  rw [sizeLine_eq]
  omega
def tupF (g : En → Option (List Val)) : En → Option Val := fun env => (g env).bind fun xs => if xs.length ≤ most then some (.tup xs) else none
def lstF (g : En → Option (List Val)) : En → Option Val := fun env => (g env).bind fun xs => if xs.length ≤ most then some (.lst xs) else none
end
end Up

namespace Up
open PySem PySem.Spec PyProof.Rows L2
section
variable {cm : Cm} {P : Addr → Prop} {H : Hp}
theorem Re.int_ {v : V} {i : Int} (h : Re cm P H v (.int i)) : v = .int i := by cases h; rfl
theorem Re.bl_ {v : V} {k : Bool} (h : Re cm P H v (.bl k)) : v = .bl k := by cases h; rfl
theorem Re.str_ {v : V} {z : Str} (h : Re cm P H v (.str z)) : v = .str z := by cases h; rfl
theorem Re.non_ {v : V} (h : Re cm P H v .non) : v = .non := by cases h; rfl
theorem Re.lst_ {v : V} {xs : List Val} (h : Re cm P H v (.lst xs)) : ∃ a vs, v = .ref a ∧ ¬ P a ∧ H a = some (.lst vs) ∧ Res cm P H vs xs := by
  cases h with
  | lst n e r => exact ⟨_, _, rfl, n, e, r⟩
theorem Re.tup_ {v : V} {xs : List Val} (h : Re cm P H v (.tup xs)) : ∃ a vs, v = .ref a ∧ ¬ P a ∧ H a = some (.tup vs) ∧ Res cm P H vs xs := by
  cases h with
  | tup n e r => exact ⟨_, _, rfl, n, e, r⟩
theorem Res.one {vs : List V} {x : Val} (h : Res cm P H vs [x]) : ∃ v, vs = [v] ∧ Re cm P H v x := by
  cases h with
  | cons r t =>
    cases t
    exact ⟨_, rfl, r⟩
theorem Res.two {vs : List V} {x y : Val} (h : Res cm P H vs [x, y]) : ∃ v u, vs = [v, u] ∧ Re cm P H v x ∧ Re cm P H u y := by
  cases h with
  | cons r t =>
    obtain ⟨u, rfl, r2⟩ := Res.one t
    exact ⟨_, _, rfl, r, r2⟩
end
/-! ### operators -/
section
variable {cm : Cm}
def iop (g : Int → Int → Val) : Val → Val → Option Val
  | .int i, .int j => some (g i j)
  | _, _ => none
theorem iop_some {g : Int → Int → Val} {x y z : Val} (h : iop g x y = some z) : ∃ i j, x = .int i ∧ y = .int j ∧ z = g i j := by
  unfold iop at h
  split at h
  · cases h
    exact ⟨_, _, rfl, rfl, rfl⟩
  · cases h
theorem ov_I0 {g : Int → Int → V} {k : Int → Int → Val} (hk : ∀ i j (P : Addr → Prop) (H : Hp), Re cm P H (g i j) (k i j)) : OpV cm (rI0 g) (iop k) := fun P x y z v u H Q e rx ry q => by
  obtain ⟨i, j, rfl, rfl, rfl⟩ := iop_some e
  cases rx.int_
  cases ry.int_
  exact ⟨i, j, rfl, rfl, q _ H (Same.refl H) (hk i j P H)⟩
theorem ov_add : OpV cm (rI0 fun i j => .int (i + j)) (iop fun i j => .int (i + j)) := ov_I0 fun i j P H => .int _
theorem ov_sub : OpV cm (rI0 fun i j => .int (i - j)) (iop fun i j => .int (i - j)) := ov_I0 fun i j P H => .int _
theorem ov_lt : OpV cm (rI0 fun i j => .bl (decide (i < j))) (iop fun i j => .bl (decide (i < j))) := ov_I0 fun i j P H => .bl _
theorem ov_le : OpV cm (rI0 fun i j => .bl (decide (i ≤ j))) (iop fun i j => .bl (decide (i ≤ j))) := ov_I0 fun i j P H => .bl _
theorem ov_gt : OpV cm (rI0 fun i j => .bl (decide (j < i))) (iop fun i j => .bl (decide (j < i))) := ov_I0 fun i j P H => .bl _
theorem ov_ge : OpV cm (rI0 fun i j => .bl (decide (j ≤ i))) (iop fun i j => .bl (decide (j ≤ i))) := ov_I0 fun i j P H => .bl _
/-- with a condition on the ints -/
def iopC (c : Int → Int → Bool) (g : Int → Int → Val) : Val → Val → Option Val
  | .int i, .int j => if c i j = true then some (g i j) else none
  | _, _ => none
theorem ov_IC {C : Int → Int → Prop} {c : Int → Int → Bool} {g : Int → Int → V} {k : Int → Int → Val} (hc : ∀ i j, c i j = true → C i j) (hk : ∀ i j (P : Addr → Prop) (H : Hp), Re cm P H (g i j) (k i j)) : OpV cm (rI C g) (iopC c k) := fun P x y z v u H Q e rx ry q => by
  unfold iopC at e
  split at e
  · split at e
    · cases e
      cases rx.int_
      cases ry.int_
      exact ⟨_, _, rfl, rfl, hc _ _ (by assumption), q _ H (Same.refl H) (hk _ _ P H)⟩
    · cases e
  · cases e
theorem ov_mul : OpV cm (rI CMul fun i j => .int (i * j)) (iopC (fun i j => decide (-(2 ^ 64) < i ∧ i < 2 ^ 64)) fun i j => .int (i * j)) := ov_IC (fun i j h => .inl (of_decide_eq_true h)) fun i j P H => .int _
theorem ov_mod : OpV cm (rI (fun _ j => 0 < j) fun i j => .int (i % j)) (iopC (fun _ j => decide (0 < j)) fun i j => .int (i % j)) := ov_IC (fun i j h => of_decide_eq_true h) fun i j P H => .int _
theorem ov_fdiv : OpV cm (rI CDiv fun i j => .int (i / j)) (iopC (fun _ j => decide (0 < j ∧ j < 1073741824)) fun i j => .int (i / j)) := ov_IC (fun i j h => (show 0 < j ∧ j < 1073741824 from of_decide_eq_true h)) fun i j P H => .int _
def isNV (neg : Bool) : Val → Val → Option Val
  | .non, .non => some (.bl (!neg))
  | _, .non => some (.bl neg)
  | _, _ => none
theorem Re.non_iff {P : Addr → Prop} {H : Hp} {v : V} {x : Val} (h : Re cm P H v x) : v = .non ↔ x = .non := by
  cases h <;> simp
theorem isNV_some {neg : Bool} {x y z : Val} (h : isNV neg x y = some z) : y = .non ∧ ((x = .non ∧ z = .bl (!neg)) ∨ (x ≠ .non ∧ z = .bl neg)) := by
  unfold isNV at h
  split at h
  · cases h
    exact ⟨rfl, .inl ⟨rfl, rfl⟩⟩
  · cases h
    refine ⟨rfl, .inr ⟨fun z => ?_, rfl⟩⟩
    subst z
    simp_all
  · cases h
theorem ov_isN : OpV cm (fun x y H Q => y = .non ∧ Q (.bl (decide (x = .non))) H) (isNV false) := fun P x y z v u H Q e rx ry q => by
  obtain ⟨rfl, h⟩ := isNV_some e
  refine ⟨ry.non_, ?_⟩
  rcases h with ⟨h, rfl⟩ | ⟨h, rfl⟩
  · rw [decide_eq_true (rx.non_iff.mpr h)]
    exact q _ H (Same.refl H) (.bl _)
  · rw [decide_eq_false fun c => h (rx.non_iff.mp c)]
    exact q _ H (Same.refl H) (.bl _)
theorem ov_notN : OpV cm (fun x y H Q => y = .non ∧ Q (.bl (!decide (x = .non))) H) (isNV true) := fun P x y z v u H Q e rx ry q => by
  obtain ⟨rfl, h⟩ := isNV_some e
  refine ⟨ry.non_, ?_⟩
  rcases h with ⟨h, rfl⟩ | ⟨h, rfl⟩
  · rw [decide_eq_true (rx.non_iff.mpr h)]
    exact q _ H (Same.refl H) (.bl _)
  · rw [decide_eq_false fun c => h (rx.non_iff.mp c)]
    exact q _ H (Same.refl H) (.bl _)
/-! data: == and != -/
mutual
def dataV : Val → Option PyData
  | .non => some .none
  | .bl b => some (.bool b)
  | .int i => some (.int i)
  | .str x => some (.str x)
  | .lst xs => (dataVs xs).map .list
  | .tup xs => (dataVs xs).map .tuple
  | _ => none
def dataVs : List Val → Option (List PyData)
  | [] => some []
  | x :: xs => (dataV x).bind fun d => (dataVs xs).bind fun ds => some (d :: ds)
end
theorem Rep.data {K : PySem.W.Frag} {P : Addr → Prop} {H : Hp} : ∀ {b : Bool} {vs : List V} {xs : List Val}, Rep cm P H b vs xs →
    (b = true → ∀ v x d, vs = [v] → xs = [x] → dataV x = some d → Dp K H v d) ∧ (b = false → ∀ ds, dataVs xs = some ds → DpAll K H vs ds) := fun h => by
  induction h with
  | nil => exact ⟨(fun e => nomatch e), fun _ ds e => by rw [dataVs] at e; cases e; exact .nil⟩
  | cons r t i1 i2 =>
    refine ⟨(fun e => nomatch e), fun _ ds e => ?_⟩
    rw [dataVs] at e
    obtain ⟨d, e1, e⟩ := Option.bind_eq_some_iff.mp e
    obtain ⟨ds', e2, e⟩ := Option.bind_eq_some_iff.mp e
    cases e
    exact .cons (i1.1 rfl _ _ _ rfl rfl e1) (i2.2 rfl _ e2)
  | non => exact ⟨fun _ v x d h1 h2 e => by cases h1; cases h2; rw [dataV] at e; cases e; exact .non, (fun e => nomatch e)⟩
  | bl b => exact ⟨fun _ v x d h1 h2 e => by cases h1; cases h2; rw [dataV] at e; cases e; exact .bl _, (fun e => nomatch e)⟩
  | int i => exact ⟨fun _ v x d h1 h2 e => by cases h1; cases h2; rw [dataV] at e; cases e; exact .int _, (fun e => nomatch e)⟩
  | str z => exact ⟨fun _ v x d h1 h2 e => by cases h1; cases h2; rw [dataV] at e; cases e; exact .str _, (fun e => nomatch e)⟩
  | lst n hh r ih =>
    refine ⟨fun _ v x d h1 h2 e => ?_, (fun e => nomatch e)⟩
    cases h1
    cases h2
    rw [dataV] at e
    obtain ⟨ds, e1, rfl⟩ := Option.map_eq_some_iff.mp e
    exact .lst (.inl (.inl hh)) (ih.2 rfl _ e1)
  | tup n hh r ih =>
    refine ⟨fun _ v x d h1 h2 e => ?_, (fun e => nomatch e)⟩
    cases h1
    cases h2
    rw [dataV] at e
    obtain ⟨ds, e1, rfl⟩ := Option.map_eq_some_iff.mp e
    exact .tup (.inl (.inl hh)) (ih.2 rfl _ e1)
  | dct n hh l1 l2 g1 g2 r ih =>
    refine ⟨fun _ v x d h1 h2 e => ?_, (fun e => nomatch e)⟩
    cases h1
    cases h2
    simp [dataV] at e
  | ins n hh r ih =>
    refine ⟨fun _ v x d h1 h2 e => ?_, (fun e => nomatch e)⟩
    cases h1
    cases h2
    simp [dataV] at e
  | set n hh k1 k2 =>
    refine ⟨fun _ v x d h1 h2 e => ?_, (fun e => nomatch e)⟩
    cases h1
    cases h2
    simp [dataV] at e
  | dk0 n hh =>
    refine ⟨fun _ v x d h1 h2 e => ?_, (fun e => nomatch e)⟩
    cases h1
    cases h2
    simp [dataV] at e
  | exc n hh k1 k2 r ih =>
    refine ⟨fun _ v x d h1 h2 e => ?_, (fun e => nomatch e)⟩
    cases h1
    cases h2
    simp [dataV] at e
  | loc a =>
    refine ⟨fun _ v x d h1 h2 e => ?_, (fun e => nomatch e)⟩
    cases h1
    cases h2
    simp [dataV] at e
  | idk n hh =>
    refine ⟨fun _ v x d h1 h2 e => ?_, (fun e => nomatch e)⟩
    cases h1
    cases h2
    simp [dataV] at e
theorem Re.data {K : PySem.W.Frag} {P : Addr → Prop} {H : Hp} {v : V} {x : Val} {d : PyData} (h : Re cm P H v x) (e : dataV x = some d) : Dp K H v d := (Rep.data h).1 rfl _ _ _ rfl rfl e
def eqF (neg : Bool) (x y : Val) : Option Val := (dataV x).bind fun d => (dataV y).bind fun e => if (SeqAt.shaped d && SeqAt.shaped e) = true then some (.bl (if neg then !PyData.eqv d e else PyData.eqv d e)) else none
theorem eqF_some {neg : Bool} {x y z : Val} (h : eqF neg x y = some z) : ∃ d e, dataV x = some d ∧ dataV y = some e ∧ SeqAt.shaped d = true ∧ SeqAt.shaped e = true ∧ z = .bl (if neg then !PyData.eqv d e else PyData.eqv d e) := by
  unfold eqF at h
  obtain ⟨d, e1, h⟩ := Option.bind_eq_some_iff.mp h
  obtain ⟨e, e2, h⟩ := Option.bind_eq_some_iff.mp h
  split at h
  · cases h
    have c : (SeqAt.shaped d && SeqAt.shaped e) = true := by assumption
    rw [Bool.and_eq_true] at c
    exact ⟨d, e, e1, e2, c.1, c.2, rfl⟩
  · cases h
theorem ov_eq {K : PySem.W.Frag} : OpV cm (rEqD K) (eqF false) := fun P x y z v u H Q e rx ry q => by
  obtain ⟨d, d2, e1, e2, s1, s2, rfl⟩ := eqF_some e
  exact ⟨d, d2, rx.data e1, ry.data e2, s1, s2, q _ H (Same.refl H) (.bl _)⟩
theorem ov_ne {K : PySem.W.Frag} : OpV cm (rNeD K) (eqF true) := fun P x y z v u H Q e rx ry q => by
  obtain ⟨d, d2, e1, e2, s1, s2, rfl⟩ := eqF_some e
  exact ⟨d, d2, rx.data e1, ry.data e2, s1, s2, q _ H (Same.refl H) (.bl _)⟩
/-! flat things: in, not in; keys -/
def flatOf : Val → Option V
  | .non => some .non
  | .bl b => some (.bl b)
  | .int i => some (.int i)
  | .str x => some (.str x)
  | _ => none
theorem flatOf_re {P : Addr → Prop} {H : Hp} {v w : V} {x : Val} (h : Re cm P H v x) (e : flatOf x = some w) : v = w ∧ flatV v = true := by
  cases h <;> cases e <;> exact ⟨rfl, rfl⟩
def flats : List Val → Option (List V)
  | [] => some []
  | x :: xs => (flatOf x).bind fun v => (flats xs).bind fun vs => some (v :: vs)
theorem flats_re {P : Addr → Prop} {H : Hp} : ∀ {vs ws : List V} {xs : List Val}, Res cm P H vs xs → flats xs = some ws → vs = ws ∧ vs.all flatV = true
  | _, _, _, .nil, e => by
    cases e
    exact ⟨rfl, rfl⟩
  | _, _, _, .cons r t, e => by
    unfold flats at e
    obtain ⟨w, e1, e⟩ := Option.bind_eq_some_iff.mp e
    obtain ⟨ws, e2, e⟩ := Option.bind_eq_some_iff.mp e
    cases e
    obtain ⟨rfl, k1⟩ := flatOf_re r e1
    obtain ⟨rfl, k2⟩ := flats_re t e2
    exact ⟨rfl, by rw [List.all_cons, k1, k2]; rfl⟩
def itemsOf : Val → Option (List Val)
  | .lst xs => some xs
  | .tup xs => some xs
  | _ => none
theorem itemsOf_re {K : PySem.W.Frag} {P : Addr → Prop} {H : Hp} {v : V} {x : Val} {xs : List Val} (h : Re cm P H v x) (e : itemsOf x = some xs) : ∃ p vs, v = .ref p ∧ (SqL K H p vs ∨ SqT K H p vs) ∧ Res cm P H vs xs := by
  cases h <;> cases e
  · exact ⟨_, _, rfl, .inl (.inl (.inl (by assumption))), by assumption⟩
  · exact ⟨_, _, rfl, .inr (.inl (.inl (by assumption))), by assumption⟩
def inF (neg : Bool) (x y : Val) : Option Val := (flatOf x).bind fun v => (itemsOf y).bind fun ys => (flats ys).bind fun ws => some (.bl (if neg then !inV v ws else inV v ws))
theorem ov_in {K : PySem.W.Frag} {neg : Bool} : OpV cm (rIn K neg) (inF neg) := fun P x y z v u H Q e rx ry q => by
  unfold inF at e
  obtain ⟨w, e1, e⟩ := Option.bind_eq_some_iff.mp e
  obtain ⟨ys, e2, e⟩ := Option.bind_eq_some_iff.mp e
  obtain ⟨ws, e3, e⟩ := Option.bind_eq_some_iff.mp e
  cases e
  obtain ⟨rfl, f1⟩ := flatOf_re rx e1
  obtain ⟨p, vs, rfl, hs, rs⟩ := itemsOf_re (K := K) ry e2
  obtain ⟨rfl, f2⟩ := flats_re rs e3
  exact ⟨p, vs, rfl, hs, f1, f2, q _ H (Same.refl H) (.bl _)⟩
/-! subscripts -/
theorem atI_re {P : Addr → Prop} {H : Hp} {vs : List V} {xs : List Val} {i : Int} {x : Val} (h : Res cm P H vs xs) (e : atI xs i = some x) : ∃ v, atI vs i = some v ∧ Re cm P H v x := by
  unfold atI at e ⊢
  rw [h.length]
  obtain ⟨j, e1, e2⟩ := Option.bind_eq_some_iff.mp e
  obtain ⟨v, h1, h2⟩ := h.get e2
  exact ⟨v, by rw [e1]; exact h1, h2⟩
def ixL : Val → Val → Option Val
  | .lst xs, .int i => atI xs i
  | _, _ => none
def ixT : Val → Val → Option Val
  | .tup xs, .int i => atI xs i
  | _, _ => none
theorem ov_ixL {K : PySem.W.Frag} : OpV cm (rIxL K) ixL := fun P x y z v u H Q e rx ry q => by
  unfold ixL at e
  split at e
  · obtain ⟨a, vs, rfl, n, h, r⟩ := rx.lst_
    cases ry.int_
    obtain ⟨w, h1, h2⟩ := atI_re r e
    exact ⟨a, vs, _, w, rfl, rfl, .inl (.inl h), h1, q _ H (Same.refl H) h2⟩
  · cases e
theorem ov_ixT {K : PySem.W.Frag} : OpV cm (rIxT K) ixT := fun P x y z v u H Q e rx ry q => by
  unfold ixT at e
  split at e
  · obtain ⟨a, vs, rfl, n, h, r⟩ := rx.tup_
    cases ry.int_
    obtain ⟨w, h1, h2⟩ := atI_re r e
    exact ⟨a, vs, _, w, rfl, rfl, .inl (.inl h), h1, q _ H (Same.refl H) h2⟩
  · cases e
def keyOf : Val → Option Key
  | .int i => some (.inl i)
  | .str x => some (.inr x)
  | _ => none
def keysOf : List Val → Option (List Key)
  | [] => some []
  | x :: xs => (keyOf x).bind fun k => (keysOf xs).bind fun ks => some (k :: ks)
theorem keysOf_re {P : Addr → Prop} {H : Hp} : ∀ {vs : List V} {xs : List Val} {ks : List Key}, Res cm P H vs xs → keysOf xs = some ks → vs = ks.map kV
  | _, _, _, .nil, e => by
    cases e
    rfl
  | _, _, _, .cons r t, e => by
    unfold keysOf at e
    obtain ⟨k, e1, e⟩ := Option.bind_eq_some_iff.mp e
    obtain ⟨ks, e2, e⟩ := Option.bind_eq_some_iff.mp e
    cases e
    rw [keysOf_re t e2]
    cases r <;> cases e1 <;> rfl
def tkey : Val → Option (List Key)
  | .tup xs => keysOf xs
  | _ => none
theorem tkey_re {P : Addr → Prop} {H : Hp} {v : V} {x : Val} {k : List Key} (h : Re cm P H v x) (e : tkey x = some k) : ∃ b, v = .ref b ∧ H b = some (.tup (k.map kV)) := by
  unfold tkey at e
  split at e
  · obtain ⟨a, vs, rfl, n, hh, r⟩ := h.tup_
    exact ⟨a, rfl, by rw [hh, keysOf_re r e]⟩
  · cases e
def lookK (k : List Key) : List (List Key) → List Val → Option Val
  | k' :: ks, x :: xs => if k' = k then some x else lookK k ks xs
  | _, _ => none
theorem lookK_re {P : Addr → Prop} {H : Hp} {k : List Key} : ∀ {ks : List (List Key)} {vs : List V} {xs : List Val} {x : Val}, Res cm P H vs xs → lookK k ks xs = some x → ∃ (i : Nat) (v : V), ks[i]? = some k ∧ vs[i]? = some v ∧ Re cm P H v x
  | [], _, _, _, _, e => by cases e
  | k' :: ks, _, _, _, .nil, e => by cases e
  | k' :: ks, _, _, _, .cons r t, e => by
    unfold lookK at e
    by_cases c : k' = k
    · rw [if_pos c] at e
      cases e
      exact ⟨0, _, by rw [c]; rfl, rfl, r⟩
    · rw [if_neg c] at e
      obtain ⟨i, v, h1, h2, h3⟩ := lookK_re t e
      exact ⟨i + 1, v, h1, h2, h3⟩
theorem lookK_none {k : List Key} : ∀ {ks : List (List Key)} {xs : List Val}, xs.length = ks.length → lookK k ks xs = none → k ∉ ks
  | [], _, _, _ => by simp
  | k' :: ks, [], l, _ => by simp at l
  | k' :: ks, x :: xs, l, e => by
    unfold lookK at e
    by_cases c : k' = k
    · rw [if_pos c] at e
      cases e
    · rw [if_neg c] at e
      intro h
      rcases List.mem_cons.mp h with z | z
      · exact c z.symm
      · exact lookK_none (by simpa using l) e z
def ixD : Val → Val → Option Val
  | .dct ks xs, y => (tkey y).bind fun k => lookK k ks xs
  | _, _ => none
def rDGet : R2 := fun x y H Q => ∃ a v, x = .ref a ∧ DGet H a y (some v) ∧ Q v H
theorem ov_ixD : OpV cm rDGet ixD := fun P x y z v u H Q e rx ry q => by
  unfold ixD at e
  split at e
  · obtain ⟨k, e1, e2⟩ := Option.bind_eq_some_iff.mp e
    obtain ⟨b, rfl, hb⟩ := tkey_re ry e1
    cases rx with
    | dct n hh l1 l2 g1 g2 r =>
      obtain ⟨i, w, h1, h2, h3⟩ := lookK_re r e2
      refine ⟨_, w, rfl, ?_, q _ H (Same.refl H) h3⟩
      rw [← g1 i k w h1 h2]
      exact .t hh hb
  · cases e
end
section
variable {X : Cx} {cm : Cm} {a b c e : Expr} {es : List Expr} {f g h : En → Option Val} {pos : Pos}
theorem ve_ix {r : R2} {k : Val → Val → Option Val} (hr : IxR X r) (o : OpV cm r k) (ha : VE X cm a f) (hb : VE X cm b g) (hs : PlainIx b) : VE X cm (.Subscript a b pos) (bin2 k f g) := (pe_ix hr ha hb hs).weak (tV_two o)
theorem ve_dget (hu : X.A.units + 1 < cLine) (ha : VE X cm a f) (hb : VE X cm b g) (hs : NoSl b) : VE X cm (.Subscript a b pos) (bin2 ixD f g) := (pe_dget hu ha hb hs).weak (tV_two (ov_ixD (cm := cm)))
/-! displays -/
theorem ve_tup {x1} {k : En → Option (List Val)} (h : VA X cm es k) : VE X cm (.Tuple es x1 pos) (tupF k) := (pe_tup h).weak fun σ H Q ⟨P, env, z, hs, hf, q⟩ => by
  unfold tupF at hf
  obtain ⟨xs, ex, hf⟩ := Option.bind_eq_some_iff.mp hf
  split at hf
  · cases hf
    have l : xs.length ≤ most := by assumption
    refine ⟨P, env, xs, hs, ex, fun vs H1 s1 r1 => ⟨by rw [r1.length]; exact Nat.le_of_lt (most_line l), fun p np => ?_⟩⟩
    have s2 : Same H1 (upd H1 p (.tup vs)) := fun b o eb => by rw [upd_ne (ne_of_none eb np)]; exact eb
    exact q _ _ (s1.trans s2) (.tup ((hs.hid.same s1).new np) upd_same (r1.same s2))
  · cases hf
theorem ve_lst {k : En → Option (List Val)} (h : VA X cm es k) : VE X cm (.List es pos) (lstF k) := (pe_lst h).weak fun σ H Q ⟨P, env, z, hs, hf, q⟩ => by
  unfold lstF at hf
  obtain ⟨xs, ex, hf⟩ := Option.bind_eq_some_iff.mp hf
  split at hf
  · cases hf
    have l : xs.length ≤ most := by assumption
    refine ⟨P, env, xs, hs, ex, fun vs H1 s1 r1 => ⟨by rw [r1.length]; exact Nat.le_of_lt (most_line l), fun p np => ?_⟩⟩
    have s2 : Same H1 (upd H1 p (.lst vs)) := fun b o eb => by rw [upd_ne (ne_of_none eb np)]; exact eb
    exact q _ _ (s1.trans s2) (.lst ((hs.hid.same s1).new np) upd_same (r1.same s2))
  · cases hf
/-! calls of what is built in, by values -/
def CaV (cm : Cm) (r : List V → Hp → VK → Prop) (op : List Val → Option Val) : Prop := ∀ (P : Addr → Prop) (xs : List Val) (z : Val) (vs : List V) (H : Hp) (Q : VK), Hid P H → op xs = some z → Res cm P H vs xs → (∀ v' H', Same H H' → Re cm P H' v' z → Q v' H') → r vs H Q
def appF (op : List Val → Option Val) (k : En → Option (List Val)) : En → Option Val := fun env => (k env).bind op
theorem tV_call {r : List V → Hp → VK → Prop} {op : List Val → Option Val} {k : En → Option (List Val)} (o : CaV cm r op) (σ : L2.St) (H : Hp) (Q : VK) (q : tV cm (appF op k) σ H Q) : tCB r (tVA cm k) σ H Q := by
  obtain ⟨P, env, z, hs, hf, q⟩ := q
  obtain ⟨xs, ex, hf⟩ := Option.bind_eq_some_iff.mp hf
  exact ⟨P, env, xs, hs, ex, fun vs H1 s1 r1 => o P xs z vs H1 Q (hs.hid.same s1) hf r1 fun v' H2 s2 r2 => q v' H2 (s1.trans s2) r2⟩
theorem ve_callB {id : String} {r : List V → Hp → VK → Prop} {op : List Val → Option Val} {k : En → Option (List Val)} {x : Str} {p : Pos} (hc : CallR X (.builtin id) r) (o : CaV cm r op) (hg : Gl X x) (hm : X.mg x = none) (hv : bootBuiltins x = some (.builtin id)) (ha : VA X cm (e :: es) k)
    (hn : x ≠ "__name__" := by decide) (hdb : (x == ("__debug__" : Str)) = false := by decide) (he : starEach (e :: es) X.env = (false, eval e X.env) :: starEach es X.env := by rfl) (hpl : (backTo pos (starEach es X.env)).any (·.1) = false := by rfl) :
    VE X cm (.Call (.Name x p) (e :: es) [] pos) (appF op k) := (pe_callB hc hg hm hv ha hn hdb he hpl).weak (tV_call o)
theorem ve_callTy {T : String} {r : List V → Hp → VK → Prop} {op : List Val → Option Val} {k : En → Option (List Val)} {x : Str} {p : Pos} (hc : CallR X (.type T) r) (o : CaV cm r op) (hg : Gl X x) (hm : X.mg x = none) (hv : bootBuiltins x = some (.type T)) (ha : VA X cm (e :: es) k)
    (hn : x ≠ "__name__" := by decide) (hdb : (x == ("__debug__" : Str)) = false := by decide) (he : starEach (e :: es) X.env = (false, eval e X.env) :: starEach es X.env := by rfl) (hpl : (backTo pos (starEach es X.env)).any (·.1) = false := by rfl) :
    VE X cm (.Call (.Name x p) (e :: es) [] pos) (appF op k) := (pe_callTy hc hg hm hv ha hn hdb he hpl).weak (tV_call o)
def lenF : List Val → Option Val
  | [x] => (itemsOf x).map fun xs => .int xs.length
  | _ => none
theorem cv_len : CaV cm (fun xs H Q => ∃ p ys, xs = [.ref p] ∧ (SqL X.K H p ys ∨ SqT X.K H p ys) ∧ Q (.int ys.length) H) lenF := fun P xs z vs H Q hd e r q => by
  unfold lenF at e
  split at e
  · obtain ⟨v, rfl, r1⟩ := r.one
    obtain ⟨ys, e1, rfl⟩ := Option.map_eq_some_iff.mp e
    obtain ⟨p, ws, rfl, h, rs⟩ := itemsOf_re (K := X.K) r1 e1
    refine ⟨p, ws, rfl, h, q _ H (Same.refl H) ?_⟩
    rw [rs.length]
    exact .int _
  · cases e
def tupleF : List Val → Option Val
  | [.lst xs] => some (.tup xs)
  | [.tup xs] => some (.tup xs)
  | _ => none
theorem cv_tuple : CaV cm (fun xs H Q => ∃ p ys, xs = [.ref p] ∧ ((SqL X.K H p ys ∧ ∀ l, H l = none → Q (.ref l) (upd H l (.tup ys))) ∨ (SqT X.K H p ys ∧ Q (.ref p) H))) tupleF := fun P xs z vs H Q hd e r q => by
  unfold tupleF at e
  split at e
  · obtain ⟨v, rfl, r1⟩ := r.one
    cases e
    obtain ⟨a, ws, rfl, n, h, rs⟩ := r1.lst_
    refine ⟨a, ws, rfl, .inl ⟨.inl (.inl h), fun p np => ?_⟩⟩
    have s2 : Same H (upd H p (.tup ws)) := fun b o eb => by rw [upd_ne (ne_of_none eb np)]; exact eb
    exact q _ _ s2 (.tup (hd.new np) upd_same (rs.same s2))
  · obtain ⟨v, rfl, r1⟩ := r.one
    cases e
    obtain ⟨a, ws, rfl, n, h, rs⟩ := r1.tup_
    exact ⟨a, ws, rfl, .inr ⟨.inl (.inl h), q _ H (Same.refl H) (.tup n h rs)⟩⟩
  · cases e
def listF : List Val → Option Val
  | [.lst xs] => some (.lst xs)
  | [.tup xs] => some (.lst xs)
  | _ => none
theorem cv_list : CaV cm (fun xs H Q => ∃ p ys, xs = [.ref p] ∧ (SqL X.K H p ys ∨ SqT X.K H p ys) ∧ ∀ l, H l = none → Q (.ref l) (upd H l (.lst ys))) listF := fun P xs z vs H Q hd e r q => by
  have fin : ∀ (ws : List V) (ys : List Val), Res cm P H ws ys → z = .lst ys → ∀ p, H p = none → Q (.ref p) (upd H p (.lst ws)) := fun ws ys rs ez p np => by
    subst ez
    have s2 : Same H (upd H p (.lst ws)) := fun b o eb => by rw [upd_ne (ne_of_none eb np)]; exact eb
    exact q _ _ s2 (.lst (hd.new np) upd_same (rs.same s2))
  unfold listF at e
  split at e
  · obtain ⟨v, rfl, r1⟩ := r.one
    cases e
    obtain ⟨a, ws, rfl, n, h, rs⟩ := r1.lst_
    exact ⟨a, ws, rfl, .inl (.inl (.inl h)), fin ws _ rs rfl⟩
  · obtain ⟨v, rfl, r1⟩ := r.one
    cases e
    obtain ⟨a, ws, rfl, n, h, rs⟩ := r1.tup_
    exact ⟨a, ws, rfl, .inr (.inl (.inl h)), fin ws _ rs rfl⟩
  · cases e
def max2F : List Val → Option Val
  | [.int i, .int j] => some (.int (if j > i then j else i))
  | _ => none
def min2F : List Val → Option Val
  | [.int i, .int j] => some (.int (if j < i then j else i))
  | _ => none
theorem cv_max2 : CaV cm (fun xs H Q => ∃ i j, xs = [.int i, .int j] ∧ Q (.int (if j > i then j else i)) H) max2F := fun P xs z vs H Q hd e r q => by
  unfold max2F at e
  split at e
  · obtain ⟨v, u, rfl, r1, r2⟩ := r.two
    cases e
    cases r1.int_
    cases r2.int_
    exact ⟨_, _, rfl, q _ H (Same.refl H) (.int _)⟩
  · cases e
theorem cv_min2 : CaV cm (fun xs H Q => ∃ i j, xs = [.int i, .int j] ∧ Q (.int (if j < i then j else i)) H) min2F := fun P xs z vs H Q hd e r q => by
  unfold min2F at e
  split at e
  · obtain ⟨v, u, rfl, r1, r2⟩ := r.two
    cases e
    cases r1.int_
    cases r2.int_
    exact ⟨_, _, rfl, q _ H (Same.refl H) (.int _)⟩
  · cases e
/-! a type's name asked -/
def tyOf : Val → Option String
  | .non => some "NoneType"
  | .bl _ => some "bool"
  | .int _ => some "int"
  | .str _ => some "str"
  | .lst _ => some "list"
  | .tup _ => some "tuple"
  | .dct _ _ => some "dict"
  | .set _ => none
  | .ins _ _ _ => none
  | .dk0 => some "dict"
  | .exc _ _ _ => none
  | .loc _ => none
  | .idk _ => some "dict"
theorem tyOf_re {K : PySem.W.Frag} {P : Addr → Prop} {H : Hp} {v : V} {x : Val} {t : String} (h : Re cm P H v x) (e : tyOf x = some t) : TyX K H v (.type t) := by
  cases h <;> cases e
  · exact .base .non
  · exact .base (.bl _)
  · exact .base (.int _)
  · exact .base (.str _)
  · exact .base (.lst (by assumption))
  · exact .base (.tup (by assumption))
  · exact .base (.dT (by assumption))
  · exact .base (.dK (by assumption))
  · exact .base (.dK (by assumption))
def isiF (T : String) (f : En → Option Val) : En → Option Val := fun env => (f env).bind fun x => (tyOf x).bind fun t => (kitB t T).map .bl
theorem ve_isi {T : String} {x : Str} {p p2 : Pos} (hg2 : Gl X x) (hm2 : X.mg x = none) (hv2 : bootBuiltins x = some (.type T)) (hg : Gl X "isinstance") (hm : X.mg "isinstance" = none) (hv : bootBuiltins "isinstance" = some (.builtin "isinstance")) (ha : VE X cm e f)
    (hn2 : x ≠ "__name__" := by decide) (hd2 : (x == ("__debug__" : Str)) = false := by decide) (he : starEach [e, .Name x p2] X.env = (false, eval e X.env) :: starEach [.Name x p2] X.env := by rfl) (he2 : starEach [.Name x p2] X.env = (false, eval (.Name x p2) X.env) :: starEach [] X.env := by rfl) (hpl : (backTo pos (starEach [.Name x p2] X.env)).any (·.1) = false := by rfl) :
    VE X cm (.Call (.Name "isinstance" p) [e, .Name x p2] [] pos) (isiF T f) :=
  (pe_callB call_isi hg hm hv (pa_cons ha (pa_cons (pe_bltn (v := .ty T) hg2 hm2 hv2 rfl hn2 hd2) pa_nil he2) he) (by decide) (by decide) he hpl).weak fun σ H Q ⟨P, env, z, hs, hf, q⟩ => by
    unfold isiF at hf
    obtain ⟨x, ex, h1⟩ := Option.bind_eq_some_iff.mp hf
    obtain ⟨t, et, h2⟩ := Option.bind_eq_some_iff.mp h1
    obtain ⟨b, eb, rfl⟩ := Option.map_eq_some_iff.mp h2
    exact ⟨P, env, x, hs, ex, fun v H1 s1 r1 => ⟨v, .ty T, .type t, .type T, b, rfl, .ty T, tyOf_re r1 et, kit_ty eb, q _ H1 s1 (.bl b)⟩⟩
/-! fields -/
def lookF (f : Str) : List Str → List Val → Option Val
  | n :: ns, x :: xs => if n = f then some x else lookF f ns xs
  | _, _ => none
theorem lookF_re {P : Addr → Prop} {H : Hp} {f : Str} : ∀ {fs : List (Str × V)} {xs : List Val} {x : Val}, Res cm P H (fs.map (·.2)) xs → lookF f (fs.map (·.1)) xs = some x → ∃ v, fs.lookup f = some v ∧ Re cm P H v x
  | [], _, _, _, e => by cases e
  | (n, v) :: fs, [], _, h, _ => by cases h
  | (n, v) :: fs, y :: xs, x, h, e => by
    cases h with
    | cons r t =>
      replace e : (if n = f then some y else lookF f (fs.map (·.1)) xs) = some x := e
      by_cases c : n = f
      · rw [if_pos c] at e
        cases e
        subst c
        exact ⟨v, by simp [List.lookup], r⟩
      · rw [if_neg c] at e
        obtain ⟨w, h1, h2⟩ := lookF_re t e
        refine ⟨w, ?_, h2⟩
        have hb : (f == n) = false := beq_eq_false_iff_ne.mpr fun z => c z.symm
        simp only [List.lookup, hb]
        exact h1
def fldF (c : Nat) (f : Str) (k : En → Option Val) : En → Option Val := fun env => (k env).bind fun x => match x with
  | .ins c' ns xs => if c' = c then lookF f ns xs else none
  | _ => none
theorem ve_fld {c : Nat} {fl : Str} (hc : Cls X.K (cm.cls c)) (hn : NoAttr X.K (cm.cls c) fl) (he : VE X cm e f) (hb : attributeBase e fl X.env (eval e X.env) = eval e X.env) : VE X cm (.Attribute e fl pos) (fldF c fl f) :=
  (pe_fld he hb).weak fun σ H Q ⟨P, env, z, hs, hf, q⟩ => by
    unfold fldF at hf
    obtain ⟨x, ex, h1⟩ := Option.bind_eq_some_iff.mp hf
    refine ⟨P, env, x, hs, ex, fun v H1 s1 r1 => ?_⟩
    cases r1 with
    | ins n hh r =>
      replace h1 : (if _ = c then lookF fl _ _ else none) = some z := h1
      split at h1
      · rename_i ec
        subst ec
        obtain ⟨w, k1, k2⟩ := lookF_re r h1
        exact ⟨_, _, _, _, w, rfl, hh, hc, hn, k1, q _ H1 s1 k2⟩
      · cases h1
    | _ => cases h1
end
end Up

namespace Up
open PySem PySem.Spec PyProof.Rows L2
section
variable {X : Cx} {cm : Cm} {a b c e : Expr} {es : List Expr} {f g h : En → Option Val} {pos : Pos}
/-! ### defs -/
/-- the promise of a def that is a function of its arguments' trees -/
def spV (cm : Cm) (F : List Val → Option Val) : Sp := fun vs H Q _ => ∃ (P : Addr → Prop) (xs : List Val) (z : Val), Hid P H ∧ Res cm P H vs xs ∧ F xs = some z ∧ ∀ v H', Same H H' → Re cm P H' v z → Q v H'
theorem ve_call {CX : CXT} {E : XK} {k : Nat} {fa : Addr} {fd : FuncData} {ps : List Str} {F : List Val → Option Val} {x : Str} {p : Pos} {t : En → Option (List Val)} (G : FnOk X.prog X.w X.K X.mg X.base CX k fa fd ps (spV cm F)) (hr : Room k X.A) (hg : Gl X x) (hm : X.mg x = some (.ref fa)) (hk : PySem.W.keepIn X.K (.ref fa) = true)
    (hb : Binds X.K fd ps []) (hx : Passes CX X E) (ha : VA X cm (e :: es) t) (hdb : (x == ("__debug__" : Str)) = false := by decide) (he : starEach (e :: es) X.env = (false, eval e X.env) :: starEach es X.env := by rfl) (hpl : (backTo pos (starEach es X.env)).any (·.1) = false := by rfl) :
    VE X cm (.Call (.Name x p) (e :: es) [] pos) (appF F t) :=
  (pe_call G hr hg hm hk hb .nil hx ha hdb he hpl).weak fun σ H Q ⟨P, env, z, hs, hf, q⟩ => by
    obtain ⟨xs, ex, hf⟩ := Option.bind_eq_some_iff.mp hf
    refine ⟨P, env, xs, hs, ex, fun vs H1 s1 r1 => ?_⟩
    show spV cm F (vs ++ []) H1 Q E
    rw [List.append_nil]
    exact ⟨P, xs, z, hs.hid.same s1, r1, hf, fun v H2 s2 r2 => q v H2 (s1.trans s2) r2⟩
/-! ### slices -/
def cutG (xs : List Val) (lo hi : Option Int) : List Val := (xs.drop (HT.sIx xs.length 0 lo)).take (HT.sIx xs.length xs.length hi - HT.sIx xs.length 0 lo)
theorem Res.drop {P : Addr → Prop} {H : Hp} : ∀ {vs : List V} {xs : List Val} (n : Nat), Res cm P H vs xs → Res cm P H (vs.drop n) (xs.drop n)
  | _, _, 0, r => r
  | _, _, _ + 1, .nil => .nil
  | _, _, n + 1, .cons _ t => Res.drop n t
theorem Res.take {P : Addr → Prop} {H : Hp} : ∀ {vs : List V} {xs : List Val} (n : Nat), Res cm P H vs xs → Res cm P H (vs.take n) (xs.take n)
  | _, _, 0, _ => .nil
  | _, _, _ + 1, .nil => .nil
  | _, _, n + 1, .cons r t => .cons r (Res.take n t)
theorem cutG_re {P : Addr → Prop} {H : Hp} {vs : List V} {xs : List Val} {lo hi : Option Int} (r : Res cm P H vs xs) : Res cm P H (cutV vs lo hi) (cutG xs lo hi) := by
  unfold cutV cutG
  rw [r.length]
  exact Res.take _ (Res.drop _ r)
/-- a part of a slice -/
def partF (f : En → Option Val) : En → Option (Option Int) := fun env => (f env).bind fun x => match x with
  | .int i => some (some i)
  | _ => none
def noPart : En → Option (Option Int) := fun _ => some none
def tVO (cm : Cm) (f : En → Option (Option Int)) : TO := fun σ H Q => ∃ (P : Addr → Prop) (env : En) (o : Option Int), Slots cm P H σ env ∧ f env = some o ∧ ∀ H', Same H H' → Q o H'
theorem _root_.L2.PO.weak {o : Option Expr} {t t' : TO} (h : PO X o t) (k : ∀ σ H Q, t' σ H Q → t σ H Q) : PO X o t' := ⟨fun pins s σ H Q I q => h.run pins s σ H Q I (k σ H Q q)⟩
theorem vo_none : PO X none (tVO cm noPart) := po_none.weak fun σ H Q ⟨P, env, o, hs, hf, q⟩ => by
  cases hf
  exact q H (Same.refl H)
theorem vo_some (h : VE X cm e f) : PO X (some e) (tVO cm (partF f)) := (po_some h).weak fun σ H Q ⟨P, env, o, hs, hf, q⟩ => by
  unfold partF at hf
  obtain ⟨x, ex, hf⟩ := Option.bind_eq_some_iff.mp hf
  refine ⟨P, env, x, hs, ex, fun v H1 s1 r1 => ?_⟩
  cases r1 <;> cases hf
  exact ⟨_, rfl, q H1 s1⟩
def slF (op : Val → Option Int → Option Int → Option Val) (f : En → Option Val) (l u : En → Option (Option Int)) : En → Option Val := fun env => (f env).bind fun x => (l env).bind fun i => (u env).bind fun j => op x i j
def cutL : Val → Option Int → Option Int → Option Val
  | .lst xs, lo, hi => some (.lst (cutG xs lo hi))
  | _, _, _ => none
def cutT : Val → Option Int → Option Int → Option Val
  | .tup xs, lo, hi => if HT.sIx xs.length 0 lo = 0 ∧ HT.sIx xs.length xs.length hi = xs.length then none else some (.tup (cutG xs lo hi))
  | _, _, _ => none
theorem ve_slice {r : V → Option Int → Option Int → Hp → VK → Prop} {op : Val → Option Int → Option Int → Option Val} {lo hi : Option Expr} {l u : En → Option (Option Int)} {p2 : Pos} (hr : SlR X r) (o : ∀ (P : Addr → Prop) (x z : Val) (i j : Option Int) (v : V) (H : Hp) (Q : VK), Hid P H → op x i j = some z → Re cm P H v x → (∀ v' H', Same H H' → Re cm P H' v' z → Q v' H') → r v i j H Q)
    (he : VE X cm e f) (hl : PO X lo (tVO cm l)) (hu : PO X hi (tVO cm u)) : VE X cm (.Subscript e (.Slice lo hi none p2) pos) (slF op f l u) :=
  (pe_slice hr he hl hu).weak fun σ H Q ⟨P, env, z, hs, hf, q⟩ => by
    unfold slF at hf
    obtain ⟨x, ex, h1⟩ := Option.bind_eq_some_iff.mp hf
    obtain ⟨i, ei, h2⟩ := Option.bind_eq_some_iff.mp h1
    obtain ⟨j, ej, h3⟩ := Option.bind_eq_some_iff.mp h2
    exact ⟨P, env, x, hs, ex, fun v H1 s1 r1 => ⟨P, env, i, hs.same s1, ei, fun H2 s2 => ⟨P, env, j, (hs.same s1).same s2, ej, fun H3 s3 => o P x z i j v H3 Q (((hs.hid.same s1).same s2).same s3) h3 ((r1.same s2).same s3) fun v' H4 s4 r4 => q v' H4 (s1.trans (s2.trans (s3.trans s4))) r4⟩⟩⟩
theorem vs_list (P : Addr → Prop) (x z : Val) (i j : Option Int) (v : V) (H : Hp) (Q : VK) (hd : Hid P H) (e : cutL x i j = some z) (r : Re cm P H v x) (q : ∀ v' H', Same H H' → Re cm P H' v' z → Q v' H') : rSlL X.K v i j H Q := by
  unfold cutL at e
  split at e
  · cases e
    obtain ⟨a, vs, rfl, n, hh, rs⟩ := r.lst_
    refine ⟨a, vs, rfl, .inl (.inl hh), fun p np => ?_⟩
    have s2 : Same H (upd H p (.lst (cutV vs i j))) := fun b o eb => by rw [upd_ne (ne_of_none eb np)]; exact eb
    exact q _ _ s2 (.lst (hd.new np) upd_same (Rep.same s2 (cutG_re rs)))
  · cases e
theorem vs_tup (P : Addr → Prop) (x z : Val) (i j : Option Int) (v : V) (H : Hp) (Q : VK) (hd : Hid P H) (e : cutT x i j = some z) (r : Re cm P H v x) (q : ∀ v' H', Same H H' → Re cm P H' v' z → Q v' H') : rSlT X.K v i j H Q := by
  unfold cutT at e
  split at e
  · split at e
    · cases e
    · rename_i c
      cases e
      obtain ⟨a, vs, rfl, n, hh, rs⟩ := r.tup_
      refine ⟨a, vs, rfl, .inl (.inl hh), by rw [Res.length rs]; exact c, fun p np => ?_⟩
      have s2 : Same H (upd H p (.tup (cutV vs i j))) := fun b o eb => by rw [upd_ne (ne_of_none eb np)]; exact eb
      exact q _ _ s2 (.tup (hd.new np) upd_same (Rep.same s2 (cutG_re rs)))
  · cases e
/-! ### targets -/
def setA (σ : L2.St) : List (Nat × V) → L2.St
  | [] => σ
  | q :: qs => setA (σ.set q.1 (some q.2)) qs
def setE (env : En) : List (Nat × Val) → En
  | [] => env
  | q :: qs => setE (env.set q.1 (some q.2)) qs
abbrev Prs (cm : Cm) (P : Addr → Prop) (H : Hp) : List (Nat × V) → List (Nat × Val) → Prop := Paired fun q p => q.1 = p.1 ∧ Re cm P H q.2 p.2
theorem setA_app : ∀ (qs rs : List (Nat × V)) (σ : L2.St), setA σ (qs ++ rs) = setA (setA σ qs) rs
  | [], _, _ => rfl
  | q :: qs, rs, σ => setA_app qs rs _
theorem Slots.sets {P : Addr → Prop} {H : Hp} : ∀ {qs : List (Nat × V)} {ps : List (Nat × Val)} {σ : L2.St} {env : En}, Prs cm P H qs ps → Slots cm P H σ env → Slots cm P H (setA σ qs) (setE env ps)
  | _, _, _, _, .nil, h => h
  | _, _, _, _, .cons (a := q) (b := p) r t, h => by
    obtain ⟨e, r⟩ := r
    obtain ⟨i, v⟩ := q
    obtain ⟨j, x⟩ := p
    obtain rfl : i = j := e
    have k := Slots.sets t (Slots.set (i := i) h r)
    exact k
theorem wipe_setA {vs : List Nat} : ∀ {qs : List (Nat × V)} {σ : L2.St}, (∀ q ∈ qs, q.1 ∈ vs) → L2.wipe (setA σ qs) vs = L2.wipe σ vs
  | [], _, _ => rfl
  | q :: qs, σ, h => by
    show L2.wipe (setA (σ.set q.1 (some q.2)) qs) vs = _
    rw [wipe_setA fun r hr => h r (List.mem_cons_of_mem _ hr), wipe_set (h q (List.mem_cons_self ..))]
/-- a target: what a value does to the names -/
structure TgV (cm : Cm) (g : TG) (m : Val → Option (List (Nat × Val))) (is : List Nat) : Prop where
  go : ∀ (P : Addr → Prop) (H : Hp) (v : V) (x : Val) (ps : List (Nat × Val)), Re cm P H v x → m x = some ps → ∃ qs : List (Nat × V), Prs cm P H qs ps ∧ (∀ q ∈ qs, q.1 ∈ is) ∧ ∀ (σ : L2.St) (Q : L2.St → Hp → Prop), Q (setA σ qs) H → g v σ H Q
def setV (i : Nat) : Val → Option (List (Nat × Val)) := fun x => some [(i, x)]
theorem tg_name {i : Nat} : TgV cm (gName i) (setV i) [i] := ⟨fun P H v x ps r e => by
  cases e
  exact ⟨[(i, v)], .cons ⟨rfl, r⟩ .nil, (fun q hq => by simpa using congrArg Prod.fst (List.mem_singleton.mp hq)), fun σ Q q => q⟩⟩
structure TgsV (cm : Cm) (g : TGs) (m : List Val → Option (List (Nat × Val))) (is : List Nat) : Prop where
  go : ∀ (P : Addr → Prop) (H : Hp) (vs : List V) (xs : List Val) (ps : List (Nat × Val)), Res cm P H vs xs → m xs = some ps → ∃ qs : List (Nat × V), Prs cm P H qs ps ∧ (∀ q ∈ qs, q.1 ∈ is) ∧ ∀ (σ : L2.St) (Q : L2.St → Hp → Prop), Q (setA σ qs) H → g vs σ H Q
def setNo : List Val → Option (List (Nat × Val))
  | [] => some []
  | _ :: _ => none
def setCo (b : Val → Option (List (Nat × Val))) (bs : List Val → Option (List (Nat × Val))) : List Val → Option (List (Nat × Val))
  | x :: xs => (b x).bind fun ps => (bs xs).map (ps ++ ·)
  | [] => none
theorem tgs_nil : TgsV cm gNil setNo [] := ⟨fun P H vs xs ps r e => by
  cases r with
  | nil =>
    cases e
    exact ⟨[], .nil, (fun q hq => by cases hq), fun σ Q q => ⟨rfl, q⟩⟩
  | cons _ _ => cases e⟩
theorem Prs.append {P : Addr → Prop} {H : Hp} : ∀ {qs rs : List (Nat × V)} {ps us : List (Nat × Val)}, Prs cm P H qs ps → Prs cm P H rs us → Prs cm P H (qs ++ rs) (ps ++ us)
  | _, _, _, _, .nil, s => s
  | _, _, _, _, .cons r t, s => .cons r (Prs.append t s)
theorem tgs_cons {g : TG} {gs : TGs} {b : Val → Option (List (Nat × Val))} {bs : List Val → Option (List (Nat × Val))} {is js : List Nat} (h1 : TgV cm g b is) (h2 : TgsV cm gs bs js) : TgsV cm (gCons g gs) (setCo b bs) (is ++ js) := ⟨fun P H vs xs ps r e => by
  cases r with
  | nil => cases e
  | cons r t =>
    obtain ⟨p1, e1, e2⟩ := Option.bind_eq_some_iff.mp (show (b _).bind (fun ps => (bs _).map (ps ++ ·)) = some ps from e)
    obtain ⟨p2, e3, rfl⟩ := Option.map_eq_some_iff.mp e2
    obtain ⟨q1, k1, m1, g1⟩ := h1.go P H _ _ _ r e1
    obtain ⟨q2, k2, m2, g2⟩ := h2.go P H _ _ _ t e3
    refine ⟨q1 ++ q2, Prs.append k1 k2, fun q hq => ?_, fun σ Q q => ⟨_, _, rfl, g1 σ _ (g2 _ Q (by rw [← setA_app]; exact q))⟩⟩
    rcases List.mem_append.mp hq with z | z
    · exact List.mem_append_left _ (m1 q z)
    · exact List.mem_append_right _ (m2 q z)⟩
def setTup (n : Nat) (bs : List Val → Option (List (Nat × Val))) : Val → Option (List (Nat × Val)) := fun x => match x with
  | .tup xs => if xs.length = n then bs xs else none
  | _ => none
theorem tg_tup {K : PySem.W.Frag} {n : Nat} {gs : TGs} {bs : List Val → Option (List (Nat × Val))} {is : List Nat} (h : TgsV cm gs bs is) : TgV cm (gTup K n gs) (setTup n bs) is := ⟨fun P H v x ps r e => by
  unfold setTup at e
  split at e
  · split at e
    · rename_i l
      obtain ⟨a, vs, rfl, n', hh, rs⟩ := r.tup_
      obtain ⟨qs, k1, k2, k3⟩ := h.go P H vs _ ps rs e
      exact ⟨qs, k1, k2, fun σ Q q => ⟨a, vs, rfl, .inl (.inl hh), by rw [Res.length rs]; exact l, k3 σ Q q⟩⟩
    · cases e
  · cases e⟩
/-! ### what is walked -/
def WalkV (cm : Cm) (P : Addr → Prop) (J : It) (xs : List Val) (H1 : Hp) : Prop := Walk J xs.length (fun H => Keep P H1 H ∧ Hid P H) (fun i H x H' => Same H H' ∧ ∃ y, xs[i]? = some y ∧ ∀ P2 : Addr → Prop, (∀ a, P2 a → P a ∨ H1 a = none) → Hid P2 H → Re cm P2 H' x y)
def iV (cm : Cm) (f : En → Option (List Val)) : TI := fun σ H R => ∃ (P : Addr → Prop) (env : En) (xs : List Val), Slots cm P H σ env ∧ f env = some xs ∧ ∀ J H', Same H H' → WalkV cm P J xs H' → R J H'
abbrev VI (X : Cx) (cm : Cm) (tg it : Expr) (f : En → Option (List Val)) : Prop := PI X tg it (iV cm f)
theorem _root_.L2.PI.weak {tg it : Expr} {t t' : TI} (h : PI X tg it t) (k : ∀ σ H R, t' σ H R → t σ H R) : PI X tg it t' := ⟨fun pins s σ H R I q => h.run pins s σ H R I (k σ H R q)⟩
end
end Up

namespace Up
open PySem PySem.Spec PyProof.Rows L2
/-- more is hidden, of what does not stand -/
theorem Rep.more {cm : Cm} {P P' : Addr → Prop} {H : Hp} (s : ∀ a, P' a → P a ∨ H a = none) : ∀ {b : Bool} {vs : List V} {xs : List Val}, Rep cm P H b vs xs → Rep cm P' H b vs xs := fun h => by
  have k : ∀ (a : Addr) (o : HO), ¬ P a → H a = some o → ¬ P' a := fun a o n e c => by
    rcases s a c with z | z
    · exact n z
    · rw [e] at z
      cases z
  induction h with
  | nil => exact .nil
  | cons _ _ i1 i2 => exact .cons i1 i2
  | non => exact .non
  | bl b => exact .bl b
  | int i => exact .int i
  | str x => exact .str x
  | lst n e _ ih => exact .lst (k _ _ n e) e ih
  | tup n e _ ih => exact .tup (k _ _ n e) e ih
  | dct n e l1 l2 g1 g2 _ ih => exact .dct (k _ _ n e) e l1 l2 g1 g2 ih
  | ins n e _ ih => exact .ins (k _ _ n e) e ih
  | set n e h1 h2 => exact .set (k _ _ n e) e h1 h2
  | dk0 n e => exact .dk0 (k _ _ n e) e
  | exc n e q z _ ih => exact .exc (k _ _ n e) e (fun d' c => ⟨k _ _ (q d' c).1 (q d' c).2, (q d' c).2⟩) z ih
  | loc a => exact .loc a
  | idk n e => exact .idk (k _ _ n e) e
theorem Rep.move {cm : Cm} {P P' : Addr → Prop} {H H' : Hp} (s : ∀ a, P' a → P a ∨ H a = none) (kp : Keep P H H') {b : Bool} {vs : List V} {xs : List Val} (h : Rep cm P H b vs xs) : Rep cm P' H' b vs xs := by
  have h1 : Rep cm (fun a => P a ∨ P' a) H b vs xs := h.more fun a c => c.elim .inl (s a)
  exact (h1.keep fun a o e n => kp a o e fun c => n (.inl c)).less fun a c => .inr c
section
variable {X : Cx} {cm : Cm} {a b c e : Expr} {es : List Expr} {f g h : En → Option Val} {pos : Pos}
theorem vi_of {J : It} {P : Addr → Prop} {vs : List V} {xs : List Val} {H1 : Hp} {G : Hp → Prop} (w : Walk J vs.length G (YAt vs)) (hG : ∀ H, Keep P H1 H → G H) (r : Res cm P H1 vs xs) : WalkV cm P J xs H1 := by
  unfold WalkV
  rw [← Res.length r]
  refine w.mono (fun H h => hG H h.1) fun i H x H' hi h y => ?_
  obtain ⟨rfl, e⟩ := y
  obtain ⟨y, e2, r2⟩ := Res.getV r e
  exact ⟨Same.refl _, y, e2, fun P2 s _ => r2.move s h.1⟩
def itF (f : En → Option Val) : En → Option (List Val) := fun env => (f env).bind itemsOf
def itL (f : En → Option Val) : En → Option (List Val) := fun env => (f env).bind fun x => match x with
  | .lst xs => some xs
  | _ => none
def itT (f : En → Option Val) : En → Option (List Val) := fun env => (f env).bind fun x => match x with
  | .tup xs => some xs
  | _ => none
theorem vi_list {tg : Expr} (he : VE X cm e f) : VI X cm tg e (itL f) := (pi_list he).weak fun σ H R ⟨P, env, z, hs, hf, q⟩ => by
  obtain ⟨x, ex, hf⟩ := Option.bind_eq_some_iff.mp hf
  refine ⟨P, env, x, hs, ex, fun v H1 s1 r1 => ?_⟩
  cases r1 <;> cases hf
  rename_i a vs n hh r
  exact ⟨a, rfl, ⟨vs, .inl (.inl hh)⟩, q _ H1 s1 (vi_of walk_list (fun H k => .inl (.inl (k _ _ hh n))) r)⟩
theorem vi_tup {tg : Expr} (he : VE X cm e f) : VI X cm tg e (itT f) := (pi_tup he).weak fun σ H R ⟨P, env, z, hs, hf, q⟩ => by
  obtain ⟨x, ex, hf⟩ := Option.bind_eq_some_iff.mp hf
  refine ⟨P, env, x, hs, ex, fun v H1 s1 r1 => ?_⟩
  cases r1 <;> cases hf
  rename_i a vs n hh r
  exact ⟨a, rfl, ⟨vs, .inl (.inl hh)⟩, q _ H1 s1 (vi_of walk_tup (fun H k => .inl (.inl (k _ _ hh n))) r)⟩
theorem vi_seq {tg : Expr} (he : VE X cm e f) : VI X cm tg e (itF f) := (pi_seq he).weak fun σ H R ⟨P, env, z, hs, hf, q⟩ => by
  obtain ⟨x, ex, hf⟩ := Option.bind_eq_some_iff.mp hf
  refine ⟨P, env, x, hs, ex, fun v H1 s1 r1 => ?_⟩
  cases r1 <;> cases hf
  · rename_i a vs n hh r
    exact ⟨a, rfl, .inl ⟨vs, .inl (.inl hh), q _ H1 s1 (vi_of walk_list (fun H k => .inl (.inl (k _ _ hh n))) r)⟩⟩
  · rename_i a vs n hh r
    exact ⟨a, rfl, .inr ⟨vs, .inl (.inl hh), q _ H1 s1 (vi_of walk_tup (fun H k => .inl (.inl (k _ _ hh n))) r)⟩⟩
/-! ranges -/
def rangeV (lo : Int) : Nat → List Val
  | 0 => []
  | n + 1 => .int lo :: rangeV (lo + 1) n
theorem rangeV_len : ∀ (n : Nat) (lo : Int), (rangeV lo n).length = n
  | 0, _ => rfl
  | n + 1, lo => by rw [rangeV, List.length_cons, rangeV_len n]
theorem rangeV_get : ∀ {n i : Nat} {lo : Int}, i < n → (rangeV lo n)[i]? = some (.int (lo + i))
  | 0, i, lo, h => absurd h (Nat.not_lt_zero _)
  | n + 1, 0, lo, _ => by
    show some (Val.int lo) = _
    rw [show lo + ((0 : Nat) : Int) = lo by omega]
  | n + 1, i + 1, lo, h => by
    show (rangeV (lo + 1) n)[i]? = _
    rw [rangeV_get (by omega), show lo + 1 + (i : Int) = lo + ((i + 1 : Nat) : Int) by omega]
theorem vi_rng {P : Addr → Prop} {lo : Int} {n : Nat} {H1 : Hp} : WalkV cm P (Itr lo n) (rangeV lo n) H1 := by
  unfold WalkV
  rw [rangeV_len]
  refine walk_range.mono (fun H h => True.intro) fun i H x H' hi h y => ?_
  obtain ⟨rfl, rfl⟩ := y
  exact ⟨Same.refl _, _, rangeV_get hi, fun P2 s _ => .int _⟩
def rng1 (k : En → Option (List Val)) : En → Option (List Val) := fun env => (k env).bind fun xs => match xs with
  | [.int j] => if -1000000 ≤ j ∧ j ≤ 1000000 then some (rangeV 0 j.toNat) else none
  | _ => none
theorem vi_range1 {tg : Expr} {p : Pos} {k : En → Option (List Val)} (hg : Gl X "range") (hm : X.mg "range" = none) (ha : VA X cm [a] k) (hs : starEach [a] X.env = [(false, eval a X.env)] := by rfl) : VI X cm tg (.Call (.Name "range" p) [a] [] pos) (rng1 k) :=
  (pi_range1 hg hm ha hs).weak fun σ H R ⟨P, env, z, hs, hf, q⟩ => by
    unfold rng1 at hf
    obtain ⟨xs, ex, hf⟩ := Option.bind_eq_some_iff.mp hf
    refine ⟨P, env, xs, hs, ex, fun vs H1 s1 r1 => ?_⟩
    split at hf
    · split at hf
      · rename_i j c
        cases hf
        obtain ⟨v, rfl, r2⟩ := Res.one r1
        cases r2.int_
        exact ⟨j, rfl, by omega, by omega, q _ H1 s1 vi_rng⟩
      · cases hf
    · cases hf
def rng2 (k : En → Option (List Val)) : En → Option (List Val) := fun env => (k env).bind fun xs => match xs with
  | [.int i, .int j] => if -1000000 ≤ i ∧ i ≤ 1000000 ∧ -1000000 ≤ j ∧ j ≤ 1000000 then some (rangeV i (j - i).toNat) else none
  | _ => none
theorem vi_range2 {tg : Expr} {p : Pos} {k : En → Option (List Val)} (hg : Gl X "range") (hm : X.mg "range" = none) (ha : VA X cm [a, b] k) (hs : starEach [a, b] X.env = [(false, eval a X.env), (false, eval b X.env)] := by rfl) (hs2 : starEach [b] X.env = [(false, eval b X.env)] := by rfl) :
    VI X cm tg (.Call (.Name "range" p) [a, b] [] pos) (rng2 k) :=
  (pi_range2 hg hm ha hs hs2).weak fun σ H R ⟨P, env, z, hs, hf, q⟩ => by
    unfold rng2 at hf
    obtain ⟨xs, ex, hf⟩ := Option.bind_eq_some_iff.mp hf
    refine ⟨P, env, xs, hs, ex, fun vs H1 s1 r1 => ?_⟩
    split at hf
    · split at hf
      · rename_i i j c
        cases hf
        obtain ⟨v, u, rfl, r2, r3⟩ := Res.two r1
        cases r2.int_
        cases r3.int_
        exact ⟨i, j, rfl, ⟨by omega, by omega, by omega, by omega⟩, q _ H1 s1 vi_rng⟩
      · cases hf
    · cases hf
/-! pairs made anew -/
def pairV : List Val → List Val → List Val
  | x :: xs, y :: ys => .tup [x, y] :: pairV xs ys
  | _, _ => []
theorem pairV_len : ∀ (xs ys : List Val), (pairV xs ys).length = min xs.length ys.length
  | [], ys => by simp [pairV]
  | x :: xs, [] => by simp [pairV]
  | x :: xs, y :: ys => by
    rw [pairV, List.length_cons, pairV_len xs ys, List.length_cons, List.length_cons]
    omega
theorem pairV_get : ∀ {xs ys : List Val} {i : Nat} {x y : Val}, xs[i]? = some x → ys[i]? = some y → (pairV xs ys)[i]? = some (.tup [x, y])
  | [], _, _, _, _, e, _ => by simp at e
  | _ :: _, [], _, _, _, _, e => by simp at e
  | x :: xs, y :: ys, 0, _, _, e1, e2 => by
    simp at e1 e2
    subst e1 e2
    rfl
  | x :: xs, y :: ys, i + 1, _, _, e1, e2 => by
    show (pairV xs ys)[i]? = _
    exact pairV_get (by simpa using e1) (by simpa using e2)
theorem vi_pair {J : It} {P : Addr → Prop} {n : Nat} {xs ys : List Val} {fx fy : Nat → Option V} {H1 : Hp} {G : Hp → Prop} (w : Walk J n G (YPair fx fy)) (hn : n = min xs.length ys.length) (hG : ∀ H, Keep P H1 H → G H)
    (hx : ∀ i v, fx i = some v → i < n → ∃ x, xs[i]? = some x ∧ ∀ P2, (∀ a, P2 a → P a ∨ H1 a = none) → Re cm P2 H1 v x ∨ ∀ H, Re cm P2 H v x) (hy : ∀ i v, fy i = some v → i < n → ∃ y, ys[i]? = some y ∧ Re cm P H1 v y)
    (hx2 : ∀ i v x, fx i = some v → xs[i]? = some x → ∀ P2 H, (∀ a, P2 a → P a ∨ H1 a = none) → Keep P H1 H → Re cm P2 H v x) : WalkV cm P J (pairV xs ys) H1 := by
  unfold WalkV
  rw [pairV_len, ← hn]
  refine w.mono (fun H h => hG H h.1) fun i H x H' hi h y => ?_
  obtain ⟨T, v, u, rfl, nT, rfl, e1, e2⟩ := y
  obtain ⟨x, ex, _⟩ := hx i v e1 hi
  obtain ⟨y, ey, ry⟩ := hy i u e2 hi
  have sT : Same H (upd H T (.tup [v, u])) := fun b o eb => by rw [upd_ne (ne_of_none eb nT)]; exact eb
  refine ⟨sT, _, pairV_get ex ey, fun P2 s hd => ?_⟩
  have r1 : Re cm P2 H v x := hx2 i v x e1 ex P2 H s h.1
  have r2 : Re cm P2 H u y := ry.move s h.1
  exact .tup (hd.new nT) upd_same (.cons (r1.same sT) (.cons (r2.same sT) .nil))
theorem vi_zipR {J : It} {P : Addr → Prop} {vs us : List V} {xs ys : List Val} {H1 : Hp} {G : Hp → Prop} (w : Walk J (min vs.length us.length) G (YPair (fun i => vs[i]?) (fun i => us[i]?))) (hG : ∀ H, Keep P H1 H → G H) (rx : Res cm P H1 vs xs) (ry : Res cm P H1 us ys) : WalkV cm P J (pairV xs ys) H1 := by
  refine vi_pair w (by rw [Res.length rx, Res.length ry]) hG (fun i v e _ => ?_) (fun i v e _ => Res.getV ry e) (fun i v x e ex P2 H s k => ?_)
  · obtain ⟨x, e1, r⟩ := Res.getV rx e
    exact ⟨x, e1, fun P2 s => .inl (r.more s)⟩
  · obtain ⟨x', e1, r⟩ := Res.getV rx e
    rw [ex] at e1
    cases e1
    exact r.move s k
def zipA (k : En → Option (List Val)) : En → Option (List Val) := fun env => (k env).bind fun xs => match xs with
  | [.lst xs, .lst ys] => some (pairV xs ys)
  | [.tup xs, .tup ys] => some (pairV xs ys)
  | _ => none
theorem walk_zT {K : PySem.W.Frag} {a b : Addr} {xs ys : List V} : Walk (RZ.ItzT K a b) (min xs.length ys.length) (fun H => SqT K H a xs ∧ SqT K H b ys) (YPair (fun i => xs[i]?) (fun i => ys[i]?)) := by
  refine ⟨fun i _ hi q => ?_, fun _ q => ⟨xs, ys, q.1, q.2, by omega⟩, fun i H v H' _ q y => ?_⟩
  · have h1 : i < xs.length := by omega
    have h2 : i < ys.length := by omega
    exact ⟨xs, ys, xs[i], ys[i], q.1, q.2, by simp [h1], by simp [h2]⟩
  · obtain ⟨T, x, z, h1, h2, h3, h4, h5⟩ := y
    exact ⟨T, x, z, h1, h2, h3, h4 xs q.1, h5 ys q.2⟩
theorem vi_zip {p tp : Pos} {elts : List Expr} {kk : Nat} {k : En → Option (List Val)} (hg : Gl X "zip") (hm : X.mg "zip" = none) (ha : VA X cm [a, b] k)
    (hs : starEach [a, b] X.env = (false, eval a X.env) :: starEach [b] X.env := by rfl) (hpl : (backTo pos (starEach [b] X.env)).any (·.1) = false := by rfl) : VI X cm (.Tuple elts kk tp) (.Call (.Name "zip" p) [a, b] [] pos) (zipA k) :=
  (RZ.pi_zipA hg hm ha hs hpl).weak fun σ H R ⟨P, env, z, hs, hf, q⟩ => by
    unfold zipA at hf
    obtain ⟨xs, ex, hf⟩ := Option.bind_eq_some_iff.mp hf
    refine ⟨P, env, xs, hs, ex, fun vs H1 s1 r1 => ?_⟩
    split at hf
    · cases hf
      obtain ⟨v, u, rfl, r2, r3⟩ := Res.two r1
      obtain ⟨p1, ws1, rfl, n1, h1, t1⟩ := r2.lst_
      obtain ⟨p2, ws2, rfl, n2, h2, t2⟩ := r3.lst_
      exact ⟨p1, p2, ws1, ws2, rfl, .inl ⟨.inl (.inl h1), .inl (.inl h2), q _ H1 s1 (vi_zipR (walk_zip rfl) (fun H k => ⟨.inl (.inl (k _ _ h1 n1)), .inl (.inl (k _ _ h2 n2))⟩) t1 t2)⟩⟩
    · cases hf
      obtain ⟨v, u, rfl, r2, r3⟩ := Res.two r1
      obtain ⟨p1, ws1, rfl, n1, h1, t1⟩ := r2.tup_
      obtain ⟨p2, ws2, rfl, n2, h2, t2⟩ := r3.tup_
      exact ⟨p1, p2, ws1, ws2, rfl, .inr ⟨.inl (.inl h1), .inl (.inl h2), q _ H1 s1 (vi_zipR walk_zT (fun H k => ⟨.inl (.inl (k _ _ h1 n1)), .inl (.inl (k _ _ h2 n2))⟩) t1 t2)⟩⟩
    · cases hf
theorem vi_enumR {J : It} {P : Addr → Prop} {us : List V} {ys : List Val} {H1 : Hp} {G : Hp → Prop} (w : Walk J us.length G (YPair (fun i => some (.int (i : Nat))) (fun i => us[i]?))) (hG : ∀ H, Keep P H1 H → G H) (ry : Res cm P H1 us ys) : WalkV cm P J (pairV (rangeV 0 ys.length) ys) H1 := by
  refine vi_pair w (by rw [rangeV_len, Nat.min_self, Res.length ry]) hG (fun i v e hi => ?_) (fun i v e _ => Res.getV ry e) (fun i v x e ex P2 H s k => ?_)
  · cases e
    refine ⟨.int (0 + (i : Int)), rangeV_get (by rw [← Res.length ry]; exact hi), fun P2 s => .inr fun H => ?_⟩
    rw [show (0 : Int) + (i : Int) = (i : Int) by omega]
    exact .int _
  · cases e
    have lt := (List.getElem?_eq_some_iff.mp ex).1
    rw [rangeV_len] at lt
    rw [rangeV_get lt] at ex
    cases ex
    rw [show (0 : Int) + (i : Int) = (i : Int) by omega]
    exact .int _
def enuT (k : En → Option (List Val)) : En → Option (List Val) := fun env => (k env).bind fun xs => match xs with
  | [.tup ys] => some (pairV (rangeV 0 ys.length) ys)
  | _ => none
def enuL (k : En → Option (List Val)) : En → Option (List Val) := fun env => (k env).bind fun xs => match xs with
  | [.lst ys] => some (pairV (rangeV 0 ys.length) ys)
  | _ => none
theorem vi_enT {p tp : Pos} {elts : List Expr} {kk : Nat} {k : En → Option (List Val)} (hg : Gl X "enumerate") (hm : X.mg "enumerate" = none) (ha : VA X cm [a] k) (hs : starEach [a] X.env = [(false, eval a X.env)] := by rfl) : VI X cm (.Tuple elts kk tp) (.Call (.Name "enumerate" p) [a] [] pos) (enuT k) :=
  (pi_enT hg hm ha hs).weak fun σ H R ⟨P, env, z, hs, hf, q⟩ => by
    unfold enuT at hf
    obtain ⟨xs, ex, hf⟩ := Option.bind_eq_some_iff.mp hf
    refine ⟨P, env, xs, hs, ex, fun vs H1 s1 r1 => ?_⟩
    split at hf
    · cases hf
      obtain ⟨v, rfl, r2⟩ := Res.one r1
      obtain ⟨p1, ws1, rfl, n1, h1, t1⟩ := r2.tup_
      exact ⟨p1, ws1, rfl, .inl (.inl h1), q _ H1 s1 (vi_enumR walk_enT (fun H k => .inl (.inl (k _ _ h1 n1))) t1)⟩
    · cases hf
theorem vi_enL {p tp : Pos} {elts : List Expr} {kk : Nat} {k : En → Option (List Val)} (hg : Gl X "enumerate") (hm : X.mg "enumerate" = none) (ha : VA X cm [a] k) (hs : starEach [a] X.env = [(false, eval a X.env)] := by rfl) : VI X cm (.Tuple elts kk tp) (.Call (.Name "enumerate" p) [a] [] pos) (enuL k) :=
  (pi_enum hg hm ha hs).weak fun σ H R ⟨P, env, z, hs, hf, q⟩ => by
    unfold enuL at hf
    obtain ⟨xs, ex, hf⟩ := Option.bind_eq_some_iff.mp hf
    refine ⟨P, env, xs, hs, ex, fun vs H1 s1 r1 => ?_⟩
    split at hf
    · cases hf
      obtain ⟨v, rfl, r2⟩ := Res.one r1
      obtain ⟨p1, ws1, rfl, n1, h1, t1⟩ := r2.lst_
      exact ⟨p1, ws1, rfl, .inl (.inl h1), q _ H1 s1 (vi_enumR walk_enum (fun H k => .inl (.inl (k _ _ h1 n1))) t1)⟩
    · cases hf
end
/-! ### comprehensions -/
def lcGo (bnd : Val → Option (List (Nat × Val))) (ft : En → Option Bool) (fe : En → Option Val) (env : En) : List Val → Option (List Val)
  | [] => some []
  | x :: xs => (bnd x).bind fun ps => (ft (setE env ps)).bind fun k => if k = true then (fe (setE env ps)).bind fun y => (lcGo bnd ft fe env xs).bind fun ys => some (y :: ys) else lcGo bnd ft fe env xs
def lcF (fi : En → Option (List Val)) (bnd : Val → Option (List (Nat × Val))) (ft : En → Option Bool) (fe : En → Option Val) (vs : List Nat) : En → Option (List Val) := fun env => (fi env).bind fun xs => if xs.length ≤ most then lcGo bnd ft fe (wipeE env vs) xs else none
def TtV (cm : Cm) (tt : TT) (f : En → Option Bool) : Prop := ∀ (P : Addr → Prop) (env : En) (b : Bool) (σ : L2.St) (H : Hp) (Q : Bool → Hp → Prop), Slots cm P H σ env → f env = some b → (∀ H', Same H H' → Q b H') → tt σ H Q
def yesF : En → Option Bool := fun _ => some true
theorem tt_yes {cm : Cm} : TtV cm tYes yesF := fun P env b σ H Q hs e q => by
  cases e
  exact q H (Same.refl H)
theorem tt_of {cm : Cm} {f : En → Option Bool} : TtV cm (tVT cm f) f := fun P env b σ H Q hs e q => ⟨P, env, b, hs, e, q⟩
/-- a new list -/
def tN (cm : Cm) (f : En → Option (List Val)) : TE := fun σ H Q => ∃ (P : Addr → Prop) (env : En) (xs : List Val), Slots cm P H σ env ∧ f env = some xs ∧ ∀ a vs H', Same H H' → H a = none → H' a = some (.lst vs) → Res cm (fun b => P b ∨ b = a) H' vs xs → xs.length ≤ most → Q (.ref a) H'
abbrev VN (X : Cx) (cm : Cm) (e : Expr) (f : En → Option (List Val)) : Prop := PE X e (tN cm f)
theorem lcGo_len {bnd : Val → Option (List (Nat × Val))} {ft : En → Option Bool} {fe : En → Option Val} {env : En} : ∀ {xs ys : List Val}, lcGo bnd ft fe env xs = some ys → ys.length ≤ xs.length
  | [], ys, e => by
    cases e
    exact Nat.le_refl _
  | x :: xs, ys, e => by
    unfold lcGo at e
    obtain ⟨env1, e1, e⟩ := Option.bind_eq_some_iff.mp e
    obtain ⟨k, e2, e⟩ := Option.bind_eq_some_iff.mp e
    by_cases c : k = true
    · rw [if_pos c] at e
      obtain ⟨y, e3, e⟩ := Option.bind_eq_some_iff.mp e
      obtain ⟨ys', e4, e⟩ := Option.bind_eq_some_iff.mp e
      cases e
      have := lcGo_len e4
      rw [List.length_cons, List.length_cons]
      omega
    · rw [if_neg c] at e
      have := lcGo_len e
      rw [List.length_cons]
      omega
theorem tLc_of {cm : Cm} {fi : En → Option (List Val)} {g : TG} {bnd : Val → Option (List (Nat × Val))} {is vs : List Nat} {tt : TT} {ft : En → Option Bool} {fe : En → Option Val} (hg : TgV cm g bnd is) (hi : ∀ i ∈ is, i ∈ vs) (ht : TtV cm tt ft) (σ : L2.St) (H : Hp) (Q : VK) (q : tN cm (lcF fi bnd ft fe vs) σ H Q) :
    tLc (iV cm fi) g tt (tV cm fe) vs σ H Q := by
  obtain ⟨P, env, ys, hs, hf, q⟩ := q
  unfold lcF at hf
  obtain ⟨xs, ex, hf⟩ := Option.bind_eq_some_iff.mp hf
  split at hf
  case isFalse => cases hf
  rename_i hl
  refine ⟨P, env, xs, hs, ex, fun J H1 s1 w D nD => ?_⟩
  have hs1 := hs.same s1
  have nPD : ¬ P D := hs1.hid.new nD
  refine lc_it w (fun i H2 => ∃ (acc : List V) (dn rest : List Val), H2 D = some (.lst acc) ∧ Same H1 H2 ∧ Res cm (fun b => P b ∨ b = D) H2 acc dn ∧ lcGo bnd ft fe (wipeE env vs) (xs.drop i) = some rest ∧ dn ++ rest = ys ∧ acc.length ≤ i) ⟨[], [], ys, upd_same, fun b o e => by rw [upd_ne (ne_of_none e nD)]; exact e, .nil, hf, rfl, Nat.le_refl _⟩ (fun i H2 _ ⟨_, _, _, _, s2, _⟩ => ⟨.of s2, hs1.hid.same s2⟩) ?_ ?_
  · rintro i x H2 H3 hi2 ⟨acc, dn, rest, hD, s2, rs, hr, hy, la⟩ ⟨s3, y, ey, ry⟩
    have hid2 : Hid (fun b => P b ∨ b = D) H2 := fun a c => by
      rcases c with c | c
      · exact (hs1.hid.same s2) a c
      · exact ⟨.lst acc, by rw [c]; exact hD, fun vs z => nomatch z⟩
    have ry2 := ry (fun b => P b ∨ b = D) (fun a c => c.elim .inl fun z => .inr (by rw [z]; exact nD)) hid2
    have hs2 : Slots cm (fun b => P b ∨ b = D) H3 (L2.wipe σ vs) (wipeE env vs) := by
      have k : Slots cm (fun b => P b ∨ b = D) H2 σ env := ⟨hs.len, fun j z ez => by
        obtain ⟨v, h1, h2⟩ := hs1.at_ j z ez
        exact ⟨v, h1, h2.move (fun a c => c.elim .inl fun z => .inr (by rw [z]; exact nD)) (.of s2)⟩, hid2⟩
      exact (k.same s3).wipe vs
    have dr : xs.drop i = y :: xs.drop (i + 1) := by
      obtain ⟨lt, eq⟩ := List.getElem?_eq_some_iff.mp ey
      rw [List.drop_eq_getElem_cons lt, eq]
    rw [dr] at hr
    unfold lcGo at hr
    obtain ⟨env1, e1, hr⟩ := Option.bind_eq_some_iff.mp hr
    obtain ⟨k, e2, hr⟩ := Option.bind_eq_some_iff.mp hr
    obtain ⟨qs, pr, mem, go⟩ := hg.go _ H3 x y env1 ry2 e1
    have hs3 := Slots.sets pr hs2
    refine go _ _ ⟨?_, ht _ _ k _ H3 _ hs3 e2 fun H4 s4 => ?_⟩
    · rw [wipe_setA fun q hq => hi _ (mem q hq), wipe_wipe fun _ h => h]
    · have hD4 := s4 _ _ (s3 _ _ hD)
      have s14 := s2.trans (s3.trans s4)
      have rs4 := (Rep.same s3 rs).same s4
      by_cases c : k = true
      · rw [if_pos c] at hr ⊢
        obtain ⟨z, e3, hr⟩ := Option.bind_eq_some_iff.mp hr
        obtain ⟨ys', e4, hr⟩ := Option.bind_eq_some_iff.mp hr
        cases hr
        refine ⟨_, _, z, hs3.same s4, e3, fun u H5 s5 ru => ⟨acc, s5 _ _ hD4, most_line (by omega), ?_⟩⟩
        have kp : Keep (fun b => P b ∨ b = D) H5 (upd H5 D (.lst (acc ++ [u]))) := fun b o e n => by
          rw [upd_ne fun z => n (.inr z)]
          exact e
        refine ⟨acc ++ [u], dn ++ [z], ys', upd_same, fun b o e => ?_, Res.snoc ((Rep.same s5 rs4).keep kp) (ru.keep kp), e4, by rw [List.append_assoc]; exact hy, by rw [List.length_append]; show acc.length + 1 ≤ i + 1; omega⟩
        rw [upd_ne (ne_of_none e nD)]
        exact s5 _ _ (s14 _ _ e)
      · rw [if_neg c] at hr ⊢
        exact ⟨acc, dn, rest, hD4, s14, rs4, hr, hy, by omega⟩
  · rintro H2 ⟨acc, dn, rest, hD, s2, rs, hr, hy, la⟩
    rw [List.drop_length] at hr
    cases hr
    rw [List.append_nil] at hy
    subst hy
    exact q D acc H2 (s1.trans s2) (s1.free nD) hD rs (by rw [← Res.length rs]; omega)
section
variable {X : Cx} {cm : Cm} {a b c e : Expr} {es : List Expr} {f g h : En → Option Val} {pos : Pos}
/-- a new list as any other value -/
theorem vn_ve {k : En → Option (List Val)} (h : VN X cm e k) : VE X cm e (fun env => (k env).map .lst) := h.weak fun σ H Q ⟨P, env, z, hs, hf, q⟩ => by
  obtain ⟨xs, ex, rfl⟩ := Option.map_eq_some_iff.mp hf
  exact ⟨P, env, xs, hs, ex, fun a vs H' s na ha rs _ => q _ H' s (.lst (hs.hid.new na) ha (rs.less fun b c => .inl c))⟩
theorem vn_lc {elt tg iter : Expr} {ifs : List Expr} {scope : Scope} {own : List (Str × Nat)} {g : TG} {tt : TT} {fi : En → Option (List Val)} {bnd : Val → Option (List (Nat × Val))} {ft : En → Option Bool} {fe : En → Option Val} {is : List Nat} (hc : X.calm = true) (hN : X.N.Nodup) (hi : VI X cm tg iter fi) (ok : BlkOk X.N X.env.scope scope own)
    (hg : ∀ (s : Shared) (H : Hp) (C : Addr) (cl : List (Str × Addr)) (fp : List Addr), PG (X.blk s H scope (compEnvC scope cl C X.env) fp) tg g) (ht : ∀ (s : Shared) (H : Hp) (C : Addr) (cl : List (Str × Addr)) (fp : List Addr), PTs (X.blk s H scope (compEnvC scope cl C X.env) fp) ifs tt)
    (he : ∀ (s : Shared) (H : Hp) (C : Addr) (cl : List (Str × Addr)) (fp : List Addr), VE (X.blk s H scope (compEnvC scope cl C X.env) fp) cm elt fe) (tg_ : TgV cm g bnd is) (hi2 : ∀ i ∈ is, i ∈ own.map (·.2)) (tt_ : TtV cm tt ft) (hs : ∀ x, foldedSetIterable iter X.env x = pure x := by intro _; rfl) :
    VN X cm (.ListComp elt [⟨tg, iter, ifs, 0⟩] scope pos) (lcF fi bnd ft fe (own.map (·.2))) := (pe_lc hc hN hi ok hg ht he hs).weak (tLc_of tg_ hi2 tt_)
end
end Up

namespace Up
open PySem PySem.Spec PyProof.Rows L2
/-! ### statements: names that hold values, and names in ow that hold lists of their own -/
def isOwn (ow : List Nat) (env : En) (σ : L2.St) (a : Addr) : Prop := ∃ i ∈ ow, (∃ x, env[i]? = some (some x)) ∧ σ[i]? = some (some (.ref a))
def Ow (P : Addr → Prop) (ow : List Nat) (env : En) (σ : L2.St) (a : Addr) : Prop := P a ∨ isOwn ow env σ a
/-- what is owned: a list, a set, a dict whose keys are tuples -/
inductive Top (cm : Cm) (P : Addr → Prop) (H : Hp) (a : Addr) : Val → Prop where
  | lst {vs : List V} {xs : List Val} : H a = some (.lst vs) → Res cm P H vs xs → Top cm P H a (.lst xs)
  | set {S : Int → Bool} {n : Nat} {xs : List Int} : H a = some (SetO cm.w a S n) → (∀ i, S i = decide (i ∈ xs)) → n = xs.length → Top cm P H a (.set xs)
  | idk {kis : List (Int × Int)} : H a = some (.dK (idkH kis)) → Top cm P H a (.idk kis)
  | dct {kvs : List (List Key × V)} {ks : List (List Key)} {vs : List V} {xs : List Val} : H a = some (.dT kvs) → kvs.length = ks.length → vs.length = ks.length →
      (∀ (i : Nat) (k : List Key) (v : V), ks[i]? = some k → vs[i]? = some v → valV kvs k = some v) → (∀ k, k ∉ ks → valV kvs k = none) → Res cm P H vs xs → Top cm P H a (.dct ks xs)
theorem Top.re {cm : Cm} {P P' : Addr → Prop} {H : Hp} {a : Addr} {x : Val} (s : ∀ b, P' b → P b) (n : ¬ P' a) (t : Top cm P H a x) : Re cm P' H (.ref a) x := by
  cases t with
  | lst h r => exact .lst n h (r.less s)
  | set h h1 h2 => exact .set n h h1 h2
  | idk h => exact .idk n h
  | dct h l1 l2 g1 g2 r => exact .dct n h l1 l2 g1 g2 (r.less s)
theorem Top.same {cm : Cm} {P : Addr → Prop} {H H' : Hp} {a : Addr} {x : Val} (s : Same H H') (t : Top cm P H a x) : Top cm P H' a x := by
  cases t with
  | lst h r => exact .lst (s _ _ h) (Rep.same s r)
  | set h h1 h2 => exact .set (s _ _ h) h1 h2
  | idk h => exact .idk (s _ _ h)
  | dct h l1 l2 g1 g2 r => exact .dct (s _ _ h) l1 l2 g1 g2 (Rep.same s r)
/-- another object of one's own was changed -/
theorem Top.keep {cm : Cm} {P : Addr → Prop} {H H' : Hp} {a : Addr} {x : Val} (e : ∀ o, H a = some o → H' a = some o) (s : Keep P H H') (t : Top cm P H a x) : Top cm P H' a x := by
  cases t with
  | lst h r => exact .lst (e _ h) (Rep.keep s r)
  | set h h1 h2 => exact .set (e _ h) h1 h2
  | idk h => exact .idk (e _ h)
  | dct h l1 l2 g1 g2 r => exact .dct (e _ h) l1 l2 g1 g2 (Rep.keep s r)
theorem Top.no {cm : Cm} {P : Addr → Prop} {H : Hp} {a : Addr} {x : Val} (t : Top cm P H a x) : ∃ o, H a = some o ∧ ∀ vs, o ≠ .tup vs := by
  cases t with
  | lst h r => exact ⟨_, h, fun vs z => by cases z⟩
  | set h h1 h2 => exact ⟨_, h, fun vs z => by cases z⟩
  | idk h => exact ⟨_, h, fun vs z => by cases z⟩
  | dct h l1 l2 g1 g2 r => exact ⟨_, h, fun vs z => by cases z⟩
structure StV (cm : Cm) (P : Addr → Prop) (ow : List Nat) (H0 : Hp) (env : En) (σ : L2.St) (H : Hp) : Prop where
  sl : Slots cm (Ow P ow env σ) H σ (wipeE env ow)
  own : ∀ i ∈ ow, ∀ x, env[i]? = some (some x) → ∃ a, σ[i]? = some (some (.ref a)) ∧ ¬ P a ∧ H0 a = none ∧ Top cm (Ow P ow env σ) H a x
  dis : ∀ i ∈ ow, ∀ j ∈ ow, ∀ a, (∃ x, env[i]? = some (some x)) → (∃ x, env[j]? = some (some x)) → σ[i]? = some (some (.ref a)) → σ[j]? = some (some (.ref a)) → i = j
  len : σ.length = env.length
  base : Same H0 H
inductive Out where
  | nx (env : En)
  | rt (x : Val)
  | bk (env : En)
  | ct (env : En)
/-- what stood stays, but what is owned; what is newly owned is new -/
structure Fr (P : Addr → Prop) (ow : List Nat) (env : En) (σ : L2.St) (H : Hp) (env' : En) (σ' : L2.St) (H' : Hp) : Prop where
  kp : Keep (Ow P ow env σ) H H'
  nw : ∀ a, Ow P ow env' σ' a → Ow P ow env σ a ∨ H a = none
  st : ∀ a, NT H a → NT H' a
theorem Fr.refl {P : Addr → Prop} {ow : List Nat} {env : En} {σ : L2.St} {H : Hp} : Fr P ow env σ H env σ H := ⟨.refl, fun a c => .inl c, fun a n => n⟩
theorem Fr.trans {P : Addr → Prop} {ow : List Nat} {env e1 e2 : En} {σ s1 s2 : L2.St} {H H1 H2 : Hp} (a : Fr P ow env σ H e1 s1 H1) (b : Fr P ow e1 s1 H1 e2 s2 H2) : Fr P ow env σ H e2 s2 H2 := by
  have back : ∀ c, H1 c = none → Ow P ow env σ c ∨ H c = none := fun c h => by
    by_cases k : Ow P ow env σ c
    · exact .inl k
    · cases e : H c with
      | none => exact .inr rfl
      | some o =>
        rw [a.kp c o e k] at h
        cases h
  refine ⟨fun c o e n => b.kp c o (a.kp c o e n) fun k => ?_, fun c k => ?_, fun c n => b.st c (a.st c n)⟩
  · rcases a.nw c k with z | z
    · exact n z
    · rw [e] at z
      cases z
  · rcases b.nw c k with z | z
    · exact a.nw c z
    · exact back c z
def Ends.at_ (cm : Cm) (P : Addr → Prop) (ow : List Nat) (H0 : Hp) (env : En) (σ : L2.St) (H : Hp) (D : Ends) : Out → Prop
  | .nx env' => ∀ σ' H', StV cm P ow H0 env' σ' H' → Fr P ow env σ H env' σ' H' → D.nx σ' H'
  | .bk env' => ∀ σ' H', StV cm P ow H0 env' σ' H' → Fr P ow env σ H env' σ' H' → D.bk σ' H'
  | .ct env' => ∀ σ' H', StV cm P ow H0 env' σ' H' → Fr P ow env σ H env' σ' H' → D.ct σ' H'
  | .rt x => ∀ v H', Same H0 H' → Re cm P H' v x → D.rt v H'
def tSV (cm : Cm) (ow : List Nat) (g : En → Option Out) : TS := fun D σ H => ∃ (P : Addr → Prop) (H0 : Hp) (env : En) (o : Out), StV cm P ow H0 env σ H ∧ g env = some o ∧ Ends.at_ cm P ow H0 env σ H D o
abbrev SV (X : Cx) (cm : Cm) (ow : List Nat) (st : Stmt) (g : En → Option Out) : Prop := PS X st (tSV cm ow g)
abbrev SVs (X : Cx) (cm : Cm) (ow : List Nat) (st : List Stmt) (g : En → Option Out) : Prop := PSs X st (tSV cm ow g)
theorem _root_.L2.PS.weak {X : Cx} {st : Stmt} {t t' : TS} (h : PS X st t) (k : ∀ D σ H, t' D σ H → t D σ H) : PS X st t' := ⟨fun pins s σ H D I q => h.run pins s σ H D I (k D σ H q)⟩
theorem _root_.L2.PSs.weak {X : Cx} {st : List Stmt} {t t' : TS} (h : PSs X st t) (k : ∀ D σ H, t' D σ H → t D σ H) : PSs X st t' := ⟨fun pins s σ H D I q => h.run pins s σ H D I (k D σ H q)⟩
section
variable {cm : Cm} {P : Addr → Prop} {ow : List Nat} {H0 H H' : Hp} {env : En} {σ : L2.St}
theorem StV.same (s : Same H H') (h : StV cm P ow H0 env σ H) : StV cm P ow H0 env σ H' :=
  ⟨h.sl.same s, fun i hi x e => let ⟨a, h2, h4, h5, h6⟩ := h.own i hi x e; ⟨a, h2, h4, h5, h6.same s⟩, h.dis, h.len, h.base.trans s⟩
theorem Fr.same (s : Same H H') : Fr P ow env σ H env σ H' := ⟨.of s, fun a c => .inl c, fun a n => n.same s⟩
theorem wipeE_len (env : En) : ∀ vs : List Nat, (wipeE env vs).length = env.length
  | [] => rfl
  | v :: vs => by
    show ((wipeE env vs).set v none).length = _
    rw [List.length_set, wipeE_len env vs]
theorem wipeE_in {env : En} {i : Nat} : ∀ {vs : List Nat}, i ∈ vs → ∀ x, (wipeE env vs)[i]? ≠ some (some x)
  | v :: vs, h, x, e => by
    replace e : ((wipeE env vs).set v none)[i]? = some (some x) := e
    by_cases c : v = i
    · subst c
      have lt := (List.getElem?_eq_some_iff.mp e).1
      rw [List.length_set] at lt
      rw [List.getElem?_set_self lt] at e
      cases e
    · rw [List.getElem?_set_ne c] at e
      rcases List.mem_cons.mp h with z | z
      · exact c z.symm
      · exact wipeE_in z x e
theorem wipeE_out {env : En} {i : Nat} : ∀ {vs : List Nat}, i ∉ vs → (wipeE env vs)[i]? = env[i]?
  | [], _ => rfl
  | v :: vs, h => by
    show ((wipeE env vs).set v none)[i]? = _
    rw [List.getElem?_set_ne (fun (c : v = i) => h (by rw [c]; exact List.mem_cons_self ..))]
    exact wipeE_out fun c => h (List.mem_cons_of_mem _ c)
theorem wipeE_set {env : En} {i : Nat} {o : Option Val} : ∀ {vs : List Nat}, i ∉ vs → wipeE (env.set i o) vs = (wipeE env vs).set i o
  | [], _ => rfl
  | v :: vs, h => by
    show (wipeE (env.set i o) vs).set v none = ((wipeE env vs).set v none).set i o
    rw [wipeE_set fun c => h (List.mem_cons_of_mem _ c), List.set_comm _ _ (fun (c : i = v) => h (by rw [c]; exact List.mem_cons_self ..))]
/-- all of it, as it is read -/
theorem StV.view (h : StV cm P ow H0 env σ H) : Slots cm P H σ env := by
  refine ⟨h.len, fun i x e => ?_, fun a p => h.sl.hid a (.inl p)⟩
  by_cases c : i ∈ ow
  · obtain ⟨a, h2, h4, h5, h6⟩ := h.own i c x e
    exact ⟨_, h2, h6.re (fun b z => .inl z) h4⟩
  · obtain ⟨v, h1, h2⟩ := h.sl.at_ i x (by rw [wipeE_out c]; exact e)
    exact ⟨v, h1, h2.less fun b z => .inl z⟩
theorem Ow.set {i : Nat} {o : Option V} {x : Option Val} (hi : i ∉ ow) (a : Addr) : Ow P ow (env.set i x) (σ.set i o) a ↔ Ow P ow env σ a := by
  have k : ∀ {α : Type} (l : List α) (y : α) (j : Nat), j ∈ ow → (l.set i y)[j]? = l[j]? := fun l y j hj => List.getElem?_set_ne (fun (c : i = j) => hi (by rw [c]; exact hj))
  constructor
  · rintro (c | ⟨j, hj, ⟨y, hy⟩, hs⟩)
    · exact .inl c
    · rw [k _ _ j hj] at hy hs
      exact .inr ⟨j, hj, ⟨y, hy⟩, hs⟩
  · rintro (c | ⟨j, hj, ⟨y, hy⟩, hs⟩)
    · exact .inl c
    · exact .inr ⟨j, hj, ⟨y, by rw [k _ _ j hj]; exact hy⟩, by rw [k _ _ j hj]; exact hs⟩
theorem StV.set (h : StV cm P ow H0 env σ H) {i : Nat} (hi : i ∉ ow) {v : V} {x : Val} (r : Re cm (Ow P ow env σ) H v x) : StV cm P ow H0 (env.set i (some x)) (σ.set i (some v)) H := by
  have k : ∀ {α : Type} (l : List α) (y : α) (j : Nat), j ∈ ow → (l.set i y)[j]? = l[j]? := fun l y j hj => List.getElem?_set_ne (fun (c : i = j) => hi (by rw [c]; exact hj))
  have e1 : Ow P ow (env.set i (some x)) (σ.set i (some v)) = Ow P ow env σ := funext fun a => propext (Ow.set hi a)
  refine ⟨?_, fun j hj y e => ?_, fun j hj l hl a x1 x2 e3 e4 => ?_, by rw [List.length_set, List.length_set]; exact h.len, h.base⟩
  · rw [e1, wipeE_set hi]
    exact h.sl.set r
  · rw [k _ _ j hj] at e
    obtain ⟨a, h2, h4, h5, h6⟩ := h.own j hj y e
    exact ⟨a, by rw [k _ _ j hj]; exact h2, h4, h5, by rw [e1]; exact h6⟩
  · rw [k _ _ j hj] at x1 e3
    rw [k _ _ l hl] at x2 e4
    exact h.dis j hj l hl a x1 x2 e3 e4
theorem Fr.set {i : Nat} (hi : i ∉ ow) {o : Option V} {x : Option Val} (s : Same H H') : Fr P ow env σ H (env.set i x) (σ.set i o) H' := ⟨.of s, fun a c => .inl ((Ow.set hi a).mp c), fun a n => n.same s⟩
end
section
variable {X : Cx} {cm : Cm} {ow : List Nat} {a b c e : Expr} {es : List Expr} {f g h : En → Option Val} {pos : Pos} {st : Stmt} {rest : List Stmt}
def nilG : En → Option Out := fun env => some (.nx env)
def seqG (g k : En → Option Out) : En → Option Out := fun env => (g env).bind fun o => match o with
  | .nx env' => k env'
  | o => some o
theorem sv_nil : SVs X cm ow [] nilG := pss_nil.weak fun D σ H ⟨P, H0, env, o, hs, hg, q⟩ => by
  cases hg
  exact q σ H hs .refl
theorem sv_one {k : En → Option Out} (h : SV X cm ow st k) : SVs X cm ow [st] k := pss_one h
theorem sv_cons {k l : En → Option Out} (h1 : SV X cm ow st k) (h2 : SVs X cm ow rest l) : SVs X cm ow (st :: rest) (seqG k l) := (pss_cons h1 h2).weak fun D σ H ⟨P, H0, env, o, hs, hg, q⟩ => by
  unfold seqG at hg
  obtain ⟨o1, e1, hg⟩ := Option.bind_eq_some_iff.mp hg
  refine ⟨P, H0, env, o1, hs, e1, ?_⟩
  cases o1 with
  | nx env1 =>
    intro σ1 H1 hs1 f1
    refine ⟨P, H0, env1, o, hs1, hg, ?_⟩
    cases o with
    | nx env2 => exact fun σ2 H2 hs2 f2 => q σ2 H2 hs2 (f1.trans f2)
    | bk env2 => exact fun σ2 H2 hs2 f2 => q σ2 H2 hs2 (f1.trans f2)
    | ct env2 => exact fun σ2 H2 hs2 f2 => q σ2 H2 hs2 (f1.trans f2)
    | rt x => exact q
  | bk env1 =>
    cases hg
    exact q
  | ct env1 =>
    cases hg
    exact q
  | rt x =>
    cases hg
    exact q
def passG : En → Option Out := fun env => some (.nx env)
theorem sv_pass : SV X cm ow (.Pass pos) passG := ps_pass.weak fun D σ H ⟨P, H0, env, o, hs, hg, q⟩ => by
  cases hg
  exact q σ H hs .refl
def brkG : En → Option Out := fun env => some (.bk env)
theorem sv_break : SV X cm ow (.Break pos) brkG := ps_break.weak fun D σ H ⟨P, H0, env, o, hs, hg, q⟩ => by
  cases hg
  exact q σ H hs .refl
def ctnG : En → Option Out := fun env => some (.ct env)
theorem sv_continue : SV X cm ow (.Continue pos) ctnG := ps_continue.weak fun D σ H ⟨P, H0, env, o, hs, hg, q⟩ => by
  cases hg
  exact q σ H hs .refl
def nevG : En → Option Out := fun _ => none
theorem sv_never : SV X cm ow st nevG := ps_never.weak fun D σ H ⟨P, H0, env, o, hs, hg, q⟩ => by cases hg
def retG (f : En → Option Val) : En → Option Out := fun env => (f env).map .rt
theorem sv_ret (he : VE X cm e f) : SV X cm ow (.Return (some e) pos) (retG f) := (ps_ret he).weak fun D σ H ⟨P, H0, env, o, hs, hg, q⟩ => by
  obtain ⟨x, ex, rfl⟩ := Option.map_eq_some_iff.mp hg
  exact ⟨P, env, x, hs.view, ex, fun v H1 s1 r1 => q v H1 (hs.base.trans s1) r1⟩
def retNG : En → Option Out := fun _ => some (.rt .non)
theorem sv_retN : SV X cm ow (.Return none pos) retNG := ps_retN.weak fun D σ H ⟨P, H0, env, o, hs, hg, q⟩ => by
  cases hg
  exact q _ H hs.base .non
def doG (f : En → Option Val) : En → Option Out := fun env => (f env).map fun _ => .nx env
theorem sv_do (he : VE X cm e f) (hs : swapsWith e none pos.line X.env = pure false := by rfl) : SV X cm ow (.Expr e pos) (doG f) := (ps_expr he hs).weak fun D σ H ⟨P, H0, env, o, hs, hg, q⟩ => by
  obtain ⟨x, ex, rfl⟩ := Option.map_eq_some_iff.mp hg
  exact ⟨P, env, x, hs.view, ex, fun v H1 s1 r1 => q σ H1 (hs.same s1) (.same s1)⟩
def ifG (t : En → Option Bool) (k l : En → Option Out) : En → Option Out := fun env => (t env).bind fun c => if c = true then k env else l env
theorem sv_if {t : En → Option Bool} {k l : En → Option Out} {x y : List Stmt} (hc : VT X cm c t) (ha : SVs X cm ow x k) (hb : SVs X cm ow y l) : SV X cm ow (.If c x y pos) (ifG t k l) := (ps_if hc ha hb).weak fun D σ H ⟨P, H0, env, o, hs, hg, q⟩ => by
  unfold ifG at hg
  obtain ⟨k1, e1, hg⟩ := Option.bind_eq_some_iff.mp hg
  refine ⟨P, env, k1, hs.view, e1, fun H1 s1 => ?_⟩
  have q1 : Ends.at_ cm P ow H0 env σ H1 D o := by
    cases o with
    | nx env2 => exact fun σ2 H2 hs2 f2 => q σ2 H2 hs2 (Fr.trans (.same s1) f2)
    | bk env2 => exact fun σ2 H2 hs2 f2 => q σ2 H2 hs2 (Fr.trans (.same s1) f2)
    | ct env2 => exact fun σ2 H2 hs2 f2 => q σ2 H2 hs2 (Fr.trans (.same s1) f2)
    | rt x => exact q
  show if k1 = true then tSV cm ow k D σ H1 else tSV cm ow l D σ H1
  by_cases c : k1 = true
  · rw [if_pos c] at hg ⊢
    exact ⟨P, H0, env, o, hs.same s1, hg, q1⟩
  · rw [if_neg c] at hg ⊢
    exact ⟨P, H0, env, o, hs.same s1, hg, q1⟩
/-- nothing of it is a list, a dict, an instance -/
def imm : Val → Bool
  | .lst _ => false
  | .dct _ _ => false
  | .ins _ _ _ => false
  | .set _ => false
  | .dk0 => false
  | .exc _ _ _ => false
  | .idk _ => false
  | .tup xs => imms xs
  | _ => true
where imms : List Val → Bool
  | [] => true
  | x :: xs => imm x && imms xs
theorem Rep.imm {P P' : Addr → Prop} {H : Hp} (hP : ∀ a, P' a → P a ∨ ∃ o, H a = some o ∧ ∀ vs, o ≠ .tup vs) : ∀ {b : Bool} {vs : List V} {xs : List Val}, Rep cm P H b vs xs → (b = true → ∀ x, xs = [x] → Up.imm x = true → Rep cm P' H b vs xs) ∧ (b = false → imm.imms xs = true → Rep cm P' H b vs xs) := fun h => by
  induction h with
  | nil => exact ⟨(fun e => nomatch e), fun _ _ => .nil⟩
  | cons r t i1 i2 =>
    refine ⟨(fun e => nomatch e), fun _ c => ?_⟩
    rw [imm.imms, Bool.and_eq_true] at c
    exact .cons (i1.1 rfl _ rfl c.1) (i2.2 rfl c.2)
  | non => exact ⟨fun _ x e c => .non, (fun e => nomatch e)⟩
  | bl b => exact ⟨fun _ x e c => .bl b, (fun e => nomatch e)⟩
  | int i => exact ⟨fun _ x e c => .int i, (fun e => nomatch e)⟩
  | str z => exact ⟨fun _ x e c => .str z, (fun e => nomatch e)⟩
  | loc a => exact ⟨fun _ x e c => .loc a, (fun e => nomatch e)⟩
  | idk n hh =>
    refine ⟨fun _ x e c => ?_, (fun e => nomatch e)⟩
    cases e
    rw [Up.imm] at c
    cases c
  | lst n hh r ih =>
    refine ⟨fun _ x e c => ?_, (fun e => nomatch e)⟩
    cases e
    rw [Up.imm] at c
    cases c
  | tup n hh r ih =>
    refine ⟨fun _ x e c => ?_, (fun e => nomatch e)⟩
    cases e
    rw [Up.imm] at c
    refine .tup (fun z => ?_) hh (ih.2 rfl c)
    rcases hP _ z with k | ⟨o, k, no⟩
    · exact n k
    · rw [hh] at k
      cases k
      exact no _ rfl
  | dct n hh l1 l2 g1 g2 r ih =>
    refine ⟨fun _ x e c => ?_, (fun e => nomatch e)⟩
    cases e
    rw [Up.imm] at c
    cases c
  | ins n hh r ih =>
    refine ⟨fun _ x e c => ?_, (fun e => nomatch e)⟩
    cases e
    rw [Up.imm] at c
    cases c
  | set n hh k1 k2 =>
    refine ⟨fun _ x e c => ?_, (fun e => nomatch e)⟩
    cases e
    rw [Up.imm] at c
    cases c
  | dk0 n hh =>
    refine ⟨fun _ x e c => ?_, (fun e => nomatch e)⟩
    cases e
    rw [Up.imm] at c
    cases c
  | exc n hh k1 k2 r ih =>
    refine ⟨fun _ x e c => ?_, (fun e => nomatch e)⟩
    cases e
    rw [Up.imm] at c
    cases c
theorem StV.owl {P : Addr → Prop} {H0 H : Hp} {env : En} {σ : L2.St} (h : StV cm P ow H0 env σ H) : ∀ a, Ow P ow env σ a → P a ∨ ∃ o, H a = some o ∧ ∀ vs, o ≠ .tup vs := by
  rintro a (c | ⟨i, hi, ⟨x, hx⟩, hs⟩)
  · exact .inl c
  · obtain ⟨b, h2, _, _, h3⟩ := h.own i hi x hx
    rw [hs] at h2
    cases h2
    exact .inr h3.no
theorem StV.imm {P : Addr → Prop} {H0 H : Hp} {env : En} {σ : L2.St} (h : StV cm P ow H0 env σ H) {v : V} {x : Val} (r : Re cm P H v x) (c : Up.imm x = true) : Re cm (Ow P ow env σ) H v x := (Rep.imm h.owl r).1 rfl x rfl c
/-- how a value is read that is kept: without what is owned, or told without lists -/
def SrV (cm : Cm) (ow : List Nat) (r : En → Option Val) (t : TE) : Prop := ∀ (P : Addr → Prop) (H0 H : Hp) (env : En) (σ : L2.St) (x : Val) (Q : VK), StV cm P ow H0 env σ H → r env = some x → (∀ v H', Same H H' → Re cm (Ow P ow env σ) H' v x → Q v H') → t σ H Q
def stF (ow : List Nat) (f : En → Option Val) : En → Option Val := fun env => f (wipeE env ow)
def boF (f : En → Option Val) : En → Option Val := fun env => (f env).bind fun x => if imm x = true then some x else none
theorem sr_st : SrV cm ow (stF ow f) (tV cm f) := fun P H0 H env σ x Q hs e q => ⟨_, wipeE env ow, x, hs.sl, e, q⟩
theorem sr_bo : SrV cm ow (boF f) (tV cm f) := fun P H0 H env σ x Q hs e q => by
  unfold boF at e
  obtain ⟨y, ey, e⟩ := Option.bind_eq_some_iff.mp e
  split at e
  case isFalse => cases e
  rename_i ci
  cases e
  exact ⟨P, env, _, hs.view, ey, fun v H1 s1 r1 => q v H1 s1 ((hs.same s1).imm r1 ci)⟩
def setG (i : Nat) (r : En → Option Val) : En → Option Out := fun env => (r env).map fun x => .nx (env.set i (some x))
theorem sv_set {r : En → Option Val} {i : Nat} {x : Str} {pos' : Pos} (hN : X.N.Nodup) (hi : X.N[i]? = some x) (hx : Loc X.env.scope x) (ho : i ∉ ow) (he : VE X cm e f) (sr : SrV cm ow r (tV cm f)) (hs : swapsWith e (some (.Name x pos')) pos.line X.env = pure false := by rfl) (hf : X.fn x = true ∨ X.env.scope.names.lookup x = some .local := by first | exact .inl rfl | exact .inr rfl | assumption) :
    SV X cm ow (.Assign [.Name x pos'] e pos) (setG i r) := (ps_set hN hi hx he hs hf).weak fun D σ H ⟨P, H0, env, o, hs, hg, q⟩ => by
  obtain ⟨y, ey, rfl⟩ := Option.map_eq_some_iff.mp hg
  exact sr P H0 H env σ y _ hs ey fun v H1 s1 r1 => q _ H1 ((hs.same s1).set ho r1) (Fr.set ho s1)
/-! tuples taken apart -/
theorem StV.sets {P : Addr → Prop} {H0 H : Hp} {qs : List (Nat × V)} {ps : List (Nat × Val)} {Q : Addr → Prop} (pr : Prs cm Q H qs ps) : ∀ {env : En} {σ : L2.St}, (∀ q ∈ qs, q.1 ∉ ow) → Q = Ow P ow env σ → StV cm P ow H0 env σ H → StV cm P ow H0 (setE env ps) (setA σ qs) H ∧ ∀ a, Ow P ow (setE env ps) (setA σ qs) a ↔ Ow P ow env σ a := by
  induction pr with
  | nil => exact fun _ _ h => ⟨h, fun _ => .rfl⟩
  | @cons q p qs ps r t ih =>
    intro env σ hn eQ h
    obtain ⟨e, r⟩ := r
    obtain ⟨i, v⟩ := q
    obtain ⟨j, x⟩ := p
    obtain rfl : i = j := e
    have n1 : i ∉ ow := hn (i, v) (List.mem_cons_self ..)
    have e1 : Ow P ow (env.set i (some x)) (σ.set i (some v)) = Ow P ow env σ := funext fun a => propext (Ow.set n1 a)
    subst eQ
    have h1 := h.set n1 r
    obtain ⟨h2, h3⟩ := ih (fun q hq => hn q (List.mem_cons_of_mem _ hq)) e1.symm h1
    exact ⟨h2, fun a => (h3 a).trans (Ow.set n1 a)⟩
def asgG (m : Val → Option (List (Nat × Val))) (r : En → Option Val) : En → Option Out := fun env => (r env).bind fun x => (m x).map fun ps => .nx (setE env ps)
theorem sv_asg {r : En → Option Val} {tg : Expr} {g : TG} {m : Val → Option (List (Nat × Val))} {is : List Nat} (he : VE X cm e f) (sr : SrV cm ow r (tV cm f)) (hg : PG X tg g) (tg_ : TgV cm g m is) (ho : ∀ i ∈ is, i ∉ ow) (hs : swapsWithSole [tg] e pos.line X.env = pure false := by rfl) (hw : swappedStores [tg] e X.env = pure none := by rfl)
    (h1 : (assignEach [tg] X.env).map (·.2) = [assign tg X.env] := by rfl) : SV X cm ow (.Assign [tg] e pos) (asgG m r) := (ps_asg he hg hs hw h1).weak fun D σ H ⟨P, H0, env, o, hs, hk, q⟩ => by
  unfold asgG at hk
  obtain ⟨y, ey, hk⟩ := Option.bind_eq_some_iff.mp hk
  obtain ⟨ps, e2, rfl⟩ := Option.map_eq_some_iff.mp hk
  refine sr P H0 H env σ y _ hs ey fun v H1 s1 r1 => ?_
  obtain ⟨qs, pr, mem, go⟩ := tg_.go _ H1 v y ps r1 e2
  obtain ⟨h2, h3⟩ := StV.sets pr (fun q hq => ho _ (mem q hq)) rfl (hs.same s1)
  exact go σ _ (q _ H1 h2 ⟨.of s1, fun a c => .inl ((h3 a).mp c), fun a n => n.same s1⟩)
end
end Up

namespace Up
open PySem PySem.Spec PyProof.Rows L2
section
variable {X : Cx} {cm : Cm} {ow : List Nat} {a b c e : Expr} {es : List Expr} {f g h : En → Option Val} {pos : Pos} {st : Stmt} {rest : List Stmt}
/-! ### loops -/
def forGo (m : Val → Option (List (Nat × Val))) (body : En → Option Out) : List Val → En → Option Out
  | [], env => some (.nx env)
  | x :: xs, env => (m x).bind fun ps => (body (setE env ps)).bind fun o => match o with
    | .nx env' => forGo m body xs env'
    | .ct env' => forGo m body xs env'
    | .bk env' => some (.nx env')
    | .rt y => some (.rt y)
def forG (ow : List Nat) (fi : En → Option (List Val)) (m : Val → Option (List (Nat × Val))) (body : En → Option Out) : En → Option Out := fun env => (fi (wipeE env ow)).bind fun xs => forGo m body xs env
theorem sv_for {tg iter : Expr} {body : List Stmt} {fi : En → Option (List Val)} {gt : TG} {m : Val → Option (List (Nat × Val))} {is : List Nat} {k : En → Option Out} (hp : PassesOwn (model X.prog X.w) X.A X.env X.xe) (hc : X.calm = true) (hi : VI X cm tg iter fi) (hg : PG X tg gt) (hb : SVs X cm ow body k) (tg_ : TgV cm gt m is) (ho : ∀ i ∈ is, i ∉ ow)
    (hs : ∀ x, foldedSetIterable iter X.env x = pure x := by intro _; rfl) : SV X cm ow (.For tg iter body [] pos) (forG ow fi m k) := (ps_for hp hc hi hg hb hs).weak fun D σ H ⟨P, H0, env, o, hs, hk, q⟩ => by
  unfold forG at hk
  obtain ⟨xs, ex, hk⟩ := Option.bind_eq_some_iff.mp hk
  refine ⟨_, wipeE env ow, xs, hs.sl, ex, fun J H1 s1 w => ?_⟩
  refine for_it w (fun i σ' H' => ∃ env', StV cm P ow H0 env' σ' H' ∧ Fr P ow env σ H env' σ' H' ∧ Keep (Ow P ow env σ) H1 H' ∧ (∀ a, Ow P ow env' σ' a → Ow P ow env σ a ∨ H1 a = none) ∧ Hid (Ow P ow env σ) H' ∧ forGo m k (xs.drop i) env' = some o) ⟨env, hs.same s1, .same s1, .refl, fun a c => .inl c, (hs.same s1).sl.hid, hk⟩ (fun i σ' H' _ ⟨_, _, _, k1, _, k2, _⟩ => ⟨k1, k2⟩) ?_ ?_
  · rintro i x σ' H' H2 hi2 ⟨env', hs', fr, kp, nw, hid, hgo⟩ ⟨s2, y, ey, ry⟩
    have ry2 := ry _ nw hs'.sl.hid
    have dr : xs.drop i = y :: xs.drop (i + 1) := by
      obtain ⟨lt, eq⟩ := List.getElem?_eq_some_iff.mp ey
      rw [List.drop_eq_getElem_cons lt, eq]
    rw [dr] at hgo
    unfold forGo at hgo
    obtain ⟨ps, e1, hgo⟩ := Option.bind_eq_some_iff.mp hgo
    obtain ⟨o1, e2, hgo⟩ := Option.bind_eq_some_iff.mp hgo
    obtain ⟨qs, pr, mem, go⟩ := tg_.go _ H2 x y ps ry2 e1
    obtain ⟨h2, h3⟩ := StV.sets pr (fun q hq => ho _ (mem q hq)) rfl (hs'.same s2)
    have f2 : Fr P ow env' σ' H' (setE env' ps) (setA σ' qs) H2 := ⟨.of s2, fun a c => .inl ((h3 a).mp c), fun a n => n.same s2⟩
    have turn : ∀ (env3 : En) (σ3 : L2.St) (H3 : Hp), StV cm P ow H0 env3 σ3 H3 → Fr P ow (setE env' ps) (setA σ' qs) H2 env3 σ3 H3 → Fr P ow env σ H env3 σ3 H3 ∧ Keep (Ow P ow env σ) H1 H3 ∧ (∀ a, Ow P ow env3 σ3 a → Ow P ow env σ a ∨ H1 a = none) ∧ Hid (Ow P ow env σ) H3 := fun env3 σ3 H3 hs3 f3 => by
      have f23 := f2.trans f3
      refine ⟨fr.trans f23, fun b o e n => ?_, fun a c => ?_, fun b c => ?_⟩
      · refine f23.kp b o (kp b o e n) fun z => ?_
        rcases nw b z with y | y
        · exact n y
        · rw [e] at y
          cases y
      · rcases f23.nw a c with z | z
        · exact nw a z
        · by_cases n : Ow P ow env σ a
          · exact .inl n
          · cases e : H1 a with
            | none => exact .inr rfl
            | some o =>
              rw [kp a o e n] at z
              cases z
      · exact f23.st b (hid b c)
    refine go σ' _ ⟨P, H0, _, o1, h2, e2, ?_⟩
    cases o1 with
    | nx env3 =>
      intro σ3 H3 hs3 f3
      obtain ⟨t1, t2, t3, t4⟩ := turn env3 σ3 H3 hs3 f3
      exact ⟨env3, hs3, t1, t2, t3, t4, hgo⟩
    | ct env3 =>
      intro σ3 H3 hs3 f3
      obtain ⟨t1, t2, t3, t4⟩ := turn env3 σ3 H3 hs3 f3
      exact ⟨env3, hs3, t1, t2, t3, t4, hgo⟩
    | bk env3 =>
      cases hgo
      intro σ3 H3 hs3 f3
      exact q σ3 H3 hs3 (turn env3 σ3 H3 hs3 f3).1
    | rt z =>
      cases hgo
      exact q
  · rintro σ' H' ⟨env', hs', fr, kp, nw, hid, hgo⟩
    rw [List.drop_length] at hgo
    cases hgo
    exact q σ' H' hs' fr
/-! while, with a number of turns that is enough -/
def whGo (t : En → Option Bool) (body : En → Option Out) : Nat → En → Option Out
  | 0, _ => none
  | n + 1, env => (t env).bind fun c => if c = true then (body env).bind fun o => match o with
    | .nx env' => whGo t body n env'
    | .ct env' => whGo t body n env'
    | .bk env' => some (.nx env')
    | .rt y => some (.rt y)
    else some (.nx env)
theorem sv_while {t : En → Option Bool} {body : List Stmt} {k : En → Option Out} {n : Nat} (hp : PassesOwn (model X.prog X.w) X.A X.env X.xe) (hc : VT X cm c t) (hb : SVs X cm ow body k) : SV X cm ow (.While c body [] pos) (whGo t k n) := (ps_while hp hc hb).weak fun D σ H ⟨P, H0, env, o, hs, hk, q⟩ => by
  refine ⟨fun m σ' H' => ∃ env', StV cm P ow H0 env' σ' H' ∧ Fr P ow env σ H env' σ' H' ∧ whGo t k m env' = some o, ⟨n, env, hs, .refl, hk⟩, ?_⟩
  rintro m σ' H' ⟨env', hs', fr, hw⟩
  cases m with
  | zero => cases hw
  | succ m =>
    unfold whGo at hw
    obtain ⟨k1, e1, hw⟩ := Option.bind_eq_some_iff.mp hw
    refine ⟨P, env', k1, hs'.view, e1, fun H1 s1 => ?_⟩
    show if k1 = true then _ else _
    by_cases c : k1 = true
    · rw [if_pos c] at hw ⊢
      obtain ⟨o1, e2, hw⟩ := Option.bind_eq_some_iff.mp hw
      refine ⟨fun σ2 H2 => ∃ m', m' < m + 1 ∧ ∃ env', StV cm P ow H0 env' σ2 H2 ∧ Fr P ow env σ H env' σ2 H2 ∧ whGo t k m' env' = some o, fun σ2 H2 h => h, ?_⟩
      refine ⟨P, H0, env', o1, hs'.same s1, e2, ?_⟩
      have f1 : Fr P ow env σ H env' σ' H1 := fr.trans (.same s1)
      cases o1 with
      | nx env3 => exact fun σ3 H3 hs3 f3 => ⟨m, Nat.lt_succ_self _, env3, hs3, f1.trans f3, hw⟩
      | ct env3 => exact fun σ3 H3 hs3 f3 => ⟨m, Nat.lt_succ_self _, env3, hs3, f1.trans f3, hw⟩
      | bk env3 =>
        cases hw
        exact fun σ3 H3 hs3 f3 => q σ3 H3 hs3 (f1.trans f3)
      | rt z =>
        cases hw
        exact q
    · rw [if_neg c] at hw ⊢
      cases hw
      exact q σ' H1 (hs'.same s1) (fr.trans (.same s1))
/-! ### a def -/
def runV (n k : Nat) (g : En → Option Out) (xs : List Val) : Option Val := if xs.length = k then (g (xs.map some ++ List.replicate (n - xs.length) none)).bind fun o => match o with
  | .nx _ => some .non
  | .rt y => some y
  | _ => none
  else none
theorem start_slots {P : Addr → Prop} {H : Hp} {N : List Str} {vs : List V} {xs : List Val} (hd : Hid P H) (r : Res cm P H vs xs) : Slots cm P H (start N vs) (xs.map some ++ List.replicate (N.length - xs.length) none) := by
  have l := Res.length r
  refine ⟨by simp [L2.start, l], fun i x e => ?_, hd⟩
  by_cases c : i < xs.length
  · rw [List.getElem?_append_left (by rw [List.length_map]; exact c), List.getElem?_map, List.getElem?_eq_getElem c] at e
    cases e
    obtain ⟨v, h1, h2⟩ := Res.get r (List.getElem?_eq_getElem c)
    refine ⟨v, ?_, h2⟩
    unfold L2.start
    rw [List.getElem?_append_left (by rw [List.length_map, l]; exact c), List.getElem?_map, h1]
    rfl
  · rw [List.getElem?_append_right (by rw [List.length_map]; omega)] at e
    have := List.mem_of_getElem? e
    rw [List.mem_replicate] at this
    cases this.2
theorem start_wipe {xs : List Val} {n : Nat} : ∀ {ow : List Nat}, (∀ i ∈ ow, xs.length ≤ i) → wipeE (xs.map some ++ List.replicate n none) ow = xs.map some ++ List.replicate n none
  | [], _ => rfl
  | i :: ow, h => by
    show (wipeE _ ow).set i none = _
    rw [start_wipe fun j hj => h j (List.mem_cons_of_mem _ hj)]
    have hi := h i (List.mem_cons_self ..)
    refine List.ext_getElem? fun j => ?_
    by_cases c : i = j
    · subst c
      rw [List.getElem?_set]
      split
      · split
        · rename_i lt
          rw [List.getElem?_append_right (by rw [List.length_map]; exact hi), List.getElem?_replicate, if_pos]
          rw [List.length_append, List.length_map, List.length_replicate] at lt
          rw [List.length_map]
          omega
        · rename_i lt
          rw [List.getElem?_eq_none]
          omega
      · rename_i c
        exact absurd rfl c
    · rw [List.getElem?_set_ne c]
theorem start_st {P : Addr → Prop} {H : Hp} {N : List Str} {vs : List V} {xs : List Val} (hd : Hid P H) (r : Res cm P H vs xs) (ho : ∀ i ∈ ow, xs.length ≤ i) : StV cm P ow H (xs.map some ++ List.replicate (N.length - xs.length) none) (start N vs) H := by
  have sl := start_slots (N := N) hd r
  have no : ∀ i ∈ ow, ∀ x, (xs.map some ++ List.replicate (N.length - xs.length) none)[i]? ≠ some (some x) := fun i hi x e => by
    rw [List.getElem?_append_right (by rw [List.length_map]; exact ho i hi)] at e
    have := List.mem_of_getElem? e
    rw [List.mem_replicate] at this
    cases this.2
  have eo : Ow P ow (xs.map some ++ List.replicate (N.length - xs.length) none) (start N vs) = P := funext fun a => propext ⟨fun c => c.elim id fun ⟨i, hi, ⟨x, hx⟩, _⟩ => absurd hx (no i hi x), .inl⟩
  exact ⟨by rw [eo, start_wipe ho]; exact sl, fun i hi x e => absurd e (no i hi x), fun i hi j hj a ⟨x, hx⟩ => absurd hx (no i hi x), sl.len, Same.refl H⟩
end
section
variable {P : Program} {w : World} {K : PySem.W.Frag} {mg : Str → Option Value} {base : Heap} {cm : Cm}
/-- a def that is a function of its arguments' trees -/
theorem okV {x qual : Str} {st : Stmt} {f : Addr} {fd : FuncData} {N ps : List Str} {k : Nat} (ow : List Nat) {g : En → Option Out} (F : Fun K x qual st f fd) (S : FnScope N ps (defScope st)) (ho : ∀ i ∈ ow, ps.length ≤ i)
    (hbody : ∀ (cdv : Value) (A : Around) (outer : List Env) (s : Shared) (H : Hp) (E : XK), Room k (A.deeper (envOfC qual (defScope st) s.heap.objs.size f cdv)) → SVs (cxOf CX0 P w K mg base N qual (defScope st) f cdv A outer s H E).nox cm ow (defBody st) g) :
    FnOk P w K mg base CX0 (k + 1) f fd ps (spV cm (runV N.length ps.length g)) := by
  refine F.ok S (fun vs H Q E h => ?_) (fun cdv A outer s H vs Q E hr h => ?_)
  · obtain ⟨P', xs, z, _, r, e, _⟩ := h
    unfold runV at e
    split at e
    · rename_i l
      rw [Res.length r]
      exact l
    · cases e
  · obtain ⟨P', xs, z, hd, r, e, q⟩ := h
    refine ⟨_, hbody cdv A outer s H E hr, ?_⟩
    unfold runV at e
    split at e
    case isFalse => cases e
    rename_i l
    obtain ⟨o, e1, e⟩ := Option.bind_eq_some_iff.mp e
    refine ⟨P', H, _, o, start_st (N := N) hd r (by rw [l]; exact ho), e1, ?_⟩
    cases o with
    | nx env' =>
      cases e
      exact fun σ' H' hs f => q _ H' hs.base .non
    | rt y =>
      cases e
      exact fun v H' s r => q v H' s r
    | bk env' => cases e
    | ct env' => cases e
end
end Up

namespace Up
open PySem PySem.Spec PyProof.Rows L2
section
variable {cm : Cm} {P : Addr → Prop} {ow : List Nat} {H0 H H' : Hp} {env : En} {σ : L2.St}
theorem wipeE_set_in {env : En} {i : Nat} {o : Option Val} : ∀ {vs : List Nat}, i ∈ vs → wipeE (env.set i o) vs = wipeE env vs
  | v :: vs, h => by
    show (wipeE (env.set i o) vs).set v none = (wipeE env vs).set v none
    by_cases c : i ∈ vs
    · rw [wipeE_set_in c]
    · rcases List.mem_cons.mp h with z | z
      · subst z
        rw [wipeE_set c, List.set_set]
      · exact absurd z c
theorem Top.move {P' : Addr → Prop} {a : Addr} {x : Val} (s : ∀ b, P' b → P b ∨ H b = none) (kp : Keep P H H') (e : ∀ o, H a = some o → H' a = some o) (t : Top cm P H a x) : Top cm P' H' a x := by
  cases t with
  | lst h r => exact .lst (e _ h) (Rep.move s kp r)
  | set h h1 h2 => exact .set (e _ h) h1 h2
  | idk h => exact .idk (e _ h)
  | dct h l1 l2 g1 g2 r => exact .dct (e _ h) l1 l2 g1 g2 (Rep.move s kp r)
theorem Top.less {P' : Addr → Prop} {a : Addr} {x : Val} (s : ∀ b, P' b → P b) (t : Top cm P H a x) : Top cm P' H a x := by
  cases t with
  | lst h r => exact .lst h (r.less s)
  | set h h1 h2 => exact .set h h1 h2
  | idk h => exact .idk h
  | dct h l1 l2 g1 g2 r => exact .dct h l1 l2 g1 g2 (r.less s)
/-- a new thing of one's own -/
theorem StV.newO (h : StV cm P ow H0 env σ H) {i : Nat} (hi : i ∈ ow) (lt : i < env.length) {p : Addr} (np : H p = none) (s : Same H H') {x : Val} (t : Top cm (fun b => Ow P ow env σ b ∨ b = p) H' p x) :
    StV cm P ow H0 (env.set i (some x)) (σ.set i (some (.ref p))) H' ∧ Fr P ow env σ H (env.set i (some x)) (σ.set i (some (.ref p))) H' := by
  have nPp : ¬ Ow P ow env σ p := fun c => h.sl.hid.new np c
  have ll : i < σ.length := by
    rw [h.len]
    exact lt
  have k1 : ∀ a, Ow P ow (env.set i (some x)) (σ.set i (some (.ref p))) a → Ow P ow env σ a ∨ a = p := by
    rintro a (c | ⟨j, hj, ⟨y, hy⟩, hs⟩)
    · exact .inl (.inl c)
    · by_cases e : i = j
      · subst e
        rw [List.getElem?_set_self ll] at hs
        cases hs
        exact .inr rfl
      · rw [List.getElem?_set_ne e] at hy hs
        exact .inl (.inr ⟨j, hj, ⟨y, hy⟩, hs⟩)
  have k2 : ∀ a, Ow P ow (env.set i (some x)) (σ.set i (some (.ref p))) a → Ow P ow env σ a ∨ H a = none := fun a c => (k1 a c).imp id fun z => by rw [z]; exact np
  refine ⟨⟨⟨?_, fun j y e => ?_, fun a c => ?_⟩, fun j hj y e => ?_, fun j hj l hl a x1 x2 e3 e4 => ?_, by rw [List.length_set, List.length_set]; exact h.len, h.base.trans s⟩, .of s, k2, fun a n => n.same s⟩
  · rw [wipeE_set_in hi, List.length_set]
    exact h.sl.len
  · rw [wipeE_set_in hi] at e
    have n : i ≠ j := fun z => wipeE_in hi y (by rw [z]; exact e)
    obtain ⟨v, h1, h2⟩ := h.sl.at_ j y e
    exact ⟨v, by rw [List.getElem?_set_ne n]; exact h1, h2.move k2 (.of s)⟩
  · rcases k1 a c with z | z
    · exact (h.sl.hid.same s) a z
    · rw [z]
      exact t.no
  · by_cases e1 : i = j
    · subst e1
      rw [List.getElem?_set_self lt] at e
      cases e
      exact ⟨p, List.getElem?_set_self ll, fun c => nPp (.inl c), h.base.free np, t.less k1⟩
    · rw [List.getElem?_set_ne e1] at e
      obtain ⟨a, h2, h4, h5, h6⟩ := h.own j hj y e
      exact ⟨a, by rw [List.getElem?_set_ne e1]; exact h2, h4, h5, h6.move k2 (.of s) fun o eo => s _ _ eo⟩
  · have no : ∀ l, l ∈ ow → i ≠ l → (∃ y, env[l]? = some (some y)) → σ[l]? = some (some (.ref p)) → False := fun l hl n ⟨y, hy⟩ e => by
      obtain ⟨a, h2, _, _, h6⟩ := h.own l hl y hy
      rw [e] at h2
      cases h2
      obtain ⟨o, eo, _⟩ := h6.no
      rw [np] at eo
      cases eo
    by_cases n1 : i = j
    · by_cases n2 : i = l
      · exact n1.symm.trans n2
      · subst n1
        rw [List.getElem?_set_self ll] at e3
        cases e3
        rw [List.getElem?_set_ne n2] at x2 e4
        exact (no l hl n2 x2 e4).elim
    · by_cases n2 : i = l
      · subst n2
        rw [List.getElem?_set_self ll] at e4
        cases e4
        rw [List.getElem?_set_ne n1] at x1 e3
        exact (no j hj n1 x1 e3).elim
      · rw [List.getElem?_set_ne n1] at x1 e3
        rw [List.getElem?_set_ne n2] at x2 e4
        exact h.dis j hj l hl a x1 x2 e3 e4
/-- a thing of one's own is changed -/
theorem StV.putO (h : StV cm P ow H0 env σ H) {i : Nat} (hi : i ∈ ow) {a : Addr} {y : Val} (ex : env[i]? = some (some y)) (hσ : σ[i]? = some (some (.ref a))) {o : HO} {x : Val} (t : Top cm (Ow P ow env σ) (upd H a o) a x) :
    StV cm P ow H0 (env.set i (some x)) σ (upd H a o) ∧ Fr P ow env σ H (env.set i (some x)) σ (upd H a o) := by
  have lt := (List.getElem?_eq_some_iff.mp ex).1
  obtain ⟨a', h2, nP, h5, _⟩ := h.own i hi y ex
  rw [hσ] at h2
  cases h2
  have oa : Ow P ow env σ a := .inr ⟨i, hi, ⟨y, ex⟩, hσ⟩
  have as : ∀ j, (∃ z, (env.set i (some x))[j]? = some (some z)) ↔ ∃ z, env[j]? = some (some z) := fun j => by
    by_cases e : i = j
    · subst e
      exact ⟨fun _ => ⟨y, ex⟩, fun _ => ⟨x, List.getElem?_set_self lt⟩⟩
    · rw [List.getElem?_set_ne e]
  have eo : Ow P ow (env.set i (some x)) σ = Ow P ow env σ := funext fun b => propext ⟨fun c => c.imp id fun ⟨j, hj, hy, hs⟩ => ⟨j, hj, (as j).mp hy, hs⟩, fun c => c.imp id fun ⟨j, hj, hy, hs⟩ => ⟨j, hj, (as j).mpr hy, hs⟩⟩
  have kp : Keep (Ow P ow env σ) H (upd H a o) := fun b u e n => by
    rw [upd_ne fun z => n (by rw [z]; exact oa)]
    exact e
  have st : ∀ b, NT H b → NT (upd H a o) b := fun b n => by
    by_cases z : b = a
    · rw [z]
      exact t.no
    · obtain ⟨u, eu, nu⟩ := n
      exact ⟨u, by rw [upd_ne z]; exact eu, nu⟩
  refine ⟨⟨?_, fun j hj z e => ?_, fun j hj l hl b x1 x2 e3 e4 => h.dis j hj l hl b ((as j).mp x1) ((as l).mp x2) e3 e4, by rw [List.length_set]; exact h.len, fun b u e => ?_⟩, kp, fun b c => .inl (by rw [← eo]; exact c), st⟩
  · rw [eo, wipeE_set_in hi]
    exact h.sl.keep kp fun b c => st b (h.sl.hid b c)
  · rw [eo]
    by_cases e1 : i = j
    · subst e1
      rw [List.getElem?_set_self lt] at e
      cases e
      exact ⟨a, hσ, nP, h5, t⟩
    · rw [List.getElem?_set_ne e1] at e
      obtain ⟨b, k2, k4, k5, k6⟩ := h.own j hj z e
      refine ⟨b, k2, k4, k5, k6.keep (fun u eu => ?_) kp⟩
      rw [upd_ne]
      · exact eu
      · intro z
        exact e1 (h.dis i hi j hj a ⟨_, ex⟩ ⟨_, e⟩ hσ (by rw [← z]; exact k2))
  · rw [upd_ne (ne_of_none e h5)]
    exact h.base _ _ e
end
section
variable {X : Cx} {cm : Cm} {ow : List Nat} {a b c e : Expr} {es : List Expr} {f g h : En → Option Val} {pos : Pos} {st : Stmt} {rest : List Stmt}
/-! ### new lists -/
theorem vn_lst {k : En → Option (List Val)} (h : VA X cm es k) : VN X cm (.List es pos) (fun env => (k env).bind fun xs => if xs.length ≤ most then some xs else none) := (pe_lst h).weak fun σ H Q ⟨P, env, z, hs, hf, q⟩ => by
  obtain ⟨xs, ex, hf⟩ := Option.bind_eq_some_iff.mp hf
  split at hf
  · rename_i l
    cases hf
    refine ⟨P, env, _, hs, ex, fun vs H1 s1 r1 => ⟨by rw [Res.length r1]; exact Nat.le_of_lt (most_line l), fun p np => ?_⟩⟩
    have s2 : Same H1 (upd H1 p (.lst vs)) := fun b o eb => by rw [upd_ne (ne_of_none eb np)]; exact eb
    exact q p vs _ (s1.trans s2) (s1.free np) upd_same (r1.move (fun b c => c.imp id fun z => by rw [z]; exact np) (.of s2)) l
  · cases hf
theorem vn_list {k : En → Option Val} {x : Str} {p : Pos} (hg : Gl X x) (hm : X.mg x = none) (hv : bootBuiltins x = some (.type "list")) (ha : VE X cm e k)
    (hn : x ≠ "__name__" := by decide) (hdb : (x == ("__debug__" : Str)) = false := by decide) (he : starEach [e] X.env = (false, eval e X.env) :: starEach [] X.env := by rfl) (hpl : (backTo pos (starEach [] X.env)).any (·.1) = false := by rfl) :
    VN X cm (.Call (.Name x p) [e] [] pos) (fun env => (k env).bind fun y => (itemsOf y).bind fun xs => if xs.length ≤ most then some xs else none) :=
  (pe_callTy call_list_of hg hm hv (pa_cons ha pa_nil he) hn hdb he hpl).weak fun σ H Q ⟨P, env, z, hs, hf, q⟩ => by
    obtain ⟨y, ey, h1⟩ := Option.bind_eq_some_iff.mp hf
    obtain ⟨xs, ex, h2⟩ := Option.bind_eq_some_iff.mp h1
    split at h2
    · rename_i l
      cases h2
      refine ⟨P, env, y, hs, ey, fun v H1 s1 r1 => ?_⟩
      obtain ⟨p, vs, rfl, hsq, rs⟩ := itemsOf_re (K := X.K) r1 ex
      refine ⟨p, vs, rfl, hsq, fun l np => ?_⟩
      have s2 : Same H1 (upd H1 l (.lst vs)) := fun b o eb => by rw [upd_ne (ne_of_none eb np)]; exact eb
      exact q l vs _ (s1.trans s2) (s1.free np) upd_same (Rep.move (fun b c => c.imp id fun z => by rw [z]; exact np) (.of s2) rs) (by assumption)
    · cases h2
/-- [c] * n -/
theorem rep_len (x : V) : ∀ n : Nat, (List.replicate n [x]).flatten = List.replicate n x
  | 0 => rfl
  | n + 1 => by
    rw [List.replicate_succ, List.flatten_cons, rep_len x n, List.replicate_succ]
    rfl
theorem Res.rep {P : Addr → Prop} {H : Hp} {v : V} {x : Val} (r : Re cm P H v x) : ∀ n : Nat, Res cm P H (List.replicate n v) (List.replicate n x)
  | 0 => .nil
  | n + 1 => .cons r (Res.rep r n)
def repN (f g : En → Option Val) : En → Option (List Val) := fun env => (f env).bind fun x => (g env).bind fun y => match y with
  | .int n => if n ≤ 100000 ∧ -100000 ≤ n then some (List.replicate n.toNat x) else none
  | _ => none
theorem vn_rep {p1 : Pos} (ha : VE X cm a f) (hb : VE X cm b g) (hs : starEach [a] X.env = (false, eval a X.env) :: starEach [] X.env := by rfl) : VN X cm (.BinOp (.List [a] p1) .Mult b pos) (repN f g) :=
  (pe_op op_rep (pe_lst (pa_cons ha pa_nil hs)) hb).weak fun σ H Q ⟨P, env, z, hs, hf, q⟩ => by
    unfold repN at hf
    obtain ⟨x, ex, h1⟩ := Option.bind_eq_some_iff.mp hf
    obtain ⟨y, ey, h2⟩ := Option.bind_eq_some_iff.mp h1
    split at h2
    · split at h2
      · rename_i n c
        cases h2
        refine ⟨P, env, x, hs, ex, fun v H1 s1 r1 => ⟨by show 1 ≤ sizeLine; rw [sizeLine_eq]; omega, fun p np => ?_⟩⟩
        have s2 : Same H1 (upd H1 p (.lst [v])) := fun b o eb => by rw [upd_ne (ne_of_none eb np)]; exact eb
        refine ⟨P, env, .int n, (hs.same s1).same s2, ey, fun u H3 s3 r3 => ?_⟩
        cases r3.int_
        have ln : n.toNat ≤ most := by
          unfold most
          omega
        refine ⟨p, n, [v], rfl, rfl, s3 _ _ upd_same, by omega, by omega, ?_, fun l nl => ?_⟩
        · show 1 * n.toNat ≤ sizeLine
          rw [Nat.one_mul]
          exact Nat.le_of_lt (most_line ln)
        · have s4 : Same H3 (upd H3 l (.lst (List.replicate n.toNat [v]).flatten)) := fun b o eb => by rw [upd_ne (ne_of_none eb nl)]; exact eb
          have s14 := s1.trans (s2.trans (s3.trans s4))
          refine q l (List.replicate n.toNat v) _ s14 (s1.free (s2.free (s3.free nl))) (by rw [upd_same, rep_len]) ?_ (by rw [List.length_replicate]; exact ln)
          exact Res.rep (r1.move (fun b c => c.imp id fun z => by rw [z]; exact s2.free (s3.free nl)) (.of (s2.trans (s3.trans s4)))) _
      · cases h2
    · cases h2
/-! ### lists of one's own -/
def SnV (cm : Cm) (ow : List Nat) (r : En → Option (List Val)) (t : TE) : Prop := ∀ (P : Addr → Prop) (H0 H : Hp) (env : En) (σ : L2.St) (xs : List Val) (Q : VK), StV cm P ow H0 env σ H → r env = some xs → (∀ a vs H', Same H H' → H a = none → H' a = some (.lst vs) → Res cm (fun b => Ow P ow env σ b ∨ b = a) H' vs xs → Q (.ref a) H') → t σ H Q
def stN (ow : List Nat) (f : En → Option (List Val)) : En → Option (List Val) := fun env => f (wipeE env ow)
def boN (f : En → Option (List Val)) : En → Option (List Val) := fun env => (f env).bind fun xs => if imm.imms xs = true then some xs else none
theorem sn_st {k : En → Option (List Val)} : SnV cm ow (stN ow k) (tN cm k) := fun P H0 H env σ xs Q hs e q => ⟨_, wipeE env ow, xs, hs.sl, e, fun a vs H' s na ha r _ => q a vs H' s na ha r⟩
theorem sn_bo {k : En → Option (List Val)} : SnV cm ow (boN k) (tN cm k) := fun P H0 H env σ xs Q hs e q => by
  unfold boN at e
  obtain ⟨y, ey, e⟩ := Option.bind_eq_some_iff.mp e
  split at e
  case isFalse => cases e
  rename_i ci
  cases e
  refine ⟨P, env, _, hs.view, ey, fun a vs H' s na ha r _ => q a vs H' s na ha ?_⟩
  refine (Rep.imm (fun b c => ?_) r).2 rfl ci
  rcases c with c | c
  · rcases (hs.same s).owl b c with z | z
    · exact .inl (.inl z)
    · exact .inr z
  · exact .inl (.inr c)
def newG (i : Nat) (r : En → Option (List Val)) : En → Option Out := fun env => if i < env.length then (r env).map fun xs => .nx (env.set i (some (.lst xs))) else none
theorem sv_new0 {r : En → Option (List Val)} {t : TE} {i : Nat} {hst : PS X st (tAsg t (gName i))} (ho : i ∈ ow) (sn : SnV cm ow r t) : SV X cm ow st (newG i r) := hst.weak fun D σ H ⟨P, H0, env, o, hs, hg, q⟩ => by
  unfold newG at hg
  split at hg
  case isFalse => cases hg
  rename_i lt
  obtain ⟨xs, ey, rfl⟩ := Option.map_eq_some_iff.mp hg
  refine sn P H0 H env σ xs _ hs ey fun a vs H' s na ha rs => ?_
  obtain ⟨h1, h2⟩ := hs.newO ho lt na s (.lst ha rs)
  exact q _ H' h1 h2
theorem sv_new {r k : En → Option (List Val)} {i : Nat} {x : Str} {pos' : Pos} (hN : X.N.Nodup) (hi : X.N[i]? = some x) (hx : Loc X.env.scope x) (ho : i ∈ ow) (he : VN X cm e k) (sn : SnV cm ow r (tN cm k)) (hs : swapsWith e (some (.Name x pos')) pos.line X.env = pure false := by rfl) (hf : X.fn x = true ∨ X.env.scope.names.lookup x = some .local := by first | exact .inl rfl | exact .inr rfl | assumption) :
    SV X cm ow (.Assign [.Name x pos'] e pos) (newG i r) := sv_new0 (hst := ps_set hN hi hx he hs hf) ho sn
/-- x.append(e) -/
def appG (i : Nat) (r : En → Option Val) : En → Option Out := fun env => match env[i]? with
  | some (some (.lst xs)) => if xs.length ≤ most then (r env).map fun y => .nx (env.set i (some (.lst (xs ++ [y])))) else none
  | _ => none
theorem sv_app0 {r : En → Option Val} {t : TE} {i : Nat} (hst : PS X st (tDrop (tBM X.K "list" rAppend (tVar i) (tCons t tNil)))) (ho : i ∈ ow) (sr : SrV cm ow r t) : SV X cm ow st (appG i r) := hst.weak fun D σ H ⟨P, H0, env, o, hs, hg, q⟩ => by
  unfold appG at hg
  split at hg
  case h_2 => cases hg
  rename_i xs ex
  split at hg
  case isFalse => cases hg
  rename_i lm
  obtain ⟨y, ey, rfl⟩ := Option.map_eq_some_iff.mp hg
  obtain ⟨a, hσ, nP, h0, tp⟩ := hs.own i ho _ ex
  cases tp with
  | @lst vs0 _ ha ra =>
    refine ⟨_, hσ, .inl ⟨rfl, _, .inl (.inl ha)⟩, sr P H0 H env σ y _ hs ey fun v H1 s1 r1 => ?_⟩
    refine ⟨a, _, v, rfl, rfl, s1 _ _ ha, most_line (by rw [Res.length ra]; exact lm), ?_⟩
    have hs1 := hs.same s1
    have oa : Ow P ow env σ a := .inr ⟨i, ho, ⟨_, ex⟩, hσ⟩
    have kp : Keep (Ow P ow env σ) H1 (upd H1 a (.lst (vs0 ++ [v]))) := fun b o e n => by
      rw [upd_ne fun z => n (by rw [z]; exact oa)]
      exact e
    obtain ⟨h1, h2⟩ := hs1.putO ho ex hσ (.lst upd_same (Res.snoc (Rep.keep kp (Rep.same s1 ra)) (r1.keep kp)))
    exact q _ _ h1 (Fr.trans (.same s1) h2)
/-- x[k] = e -/
def putG (i : Nat) (f : En → Option Val) (r : En → Option Val) : En → Option Out := fun env => match env[i]? with
  | some (some (.lst xs)) => (r env).bind fun y => (f env).bind fun k => match k with
    | .int j => (ixN xs.length j).map fun n => .nx (env.set i (some (.lst (xs.set n y))))
    | _ => none
  | _ => none
theorem Res.set {P : Addr → Prop} {H : Hp} {v : V} {x : Val} (r : Re cm P H v x) : ∀ {vs : List V} {xs : List Val} (n : Nat), Res cm P H vs xs → Res cm P H (vs.set n v) (xs.set n x)
  | _, _, _, .nil => .nil
  | _, _, 0, .cons _ t => .cons r t
  | _, _, n + 1, .cons q t => .cons q (Res.set r n t)
theorem sv_put0 {r : En → Option Val} {t : TE} {i : Nat} (hst : PS X st (tAsg t (gSub (tVar i) (tV cm f) rSetL))) (ho : i ∈ ow) (sr : SrV cm ow r t) : SV X cm ow st (putG i f r) := hst.weak fun D σ H ⟨P, H0, env, o, hs, hg, q⟩ => by
  unfold putG at hg
  split at hg
  case h_2 => cases hg
  rename_i xs ex
  obtain ⟨y, ey, hg⟩ := Option.bind_eq_some_iff.mp hg
  obtain ⟨k, ek, hg⟩ := Option.bind_eq_some_iff.mp hg
  split at hg
  case h_2 => cases hg
  rename_i j
  obtain ⟨n, en, rfl⟩ := Option.map_eq_some_iff.mp hg
  obtain ⟨a, hσ, nP, h0, tp⟩ := hs.own i ho _ ex
  cases tp with
  | @lst vs0 _ ha ra =>
    refine sr P H0 H env σ y _ hs ey fun v H1 s1 r1 => ⟨_, hσ, ⟨P, env, .int j, (hs.same s1).view, ek, fun u H2 s2 r2 => ?_⟩⟩
    cases r2.int_
    have s12 := s1.trans s2
    refine ⟨a, _, j, n, rfl, rfl, s12 _ _ ha, by rw [Res.length ra]; exact en, ?_⟩
    have hs2 := hs.same s12
    have oa : Ow P ow env σ a := .inr ⟨i, ho, ⟨_, ex⟩, hσ⟩
    have kp : Keep (Ow P ow env σ) H2 (upd H2 a (.lst (vs0.set n v))) := fun b o e n => by
      rw [upd_ne fun z => n (by rw [z]; exact oa)]
      exact e
    obtain ⟨h1, h2⟩ := hs2.putO ho ex hσ (.lst upd_same (Res.set ((r1.same s2).keep kp) n (Rep.keep kp (Rep.same s12 ra))))
    exact q _ _ h1 (Fr.trans (.same s12) h2)
end
end Up

namespace Up
open PySem PySem.Spec PyProof.Rows L2
/-- a def of the text under its name -/
structure Dd (K : PySem.W.Frag) (mg : Str → Option Value) (x : Str) (st : Stmt) (ps : List Str) (f : Addr) (fd : FuncData) : Prop where
  fn : Fun K x x st f fd
  at_ : mg x = some (.ref f)
  bd : Binds K fd ps []
/-- a def that is a function of its arguments' trees, under its name, to be called at level k -/
structure Df (P : Program) (w : World) (K : PySem.W.Frag) (mg : Str → Option Value) (base : Heap) (cm : Cm) (x : Str) (k : Nat) (ps : List Str) (F : List Val → Option Val) (f : Addr) (fd : FuncData) : Prop where
  ok : FnOk P w K mg base CX0 k f fd ps (spV cm F)
  at_ : mg x = some (.ref f)
  kp : PySem.W.keepIn K (.ref f) = true
  bd : Binds K fd ps []
theorem Df.mono {P : Program} {w : World} {K : PySem.W.Frag} {mg : Str → Option Value} {base : Heap} {cm : Cm} {x : Str} {k j : Nat} {ps : List Str} {F : List Val → Option Val} {f : Addr} {fd : FuncData} (d : Df P w K mg base cm x k ps F f fd) (h : k ≤ j) : Df P w K mg base cm x j ps F f fd := ⟨d.ok.mono h, d.at_, d.kp, d.bd⟩
theorem spV.imp {cm : Cm} {F G : List Val → Option Val} (h : ∀ xs z, G xs = some z → F xs = some z) (vs : List V) (H : Hp) (Q : VK) (E : XK) : spV cm G vs H Q E → spV cm F vs H Q E := fun ⟨P', xs, z, a, b, c, q⟩ => ⟨P', xs, z, a, b, h _ _ c, q⟩
section
variable {X : Cx} {cm : Cm} {a b c e : Expr} {es : List Expr} {f g h : En → Option Val} {pos : Pos}
theorem vv (i : Nat) {x : Str} (hN : X.N[i]? = some x := by rfl) (hv : Vis X.env.scope x := by first | exact Or.inl rfl | exact Or.inr (Or.inl rfl) | exact Or.inr (Or.inr rfl)) (hd : (x == ("__debug__" : Str)) = false := by decide)
    (hcd : (x == ("__classdict__" : Str)) = false := by decide) : VE X cm (.Name x pos) (getE i) := ve_var hN hv hd hcd
theorem ve_callD {k : Nat} {ps : List Str} {F : List Val → Option Val} {x : Str} {p : Pos} {t : En → Option (List Val)} {fa : Addr} {fd : FuncData} (d : Df X.prog X.w X.K X.mg X.base cm x k ps F fa fd) (hr : Room k X.A) (hg : Gl X x) (ha : VA X cm (e :: es) t) (hdb : (x == ("__debug__" : Str)) = false := by decide)
    (he : starEach (e :: es) X.env = (false, eval e X.env) :: starEach es X.env := by rfl) (hpl : (backTo pos (starEach es X.env)).any (·.1) = false := by rfl) : VE X cm (.Call (.Name x p) (e :: es) [] pos) (appF F t) := ve_call d.ok hr hg d.at_ d.kp d.bd pass0 ha hdb he hpl
def negF (f : En → Option Val) : En → Option Val := fun env => (f env).bind fun x => match x with
  | .int i => some (.int (-i))
  | _ => none
theorem ve_neg (ha : VE X cm a f) : VE X cm (.UnaryOp .USub a pos) (negF f) := (pe_un un_neg ha).weak fun σ H Q ⟨P, env, z, hs, hf, q⟩ => by
  unfold negF at hf
  obtain ⟨x, ex, hf⟩ := Option.bind_eq_some_iff.mp hf
  refine ⟨P, env, x, hs, ex, fun v H1 s1 r1 => ?_⟩
  split at hf
  · cases hf
    cases r1.int_
    exact ⟨_, rfl, q _ H1 s1 (.int _)⟩
  · cases hf
/-- 0 <= x < n -/
def chainF (p r : Int → Int → Bool) (f g h : En → Option Val) : En → Option Val := fun env => (f env).bind fun x => (g env).bind fun y => match x, y with
  | .int i, .int j => if p i j = true then (h env).bind fun z => match z with
    | .int k => some (.bl (r j k))
    | _ => none
    else some (.bl false)
  | _, _ => none
theorem chain_go {p r : Int → Int → Bool} {σ : L2.St} {H : Hp} {Q : VK} (t : tV cm (chainF p r f g h) σ H Q) : tChain (rI0 fun i j => .bl (p i j)) (rI0 fun i j => .bl (r i j)) (tV cm f) (tV cm g) (tV cm h) σ H Q := by
  obtain ⟨P, env, z, hs, hf, q⟩ := t
  unfold chainF at hf
  obtain ⟨x, ex, h1⟩ := Option.bind_eq_some_iff.mp hf
  obtain ⟨y, ey, h2⟩ := Option.bind_eq_some_iff.mp h1
  split at h2
  case h_2 => cases h2
  rename_i i j
  refine ⟨P, env, _, hs, ex, fun v H1 s1 r1 => ⟨P, env, _, hs.same s1, ey, fun u H2 s2 r2 => ?_⟩⟩
  cases r1.int_
  cases r2.int_
  refine ⟨i, j, rfl, rfl, p i j, rfl, ?_⟩
  by_cases c : p i j = true
  · rw [if_pos c] at h2 ⊢
    obtain ⟨w, ew, h3⟩ := Option.bind_eq_some_iff.mp h2
    refine ⟨P, env, w, (hs.same s1).same s2, ew, fun t H3 s3 r3 => ?_⟩
    split at h3
    · cases h3
      cases r3.int_
      exact ⟨_, _, rfl, rfl, q _ H3 (s1.trans (s2.trans s3)) (.bl _)⟩
    · cases h3
  · rw [if_neg c] at h2 ⊢
    cases h2
    exact q _ H2 (s1.trans s2) (.bl _)
theorem ve_chain {op op' : CmpOp} {p r : Int → Int → Bool} (ho : OpR X (compareOp op) (rI0 fun i j => .bl (p i j))) (ho' : OpR X (compareOp op') (rI0 fun i j => .bl (r i j))) (ha : VE X cm a f) (hb : VE X cm b g) (hc : VE X cm c h)
    (hm : lastMarks [op, op'] [b, c] = false := by with_unfolding_all rfl) : VE X cm (.Compare a [op, op'] [b, c] pos) (chainF p r f g h) := (pe_chain ho ho' ha hb hc hm).weak fun σ H Q q => chain_go q
theorem vt_chain {op op' : CmpOp} {p r : Int → Int → Bool} (ho : OpR X (compareOp op) (rI0 fun i j => .bl (p i j))) (ho' : OpR X (compareOp op') (rI0 fun i j => .bl (r i j))) (ha : VE X cm a f) (hb : VE X cm b g) (hc : VE X cm c h)
    (hm : lastMarks [op, op'] [b, c] = false := by with_unfolding_all rfl) : VT X cm (.Compare a [op, op'] [b, c] pos) (tst (chainF p r f g h)) := (pt_chain ho ho' ha hb hc hm).weak fun σ H Q q => chain_go (tV_test σ H Q q _ fun k H' q => ⟨k, rfl, q⟩)
/-! + of tuples -/
def catTF : Val → Val → Option Val
  | .tup (x :: xs), .tup ys => if (x :: xs).length + ys.length ≤ most then some (.tup (x :: xs ++ ys)) else none
  | _, _ => none
theorem ov_catT {K : PySem.W.Frag} (P : Addr → Prop) (x y z : Val) (v u : V) (H : Hp) (Q : VK) (hd : Hid P H) (e : catTF x y = some z) (rx : Re cm P H v x) (ry : Re cm P H u y) (q : ∀ v' H', Same H H' → Re cm P H' v' z → Q v' H') : rCatT K v u H Q := by
  unfold catTF at e
  split at e
  case h_2 => cases e
  split at e
  case isFalse => cases e
  rename_i l
  cases e
  obtain ⟨a, vs, rfl, n1, h1, r1⟩ := rx.tup_
  obtain ⟨b, us, rfl, n2, h2, r2⟩ := ry.tup_
  have l1 := Res.length r1
  have l2 := Res.length r2
  refine ⟨a, b, vs, us, rfl, rfl, .inl (.inl h1), .inl (.inl h2), fun z => ?_, by rw [l1, l2]; exact Nat.le_of_lt (most_line l), fun z => ?_, fun z p np => ?_⟩
  · rw [z] at l1
    simp at l1
  · subst z
    cases r2
    rw [List.append_nil] at q
    exact q _ H (Same.refl H) (.tup n1 h1 r1)
  · have s2 : Same H (upd H p (.tup (vs ++ us))) := fun b o eb => by rw [upd_ne (ne_of_none eb np)]; exact eb
    exact q _ _ s2 (.tup (hd.new np) upd_same ((Res.append r1 r2 : Res cm P H _ _).same s2))
theorem ve_catT (ha : VE X cm a f) (hb : VE X cm b g) : VE X cm (.BinOp a .Add b pos) (bin2 catTF f g) := (pe_op op_catT ha hb).weak fun σ H Q q => by
  obtain ⟨P, env, z, hs, hf, q⟩ := q
  unfold bin2 at hf
  obtain ⟨x, ex, h1⟩ := Option.bind_eq_some_iff.mp hf
  obtain ⟨y, ey, h2⟩ := Option.bind_eq_some_iff.mp h1
  refine ⟨P, env, x, hs, ex, fun v H1 s1 r1 => ⟨P, env, y, hs.same s1, ey, fun u H2 s2 r2 => ?_⟩⟩
  exact ov_catT P x y z v u H2 Q ((hs.hid.same s1).same s2) h2 (r1.same s2) r2 fun v' H3 s3 r3 => q v' H3 (s1.trans (s2.trans s3)) r3
end
section
variable {X : Cx} {cm : Cm} {ow : List Nat} {a b c e : Expr} {es : List Expr} {f g h : En → Option Val} {pos : Pos} {st : Stmt}
theorem sv_set0 {r : En → Option Val} {t : TE} {i : Nat} (hst : PS X st (tAsg t (gName i))) (ho : i ∉ ow) (sr : SrV cm ow r t) : SV X cm ow st (setG i r) := hst.weak fun D σ H ⟨P, H0, env, o, hs, hg, q⟩ => by
  obtain ⟨y, ey, rfl⟩ := Option.map_eq_some_iff.mp hg
  exact sr P H0 H env σ y _ hs ey fun v H1 s1 r1 => q _ H1 ((hs.same s1).set ho r1) (Fr.set ho s1)
theorem sr_sn {r : En → Option (List Val)} {t : TE} (sn : SnV cm ow r t) : SrV cm ow (fun env => (r env).map .lst) t := fun P H0 H env σ x Q hs e q => by
  obtain ⟨xs, ex, rfl⟩ := Option.map_eq_some_iff.mp e
  exact sn P H0 H env σ xs Q hs ex fun a vs H' s na ha rs => q _ H' s (.lst (fun c => hs.sl.hid.new na c) ha (rs.less fun b c => .inl c))
theorem SnV.weak {r : En → Option (List Val)} {t t' : TE} (sn : SnV cm ow r t') (k : ∀ σ H Q, t' σ H Q → t σ H Q) : SnV cm ow r t := fun P H0 H env σ xs Q hs e q => k σ H Q (sn P H0 H env σ xs Q hs e q)
theorem sv_setLc {i : Nat} {y : Str} {py : Pos} {elt tg iter : Expr} {ifs : List Expr} {scope : Scope} {own : List (Str × Nat)} {spos : Pos} {gt : TG} {tt : TT} {fi : En → Option (List Val)} {bnd : Val → Option (List (Nat × Val))} {ft : En → Option Bool} {fe : En → Option Val} {is : List Nat} {r : En → Option (List Val)} (hc : X.calm = true) (hN : X.N.Nodup) (hy : X.N[i]? = some y) (hyl : X.env.scope.names.lookup y = some .local)
    (hsw : swapsWith (.ListComp elt [⟨tg, iter, ifs, 0⟩] scope pos) (some (.Name y py)) spos.line X.env = pure true) (hi : VI X cm tg iter fi) (ok : BlkOk X.N X.env.scope scope own)
    (hg : ∀ (s : Shared) (H : Hp) (C : Addr) (cl : List (Str × Addr)) (fp : List Addr), PG (X.blk s H scope (compEnvC scope cl C X.env) fp) tg gt) (ht : ∀ (s : Shared) (H : Hp) (C : Addr) (cl : List (Str × Addr)) (fp : List Addr), PTs (X.blk s H scope (compEnvC scope cl C X.env) fp) ifs tt)
    (he : ∀ (s : Shared) (H : Hp) (C : Addr) (cl : List (Str × Addr)) (fp : List Addr), VE (X.blk s H scope (compEnvC scope cl C X.env) fp) cm elt fe) (tg_ : TgV cm gt bnd is) (hi2 : ∀ i ∈ is, i ∈ own.map (·.2)) (tt_ : TtV cm tt ft) (ho : i ∉ ow) (sn : SnV cm ow r (tN cm (lcF fi bnd ft fe (own.map (·.2))))) (hs : ∀ x, foldedSetIterable iter X.env x = pure x := by intro _; rfl) :
    SV X cm ow (.Assign [.Name y py] (.ListComp elt [⟨tg, iter, ifs, 0⟩] scope pos) spos) (setG i (fun env => (r env).map .lst)) :=
  sv_set0 (ps_setLc hc hN hy hyl hsw hi ok hg ht he hs) ho (sr_sn (sn.weak (tLc_of tg_ hi2 tt_)))
theorem sv_newLc {i : Nat} {y : Str} {py : Pos} {elt tg iter : Expr} {ifs : List Expr} {scope : Scope} {own : List (Str × Nat)} {spos : Pos} {gt : TG} {tt : TT} {fi : En → Option (List Val)} {bnd : Val → Option (List (Nat × Val))} {ft : En → Option Bool} {fe : En → Option Val} {is : List Nat} {r : En → Option (List Val)} (hc : X.calm = true) (hN : X.N.Nodup) (hy : X.N[i]? = some y) (hyl : X.env.scope.names.lookup y = some .local)
    (hsw : swapsWith (.ListComp elt [⟨tg, iter, ifs, 0⟩] scope pos) (some (.Name y py)) spos.line X.env = pure true) (hi : VI X cm tg iter fi) (ok : BlkOk X.N X.env.scope scope own)
    (hg : ∀ (s : Shared) (H : Hp) (C : Addr) (cl : List (Str × Addr)) (fp : List Addr), PG (X.blk s H scope (compEnvC scope cl C X.env) fp) tg gt) (ht : ∀ (s : Shared) (H : Hp) (C : Addr) (cl : List (Str × Addr)) (fp : List Addr), PTs (X.blk s H scope (compEnvC scope cl C X.env) fp) ifs tt)
    (he : ∀ (s : Shared) (H : Hp) (C : Addr) (cl : List (Str × Addr)) (fp : List Addr), VE (X.blk s H scope (compEnvC scope cl C X.env) fp) cm elt fe) (tg_ : TgV cm gt bnd is) (hi2 : ∀ i ∈ is, i ∈ own.map (·.2)) (tt_ : TtV cm tt ft) (ho : i ∈ ow) (sn : SnV cm ow r (tN cm (lcF fi bnd ft fe (own.map (·.2))))) (hs : ∀ x, foldedSetIterable iter X.env x = pure x := by intro _; rfl) :
    SV X cm ow (.Assign [.Name y py] (.ListComp elt [⟨tg, iter, ifs, 0⟩] scope pos) spos) (newG i r) :=
  sv_new0 (hst := ps_setLc hc hN hy hyl hsw hi ok hg ht he hs) ho (sn.weak (tLc_of tg_ hi2 tt_))
/-! n += e, of ints -/
def augG (i : Nat) (op : Int → Int → Int) (f : En → Option Val) : En → Option Out := fun env => (getE i env).bind fun x => (f env).bind fun y => match x, y with
  | .int m, .int n => some (.nx (env.set i (some (.int (op m n)))))
  | _, _ => none
theorem sv_aug0 {i : Nat} {op : Int → Int → Int} (hst : PS X st (tAug i (tV cm f) (ipI op))) (ho : i ∉ ow) : SV X cm ow st (augG i op f) := hst.weak fun D σ H ⟨P, H0, env, o, hs, hg, q⟩ => by
  unfold augG at hg
  obtain ⟨x, ex, h1⟩ := Option.bind_eq_some_iff.mp hg
  obtain ⟨y, ey, h2⟩ := Option.bind_eq_some_iff.mp h1
  split at h2
  case h_2 => cases h2
  rename_i m n
  cases h2
  have e2 : env[i]? = some (some (.int m)) := by
    unfold getE at ex
    cases e : env[i]? with
    | none => rw [e] at ex; cases ex
    | some o =>
      rw [e] at ex
      cases o with
      | none => cases ex
      | some z => cases ex; rfl
  obtain ⟨v, h3, h4⟩ := hs.view.at_ i _ e2
  cases h4.int_
  refine ⟨_, h3, P, env, .int n, hs.view, ey, fun u H1 s1 r1 => ?_⟩
  cases r1.int_
  exact ⟨m, n, rfl, rfl, q _ H1 ((hs.same s1).set ho (.int _)) (Fr.set ho s1)⟩
end
section
variable {P : Program} {w : World} {K : PySem.W.Frag} {mg : Str → Option Value} {base : Heap} {cm : Cm}
theorem okD {x : Str} {st : Stmt} {f : Addr} {fd : FuncData} {N ps : List Str} {k : Nat} (ow : List Nat) {g : En → Option Out} (D : Dd K mg x st ps f fd) (S : FnScope N ps (defScope st)) (ho : ∀ i ∈ ow, ps.length ≤ i)
    (hbody : ∀ (cdv : Value) (A : Around) (outer : List Env) (s : Shared) (H : Hp) (E : XK), Room k (A.deeper (envOfC x (defScope st) s.heap.objs.size f cdv)) → (A.deeper (envOfC x (defScope st) s.heap.objs.size f cdv)).units + 64 < cLine → SVs (cxOf CX0 P w K mg base N x (defScope st) f cdv A outer s H E).nox cm ow (defBody st) g) :
    Df P w K mg base cm x (k + 1) ps (runV N.length ps.length g) f fd :=
  ⟨okV ow D.fn S ho fun cdv A outer s H E hr => hbody cdv A outer s H E hr (by have := hr.un; omega), D.at_, D.fn.kp, D.bd⟩
end
end Up

namespace Up
open PySem PySem.Spec PyProof.Rows L2
theorem it_gen {J : It} {n : Nat} {G : Hp → Prop} {Y : Nat → Hp → V → Hp → Prop} (w : Walk J n G Y) {B : (Hp → Prop) → V → Hp → Prop} {Hs : Hp} {Qd : Hp → Prop} (Pv : Nat → Hp → Prop) (h0 : Pv 0 Hs) (hG : ∀ i H, i ≤ n → Pv i H → G H)
    (hs : ∀ i x H H', i < n → Pv i H → Y i H x H' → B (Pv (i + 1)) x H') (hd : ∀ H, Pv n H → Qd H) :
    ∃ W : Nat → Nat → Hp → Prop, (∃ m, W 0 m Hs) ∧ ∀ i m H, W i m H → (J.stop i H ∧ Qd H) ∨ (J.go i H ∧ ∃ Nx : Hp → Prop, (∀ H', Nx H' → ∃ m', m' < m ∧ W (i + 1) m' H') ∧ ∀ x H', J.yld i H x H' → B Nx x H') := by
  refine ⟨fun i m H => m = n - i ∧ i ≤ n ∧ Pv i H, ⟨n, by simp, Nat.zero_le _, h0⟩, ?_⟩
  rintro i m H ⟨rfl, hi, p⟩
  have q := hG i H hi p
  by_cases hlt : i < n
  · refine .inr ⟨w.goes i H hlt q, Pv (i + 1), fun H' p' => ⟨n - (i + 1), by omega, rfl, hlt, p'⟩, fun x H' y => hs i x H H' hlt p (w.yields i H x H' hlt q y)⟩
  · have e : i = n := by omega
    subst e
    exact .inl ⟨w.stops H q, hd H p⟩
def lc2Go (m : Val → Option (List (Nat × Val))) (ft : En → Option Bool) (fi1 : En → Option (List Val)) (m1 : Val → Option (List (Nat × Val))) (ft1 : En → Option Bool) (fe : En → Option Val) (vs1 : List Nat) (env : En) : List Val → Option (List Val)
  | [] => some []
  | x :: xs => (m x).bind fun ps => (ft (setE env ps)).bind fun k => if k = true then (fi1 (setE env ps)).bind fun ys => (lcGo m1 ft1 fe (wipeE (setE env ps) vs1) ys).bind fun zs => (lc2Go m ft fi1 m1 ft1 fe vs1 env xs).bind fun rest => some (zs ++ rest)
    else lc2Go m ft fi1 m1 ft1 fe vs1 env xs
def lc2F (fi : En → Option (List Val)) (m : Val → Option (List (Nat × Val))) (ft : En → Option Bool) (fi1 : En → Option (List Val)) (m1 : Val → Option (List (Nat × Val))) (ft1 : En → Option Bool) (fe : En → Option Val) (vs vs1 : List Nat) : En → Option (List Val) := fun env =>
  (fi env).bind fun xs => (lc2Go m ft fi1 m1 ft1 fe vs1 (wipeE env vs) xs).bind fun ys => if ys.length ≤ most then some ys else none
theorem tLc2_of {cm : Cm} {fi fi1 : En → Option (List Val)} {g g1 : TG} {m m1 : Val → Option (List (Nat × Val))} {is is1 vs vs1 : List Nat} {tt tt1 : TT} {ft ft1 : En → Option Bool} {fe : En → Option Val} (hg : TgV cm g m is) (hi : ∀ i ∈ is, i ∈ vs) (ht : TtV cm tt ft)
    (hg1 : TgV cm g1 m1 is1) (hi1 : ∀ i ∈ is1, i ∈ vs1) (ht1 : TtV cm tt1 ft1) (σ : L2.St) (H : Hp) (Q : VK) (q : tN cm (lc2F fi m ft fi1 m1 ft1 fe vs vs1) σ H Q) :
    tLc2 (iV cm fi) g tt (iV cm fi1) g1 tt1 (tV cm fe) vs vs1 σ H Q := by
  obtain ⟨P, env, ys, hs, hf, q⟩ := q
  unfold lc2F at hf
  obtain ⟨xs, ex, hf⟩ := Option.bind_eq_some_iff.mp hf
  obtain ⟨ys', hf, hl⟩ := Option.bind_eq_some_iff.mp hf
  split at hl
  case isFalse => cases hl
  rename_i lm
  cases hl
  refine ⟨P, env, xs, hs, ex, fun J H1 s1 w D nD => ?_⟩
  have hs1 := hs.same s1
  have hidT : ∀ H2, Same H1 H2 → (∃ acc, H2 D = some (.lst acc)) → Hid (fun b => P b ∨ b = D) H2 := fun H2 s2 ⟨acc, hD⟩ a c => by
    rcases c with c | c
    · exact (hs1.hid.same s2) a c
    · exact ⟨.lst acc, by rw [c]; exact hD, fun vs z => nomatch z⟩
  have toD : ∀ a, (fun b => P b ∨ b = D) a → P a ∨ H1 a = none := fun a c => c.elim .inl fun z => .inr (by rw [z]; exact nD)
  have push : ∀ (H5 : Hp) (acc : List V) (dn : List Val) (u : V) (z : Val), H5 D = some (.lst acc) → Same H1 H5 → Res cm (fun b => P b ∨ b = D) H5 acc dn → Re cm (fun b => P b ∨ b = D) H5 u z →
      (upd H5 D (.lst (acc ++ [u]))) D = some (.lst (acc ++ [u])) ∧ Same H1 (upd H5 D (.lst (acc ++ [u]))) ∧ Res cm (fun b => P b ∨ b = D) (upd H5 D (.lst (acc ++ [u]))) (acc ++ [u]) (dn ++ [z]) := fun H5 acc dn u z hD s5 rs ru => by
    have kp : Keep (fun b => P b ∨ b = D) H5 (upd H5 D (.lst (acc ++ [u]))) := fun b o e n => by
      rw [upd_ne fun z => n (.inr z)]
      exact e
    refine ⟨upd_same, fun b o e => ?_, Res.snoc (Rep.keep kp rs) (ru.keep kp)⟩
    rw [upd_ne (ne_of_none e nD)]
    exact s5 _ _ e
  refine it_gen w (fun i H2 => ∃ (acc : List V) (dn rest : List Val), H2 D = some (.lst acc) ∧ Same H1 H2 ∧ Res cm (fun b => P b ∨ b = D) H2 acc dn ∧ lc2Go m ft fi1 m1 ft1 fe vs1 (wipeE env vs) (xs.drop i) = some rest ∧ dn ++ rest = ys) ⟨[], [], ys, upd_same, fun b o e => by rw [upd_ne (ne_of_none e nD)]; exact e, .nil, hf, rfl⟩ (fun i H2 _ ⟨_, _, _, _, s2, _⟩ => ⟨.of s2, hs1.hid.same s2⟩) ?_ ?_
  · rintro i x H2 H3 hi2 ⟨acc, dn, rest, hD, s2, rs, hr, hy⟩ ⟨s3, y, ey, ry⟩
    have ry2 := ry (fun b => P b ∨ b = D) toD (hidT H2 s2 ⟨_, hD⟩)
    have hs2 : Slots cm (fun b => P b ∨ b = D) H3 (L2.wipe σ vs) (wipeE env vs) := by
      have k : Slots cm (fun b => P b ∨ b = D) H2 σ env := ⟨hs.len, fun j z ez => by
        obtain ⟨v, h1, h2⟩ := hs1.at_ j z ez
        exact ⟨v, h1, h2.move toD (.of s2)⟩, hidT H2 s2 ⟨_, hD⟩⟩
      exact (k.same s3).wipe vs
    have dr : xs.drop i = y :: xs.drop (i + 1) := by
      obtain ⟨lt, eq⟩ := List.getElem?_eq_some_iff.mp ey
      rw [List.drop_eq_getElem_cons lt, eq]
    rw [dr] at hr
    unfold lc2Go at hr
    obtain ⟨ps, e1, hr⟩ := Option.bind_eq_some_iff.mp hr
    obtain ⟨k, e2, hr⟩ := Option.bind_eq_some_iff.mp hr
    obtain ⟨qs, pr, mem, go⟩ := hg.go _ H3 x y ps ry2 e1
    have hs3 := Slots.sets pr hs2
    refine go _ _ ⟨?_, ht _ _ k _ H3 _ hs3 e2 fun H4 s4 => ?_⟩
    · rw [wipe_setA fun q hq => hi _ (mem q hq), wipe_wipe fun _ h => h]
    · have hD4 := s4 _ _ (s3 _ _ hD)
      have s14 := s2.trans (s3.trans s4)
      have rs4 := Rep.same s4 (Rep.same s3 rs)
      by_cases c : k = true
      · rw [if_pos c] at hr ⊢
        obtain ⟨ys1, ey1, hr⟩ := Option.bind_eq_some_iff.mp hr
        obtain ⟨zs, ez, hr⟩ := Option.bind_eq_some_iff.mp hr
        obtain ⟨rest2, er, hr⟩ := Option.bind_eq_some_iff.mp hr
        cases hr
        refine ⟨_, _, ys1, hs3.same s4, ey1, fun J1 H5 s5 w1 => ?_⟩
        have hs5 := (hs3.same s4).same s5
        refine it_gen w1 (fun j H6 => ∃ (acc : List V) (dn1 rest1 : List Val), H6 D = some (.lst acc) ∧ Keep (fun b => P b ∨ b = D) H5 H6 ∧ Same H1 H6 ∧ Res cm (fun b => P b ∨ b = D) H6 acc dn1 ∧ lcGo m1 ft1 fe (wipeE (setE (wipeE env vs) ps) vs1) (ys1.drop j) = some rest1 ∧ dn1 ++ rest1 = dn ++ zs)
          ⟨acc, dn, zs, s5 _ _ hD4, .refl, s14.trans s5, Rep.same s5 rs4, ez, rfl⟩ (fun j H6 _ ⟨_, _, _, hz, kp, s6, _⟩ => ⟨kp, hidT H6 s6 ⟨_, hz⟩⟩) ?_ ?_
        · rintro j x1 H6 H7 hj ⟨acc1, dn1, rest1, hD6, kp6, s6, rs6, hr6, hy6⟩ ⟨s7, y1, ey7, ry7⟩
          have ry8 := ry7 (fun b => P b ∨ b = D) (fun a c => .inl c) (hidT H6 s6 ⟨_, hD6⟩)
          have hs7 : Slots cm (fun b => P b ∨ b = D) H7 (L2.wipe (setA (L2.wipe σ vs) qs) vs1) (wipeE (setE (wipeE env vs) ps) vs1) := ((hs5.keep kp6 (hidT H6 s6 ⟨_, hD6⟩)).same s7).wipe vs1
          have dr1 : ys1.drop j = y1 :: ys1.drop (j + 1) := by
            obtain ⟨lt, eq⟩ := List.getElem?_eq_some_iff.mp ey7
            rw [List.drop_eq_getElem_cons lt, eq]
          rw [dr1] at hr6
          unfold lcGo at hr6
          obtain ⟨ps1, e3, hr6⟩ := Option.bind_eq_some_iff.mp hr6
          obtain ⟨k1, e4, hr6⟩ := Option.bind_eq_some_iff.mp hr6
          obtain ⟨qs1, pr1, mem1, go1⟩ := hg1.go _ H7 x1 y1 ps1 ry8 e3
          have hs8 := Slots.sets pr1 hs7
          refine go1 _ _ ⟨?_, ht1 _ _ k1 _ H7 _ hs8 e4 fun H8 s8 => ?_⟩
          · rw [wipe_setA fun q hq => hi1 _ (mem1 q hq), wipe_wipe fun _ h => h]
          · have hD8 := s8 _ _ (s7 _ _ hD6)
            have s18 := s6.trans (s7.trans s8)
            have rs8 := Rep.same s8 (Rep.same s7 rs6)
            have kp8 : Keep (fun b => P b ∨ b = D) H5 H8 := kp6.trans ((Keep.of s7).trans (.of s8))
            by_cases c1 : k1 = true
            · rw [if_pos c1] at hr6 ⊢
              obtain ⟨z, e5, hr6⟩ := Option.bind_eq_some_iff.mp hr6
              obtain ⟨rest3, e6, hr6⟩ := Option.bind_eq_some_iff.mp hr6
              cases hr6
              refine ⟨_, _, z, hs8.same s8, e5, fun u H9 s9 ru => ⟨acc1, s9 _ _ hD8, ?_, ?_⟩⟩
              · have h1 := Res.length rs8
                have h2 := congrArg List.length hy6
                have h3 := congrArg List.length hy
                simp only [List.length_append, List.length_cons] at h2 h3
                exact most_line (by omega)
              · obtain ⟨p1, p2, p3⟩ := push H9 acc1 dn1 u z (s9 _ _ hD8) (s18.trans s9) (Rep.same s9 rs8) ru
                refine ⟨_, dn1 ++ [z], rest3, p1, fun b o e n => ?_, p2, p3, e6, by rw [List.append_assoc]; exact hy6⟩
                rw [upd_ne fun z => n (.inr z)]
                exact s9 _ _ (kp8 b o e n)
            · rw [if_neg c1] at hr6 ⊢
              exact ⟨acc1, dn1, rest1, hD8, kp8, s18, rs8, hr6, hy6⟩
        · rintro H6 ⟨acc1, dn1, rest1, hD6, kp6, s6, rs6, hr6, hy6⟩
          rw [List.drop_length] at hr6
          cases hr6
          rw [List.append_nil] at hy6
          subst hy6
          exact ⟨acc1, _, rest2, hD6, s6, rs6, er, by rw [List.append_assoc]; exact hy⟩
      · rw [if_neg c] at hr ⊢
        exact ⟨acc, dn, rest, hD4, s14, rs4, hr, hy⟩
  · rintro H2 ⟨acc, dn, rest, hD, s2, rs, hr, hy⟩
    rw [List.drop_length] at hr
    cases hr
    rw [List.append_nil] at hy
    subst hy
    exact q D acc H2 (s1.trans s2) (s1.free nD) hD rs lm
/-! isinstance(x, (T1, T2)) -/
section
variable {X : Cx} {cm : Cm} {a b c e : Expr} {f g h : En → Option Val} {pos : Pos}
def isi2F (T1 T2 : String) (f : En → Option Val) : En → Option Val := fun env => (f env).bind fun x => (tyOf x).bind fun t => (kitB t T1).bind fun b1 => (kitB t T2).map fun b2 => .bl (b1 || b2)
theorem kitAny2 {K : PySem.W.Frag} {t T1 T2 : String} {b1 b2 : Bool} (h1 : kitB t T1 = some b1) (h2 : kitB t T2 = some b2) : PySem.W.kitAny K (.type t) [.type T1, .type T2] = some (b1 || b2) := by
  unfold PySem.W.kitAny
  rw [kit_ty h1]
  cases b1
  · show PySem.W.kitAny K (.type t) [.type T2] = some (false || b2)
    unfold PySem.W.kitAny
    rw [kit_ty h2]
    cases b2 <;> rfl
  · rfl
theorem ve_isi2 {T1 T2 : String} {x1 x2 : Str} {p p1 p2 p3 : Pos} {kk : Nat} (g1 : Gl X x1) (m1 : X.mg x1 = none) (v1 : bootBuiltins x1 = some (.type T1)) (g2 : Gl X x2) (m2 : X.mg x2 = none) (v2 : bootBuiltins x2 = some (.type T2)) (hg : Gl X "isinstance") (hm : X.mg "isinstance" = none) (hv : bootBuiltins "isinstance" = some (.builtin "isinstance")) (ha : VE X cm e f)
    (n1 : x1 ≠ "__name__" := by decide) (d1 : (x1 == ("__debug__" : Str)) = false := by decide) (n2 : x2 ≠ "__name__" := by decide) (d2 : (x2 == ("__debug__" : Str)) = false := by decide)
    (s1 : starEach [.Name x1 p1, .Name x2 p2] X.env = (false, eval (.Name x1 p1) X.env) :: starEach [.Name x2 p2] X.env := by rfl) (s2 : starEach [.Name x2 p2] X.env = (false, eval (.Name x2 p2) X.env) :: starEach [] X.env := by rfl)
    (he : starEach [e, .Tuple [.Name x1 p1, .Name x2 p2] kk p3] X.env = (false, eval e X.env) :: starEach [.Tuple [.Name x1 p1, .Name x2 p2] kk p3] X.env := by rfl) (he2 : starEach [.Tuple [.Name x1 p1, .Name x2 p2] kk p3] X.env = (false, eval (.Tuple [.Name x1 p1, .Name x2 p2] kk p3) X.env) :: starEach [] X.env := by rfl) (hpl : (backTo pos (starEach [.Tuple [.Name x1 p1, .Name x2 p2] kk p3] X.env)).any (·.1) = false := by rfl) :
    VE X cm (.Call (.Name "isinstance" p) [e, .Tuple [.Name x1 p1, .Name x2 p2] kk p3] [] pos) (isi2F T1 T2 f) :=
  (pe_callB call_isiT hg hm hv (pa_cons ha (pa_cons (pe_tup (pa_cons (pe_bltn (v := .ty T1) g1 m1 v1 rfl n1 d1) (pa_cons (pe_bltn (v := .ty T2) g2 m2 v2 rfl n2 d2) pa_nil s2) s1)) pa_nil he2) he) (by decide) (by decide) he hpl).weak fun σ H Q ⟨P, env, z, hs, hf, q⟩ => by
    unfold isi2F at hf
    obtain ⟨x, ex, h1⟩ := Option.bind_eq_some_iff.mp hf
    obtain ⟨t, et, h2⟩ := Option.bind_eq_some_iff.mp h1
    obtain ⟨b1, e1, h3⟩ := Option.bind_eq_some_iff.mp h2
    obtain ⟨b2, e2, rfl⟩ := Option.map_eq_some_iff.mp h3
    refine ⟨P, env, x, hs, ex, fun v H1 s1 r1 => ⟨by show 2 ≤ sizeLine; rw [sizeLine_eq]; omega, fun p np => ?_⟩⟩
    have s2 : Same H1 (upd H1 p (.tup [.ty T1, .ty T2])) := fun b o eb => by rw [upd_ne (ne_of_none eb np)]; exact eb
    exact ⟨v, p, _, .type t, _, b1 || b2, rfl, upd_same, .cons (.ty T1) (.cons (.ty T2) .nil), tyOf_re (r1.same s2) et, kitAny2 e1 e2, q _ _ (s1.trans s2) (.bl _)⟩
end
/-! any slice, any sum of tuples -/
section
variable {X : Cx} {cm : Cm} {a b c e : Expr} {f g h : En → Option Val} {pos : Pos}
def cutTA : Val → Option Int → Option Int → Option Val
  | .tup xs, lo, hi => some (.tup (cutG xs lo hi))
  | _, _, _ => none
theorem cutG_whole {xs : List Val} {lo hi : Option Int} (h1 : HT.sIx xs.length 0 lo = 0) (h2 : HT.sIx xs.length xs.length hi = xs.length) : cutG xs lo hi = xs := by
  unfold cutG
  rw [h1, h2, List.drop_zero, Nat.sub_zero, List.take_length]
theorem vs_tupA (P : Addr → Prop) (x z : Val) (i j : Option Int) (v : V) (H : Hp) (Q : VK) (hd : Hid P H) (e : cutTA x i j = some z) (r : Re cm P H v x) (q : ∀ v' H', Same H H' → Re cm P H' v' z → Q v' H') : rSlA X.K v i j H Q := by
  unfold cutTA at e
  split at e
  · cases e
    obtain ⟨a, vs, rfl, n, hh, rs⟩ := r.tup_
    refine ⟨a, vs, rfl, .inl (.inl hh), fun h12 => ?_, fun c p np => ?_⟩
    · rw [Res.length rs] at h12
      rw [cutG_whole h12.1 h12.2] at q
      exact q _ H (Same.refl H) (.tup n hh rs)
    · have s2 : Same H (upd H p (.tup (cutV vs i j))) := fun b o eb => by rw [upd_ne (ne_of_none eb np)]; exact eb
      exact q _ _ s2 (.tup (hd.new np) upd_same (Rep.same s2 (cutG_re rs)))
  · cases e
def catTA : Val → Val → Option Val
  | .tup xs, .tup ys => if xs.length + ys.length ≤ most then some (.tup (xs ++ ys)) else none
  | _, _ => none
theorem ve_catTA (ha : VE X cm a f) (hb : VE X cm b g) : VE X cm (.BinOp a .Add b pos) (bin2 catTA f g) := (pe_op op_catA ha hb).weak fun σ H Q q => by
  obtain ⟨P, env, z, hs, hf, q⟩ := q
  unfold bin2 at hf
  obtain ⟨x, ex, h1⟩ := Option.bind_eq_some_iff.mp hf
  obtain ⟨y, ey, h2⟩ := Option.bind_eq_some_iff.mp h1
  refine ⟨P, env, x, hs, ex, fun v H1 s1 r1 => ⟨P, env, y, hs.same s1, ey, fun u H2 s2 r2 => ?_⟩⟩
  have hd := (hs.hid.same s1).same s2
  have r1 : Re cm P H2 v x := r1.same s2
  unfold catTA at h2
  split at h2
  case h_2 => cases h2
  split at h2
  case isFalse => cases h2
  rename_i l
  cases h2
  obtain ⟨a, vs, rfl, n1, ha1, k1⟩ := r1.tup_
  obtain ⟨b, us, rfl, n2, hb2, k2⟩ := r2.tup_
  have l1 := Res.length k1
  have l2 := Res.length k2
  have s12 := s1.trans s2
  refine ⟨a, b, vs, us, rfl, rfl, .inl (.inl ha1), .inl (.inl hb2), by rw [l1, l2]; exact Nat.le_of_lt (most_line l), fun z => ?_, fun _ z => ?_, fun _ _ p np => ?_⟩
  · subst z
    cases k1
    exact q _ H2 s12 (.tup n2 hb2 k2)
  · subst z
    cases k2
    rw [List.append_nil] at q
    exact q _ H2 s12 (.tup n1 ha1 k1)
  · have s3 : Same H2 (upd H2 p (.tup (vs ++ us))) := fun b o eb => by rw [upd_ne (ne_of_none eb np)]; exact eb
    exact q _ _ (s12.trans s3) (.tup (hd.new np) upd_same (Rep.same s3 (Res.append k1 k2)))
end
section
variable {X : Cx} {cm : Cm} {ow : List Nat} {a b c e : Expr} {es : List Expr} {f g h : En → Option Val} {pos : Pos} {st : Stmt}
theorem vn_lc2 {elt tg iter tg1 iter1 : Expr} {ifs ifs1 : List Expr} {scope : Scope} {own : List (Str × Nat)} {vs1 : List Nat} {gt gt1 : TG} {tt tt1 : TT} {fi fi1 : En → Option (List Val)} {m m1 : Val → Option (List (Nat × Val))} {ft ft1 : En → Option Bool} {fe : En → Option Val} {is is1 : List Nat} (hc : X.calm = true) (hN : X.N.Nodup) (hi : VI X cm tg iter fi) (ok : BlkOk X.N X.env.scope scope own) (hv : ∀ i ∈ vs1, i ∈ own.map (·.2))
    (hg : ∀ (s : Shared) (H : Hp) (C : Addr) (cl : List (Str × Addr)) (fp : List Addr), PG (X.blk s H scope (compEnvC scope cl C X.env) fp) tg gt) (ht : ∀ (s : Shared) (H : Hp) (C : Addr) (cl : List (Str × Addr)) (fp : List Addr), PTs (X.blk s H scope (compEnvC scope cl C X.env) fp) ifs tt)
    (hi1 : ∀ (s : Shared) (H : Hp) (C : Addr) (cl : List (Str × Addr)) (fp : List Addr), VI (X.blk s H scope (compEnvC scope cl C X.env) fp) cm tg1 iter1 fi1)
    (hg1 : ∀ (s : Shared) (H : Hp) (C : Addr) (cl : List (Str × Addr)) (fp : List Addr), PG (X.blk s H scope (compEnvC scope cl C X.env) fp) tg1 gt1) (ht1 : ∀ (s : Shared) (H : Hp) (C : Addr) (cl : List (Str × Addr)) (fp : List Addr), PTs (X.blk s H scope (compEnvC scope cl C X.env) fp) ifs1 tt1)
    (he : ∀ (s : Shared) (H : Hp) (C : Addr) (cl : List (Str × Addr)) (fp : List Addr), VE (X.blk s H scope (compEnvC scope cl C X.env) fp) cm elt fe) (tg_ : TgV cm gt m is) (hi2 : ∀ i ∈ is, i ∈ own.map (·.2)) (tt_ : TtV cm tt ft) (tg1_ : TgV cm gt1 m1 is1) (hi3 : ∀ i ∈ is1, i ∈ vs1) (tt1_ : TtV cm tt1 ft1)
    (hs : ∀ x, foldedSetIterable iter X.env x = pure x := by intro _; rfl) (hs1 : ∀ env x, foldedSetIterable iter1 env x = pure x := by intro _ _; rfl) :
    VN X cm (.ListComp elt [⟨tg, iter, ifs, 0⟩, ⟨tg1, iter1, ifs1, 0⟩] scope pos) (lc2F fi m ft fi1 m1 ft1 fe (own.map (·.2)) vs1) := (pe_lc2 hc hN hi ok hv hg ht hi1 hg1 ht1 he hs hs1).weak (tLc2_of tg_ hi2 tt_ tg1_ hi3 tt1_)
theorem sv_setLc2 {i : Nat} {y : Str} {py : Pos} {elt tg iter tg1 iter1 : Expr} {ifs ifs1 : List Expr} {scope : Scope} {own : List (Str × Nat)} {vs1 : List Nat} {spos : Pos} {gt gt1 : TG} {tt tt1 : TT} {fi fi1 : En → Option (List Val)} {m m1 : Val → Option (List (Nat × Val))} {ft ft1 : En → Option Bool} {fe : En → Option Val} {is is1 : List Nat} {r : En → Option (List Val)} (hc : X.calm = true) (hN : X.N.Nodup) (hy : X.N[i]? = some y) (hyl : X.env.scope.names.lookup y = some .local)
    (hsw : swapsWith (.ListComp elt [⟨tg, iter, ifs, 0⟩, ⟨tg1, iter1, ifs1, 0⟩] scope pos) (some (.Name y py)) spos.line X.env = pure true) (hi : VI X cm tg iter fi) (ok : BlkOk X.N X.env.scope scope own) (hv : ∀ i ∈ vs1, i ∈ own.map (·.2))
    (hg : ∀ (s : Shared) (H : Hp) (C : Addr) (cl : List (Str × Addr)) (fp : List Addr), PG (X.blk s H scope (compEnvC scope cl C X.env) fp) tg gt) (ht : ∀ (s : Shared) (H : Hp) (C : Addr) (cl : List (Str × Addr)) (fp : List Addr), PTs (X.blk s H scope (compEnvC scope cl C X.env) fp) ifs tt)
    (hi1 : ∀ (s : Shared) (H : Hp) (C : Addr) (cl : List (Str × Addr)) (fp : List Addr), VI (X.blk s H scope (compEnvC scope cl C X.env) fp) cm tg1 iter1 fi1)
    (hg1 : ∀ (s : Shared) (H : Hp) (C : Addr) (cl : List (Str × Addr)) (fp : List Addr), PG (X.blk s H scope (compEnvC scope cl C X.env) fp) tg1 gt1) (ht1 : ∀ (s : Shared) (H : Hp) (C : Addr) (cl : List (Str × Addr)) (fp : List Addr), PTs (X.blk s H scope (compEnvC scope cl C X.env) fp) ifs1 tt1)
    (he : ∀ (s : Shared) (H : Hp) (C : Addr) (cl : List (Str × Addr)) (fp : List Addr), VE (X.blk s H scope (compEnvC scope cl C X.env) fp) cm elt fe) (tg_ : TgV cm gt m is) (hi2 : ∀ i ∈ is, i ∈ own.map (·.2)) (tt_ : TtV cm tt ft) (tg1_ : TgV cm gt1 m1 is1) (hi3 : ∀ i ∈ is1, i ∈ vs1) (tt1_ : TtV cm tt1 ft1) (ho : i ∉ ow) (sn : SnV cm ow r (tN cm (lc2F fi m ft fi1 m1 ft1 fe (own.map (·.2)) vs1)))
    (hs : ∀ x, foldedSetIterable iter X.env x = pure x := by intro _; rfl) (hs1 : ∀ env x, foldedSetIterable iter1 env x = pure x := by intro _ _; rfl) :
    SV X cm ow (.Assign [.Name y py] (.ListComp elt [⟨tg, iter, ifs, 0⟩, ⟨tg1, iter1, ifs1, 0⟩] scope pos) spos) (setG i (fun env => (r env).map .lst)) :=
  sv_set0 (ps_setLc2 hc hN hy hyl hsw hi ok hv hg ht hi1 hg1 ht1 he hs hs1) ho (sr_sn (sn.weak (tLc2_of tg_ hi2 tt_ tg1_ hi3 tt1_)))
end
end Up

namespace Up
open PySem PySem.Spec PyProof.Rows L2
section
variable {X : Cx} {cm : Cm} {ow : List Nat} {a b c e : Expr} {es : List Expr} {f g h : En → Option Val} {pos : Pos} {st : Stmt}
/-! (*way, letter) -/
def starC (f : En → Option Val) (g : En → Option (List Val)) : En → Option (List Val) := fun env => (f env).bind fun x => (itemsOf x).bind fun xs => (g env).bind fun ys => some (xs ++ ys)
theorem va_star {p : Pos} {k : En → Option (List Val)} (ha : VE X cm e f) (hr : VA X cm es k) (hs : starEach (.Starred e p :: es) X.env = (true, eval e X.env) :: starEach es X.env := by rfl) : VA X cm (.Starred e p :: es) (starC f k) :=
  (StX.pa_star ha hr hs).weak fun σ H Q ⟨P, env, z, hs, hf, q⟩ => by
    unfold starC at hf
    obtain ⟨x, ex, h1⟩ := Option.bind_eq_some_iff.mp hf
    obtain ⟨xs, exs, h2⟩ := Option.bind_eq_some_iff.mp h1
    obtain ⟨ys, ey, h3⟩ := Option.bind_eq_some_iff.mp h2
    cases h3
    refine ⟨P, env, x, hs, ex, fun v H1 s1 r1 => ?_⟩
    obtain ⟨p', vs, rfl, hsq, rs⟩ := itemsOf_re (K := X.K) r1 exs
    exact ⟨p', vs, rfl, hsq.symm, P, env, ys, hs.same s1, ey, fun us H2 s2 r2 => q _ H2 (s1.trans s2) (Res.append (Rep.same s2 rs) r2)⟩
/-! {x}, s.add(x), x in s, x not in s -/
theorem setAdd_R {prog : Program} {w : World} {A : Around} {E : Value → Shared → Prop} {s : Shared} {a : Addr} {S : Int → Bool} {n : Nat} {k : Int} {tk : Tok} {Q : Bool → Shared → Prop} (R : SetR w s.heap a S n) (room : n + 1 < scanBound)
    (hQ : ∀ h', Heap.SameBut a s.heap h' → SetR w h' a (fun j => S j || decide (j = k)) (if S k = true then n else n + 1) → ∀ b, Q b { s with heap := h', toks := s.toks + 1 }) :
    wpAny (model prog w) A (setAdd a (.int k tk)) Q E s := by
  unfold setAdd
  refine wpAny_holding (wpAny_bind ((intKind prog w).pyHash (intKind_is prog w k tk) ?_))
  exact setR_add_hashed (P := prog) (s := { s with toks := s.toks + 1 }) R room fun h' sb r => hQ h' sb r _
def tSet1 (w : World) (te : TE) : TE := fun σ H Q => ∀ p, H p = none → te σ (upd H p (SetO w p (fun _ => false) 0)) fun x H1 => ∃ k, x = .int k ∧ H1 p = some (SetO w p (fun _ => false) 0) ∧ Q (.ref p) (upd H1 p (SetO w p (fun j => false || decide (j = k)) 1))
theorem pe_set1 {te : TE} (hc : PySem.W.kdsCode X.K X.env.code = true) (he : PE X e te) (hp : PySem.W.kdsPlain e = true := by rfl) : PE X (.Set [e] 0 pos) (tSet1 X.w te) := by
  refine ⟨fun pins s σ H Q I h => ?_⟩
  rw [arm_eval_Set]
  refine wpAny_bind (wpAny_standAt (wpAny_bind (PySem.W.kds_main I.kIn hc fun b => ?_)))
  rw [PySem.W.kds_star [e] (by rw [List.all_cons, hp]; rfl), List.map_map]
  have hn : H s.heap.objs.size = none := I.hok.fresh (Nat.le_refl _)
  unfold setDisplay
  have hr : (displayRoad 0 [e] == DisplayRoad.constants) = false := rfl
  have hu : (displayRoad 0 [e] == DisplayRoad.unsure) = false := rfl
  rw [hr, hu]
  simp only [Bool.false_eq_true, if_false]
  refine wpAny_bind (PySem.wpAny_newSet_raw fun led hl => ?_)
  subst hl
  have R0 := setR_fresh (h := s.heap) X.w
  have I1 : Inv X pins σ (upd H s.heap.objs.size (SetO X.w s.heap.objs.size (fun _ => false) 0)) { s with heap := s.heap.push { cls := .type "set", dict := none, data := .set #[] 0 (.fresh 0 0 (!X.w.params.followText "set-order")) } } :=
    I.laid (t' := s.toks) (fun b u e => Heap.get?_push_of_some _ e) (Nat.le_refl _) (setO_new R0)
  dsimp only
  refine wpAny_bind (wpAny_holding ?_)
  show wpAny _ _ ((evalAll [do let v ← eval e X.env; standAt pos; pure v]) >>= _) _ _ _
  refine wpAny_bind (wpAny_bind (wpAny_bind (thn (he.run pins _ σ _ _ I1 (h _ hn)) fun v s1 ⟨x, H1, I2, rx, k, ex, hp1, q⟩ => ?_)))
  subst ex
  obtain ⟨tk, rfl⟩ := rx
  refine wpAny_bind (wpAny_standAt (wpAny_pure ?_))
  refine wpAny_bind (wpAny_holding (wpAny_pure (wpAny_pure ?_)))
  refine wpAny_bind (wpAny_holding ?_)
  rw [List.forIn_cons]
  have R2 := setO_get I2 hp1
  refine wpAny_bind (wpAny_bind (wpAny_bind (setAdd_R R2 (by decide) fun h' sb R3 b => ?_)))
  have he' : ∃ u, h'.get? s.heap.objs.size = some u := by
    have ⟨o, _, _, _, ho, _⟩ := R3
    exact ⟨o, ho⟩
  have I3 : Inv X pins σ (upd H1 s.heap.objs.size (SetO X.w s.heap.objs.size (fun j => false || decide (j = k)) 1)) { s1 with heap := h', toks := s1.toks + 1 } :=
    I2.write (e := s.heap.objs.size) (t' := s1.toks + 1) (by rw [hp1]; trivial) (.inl rfl) (fun b u hb hu => (sb.2 b hb).trans hu) he' (setO_new R3)
  refine wpAny_pure ?_
  dsimp only
  rw [List.forIn_nil]
  refine wpAny_pure (wpAny_pure ?_)
  refine wpAny_bind ?_
  have dr : ∀ (ys : List (Bool × Sem Value)) (n : Nat) (g : Bool × Sem Value → PUnit → Sem (ForInStep PUnit)) (Q' : PUnit → Shared → Prop) (s' : Shared), ys.length ≤ n → Q' PUnit.unit s' → wpAny (model X.prog X.w) X.A (forIn (ys.drop n) PUnit.unit g) Q' X.xe s' := fun ys n g Q' s' hl hq => by
    rw [List.drop_of_length_le hl, List.forIn_nil]
    exact wpAny_pure hq
  refine dr _ _ _ _ _ (Nat.le_refl 1) ?_
  exact wpAny_pure (wpAny_pure ⟨.ref _, _, I3, rfl, q⟩)
def newSG (i : Nat) (f : En → Option Val) : En → Option Out := fun env => if i < env.length then (f env).bind fun x => match x with
  | .int k => some (.nx (env.set i (some (.set [k]))))
  | _ => none
  else none
theorem sv_newS {i : Nat} {x : Str} {pos' : Pos} {k : Nat} (hc : PySem.W.kdsCode X.K X.env.code = true) (hw : cm.w = X.w) (hN : X.N.Nodup) (hi : X.N[i]? = some x) (hx : Loc X.env.scope x) (ho : i ∈ ow) (he : VE X cm e f) (hp : PySem.W.kdsPlain e = true := by rfl) (hk : k = 0 := by rfl) (hs : swapsWith (.Set [e] k pos) (some (.Name x pos')) pos.line X.env = pure false := by rfl) (hf : X.fn x = true ∨ X.env.scope.names.lookup x = some .local := by first | exact .inl rfl | exact .inr rfl | assumption) {spos : Pos}
    (hs2 : swapsWith (.Set [e] k pos) (some (.Name x pos')) spos.line X.env = pure false := by rfl) :
    SV X cm ow (.Assign [.Name x pos'] (.Set [e] k pos) spos) (newSG i f) := by
  subst hk
  refine (ps_set hN hi hx (pe_set1 (X := X) (pos := pos) hc he hp) hs2 hf).weak fun D σ H ⟨P, H0, env, o, hs, hg, q⟩ => ?_
  unfold newSG at hg
  split at hg
  case isFalse => cases hg
  rename_i lt
  obtain ⟨y, ey, hg⟩ := Option.bind_eq_some_iff.mp hg
  split at hg
  case h_2 => cases hg
  rename_i m
  cases hg
  intro p np
  have s1 : Same H (upd H p (SetO X.w p (fun _ => false) 0)) := fun b o eb => by rw [upd_ne (ne_of_none eb np)]; exact eb
  refine ⟨P, env, _, hs.view.same s1, ey, fun v H1 s2 r2 => ?_⟩
  cases r2.int_
  refine ⟨m, rfl, s2 _ _ upd_same, ?_⟩
  have s3 : Same H (upd H1 p (SetO X.w p (fun j => false || decide (j = m)) 1)) := fun b o eb => by
    rw [upd_ne (ne_of_none eb np)]
    exact s2 _ _ (s1 _ _ eb)
  obtain ⟨h1, h2⟩ := hs.newO ho lt np s3 (x := .set [m]) (.set (S := fun j => false || decide (j = m)) (n := 1) (by rw [hw]; exact upd_same) (fun j => by simp) rfl)
  exact q _ _ h1 h2
def addS (xs : List Int) (k : Int) : List Int := if k ∈ xs then xs else xs ++ [k]
def addG (i : Nat) (f : En → Option Val) : En → Option Out := fun env => match env[i]? with
  | some (some (.set xs)) => if xs.length ≤ 1000 then (f env).bind fun y => match y with
    | .int k => some (.nx (env.set i (some (.set (addS xs k)))))
    | _ => none
    else none
  | _ => none
theorem sv_add0 {i : Nat} (hst : PS X st (tDrop (tSAdd X.w (tVar i) (tCons (tV cm f) tNil)))) (hw : cm.w = X.w) (ho : i ∈ ow) : SV X cm ow st (addG i f) := hst.weak fun D σ H ⟨P, H0, env, o, hs, hg, q⟩ => by
  unfold addG at hg
  split at hg
  case h_2 => cases hg
  rename_i xs ex
  split at hg
  case isFalse => cases hg
  rename_i lm
  obtain ⟨y, ey, hg⟩ := Option.bind_eq_some_iff.mp hg
  split at hg
  case h_2 => cases hg
  rename_i k
  cases hg
  obtain ⟨a, hσ, nP, h0, tp⟩ := hs.own i ho _ ex
  cases tp with
  | @set S n _ ha hS hn =>
    rw [hw] at ha
    refine ⟨_, hσ, ⟨a, S, n, rfl, ha⟩, P, env, .int k, hs.view, ey, fun v H1 s1 r1 => ?_⟩
    cases r1.int_
    refine ⟨a, k, S, n, rfl, rfl, s1 _ _ ha, by rw [hn]; show xs.length + 1 < 4096; omega, ?_⟩
    have hs1 := hs.same s1
    obtain ⟨h1, h2⟩ := hs1.putO ho ex hσ (o := SetO X.w a (fun j => S j || decide (j = k)) (if S k = true then n else n + 1)) (x := .set (addS xs k)) (.set (S := fun j => S j || decide (j = k)) (n := if S k = true then n else n + 1) (by rw [hw]; exact upd_same) (fun j => by
      unfold addS
      rw [hS]
      by_cases c : k ∈ xs
      · rw [if_pos c]
        by_cases c2 : j = k
        · subst c2
          simp [c]
        · simp [c2]
      · rw [if_neg c, Bool.eq_iff_iff]
        simp) (by
      unfold addS
      rw [hS]
      by_cases c : k ∈ xs
      · rw [if_pos c, decide_eq_true c, if_pos rfl]
        exact hn
      · rw [if_neg c, decide_eq_false c, if_neg Bool.false_ne_true, List.length_append, hn]
        rfl))
    exact q _ _ h1 (Fr.trans (.same s1) h2)
def inSF (neg : Bool) : Val → Val → Option Val
  | .int k, .set xs => some (.bl (if neg then !decide (k ∈ xs) else decide (k ∈ xs)))
  | _, _ => none
theorem ov_sin {w : World} (hw : cm.w = w) : OpV cm (rSIn w) (inSF false) := fun P x y z v u H Q e rx ry q => by
  subst hw
  unfold inSF at e
  split at e
  · cases e
    cases rx.int_
    cases ry with
    | set n hh hS hn => exact ⟨_, _, _, _, rfl, rfl, hh, by rw [hS]; exact q _ H (Same.refl H) (.bl _)⟩
  · cases e
theorem ov_snotin {w : World} (hw : cm.w = w) : OpV cm (rSNotIn w) (inSF true) := fun P x y z v u H Q e rx ry q => by
  subst hw
  unfold inSF at e
  split at e
  · cases e
    cases rx.int_
    cases ry with
    | set n hh hS hn => exact ⟨_, _, _, _, rfl, rfl, hh, by rw [hS]; exact q _ H (Same.refl H) (.bl _)⟩
  · cases e
end
section
variable {P : Program} {w : World} {K : PySem.W.Frag} {mg : Str → Option Value} {base : Heap} {cm : Cm}
theorem kds_of {cd : Value} {q : Str} (h : PySem.W.codeIn K cd q = true) : PySem.W.kdsCode K cd = true := by
  unfold PySem.W.codeIn at h
  unfold PySem.W.kdsCode
  split at h
  · split at h
    · rename_i e
      simp only [e]
    · cases h
  · cases h
/-- okD, where the body may know that its code object stands -/
theorem okDC {x : Str} {st : Stmt} {f : Addr} {fd : FuncData} {N ps : List Str} {k : Nat} (ow : List Nat) {g : En → Option Out} (D : Dd K mg x st ps f fd) (S : FnScope N ps (defScope st)) (ho : ∀ i ∈ ow, ps.length ≤ i)
    (hbody : ∀ (cdv : Value) (A : Around) (outer : List Env) (s : Shared) (H : Hp) (E : XK), PySem.W.kdsCode K cdv = true → Room k (A.deeper (envOfC x (defScope st) s.heap.objs.size f cdv)) → (A.deeper (envOfC x (defScope st) s.heap.objs.size f cdv)).units + 64 < cLine → SVs (cxOf CX0 P w K mg base N x (defScope st) f cdv A outer s H E).nox cm ow (defBody st) g) :
    Df P w K mg base cm x (k + 1) ps (runV N.length ps.length g) f fd := by
  refine ⟨?_, D.at_, D.fn.kp, D.bd⟩
  obtain ⟨oc, od, kV, doc, pm, an, cdv, ct, osl, rfl, lk, hcd⟩ := D.fn.ex
  have lenS : ∀ (vs : List V) (H : Hp) (Q : VK) (E : XK), spV cm (runV N.length ps.length g) vs H Q E → vs.length = ps.length := fun vs H Q E ⟨P', xs, z, _, r, e, _⟩ => by
    unfold runV at e
    split at e
    · rename_i l
      rw [Res.length r]
      exact l
    · cases e
  refine fn_of lk hcd S lenS fun A outer s H vs Q E hr h => ?_
  obtain ⟨P', xs, z, hd, r, e, q⟩ := h
  refine ⟨_, (hbody cdv A outer s H E (kds_of hcd) hr (by have := hr.un; omega)).nox, ?_⟩
  unfold runV at e
  split at e
  case isFalse => cases e
  rename_i l
  obtain ⟨o, e1, e⟩ := Option.bind_eq_some_iff.mp e
  refine ⟨P', H, _, o, start_st (N := N) hd r (by rw [l]; exact ho), e1, ?_⟩
  cases o with
  | nx env' =>
    cases e
    exact fun σ' H' hs f => q _ H' hs.base .non
  | rt y =>
    cases e
    exact fun v H' s r => q v H' s r
  | bk env' => cases e
  | ct env' => cases e
end
end Up

namespace Up
open PySem PySem.Spec PyProof.Rows L2
/-! len(set(xs)), xs a tuple of ints -/
def ddI (ns : List Int) : List Int := ns.foldl addS []
theorem addS_mem {xs : List Int} {k j : Int} : j ∈ addS xs k ↔ j ∈ xs ∨ j = k := by
  unfold addS
  by_cases c : k ∈ xs
  · rw [if_pos c]
    constructor
    · exact .inl
    · rintro (h | h)
      · exact h
      · rw [h]
        exact c
  · rw [if_neg c, List.mem_append, List.mem_singleton]
theorem addS_nd {xs : List Int} {k : Int} (h : xs.Nodup) : (addS xs k).Nodup := by
  unfold addS
  by_cases c : k ∈ xs
  · rw [if_pos c]
    exact h
  · rw [if_neg c]
    refine List.nodup_append.mpr ⟨h, List.nodup_cons.mpr ⟨List.not_mem_nil, List.nodup_nil⟩, fun a ha b hb => ?_⟩
    rcases List.mem_cons.mp hb with e | e
    · rw [e]
      exact fun z => c (z ▸ ha)
    · cases e
theorem dd_go : ∀ (ns acc : List Int), acc.Nodup → (ns.foldl addS acc).Nodup ∧ ∀ j, j ∈ ns.foldl addS acc ↔ j ∈ acc ∨ j ∈ ns
  | [], acc, h => ⟨h, fun j => by simp⟩
  | n :: ns, acc, h => by
    obtain ⟨h1, h2⟩ := dd_go ns (addS acc n) (addS_nd h)
    refine ⟨h1, fun j => ?_⟩
    show j ∈ ns.foldl addS (addS acc n) ↔ _
    rw [h2, addS_mem, List.mem_cons]
    constructor
    · rintro ((a | a) | a)
      · exact .inl a
      · exact .inr (.inl a)
      · exact .inr (.inr a)
    · rintro (a | a | a)
      · exact .inl (.inl a)
      · exact .inl (.inr a)
      · exact .inr a
theorem len_same {α : Type} [DecidableEq α] {a b : List α} (ha : a.Nodup) (hb : b.Nodup) (h : ∀ x, x ∈ a ↔ x ∈ b) : a.length = b.length :=
  Nat.le_antisymm (nd_len ha fun x hx => (h x).mp hx) (nd_len hb fun x hx => (h x).mpr hx)
section
variable {X : Cx} {cm : Cm} {a b c e : Expr} {es : List Expr} {f g h : En → Option Val}
def tLenST (K : PySem.W.Frag) (ta : TE) : TE := fun σ H Q => ta σ H fun x H1 => ∃ (l : Addr) (ns : List Int), x = .ref l ∧ SqT K H1 l (ns.map V.int) ∧ ns.length ≤ 1000 ∧ Q (.int ((ddI ns).length : Nat)) H1
theorem pe_lenST {ta : TE} {p p2 q pos : Pos} (hc : X.calm = true) (hg : Gl X "len") (hm : X.mg "len" = none) (hg2 : Gl X "set") (hm2 : X.mg "set" = none) (ha : PE X a ta)
    (na : starEach [a] X.env = (false, eval a X.env) :: starEach [] X.env := by rfl) : PE X (.Call (.Name "len" p) [.Call (.Name "set" p2) [a] [] q] [] pos) (tLenST X.K ta) := by
  refine ⟨fun pins s σ H Q I h => ?_⟩
  refine Call_ (ld_blt I hg hm PySem.boot_len ?_)
  refine PyProof.Rows.callWith_builtin1 (PyProof.Rows.args_cons ?_ rfl) rfl rfl
  refine Call_ (ld_blt I hg2 hm2 PyProof.Rows.boot_set ?_)
  refine PyProof.Rows.callWith_type1 (PyProof.Rows.args_cons (thn (ha.run pins s σ H _ I h) fun v s1 ⟨x, H1, I1, r1, q1⟩ => PyProof.Rows.args_nil ?_) na) na rfl
  obtain ⟨l, ns, rfl, hq, h1, q1⟩ := q1
  cases r1
  obtain ⟨its, r, pl, hz⟩ := I1.tuple hq
  obtain ⟨tob, ho1, hc1, hn1, hd1⟩ := pl
  refine call_set_tupI ns (I1.ok.hd hc) ⟨tob, ho1, hc1, hn1, hd1⟩ (intsAre_of r) (by show ns.length + 1 < 4096; omega) fun h' tk c R hcl hk => ?_
  refine PyProof.Rows.args_nil ?_
  obtain ⟨o, es, ep, t, ho, hex, hd, g, nd, hmm, hb, hf, hn, hr, hl⟩ := R
  have I2 : Inv X pins σ H1 { s1 with heap := h', toks := tk } := I1.kept hk
  obtain ⟨k1, k2⟩ := dd_go ns [] List.nodup_nil
  have ec : c = (ddI ns).length := by
    have e1 := len_same nd k1 fun j => by
      rw [← hmm j]
      show decide (j ∈ ns) = true ↔ j ∈ ns.foldl addS []
      rw [k2, decide_eq_true_iff]
      simp
    rw [List.length_map, Array.length_toList] at e1
    rw [← hn, e1]
    rfl
  refine call_len_set ho hex hd hf (by rw [hn, ec]; have := nd_len k1 (fun x hx => ((k2 x).mp hx).resolve_left List.not_mem_nil); unfold ddI; omega) ⟨.int ((ddI ns).length : Nat), H1, I2.tok _, ⟨_, by rw [hn, ec]⟩, q1⟩
def intsOf : List Val → Option (List Int)
  | [] => some []
  | .int i :: xs => (intsOf xs).map (i :: ·)
  | _ :: _ => none
theorem intsOf_re {P : Addr → Prop} {H : Hp} : ∀ {vs : List V} {xs : List Val} {ns : List Int}, Res cm P H vs xs → intsOf xs = some ns → vs = ns.map V.int
  | _, _, _, .nil, e => by
    cases e
    rfl
  | _, _, _, .cons (x := x) r t, e => by
    cases x <;> try (cases e; done)
    unfold intsOf at e
    obtain ⟨ms, e1, rfl⟩ := Option.map_eq_some_iff.mp e
    cases Re.int_ r
    rw [intsOf_re t e1]
    rfl
def lenSF (f : En → Option Val) : En → Option Val := fun env => (f env).bind fun x => match x with
  | .tup xs => (intsOf xs).bind fun ns => if ns.length ≤ 1000 then some (.int ((ddI ns).length : Nat)) else none
  | _ => none
theorem ve_lenS {p p2 q pos : Pos} (hc : X.calm = true) (hg : Gl X "len") (hm : X.mg "len" = none) (hg2 : Gl X "set") (hm2 : X.mg "set" = none) (ha : VE X cm a f)
    (na : starEach [a] X.env = (false, eval a X.env) :: starEach [] X.env := by rfl) : VE X cm (.Call (.Name "len" p) [.Call (.Name "set" p2) [a] [] q] [] pos) (lenSF f) := (pe_lenST hc hg hm hg2 hm2 ha na).weak fun σ H Q ⟨P, env, z, hs, hf, q⟩ => by
  unfold lenSF at hf
  obtain ⟨x, ex, h1⟩ := Option.bind_eq_some_iff.mp hf
  split at h1
  case h_2 => cases h1
  obtain ⟨ns, en, h2⟩ := Option.bind_eq_some_iff.mp h1
  split at h2
  case isFalse => cases h2
  rename_i l
  cases h2
  refine ⟨P, env, _, hs, ex, fun v H1 s1 r1 => ?_⟩
  obtain ⟨p', vs, rfl, n1, hh, rs⟩ := r1.tup_
  exact ⟨p', ns, rfl, .inl (.inl (by rw [hh, intsOf_re rs en])), l, q _ H1 s1 (.int _)⟩
end
end Up

namespace Up
open PySem PySem.Spec PyProof.Rows L2
/-! ### calls by names alone -/
/-- what is passed by names comes the other way round -/
theorem kbn_rev {K : PySem.W.Frag} {x qual : Str} {st : Stmt} {f : Addr} {fd : FuncData} {ps ks : List Str} {n : Nat} (F : Fun K x qual st f fd)
    (h : ∀ (kV doc pm : Value) (an : Option Addr) (cdv ct : Value) (us ws : List Value), us.length = n → ws.length = ks.length → bindArgs (PySem.W.fnOf x qual (defArgs st) (defBody st) (defScope st) .none kV doc pm an cdv ct) ⟨us, ks.zip ws⟩ = pure (ps.zip (us ++ ws.reverse))) :
    KBn K fd ps n ks (fun us ws => us ++ ws.reverse) (fun us ws => us ++ ws.reverse) := by
  obtain ⟨oc, od, kV, doc, pm, an, cdv, ct, osl, rfl, lk, hcd⟩ := F.ex
  refine ⟨fun s us ws _ h1 h2 => .of_eq (h kV doc pm an cdv ct us ws h1 h2), fun {vs us zs ws} r1 r2 => r1.append ?_⟩
  have rev : ∀ {zs : List V} {ws : List Value}, Vals zs ws → Vals zs.reverse ws.reverse := fun {zs ws} r => by
    induction r with
    | nil => exact .nil
    | cons a t ih =>
      rw [List.reverse_cons, List.reverse_cons]
      exact ih.append (.cons a .nil)
  exact rev r2
section
variable {X : Cx} {CX : CXT} {k : Nat} {f C : Addr} {fd : FuncData} {ps ks : List Str} {sp : Sp} {E : XK} {x m : Str} {p pos apos : Pos} {o : Expr} {kws : List Keyword} {ta : TE} {tk : TA} {g : List Value → List Value → List Value} {gV : List V → List V → List V}
theorem run_kn {n : Nat} {pins : List (Addr × Obj)} {σ : L2.St} {H : Hp} {s : Shared} {Q : VK} {us ws : List Value} {vs zs : List V} (F : FnOk X.prog X.w X.K X.mg X.base CX k f fd ps sp) (hr : Room k X.A) (hb : KBn X.K fd ps n ks g gV) (hx : Passes CX X E)
    (I : Inv X pins σ H s) (r : Vals vs us) (rz : Vals zs ws) (h1 : vs.length = n) (h2 : zs.length = ks.length) (h : sp (gV vs zs) H Q E) : wpAny (model X.prog X.w) X.A (call (.ref f) us (ks.zip ws)) (EP X pins σ Q) X.xe s := by
  refine wpAny_call (codeAny_mono (F.run X.A X.stack s H ⟨us, ks.zip ws⟩ (g us ws) (gV vs zs) Q E hr I.env0 (hb.to s us ws I.kIn (by rw [← r.length]; exact h1) (by rw [← rz.length]; exact h2)) (hb.rel r rz) h) fun res st2 hq => ?_)
  match res, hq with
  | .error er, hq => exact hx pins σ H s er st2 I hq
  | .ok (.ret u), hq => exact I.after hq
def tCallK0 (m : Nat) (sp : Sp) (gV : List V → List V → List V) (E : XK) (tk : TA) : TE := fun σ H Q => tk σ H fun zs H1 => zs.length = m ∧ sp (gV [] zs) H1 Q E
theorem pe_callK0 (F : FnOk X.prog X.w X.K X.mg X.base CX k f fd ps sp) (hr : Room k X.A) (hg : Gl X x) (hm : X.mg x = some (.ref f)) (hk : PySem.W.keepIn X.K (.ref f) = true) (hb : KBn X.K fd ps 0 ks g gV) (hx : Passes CX X E) (hkw : PK X kws tk)
    (hall : (backToKw pos (keywordEach kws X.env)).all (·.1.isSome) = true := by rfl) (hks : (backToKw pos (keywordEach kws X.env)).filterMap (·.1) = ks := by rfl) (hdb : (x == ("__debug__" : Str)) = false := by decide)
    (hpl : ((backTo pos (starEach [] X.env)).any (·.1) || (backToKw pos (keywordEach kws X.env)).any (·.1.isNone)) = false := by rfl) :
    PE X (.Call (.Name x p) [] kws pos) (tCallK0 ks.length sp gV E tk) := by
  refine ⟨fun pins s σ H Q I h => wpAny_Call_Name_kw (ld_glob I hg hm ?_ hdb)⟩
  refine PySem.W.callWith_KW0 (h₀ := X.base) I.ok.mod.kin hk hall (thn (hkw.run pos pins s σ H _ I h) fun ws s2 ⟨zs, H2, I2, rz, l, q2⟩ => ⟨I2.kIn, ?_⟩) hpl
  rw [hks]
  exact run_kn (us := []) (vs := []) F hr hb hx I2 .nil rz rfl l q2
def tMethK0 (C : Addr) (m : Str) (n : Nat) (sp : Sp) (gV : List V → List V → List V) (E : XK) (ta : TE) (tk : TA) : TE := fun σ H Q => ta σ H fun x H1 => ∃ a dx fs, x = .ref a ∧ H1 a = some (.ins C dx fs) ∧ fs.lookup m = none ∧
  tk σ H1 fun zs H2 => zs.length = n ∧ sp (gV [x] zs) H2 Q E
theorem pe_methK0 {pl : Sem Bool} (he : PE X o ta) (c : Cls X.K C) (hm : Meth X.K C m f) (F : FnOk X.prog X.w X.K X.mg X.base CX k f fd ps sp) (hr : Room k X.A) (hb : KBn X.K fd ps 1 ks g gV) (hx : Passes CX X E) (hkw : PK X kws tk)
    (hall : (backToKw pos (keywordEach kws X.env)).all (·.1.isSome) = true := by rfl) (hks : (backToKw pos (keywordEach kws X.env)).filterMap (·.1) = ks := by rfl)
    (hpl : ((backTo pos (starEach [] X.env)).any (·.1) || (backToKw pos (keywordEach kws X.env)).any (·.1.isNone)) = false := by rfl)
    (ht : eval (.Call (.Attribute o m apos) [] kws pos) X.env = (do
      let ov ← eval o X.env
      standAt apos.atName
      let (f, first) ← holding [ov] (getMethod ov m pl)
      callWith pos f first (backTo pos (starEach [] X.env)) (backToKw pos (keywordEach kws X.env))) := by rfl) :
    PE X (.Call (.Attribute o m apos) [] kws pos) (tMethK0 C m ks.length sp gV E ta tk) := by
  refine ⟨fun pins s σ H Q I h => ?_⟩
  refine PySem.W.methodCall_KW (pl := pl) (thn (he.run pins s σ H _ I h) fun u s1 ⟨y, H1, I1, rx, a, dx, fs, ex, ea, l, q⟩ => ?_) ht
  subst ex
  obtain rfl : u = Value.ref a := rx
  refine getmeth_ok I1 ea c hm l ?_
  refine PySem.W.callWith_KW0 (first := [.ref a]) (h₀ := X.base) I.ok.mod.kin hm.kp hall (thn (hkw.run pos pins s1 σ H1 _ I1 q) fun ws s2 ⟨zs, H2, I2, rz, l2, q2⟩ => ⟨I2.kIn, ?_⟩) hpl
  rw [hks]
  exact run_kn (us := [.ref a]) (vs := [.ref a]) F hr hb hx I2 (.cons rfl .nil) rz rfl l2 q2
end
section
variable {X : Cx} {cm : Cm} {e o : Expr} {es : List Expr} {f g h : En → Option Val} {p pos apos : Pos} {x m : Str} {kws : List Keyword} {k : Nat} {ps ks : List Str} {F : List Val → Option Val} {fa : Addr} {fd : FuncData}
abbrev VK_ (X : Cx) (cm : Cm) (kws : List Keyword) (f : En → Option (List Val)) : Prop := PK X kws (tVA cm f)
theorem _root_.L2.PK.weak {t t' : TA} (h : PK X kws t) (k : ∀ σ H Q, t' σ H Q → t σ H Q) : PK X kws t' := ⟨fun pos pins s σ H Q I q => h.run pos pins s σ H Q I (k σ H Q q)⟩
theorem vk_nil : VK_ X cm [] noF := pk_nil.weak fun σ H Q ⟨P, env, z, hs, hf, q⟩ => by
  cases hf
  exact q [] H (Same.refl H) .nil
theorem vk_cons {nm : Option Str} {kpos : Pos} {r : En → Option (List Val)} (ha : VE X cm e f) (hr : VK_ X cm kws r) : VK_ X cm (⟨nm, e, kpos⟩ :: kws) (consF f r) := (pk_cons ha hr).weak fun σ H Q ⟨P, env, z, hs, hf, q⟩ => by
  unfold consF at hf
  obtain ⟨y, ey, h1⟩ := Option.bind_eq_some_iff.mp hf
  obtain ⟨ys, eys, h2⟩ := Option.bind_eq_some_iff.mp h1
  cases h2
  exact ⟨P, env, y, hs, ey, fun v H1 s1 r1 => ⟨P, env, ys, hs.same s1, eys, fun vs H2 s2 r2 => q (v :: vs) H2 (s1.trans s2) (.cons (r1.same s2) r2)⟩⟩
theorem Res.reverse {P : Addr → Prop} {H : Hp} : ∀ {vs : List V} {xs : List Val}, Res cm P H vs xs → Res cm P H vs.reverse xs.reverse
  | _, _, .nil => .nil
  | _, _, .cons r t => by
    rw [List.reverse_cons, List.reverse_cons]
    exact Res.snoc (Res.reverse t) r
def revF (F : List Val → Option Val) (n : Nat) (t : En → Option (List Val)) : En → Option Val := fun env => (t env).bind fun xs => if xs.length = n then F xs.reverse else none
theorem ve_callK (d : Df X.prog X.w X.K X.mg X.base cm x k ps F fa fd) (hr : Room k X.A) (hg : Gl X x) (hb : KBn X.K fd ps 0 ks (fun us ws => us ++ ws.reverse) (fun us ws => us ++ ws.reverse)) {t : En → Option (List Val)} (hkw : VK_ X cm kws t) {n : Nat} (hn : ks.length = n := by rfl)
    (hall : (backToKw pos (keywordEach kws X.env)).all (·.1.isSome) = true := by rfl) (hks : (backToKw pos (keywordEach kws X.env)).filterMap (·.1) = ks := by rfl) (hdb : (x == ("__debug__" : Str)) = false := by decide)
    (hpl : ((backTo pos (starEach [] X.env)).any (·.1) || (backToKw pos (keywordEach kws X.env)).any (·.1.isNone)) = false := by rfl) :
    VE X cm (.Call (.Name x p) [] kws pos) (revF F n t) := hn ▸ (pe_callK0 d.ok hr hg d.at_ d.kp hb pass0 hkw hall hks hdb hpl).weak fun σ H Q ⟨P, env, z, hs, hf, q⟩ => by
  unfold revF at hf
  obtain ⟨xs, ex, h1⟩ := Option.bind_eq_some_iff.mp hf
  split at h1
  case isFalse => cases h1
  rename_i l
  exact ⟨P, env, xs, hs, ex, fun vs H1 s1 r1 => ⟨by rw [Res.length r1]; exact l, P, xs.reverse, z, hs.hid.same s1, (show Res cm P H1 ([] ++ vs.reverse) xs.reverse from by rw [List.nil_append]; exact Res.reverse r1), h1, fun v H2 s2 r2 => q v H2 (s1.trans s2) r2⟩⟩
/-- a method that is a function of its arguments' trees -/
structure Dm (P : Program) (w : World) (K : PySem.W.Frag) (mg : Str → Option Value) (base : Heap) (cm : Cm) (c : Nat) (m : Str) (k : Nat) (ps : List Str) (F : List Val → Option Val) (f : Addr) (fd : FuncData) : Prop where
  ok : FnOk P w K mg base CX0 k f fd ps (spV cm F)
  cl : Cls K (cm.cls c)
  me : Meth K (cm.cls c) m f
  bd : Binds K fd ps []
def metF (c : Nat) (m : Str) (F : List Val → Option Val) (f : En → Option Val) (t : En → Option (List Val)) : En → Option Val := fun env => (f env).bind fun x => match x with
  | .ins c' ns _ => if c' = c ∧ m ∉ ns then (t env).bind fun xs => F (x :: xs) else none
  | _ => none
theorem look_none {m : Str} : ∀ {fs : List (Str × V)}, m ∉ fs.map (·.1) → fs.lookup m = none
  | [], _ => rfl
  | (n, v) :: fs, h => by
    have hb : (m == n) = false := beq_eq_false_iff_ne.mpr fun z => h (by rw [z]; exact List.mem_cons_self ..)
    simp only [List.lookup, hb]
    exact look_none fun z => h (List.mem_cons_of_mem _ z)
theorem ve_meth {c : Nat} (d : Dm X.prog X.w X.K X.mg X.base cm c m k ps F fa fd) (hr : Room k X.A) (ho : VE X cm o f) {t : En → Option (List Val)} (ha : VA X cm (e :: es) t) {pl : Sem Bool}
    (hst : starEach (e :: es) X.env = (false, eval e X.env) :: starEach es X.env := by rfl) (hpl : (backTo pos (starEach es X.env)).any (·.1) = false := by rfl)
    (ht : eval (.Call (.Attribute o m apos) (e :: es) [] pos) X.env = (do
      let ov ← eval o X.env
      standAt apos.atName
      let (f, first) ← holding [ov] (getMethod ov m pl)
      callWith pos f first (backTo pos (starEach (e :: es) X.env)) (backToKw pos (keywordEach [] X.env))) := by rfl) :
    VE X cm (.Call (.Attribute o m apos) (e :: es) [] pos) (metF c m F f t) := (pe_meth ho d.cl d.me d.ok hr d.bd .nil pass0 ha hst hpl ht).weak fun σ H Q ⟨P, env, z, hs, hf, q⟩ => by
  unfold metF at hf
  obtain ⟨y, ey, h1⟩ := Option.bind_eq_some_iff.mp hf
  split at h1
  case h_2 => cases h1
  split at h1
  case isFalse => cases h1
  rename_i hc
  obtain ⟨rfl, hn⟩ := hc
  obtain ⟨xs, ex, h2⟩ := Option.bind_eq_some_iff.mp h1
  refine ⟨P, env, _, hs, ey, fun v H1 s1 r1 => ?_⟩
  have r1' := r1
  cases r1 with
  | @ins a dx _ fs _ n hh r =>
    refine ⟨a, dx, fs, rfl, hh, look_none hn, P, env, xs, hs.same s1, ex, fun vs H2 s2 r2 => ?_⟩
    show spV cm F (.ref a :: (vs ++ [])) H2 Q _
    rw [List.append_nil]
    exact ⟨P, _, z, (hs.hid.same s1).same s2, .cons (r1'.same s2) r2, h2, fun v H3 s3 r3 => q v H3 (s1.trans (s2.trans s3)) r3⟩
def metKF (c : Nat) (m : Str) (n : Nat) (F : List Val → Option Val) (f : En → Option Val) (t : En → Option (List Val)) : En → Option Val := fun env => (f env).bind fun x => match x with
  | .ins c' ns _ => if c' = c ∧ m ∉ ns then (t env).bind fun xs => if xs.length = n then F (x :: xs.reverse) else none else none
  | _ => none
theorem ve_methK {c : Nat} (d : Dm X.prog X.w X.K X.mg X.base cm c m k ps F fa fd) (hr : Room k X.A) (ho : VE X cm o f) (hb : KBn X.K fd ps 1 ks (fun us ws => us ++ ws.reverse) (fun us ws => us ++ ws.reverse)) {t : En → Option (List Val)} (hkw : VK_ X cm kws t) {pl : Sem Bool} {n : Nat}
    (hall : (backToKw pos (keywordEach kws X.env)).all (·.1.isSome) = true := by rfl) (hks : (backToKw pos (keywordEach kws X.env)).filterMap (·.1) = ks := by rfl)
    (hpl : ((backTo pos (starEach [] X.env)).any (·.1) || (backToKw pos (keywordEach kws X.env)).any (·.1.isNone)) = false := by rfl)
    (ht : eval (.Call (.Attribute o m apos) [] kws pos) X.env = (do
      let ov ← eval o X.env
      standAt apos.atName
      let (f, first) ← holding [ov] (getMethod ov m pl)
      callWith pos f first (backTo pos (starEach [] X.env)) (backToKw pos (keywordEach kws X.env))) := by rfl) (hn : ks.length = n := by rfl) :
    VE X cm (.Call (.Attribute o m apos) [] kws pos) (metKF c m n F f t) := hn ▸ (pe_methK0 ho d.cl d.me d.ok hr hb pass0 hkw hall hks hpl ht).weak fun σ H Q ⟨P, env, z, hs, hf, q⟩ => by
  unfold metKF at hf
  obtain ⟨y, ey, h1⟩ := Option.bind_eq_some_iff.mp hf
  split at h1
  case h_2 => cases h1
  split at h1
  case isFalse => cases h1
  rename_i hc
  obtain ⟨rfl, hn⟩ := hc
  obtain ⟨xs, ex, h2⟩ := Option.bind_eq_some_iff.mp h1
  split at h2
  case isFalse => cases h2
  rename_i l
  refine ⟨P, env, _, hs, ey, fun v H1 s1 r1 => ?_⟩
  have r1' := r1
  cases r1 with
  | @ins a dx _ fs _ n hh r =>
    refine ⟨a, dx, fs, rfl, hh, look_none hn, P, env, xs, hs.same s1, ex, fun vs H2 s2 r2 => ⟨by rw [Res.length r2]; exact l, ?_⟩⟩
    exact ⟨P, _, z, (hs.hid.same s1).same s2, .cons (r1'.same s2) (Res.reverse r2), h2, fun v H3 s3 r3 => q v H3 (s1.trans (s2.trans s3)) r3⟩
end
section
variable {P : Program} {w : World} {K : PySem.W.Frag} {mg : Str → Option Value} {base : Heap} {cm : Cm}
/-- a method of the text -/
structure DdM (K : PySem.W.Frag) (cm : Cm) (c : Nat) (m qual : Str) (st : Stmt) (ps : List Str) (f : Addr) (fd : FuncData) : Prop where
  fn : Fun K m qual st f fd
  cl : Cls K (cm.cls c)
  me : Meth K (cm.cls c) m f
  bd : Binds K fd ps []
theorem okM {c : Nat} {m qual : Str} {st : Stmt} {f : Addr} {fd : FuncData} {N ps : List Str} {k : Nat} (ow : List Nat) {g : En → Option Out} (D : DdM K cm c m qual st ps f fd) (S : FnScope N ps (defScope st)) (ho : ∀ i ∈ ow, ps.length ≤ i)
    (hbody : ∀ (cdv : Value) (A : Around) (outer : List Env) (s : Shared) (H : Hp) (E : XK), Room k (A.deeper (envOfC qual (defScope st) s.heap.objs.size f cdv)) → (A.deeper (envOfC qual (defScope st) s.heap.objs.size f cdv)).units + 64 < cLine → SVs (cxOf CX0 P w K mg base N qual (defScope st) f cdv A outer s H E).nox cm ow (defBody st) g) :
    Dm P w K mg base cm c m (k + 1) ps (runV N.length ps.length g) f fd :=
  ⟨okV ow D.fn S ho fun cdv A outer s H E hr => hbody cdv A outer s H E hr (by have := hr.un; omega), D.cl, D.me, D.bd⟩
end
/-! is True, of truths -/
def isTV (neg : Bool) : Val → Val → Option Val
  | .bl a, .bl b => some (.bl (neg != decide (a = b)))
  | _, _ => none
theorem ov_isTB {cm : Cm} : OpV cm (fun x y H Q => ∃ a b, x = .bl a ∧ y = .bl b ∧ Q (.bl (decide (a = b))) H) (isTV false) := fun P x y z v u H Q e rx ry q => by
  unfold isTV at e
  split at e
  case h_2 => cases e
  rename_i a b
  cases e
  cases rx.bl_
  cases ry.bl_
  refine ⟨a, b, rfl, rfl, ?_⟩
  have k := q (.bl (false != decide (a = b))) H (Same.refl H) (.bl _)
  rwa [Bool.false_bne] at k
theorem ov_isnotTB {cm : Cm} : OpV cm (fun x y H Q => ∃ a b, x = .bl a ∧ y = .bl b ∧ Q (.bl (!decide (a = b))) H) (isTV true) := fun P x y z v u H Q e rx ry q => by
  unfold isTV at e
  split at e
  case h_2 => cases e
  rename_i a b
  cases e
  cases rx.bl_
  cases ry.bl_
  refine ⟨a, b, rfl, rfl, ?_⟩
  have k := q (.bl (true != decide (a = b))) H (Same.refl H) (.bl _)
  rwa [Bool.true_bne] at k
end Up

namespace Up
open PySem PySem.Spec PyProof.Rows L2
/-! ### talks as values -/
def dgV (g : Dg) : Val := .tup [.str g.word, .int (g.l : Int)]
def rowV (gs : List Dg) : Val := .tup (gs.map dgV)
def rowsV (gss : List (List Dg)) : Val := .tup (gss.map rowV)
def placeV (t : Pl) : Val := .tup [.int (t.2.1 : Int), .int (t.2.2 : Int)]
def ckV (Ck : Dg → List Int) (t : Pl) : Val := .tup ((Ck t.1).map .int)
def handsV (many : Nat) (S : Nat → Nat) : Val := .tup (((List.range many).map fun l => ((S l : Nat) : Int)).map .int)
def keysV (gss : List (List Dg)) : List (List Key) := (plAll 0 gss).map fun t => t.1.key
def talkV (gss : List (List Dg)) (many : Nat) (S G : Nat → Nat) (Ck : Dg → List Int) : Val :=
  .ins 0 ["rows", "places", "many", "senders", "getters", "clocks"] [rowsV gss, .dct (keysV gss) ((plAll 0 gss).map placeV), .int (many : Int), handsV many S, handsV many G, .dct (keysV gss) ((plAll 0 gss).map (ckV Ck))]
section
variable {cm : Cm} {P : Addr → Prop} {H : Hp}
theorem ints_re : ∀ ns : List Int, Res cm P H (iL ns) (ns.map .int)
  | [] => .nil
  | n :: ns => .cons (.int n) (ints_re ns)
theorem rows_re (hd : Hid P H) {r : Addr} {gss : List (List Dg)} (h : RowsD H r gss) : Re cm P H (.ref r) (rowsV gss) := by
  obtain ⟨ts, h1, h2, h3⟩ := h.ex
  refine .tup (hd.tup h1) h1 (Res.of (by rw [List.length_map, List.length_map]; exact h2) fun i v x e1 e2 => ?_)
  obtain ⟨t, et, rfl⟩ := map_get e1
  rw [List.getElem?_map] at e2
  obtain ⟨gs, eg, rfl⟩ := Option.map_eq_some_iff.mp e2
  obtain ⟨qs, k1, k2, k3⟩ := h3 i t gs et eg
  refine .tup (hd.tup k1) k1 (Res.of (by rw [List.length_map, List.length_map]; exact k2) fun j v x e3 e4 => ?_)
  obtain ⟨q, eq, rfl⟩ := map_get e3
  rw [List.getElem?_map] at e4
  obtain ⟨g, eg2, rfl⟩ := Option.map_eq_some_iff.mp e4
  have hq := k3 j q g eq eg2
  exact .tup (hd.tup hq) hq (.cons (.str _) (.cons (.int _) .nil))
theorem keys_nd {gss : List (List Dg)} (o : Once gss) : (keysV gss).Nodup := by
  unfold keysV
  have e : ((plAll 0 gss).map fun t => t.1.key) = ((plAll 0 gss).map (·.1)).map Dg.key := by
    rw [List.map_map]
    rfl
  rw [e]
  exact List.Pairwise.map _ (fun a b c z => c (Dg.key_inj z)) o
theorem places_re (hd : Hid P H) {p : Addr} {kvs : List (List Key × V)} {gss : List (List Dg)} (o : Once gss) (nP : ¬ P p) (hp : H p = some (.dT kvs)) (d : DictP H kvs (plAll 0 gss)) : Re cm P H (.ref p) (.dct (keysV gss) ((plAll 0 gss).map placeV)) := by
  have ks : kvs.map (·.1) = keysV gss := d.ks
  have nd := keys_nd o
  refine .dct (vs := kvs.map (·.2)) nP hp (by rw [← ks, List.length_map]) (by rw [← ks, List.length_map, List.length_map]) (fun i k v e1 e2 => ?_) (fun k hk => ?_) (Res.of (by rw [List.length_map, List.length_map]; exact d.len) fun i v x e1 e2 => ?_)
  · rw [List.getElem?_map] at e2
    obtain ⟨⟨k', v'⟩, e3, rfl⟩ := Option.map_eq_some_iff.mp e2
    have e4 : (kvs.map (·.1))[i]? = some k' := by rw [List.getElem?_map, e3]; rfl
    rw [ks, e1] at e4
    cases e4
    exact val_some (by rw [ks]; exact nd) e3
  · exact val_none (by rw [ks]; exact hk)
  · rw [List.getElem?_map] at e1 e2
    obtain ⟨⟨k', v'⟩, e3, rfl⟩ := Option.map_eq_some_iff.mp e1
    obtain ⟨⟨g, h, n⟩, e4, rfl⟩ := Option.map_eq_some_iff.mp e2
    obtain ⟨q, e5, hq⟩ := d.vs i g h n e4
    rw [e3] at e5
    cases e5
    exact .tup (hd.tup hq) hq (.cons (.int _) (.cons (.int _) .nil))
theorem clocks_re (hd : Hid P H) {c : Addr} {ckv : List (List Key × V)} {dn : List Dg} {Ck : Dg → List Int} {gss : List (List Dg)} (o : Once gss) (nP : ¬ P c) (hc : H c = some (.dT ckv)) (d : DictC Ck H ckv dn) (nd : dn.Nodup) (hdn : ∀ g, g ∈ dn ↔ g ∈ (plAll 0 gss).map (·.1)) :
    Re cm P H (.ref c) (.dct (keysV gss) ((plAll 0 gss).map (ckV Ck))) := by
  have pick : ∀ l : List Pl, (∀ t ∈ l, t.1 ∈ dn) → ∃ vs : List V, vs.length = l.length ∧ (∀ (i : Nat) (t : Pl) (v : V), l[i]? = some t → vs[i]? = some v → valV ckv t.1.key = some v) ∧ Res cm P H vs (l.map (ckV Ck)) := by
    intro l
    induction l with
    | nil => exact fun _ => ⟨[], rfl, (fun i t v e => by simp at e), .nil⟩
    | cons t l ih =>
      intro h
      obtain ⟨vs, h1, h2, h3⟩ := ih fun u hu => h u (List.mem_cons_of_mem _ hu)
      obtain ⟨q, e1, hq⟩ := d.get nd (h t (List.mem_cons_self ..))
      refine ⟨.ref q :: vs, by rw [List.length_cons, List.length_cons, h1], fun i u v e2 e3 => ?_, .cons (.tup (hd.tup hq) hq (ints_re _)) h3⟩
      cases i with
      | zero =>
        cases e2
        cases e3
        exact e1
      | succ i => exact h2 i u v (by simpa using e2) (by simpa using e3)
  obtain ⟨vs, h1, h2, h3⟩ := pick (plAll 0 gss) fun t ht => (hdn _).mpr (List.mem_map_of_mem (f := (·.1)) ht)
  have lk : (keysV gss).length = (plAll 0 gss).length := by
    unfold keysV
    rw [List.length_map]
  have e1 : ((plAll 0 gss).map (·.1)).length = (plAll 0 gss).length := List.length_map ..
  refine .dct (vs := vs) nP hc (by rw [d.len, lk, ← e1]; exact Nat.le_antisymm (nd_len nd fun g hg => (hdn g).mp hg) (nd_len o fun g hg => (hdn g).mpr hg)) (by rw [h1, lk]) (fun i k v e2 e3 => ?_) (fun k hk => ?_) h3
  · unfold keysV at e2
    rw [List.getElem?_map] at e2
    obtain ⟨t, e4, rfl⟩ := Option.map_eq_some_iff.mp e2
    exact h2 i t v e4 e3
  · refine val_none fun c => ?_
    rw [d.ks] at c
    obtain ⟨g, hg, e⟩ := List.mem_map.mp c
    obtain ⟨t, ht, rfl⟩ := List.mem_map.mp ((hdn g).mp hg)
    exact hk (List.mem_map.mpr ⟨t, ht, e⟩)
theorem talk_re {H0 : Hp} {x C : Addr} {gss : List (List Dg)} {many : Nat} {S G : Nat → Nat} {Ck : Dg → List Int} (hC : cm.cls 0 = C) (hd : Hid P H) (nx : ¬ P x) (hP : ∀ a, P a → H0 a ≠ none) (o : Once gss) (t : TalkAt H x C gss many S G Ck) (nw : TalkNw H0 H x C) :
    Re cm P H (.ref x) (talkV gss many S G Ck) := by
  obtain ⟨dx, r, p, s, g, c, kvs, ckv, dn, h1, h2, h3, h4, h5, h6, h7, h8, h9, h10⟩ := t.ex
  obtain ⟨dx', r', p', many', s', g', c', k1, k2, k3⟩ := nw
  rw [h1] at k1
  have e := Option.some.inj k1
  have e2 : tf r p many s g c = tf r' p' many' s' g' c' := by
    injection e
  unfold tf at e2
  simp only [List.cons.injEq, Prod.mk.injEq, V.ref.injEq, and_true, true_and] at e2
  obtain ⟨_, ep, _, _, _, ec⟩ := e2
  subst ep ec
  subst hC
  exact .ins (fs := tf r p many s g c) nx h1 (.cons (rows_re hd h2) (.cons (places_re hd o (fun z => hP _ z k2) h3 h4) (.cons (.int _) (.cons (.tup (hd.tup h5) h5 (ints_re _)) (.cons (.tup (hd.tup h6) h6 (ints_re _)) (.cons (clocks_re hd o (fun z => hP _ z k3) h7 h8 h9 h10) .nil))))))
/-! rows read from values -/
def dgOf : Val → Option Dg
  | .tup [.str w, .int l] => if 0 ≤ l then (if w = ("send" : Str) then some ⟨true, l.toNat⟩ else if w = ("get" : Str) then some ⟨false, l.toNat⟩ else none) else none
  | _ => none
def allO {α : Type} (f : Val → Option α) : List Val → Option (List α)
  | [] => some []
  | x :: xs => (f x).bind fun a => (allO f xs).bind fun as => some (a :: as)
theorem allO_get {α : Type} {f : Val → Option α} : ∀ {xs : List Val} {as : List α}, allO f xs = some as → xs.length = as.length ∧ ∀ (i : Nat) x a, xs[i]? = some x → as[i]? = some a → f x = some a
  | [], as, e => by
    cases e
    exact ⟨rfl, fun i x a e => by simp at e⟩
  | x :: xs, as, e => by
    unfold allO at e
    obtain ⟨a, e1, e⟩ := Option.bind_eq_some_iff.mp e
    obtain ⟨as', e2, e⟩ := Option.bind_eq_some_iff.mp e
    cases e
    obtain ⟨h1, h2⟩ := allO_get e2
    refine ⟨by rw [List.length_cons, List.length_cons, h1], fun i y b e3 e4 => ?_⟩
    cases i with
    | zero =>
      cases e3
      cases e4
      exact e1
    | succ i => exact h2 i y b (by simpa using e3) (by simpa using e4)
theorem dgOf_re {v : V} {x : Val} {g : Dg} (r : Re cm P H v x) (e : dgOf x = some g) : ∃ q, v = .ref q ∧ H q = some (.tup g.vs) := by
  unfold dgOf at e
  split at e
  · rename_i w l
    obtain ⟨q, vs, rfl, n, hh, rs⟩ := r.tup_
    obtain ⟨v1, v2, rfl, r1, r2⟩ := Res.two rs
    cases r1.str_
    cases r2.int_
    refine ⟨q, rfl, ?_⟩
    rw [hh]
    split at e
    · rename_i hl
      have el : ((l.toNat : Nat) : Int) = l := Int.toNat_of_nonneg hl
      split at e
      · rename_i hw
        cases e
        subst hw
        show _ = some (HO.tup [.str "send", .int ((l.toNat : Nat) : Int)])
        rw [el]
      · split at e
        · rename_i hw
          cases e
          subst hw
          show _ = some (HO.tup [.str "get", .int ((l.toNat : Nat) : Int)])
          rw [el]
        · cases e
    · cases e
  · cases e
theorem items_h {v : V} {x : Val} {xs : List Val} (h : Re cm P H v x) (e : itemsOf x = some xs) : ∃ p vs, v = .ref p ∧ (H p = some (.lst vs) ∨ H p = some (.tup vs)) ∧ Res cm P H vs xs := by
  cases h <;> cases e
  · exact ⟨_, _, rfl, .inl (by assumption), by assumption⟩
  · exact ⟨_, _, rfl, .inr (by assumption), by assumption⟩
def rowOf (x : Val) : Option (List Dg) := (itemsOf x).bind (allO dgOf)
def rowsOf (x : Val) : Option (List (List Dg)) := (itemsOf x).bind (allO rowOf)
def tupOf : Val → Option (List Val)
  | .tup xs => some xs
  | _ => none
def rowT (x : Val) : Option (List Dg) := (tupOf x).bind (allO dgOf)
def rowsT (x : Val) : Option (List (List Dg)) := (tupOf x).bind (allO rowT)
/-- addresses of what are refs -/
theorem refs_of : ∀ {vs : List V}, (∀ (i : Nat) v, vs[i]? = some v → ∃ a, v = .ref a) → ∃ as : List Addr, vs = as.map V.ref
  | [], _ => ⟨[], rfl⟩
  | v :: vs, h => by
    obtain ⟨a, rfl⟩ := h 0 v rfl
    obtain ⟨as, rfl⟩ := refs_of fun i v e => h (i + 1) v (by simpa using e)
    exact ⟨a :: as, rfl⟩
theorem dgs_of {vs : List V} {xs : List Val} {gs : List Dg} (r : Res cm P H vs xs) (e : allO dgOf xs = some gs) : ∃ qs : List Addr, vs = qs.map V.ref ∧ qs.length = gs.length ∧ ∀ (j : Nat) (q : Addr) (g : Dg), qs[j]? = some q → gs[j]? = some g → H q = some (.tup g.vs) := by
  obtain ⟨l, get⟩ := allO_get e
  have one : ∀ (i : Nat) v, vs[i]? = some v → ∃ a g, v = .ref a ∧ gs[i]? = some g ∧ H a = some (.tup g.vs) := fun i v ev => by
    obtain ⟨x, ex, rx⟩ := Res.getV r ev
    have lt := (List.getElem?_eq_some_iff.mp ex).1
    obtain ⟨g, eg⟩ : ∃ g, gs[i]? = some g := ⟨_, List.getElem?_eq_getElem (by omega)⟩
    obtain ⟨q, rfl, hq⟩ := dgOf_re rx (get i x g ex eg)
    exact ⟨q, g, rfl, eg, hq⟩
  obtain ⟨qs, rfl⟩ := refs_of fun i v ev => let ⟨a, g, h, _⟩ := one i v ev; ⟨a, h⟩
  refine ⟨qs, rfl, by rw [← l, ← Res.length r, List.length_map], fun j q g e1 e2 => ?_⟩
  obtain ⟨a, g', ha, eg, hq⟩ := one j (.ref q) (by rw [List.getElem?_map, e1]; rfl)
  cases ha
  rw [e2] at eg
  cases eg
  exact hq
theorem rowsG_of {v : V} {x : Val} {gss : List (List Dg)} (r : Re cm P H v x) (e : rowsOf x = some gss) : ∃ a, v = .ref a ∧ RowsG H a gss := by
  unfold rowsOf at e
  obtain ⟨xs, e1, e⟩ := Option.bind_eq_some_iff.mp e
  obtain ⟨p, vs, rfl, hp, rs⟩ := items_h r e1
  obtain ⟨l, get⟩ := allO_get e
  have one : ∀ (i : Nat) v, vs[i]? = some v → ∃ a gs, v = .ref a ∧ gss[i]? = some gs ∧ ∃ qs : List Addr, (H a = some (.lst (qs.map V.ref)) ∨ H a = some (.tup (qs.map V.ref))) ∧ qs.length = gs.length ∧ ∀ (j : Nat) (q : Addr) (g : Dg), qs[j]? = some q → gs[j]? = some g → H q = some (.tup g.vs) := fun i v ev => by
    obtain ⟨y, ey, ry⟩ := Res.getV rs ev
    have lt := (List.getElem?_eq_some_iff.mp ey).1
    obtain ⟨gs, eg⟩ : ∃ gs, gss[i]? = some gs := ⟨_, List.getElem?_eq_getElem (by omega)⟩
    have e2 := get i y gs ey eg
    unfold rowOf at e2
    obtain ⟨ys, e3, e4⟩ := Option.bind_eq_some_iff.mp e2
    obtain ⟨a, us, rfl, ha, ru⟩ := items_h ry e3
    obtain ⟨qs, rfl, k1, k2⟩ := dgs_of ru e4
    exact ⟨a, gs, rfl, eg, qs, ha, k1, k2⟩
  obtain ⟨ts, rfl⟩ := refs_of fun i v ev => let ⟨a, g, h, _⟩ := one i v ev; ⟨a, h⟩
  refine ⟨p, rfl, ts, hp, by rw [← l, ← Res.length rs, List.length_map], fun i t gs e5 e6 => ?_⟩
  obtain ⟨a, gs', ha, eg, qs, k0, k1, k2⟩ := one i (.ref t) (by rw [List.getElem?_map, e5]; rfl)
  cases ha
  rw [e6] at eg
  cases eg
  exact ⟨qs, k0, k1, k2⟩
theorem rowsD_of {v : V} {x : Val} {gss : List (List Dg)} (r : Re cm P H v x) (e : rowsT x = some gss) : ∃ a, v = .ref a ∧ RowsD H a gss := by
  unfold rowsT at e
  obtain ⟨xs, e1, e⟩ := Option.bind_eq_some_iff.mp e
  have ex : x = .tup xs := by
    cases x <;> cases e1
    rfl
  subst ex
  obtain ⟨p, vs, rfl, _, hp, rs⟩ := r.tup_
  obtain ⟨l, get⟩ := allO_get e
  have one : ∀ (i : Nat) v, vs[i]? = some v → ∃ a gs, v = .ref a ∧ gss[i]? = some gs ∧ ∃ qs : List Addr, H a = some (.tup (qs.map V.ref)) ∧ qs.length = gs.length ∧ ∀ (j : Nat) (q : Addr) (g : Dg), qs[j]? = some q → gs[j]? = some g → H q = some (.tup g.vs) := fun i v ev => by
    obtain ⟨y, ey, ry⟩ := Res.getV rs ev
    have lt := (List.getElem?_eq_some_iff.mp ey).1
    obtain ⟨gs, eg⟩ : ∃ gs, gss[i]? = some gs := ⟨_, List.getElem?_eq_getElem (by omega)⟩
    have e2 := get i y gs ey eg
    unfold rowT at e2
    obtain ⟨ys, e3, e4⟩ := Option.bind_eq_some_iff.mp e2
    have ey2 : y = .tup ys := by
      cases y <;> cases e3
      rfl
    subst ey2
    obtain ⟨a, us, rfl, _, ha, ru⟩ := ry.tup_
    obtain ⟨qs, rfl, k1, k2⟩ := dgs_of ru e4
    exact ⟨a, gs, rfl, eg, qs, ha, k1, k2⟩
  obtain ⟨ts, rfl⟩ := refs_of fun i v ev => let ⟨a, g, h, _⟩ := one i v ev; ⟨a, h⟩
  refine ⟨p, rfl, ts, hp, by rw [← l, ← Res.length rs, List.length_map], fun i t gs e5 e6 => ?_⟩
  obtain ⟨a, gs', ha, eg, qs, k0, k1, k2⟩ := one i (.ref t) (by rw [List.getElem?_map, e5]; rfl)
  cases ha
  rw [e6] at eg
  cases eg
  exact ⟨qs, k0, k1, k2⟩
end
/-! ### making talks, comparing them -/
/-- a function that tells talks of rows -/
def MkOk (F : List Val → Option Val) : Prop := ∀ xs z, F xs = some z → ∃ (rows : Val) (gss : List (List Dg)) (many : Nat) (S G : Nat → Nat) (Ck : Dg → List Int), xs = [rows] ∧ rowsOf rows = some gss ∧ Valid gss many S G Ck ∧ z = talkV gss many S G Ck
theorem _root_.L2.FnOk.any {P : Program} {w : World} {K : PySem.W.Frag} {mg : Str → Option Value} {base : Heap} {CX : CXT} {k : Nat} {f : Addr} {fd : FuncData} {ps : List Str} {α : Type} {sp : α → Sp} (F : ∀ a, FnOk P w K mg base CX k f fd ps (sp a)) : FnOk P w K mg base CX k f fd ps (fun vs H Q E => ∃ a, sp a vs H Q E) :=
  ⟨fun vs H Q E ⟨a, h⟩ => (F a).len vs H Q E h, fun A outer s H args us vs Q E hr he hb hv ⟨a, h⟩ => (F a).run A outer s H args us vs Q E hr he hb hv h⟩
section
variable {X : Cx} {cm : Cm} {e : Expr} {es : List Expr} {f g h : En → Option Val} {p pos : Pos} {kws : List Keyword} {C fI : Addr} {fd : FuncData} {x : Str}
theorem make_core {P : Addr → Prop} {H H1 : Hp} {F : List Val → Option Val} {xs : List Val} {z : Val} {Q : VK} {E : XK} {vs : List V} (hC : cm.cls 0 = C) (mk : MkOk F) (hd : Hid P H1) (s1 : Same H H1) (r : Res cm P H1 vs xs) (ez : F xs = some z) (q : ∀ v' H', Same H H' → Re cm P H' v' z → Q v' H') (y dx : Addr) (ny : H1 y = none) (ndx : H1 dx = none) (ne : dx ≠ y) :
    ∃ Ck, spTInit C Sl0 Ck (.ref y :: vs) (upd (upd H1 dx (.own y)) y (.ins C dx [])) (fun v H2 => v = .non ∧ Q (.ref y) H2) E := by
  obtain ⟨rows, gss, many, S, G, Ck, rfl, er, hV, rfl⟩ := mk xs z ez
  obtain ⟨v, rfl, r1⟩ := Res.one r
  obtain ⟨a, rfl, hG⟩ := rowsG_of r1 er
  have s2 : Same H1 (upd (upd H1 dx (.own y)) y (.ins C dx [])) := fun b o eb => by
    rw [upd_ne (ne_of_none eb ny), upd_ne (ne_of_none eb ndx)]
    exact eb
  refine ⟨Ck, y, dx, a, gss, many, S, G, rfl, upd_same, True.intro, hG.same s2, hV, fun H2 k t nw => ⟨rfl, ?_⟩⟩
  have s3 : Same H1 H2 := fun b o eb => k b o (s2 b o eb) (ne_of_none eb ny)
  exact q _ H2 (s1.trans s3) (talk_re hC (hd.same s3) (hd.new ny) (fun b pb => ((hd b pb).same s2).ne) hV.once t nw)
theorem ve_make {F : List Val → Option Val} {t : En → Option (List Val)} (hC : cm.cls 0 = C) (mk : MkOk F) (M : Mk X.K C fI) (GT : ∀ Ck, FnOk X.prog X.w X.K X.mg X.base CX0 5 fI fd ["self", "rows"] (spTInit C Sl0 Ck)) (bT : Binds X.K fd ["self", "rows"] []) (hr : Room (5 + 1) X.A) (hg : Gl X x) (hm : X.mg x = some (.ref C)) (ha : VA X cm (e :: es) t)
    (hdb : (x == ("__debug__" : Str)) = false := by decide) (he : starEach (e :: es) X.env = (false, eval e X.env) :: starEach es X.env := by rfl) (hpl : (backTo pos (starEach es X.env)).any (·.1) = false := by rfl) :
    VE X cm (.Call (.Name x p) (e :: es) [] pos) (appF F t) := (pe_make M (FnOk.any GT) hr hg hm bT .nil pass0 ha hdb he hpl).weak fun σ H Q ⟨P, env, z, hs, hf, q⟩ => by
  obtain ⟨xs, ex, hf⟩ := Option.bind_eq_some_iff.mp hf
  refine ⟨P, env, xs, hs, ex, fun vs H1 s1 r1 y dx ny ndx ne => ?_⟩
  rw [List.append_nil]
  exact make_core hC mk (hs.hid.same s1) s1 r1 hf q y dx ny ndx ne
theorem ve_makeK {F : List Val → Option Val} {t : En → Option (List Val)} (hC : cm.cls 0 = C) (mk : MkOk F) (M : Mk X.K C fI) (GT : ∀ Ck, FnOk X.prog X.w X.K X.mg X.base CX0 5 fI fd ["self", "rows"] (spTInit C Sl0 Ck)) (bT : KBn X.K fd ["self", "rows"] 1 [("rows" : Str)] (fun us ws => us ++ ws.reverse) (fun us ws => us ++ ws.reverse)) (hr : Room (5 + 1) X.A) (hg : Gl X x) (hm : X.mg x = some (.ref C)) (hkw : VK_ X cm kws t)
    (hall : (backToKw pos (keywordEach kws X.env)).all (·.1.isSome) = true := by rfl) (hks : (backToKw pos (keywordEach kws X.env)).filterMap (·.1) = [("rows" : Str)] := by rfl) (hdb : (x == ("__debug__" : Str)) = false := by decide)
    (hpl : ((backTo pos (starEach [] X.env)).any (·.1) || (backToKw pos (keywordEach kws X.env)).any (·.1.isNone)) = false := by rfl) :
    VE X cm (.Call (.Name x p) [] kws pos) (revF F 1 t) := (pe_makeK0 M (FnOk.any GT) hr hg hm bT pass0 hkw hall hks hdb hpl).weak fun σ H Q ⟨P, env, z, hs, hf, q⟩ => by
  unfold revF at hf
  obtain ⟨xs, ex, h1⟩ := Option.bind_eq_some_iff.mp hf
  split at h1
  case isFalse => cases h1
  rename_i l
  refine ⟨P, env, xs, hs, ex, fun vs H1 s1 r1 => ⟨rfl, by rw [Res.length r1]; exact l, fun y dx ny ndx ne => ?_⟩⟩
  exact make_core hC mk (hs.hid.same s1) s1 (Res.reverse r1) h1 q y dx ny ndx ne
def rowsFld : Val → Option (List (List Dg))
  | .ins 0 ns xs => (lookF "rows" ns xs).bind rowsT
  | _ => none
theorem rowsOf_re {P : Addr → Prop} {H : Hp} {v : V} {y : Val} {gss : List (List Dg)} (r : Re cm P H v y) (e : rowsFld y = some gss) : ∃ a dx fs, v = .ref a ∧ H a = some (.ins (cm.cls 0) dx fs) ∧ RowsOf H a (cm.cls 0) gss := by
  unfold rowsFld at e
  split at e
  case h_2 => cases e
  obtain ⟨z, e1, e2⟩ := Option.bind_eq_some_iff.mp e
  cases r with
  | @ins a dx _ fs _ n hh rs =>
    obtain ⟨v, k1, k2⟩ := lookF_re rs e1
    obtain ⟨b, rfl, hb⟩ := rowsD_of k2 e2
    exact ⟨a, dx, fs, rfl, hh, dx, b, fs, hh, k1, hb⟩
def neT (x y : Val) : Option Val := (rowsFld x).bind fun a => (rowsFld y).bind fun b => some (.bl (!decide (a = b)))
theorem ov_neT {K : PySem.W.Frag} {E : XK} (hC : cm.cls 0 = C) : OpV cm (rNeO C (spTEq K C) E) neT := fun P x y z v u H Q e rx ry q => by
  subst hC
  unfold neT at e
  obtain ⟨a, ea, h1⟩ := Option.bind_eq_some_iff.mp e
  obtain ⟨b, eb, h2⟩ := Option.bind_eq_some_iff.mp h1
  cases h2
  obtain ⟨p1, d1, f1, rfl, k1, R1⟩ := rowsOf_re rx ea
  obtain ⟨p2, d2, f2, rfl, k2, R2⟩ := rowsOf_re ry eb
  exact ⟨p1, d1, p2, d2, f1, f2, rfl, rfl, k1, k2, p1, _, a, rfl, R1, .inr ⟨p2, b, rfl, R2, _, rfl, q _ H (Same.refl H) (.bl _)⟩⟩
end
end Up

namespace Up
open PySem PySem.Spec PyProof.Rows L2
/-! ### talks of given rows, computed -/
def allB {α : Type} (f : α → Bool) : List α → Bool
  | [] => true
  | x :: xs => f x && allB f xs
theorem allB_mem {α : Type} {f : α → Bool} : ∀ {l : List α}, allB f l = true → ∀ x ∈ l, f x = true
  | y :: l, h, x, hx => by
    unfold allB at h
    rw [Bool.and_eq_true] at h
    rcases List.mem_cons.mp hx with c | c
    · rw [c]; exact h.1
    · exact allB_mem h.2 x c
def upto : Nat → List Nat
  | 0 => []
  | n + 1 => n :: upto n
theorem upto_mem : ∀ {n k : Nat}, k < n → k ∈ upto n
  | n + 1, k, h => by
    unfold upto
    by_cases c : k = n
    · rw [c]; exact List.mem_cons_self ..
    · exact List.mem_cons_of_mem _ (upto_mem (by omega))
def dgEq (a b : Dg) : Bool := a.s == b.s && a.l == b.l
theorem dgEq_iff {a b : Dg} : dgEq a b = true ↔ a = b := by
  unfold dgEq
  cases a
  cases b
  simp
def tabGet : List (Dg × List Int) → Dg → Option (List Int)
  | [], _ => none
  | (k, c) :: t, g => if dgEq k g = true then some c else tabGet t g
def ckOf (tab : List (Dg × List Int)) (hands : Nat) (g : Dg) : List Int := (tabGet tab g).getD (List.replicate hands 0)
def handOf : List Pl → Dg → Option Nat
  | [], _ => none
  | (k, h, _) :: t, g => if dgEq k g = true then some h else handOf t g
theorem handOf_mem {g : Dg} {h : Nat} : ∀ {l : List Pl}, handOf l g = some h → ∃ n, (g, h, n) ∈ l
  | (k, h', n) :: t, e => by
    unfold handOf at e
    by_cases c : dgEq k g = true
    · rw [if_pos c] at e
      cases e
      rw [dgEq_iff] at c
      subst c
      exact ⟨n, List.mem_cons_self ..⟩
    · rw [if_neg c] at e
      obtain ⟨n, hn⟩ := handOf_mem e
      exact ⟨n, List.mem_cons_of_mem _ hn⟩
def ckRow (h : Nat) : List Dg → Nat → List Int → List (Dg × List Int) → List (Dg × List Int)
  | [], _, _, tab => tab
  | g :: gs, n, cs, tab => if g.s then
      let c := cs.set h ((n : Int) + 1)
      ckRow h gs (n + 1) c ((g, c) :: tab)
    else match tabGet tab ⟨true, g.l⟩ with
      | none => tab
      | some sent =>
        let c := (List.zipWith mx cs sent).set h ((n : Int) + 1)
        ckRow h gs (n + 1) c ((g, c) :: tab)
def ckRows (hands : Nat) : Nat → List (List Dg) → List (Dg × List Int) → List (Dg × List Int)
  | _, [], tab => tab
  | h, gs :: r, tab => ckRows hands (h + 1) r (ckRow h gs 0 (List.replicate hands 0) tab)
def ckTab (gss : List (List Dg)) : Nat → List (Dg × List Int) → List (Dg × List Int)
  | 0, tab => tab
  | n + 1, tab => ckTab gss n (ckRows gss.length 0 gss tab)
def sumI : List Int → Int
  | [] => 0
  | x :: xs => x + sumI xs
def manyOf : List Pl → Nat
  | [] => 0
  | t :: l => max (t.1.l + 1) (manyOf l)
def memDg : List Pl → Dg → Bool
  | [], _ => false
  | t :: l, g => dgEq t.1 g || memDg l g
theorem memDg_no {g : Dg} : ∀ {l : List Pl}, memDg l g = false → g ∉ l.map (·.1)
  | [], _, h => by cases h
  | t :: l, e, h => by
    unfold memDg at e
    rw [Bool.or_eq_false_iff] at e
    rcases List.mem_cons.mp h with c | c
    · rw [c, dgEq_iff.mpr rfl] at e
      cases e.1
    · exact memDg_no e.2 c
def onceB : List Pl → Bool
  | [] => true
  | t :: l => !(memDg l t.1) && onceB l
theorem onceB_nd : ∀ {l : List Pl}, onceB l = true → (l.map (·.1)).Nodup
  | [], _ => List.nodup_nil
  | t :: l, h => by
    unfold onceB at h
    rw [Bool.and_eq_true, Bool.not_eq_true'] at h
    exact List.nodup_cons.mpr ⟨memDg_no h.1, onceB_nd h.2⟩
def rowB (hands : Nat) (Ck : Dg → List Int) (h : Nat) (gs : List Dg) : Nat → List Dg → Bool
  | _, [] => true
  | n, g :: r => decide (Ck g = (if g.s then prevC hands Ck gs n else List.zipWith mx (prevC hands Ck gs n) (Ck ⟨true, g.l⟩)).set h ((n : Int) + 1)) && rowB hands Ck h gs (n + 1) r
theorem rowB_ok {hands : Nat} {Ck : Dg → List Int} {h : Nat} {gs : List Dg} : ∀ {r : List Dg} {n : Nat}, rowB hands Ck h gs n r = true → ∀ (k : Nat) (g : Dg), r[k]? = some g → Ck g = (if g.s then prevC hands Ck gs (n + k) else List.zipWith mx (prevC hands Ck gs (n + k)) (Ck ⟨true, g.l⟩)).set h (((n + k : Nat) : Int) + 1)
  | g :: r, n, e, k, g', eg => by
    unfold rowB at e
    rw [Bool.and_eq_true] at e
    cases k with
    | zero =>
      cases eg
      exact of_decide_eq_true e.1
    | succ k =>
      have z := rowB_ok e.2 k g' (by simpa using eg)
      rw [show n + 1 + k = n + (k + 1) by omega] at z
      exact z
def rowsB (hands : Nat) (Ck : Dg → List Int) : Nat → List (List Dg) → Bool
  | _, [] => true
  | h, gs :: r => rowB hands Ck h gs 0 gs && rowsB hands Ck (h + 1) r
theorem rowsB_ok {hands : Nat} {Ck : Dg → List Int} : ∀ {r : List (List Dg)} {h : Nat}, rowsB hands Ck h r = true → ∀ (k : Nat) (gs : List Dg), r[k]? = some gs → RowCk hands Ck (h + k) gs
  | gs :: r, h, e, k, gs', eg => by
    unfold rowsB at e
    rw [Bool.and_eq_true] at e
    cases k with
    | zero =>
      cases eg
      exact fun n g en => by
        have z := rowB_ok e.1 n g en
        rw [Nat.zero_add] at z
        exact z
    | succ k =>
      have z := rowsB_ok e.2 k gs' (by simpa using eg)
      rw [show h + 1 + k = h + (k + 1) by omega] at z
      exact z
def stepB (rk : Dg → Int) : List Dg → Bool
  | g :: g' :: r => decide (0 ≤ rk g ∧ rk g < rk g') && stepB rk (g' :: r)
  | _ => true
theorem stepB_ok {rk : Dg → Int} : ∀ {gs : List Dg}, stepB rk gs = true → ∀ (n : Nat) (g g' : Dg), gs[n]? = some g → gs[n + 1]? = some g' → (rk g).toNat < (rk g').toNat
  | a :: b :: r, e, n, g, g', e1, e2 => by
    unfold stepB at e
    rw [Bool.and_eq_true] at e
    cases n with
    | zero =>
      cases e1
      cases e2
      have k := of_decide_eq_true e.1
      omega
    | succ n => exact stepB_ok e.2 n g g' (by simpa using e1) (by simpa using e2)
  | [a], e, n, g, g', e1, e2 => by
    have := (List.getElem?_eq_some_iff.mp e2).1
    simp at this
def validB (gss : List (List Dg)) (many : Nat) (S G : Nat → Nat) (tab : List (Dg × List Int)) : Bool :=
  let pl := plAll 0 gss
  let Ck := ckOf tab gss.length
  let rk := fun g => sumI (Ck g)
  decide (1 ≤ gss.length) && decide (gss.length ≤ 6) && decide (many ≤ 12) && decide (pl.length ≤ 24) && allB (fun t => decide (t.1.l < many)) pl && onceB pl
    && allB (fun l => handOf pl ⟨true, l⟩ == some (S l) && handOf pl ⟨false, l⟩ == some (G l) && !(S l == G l) && decide (0 ≤ rk ⟨true, l⟩ ∧ rk ⟨true, l⟩ < rk ⟨false, l⟩)) (upto many)
    && rowsB gss.length Ck 0 gss && allB (fun p => p.2.length == gss.length) tab && allB (stepB rk) gss
theorem tabGet_len {hands : Nat} {g : Dg} {c : List Int} : ∀ {tab : List (Dg × List Int)}, allB (fun p => p.2.length == hands) tab = true → tabGet tab g = some c → c.length = hands
  | (k, c') :: t, h, e => by
    unfold allB at h
    rw [Bool.and_eq_true] at h
    unfold tabGet at e
    by_cases d : dgEq k g = true
    · rw [if_pos d] at e
      cases e
      exact of_decide_eq_true (by simpa using h.1)
    · rw [if_neg d] at e
      exact tabGet_len h.2 e
theorem validB_ok {gss : List (List Dg)} {many : Nat} {S G : Nat → Nat} {tab : List (Dg × List Int)} (h : validB gss many S G tab = true) : Valid gss many S G (ckOf tab gss.length) := by
  unfold validB at h
  simp only [Bool.and_eq_true] at h
  obtain ⟨⟨⟨⟨⟨⟨⟨⟨⟨h1, h2⟩, h3⟩, h4⟩, h5⟩, h6⟩, h7⟩, h8⟩, h9⟩, h10⟩ := h
  have hl : ∀ l, l < many → (handOf (plAll 0 gss) ⟨true, l⟩ = some (S l) ∧ handOf (plAll 0 gss) ⟨false, l⟩ = some (G l)) ∧ S l ≠ G l ∧ 0 ≤ sumI (ckOf tab gss.length ⟨true, l⟩) ∧ sumI (ckOf tab gss.length ⟨true, l⟩) < sumI (ckOf tab gss.length ⟨false, l⟩) := fun l k => by
    have z := allB_mem h7 l (upto_mem k)
    simp only [Bool.and_eq_true, beq_iff_eq, Bool.not_eq_true', beq_eq_false_iff_ne, decide_eq_true_eq] at z
    exact ⟨z.1.1, z.1.2, z.2⟩
  refine ⟨of_decide_eq_true h1, of_decide_eq_true h2, fun t ht => of_decide_eq_true (allB_mem h5 t ht), of_decide_eq_true h3, of_decide_eq_true h4, onceB_nd h6, ⟨fun l k => handOf_mem (hl l k).1.1, fun l k => handOf_mem (hl l k).1.2, fun l k => (hl l k).2.1⟩, fun k gs e => ?_, fun g => ?_, fun g => (sumI (ckOf tab gss.length g)).toNat, fun k gs e => ?_, fun l k => ?_⟩
  · have z := rowsB_ok h8 k gs e
    rw [Nat.zero_add] at z
    exact z
  · unfold ckOf
    cases e : tabGet tab g with
    | none => exact List.length_replicate
    | some c => exact tabGet_len h9 e
  · exact stepB_ok (allB_mem h10 gs (List.mem_of_getElem? e))
  · have := (hl l k).2.2
    show (sumI _).toNat < (sumI _).toNat
    omega
def mkT (gss : List (List Dg)) : Option Val :=
  let pl := plAll 0 gss
  let many := manyOf pl
  let S := fun l => (handOf pl ⟨true, l⟩).getD 0
  let G := fun l => (handOf pl ⟨false, l⟩).getD 0
  let tab := ckTab gss (pl.length + 1) []
  if validB gss many S G tab = true then some (talkV gss many S G (ckOf tab gss.length)) else none
def f_Talk : List Val → Option Val
  | [rows] => (rowsOf rows).bind mkT
  | _ => none
theorem mkT_ok : MkOk f_Talk := fun xs z h => by
  unfold f_Talk at h
  split at h
  case h_2 => cases h
  rename_i rows
  obtain ⟨gss, e1, e2⟩ := Option.bind_eq_some_iff.mp h
  unfold mkT at e2
  simp only at e2
  split at e2
  case isFalse => cases e2
  rename_i hv
  cases e2
  exact ⟨rows, gss, _, _, _, _, rfl, e1, validB_ok hv, rfl⟩
/-- what of the text the class Talk has, to be compared -/
structure TalkQ (K : PySem.W.Frag) (C fE : Addr) : Prop extends IsTalk K C where
  hs : PySem.W.findIn K (.ref C) "__eq__" = some (some (.ref fE))
  hf : PySem.W.isFn K (.ref fE) = true
  hne : PySem.W.findIn K (.ref C) "__ne__" = some (some (.builtin "object.__ne__"))
/-- as a law writes rows -/
def tLstV (gss : List (List Dg)) : Val := .lst (gss.map fun gs => .lst (gs.map dgV))
end Up

namespace Up
open PySem PySem.Spec PyProof.Rows L2
/-- names of the text, and its class Talk -/
structure TxtV (K : PySem.W.Frag) (mg : Str → Option Value) (cm : Cm) : Prop extends TxtZ mg where
  min : mg "min" = none
  set : mg "set" = none
  sorted : mg "sorted" = none
  sum : mg "sum" = none
  cl : Cls K (cm.cls 0)
  n_rows : NoAttr K (cm.cls 0) "rows"
  n_places : NoAttr K (cm.cls 0) "places"
  n_many : NoAttr K (cm.cls 0) "many"
  n_senders : NoAttr K (cm.cls 0) "senders"
  n_getters : NoAttr K (cm.cls 0) "getters"
  n_clocks : NoAttr K (cm.cls 0) "clocks"
abbrev st_is_whole : Stmt := (topS 6)
theorem ss_is_whole : FnScope ["value"] ["value"] (defScope st_is_whole) := ⟨rfl, rfl, rfl, by decide +kernel, rfl, by decide +kernel, by decide +kernel⟩
def g_is_whole : En → Option Out := (retG (andF (isiF "int" (getE 0)) (notF (isiF "bool" (getE 0)))))
def f_is_whole : List Val → Option Val := runV 1 1 g_is_whole
theorem df_is_whole {P : Program} {w : World} {K : PySem.W.Frag} {mg : Str → Option Value} {base : Heap} {cm : Cm} {f : Addr} {fd : FuncData} (D : Dd K mg "is_whole" st_is_whole ["value"] f fd) (T : TxtV K mg cm) : Df P w K mg base cm "is_whole" 1 ["value"] f_is_whole f fd :=
  okD [] D ss_is_whole (by decide) fun cdv A outer s H E hr hu => (sv_one (sv_ret (ve_and (ve_isi (T := "int") (by rfl) T.int bt_int (by rfl) T.isinstance bb_isinstance (vv 0)) (ve_one (ve_not (ve_isi (T := "bool") (by rfl) T.bool bt_bool (by rfl) T.isinstance bb_isinstance (vv 0)))))))
abbrev st_is_index : Stmt := (topS 7)
theorem ss_is_index : FnScope ["value", "many"] ["value", "many"] (defScope st_is_index) := ⟨rfl, rfl, rfl, by decide +kernel, rfl, by decide +kernel, by decide +kernel⟩
def g_is_index : En → Option Out := (retG (andF (appF f_is_whole (consF (getE 0) noF)) (chainF (fun i j => decide (i ≤ j)) (fun i j => decide (i < j)) (cst (.int 0)) (getE 0) (getE 1))))
def f_is_index : List Val → Option Val := runV 2 2 g_is_index
theorem df_is_index {P : Program} {w : World} {K : PySem.W.Frag} {mg : Str → Option Value} {base : Heap} {cm : Cm} {f : Addr} {fd : FuncData} (D : Dd K mg "is_index" st_is_index ["value", "many"] f fd) (T : TxtV K mg cm) {fa_is_whole : Addr} {fd_is_whole : FuncData} (d_is_whole : Df P w K mg base cm "is_whole" 1 ["value"] f_is_whole fa_is_whole fd_is_whole) : Df P w K mg base cm "is_index" 2 ["value", "many"] f_is_index f fd :=
  okD [] D ss_is_index (by decide) fun cdv A outer s H E hr hu => (sv_one (sv_ret (ve_and (ve_callD d_is_whole (hr.mono (by decide)) (by rfl) (va_cons (vv 0) va_nil)) (ve_one (ve_chain (p := (fun i j => decide (i ≤ j))) (r := (fun i j => decide (i < j))) op_le op_lt ve_int (vv 0) (vv 1))))))
abbrev st_is_couple : Stmt := (topS 9)
theorem ss_is_couple : FnScope ["value"] ["value"] (defScope st_is_couple) := ⟨rfl, rfl, rfl, by decide +kernel, rfl, by decide +kernel, by decide +kernel⟩
def g_is_couple : En → Option Out := (retG (andF (isiF "tuple" (getE 0)) (bin2 (eqF false) (appF lenF (consF (getE 0) noF)) (cst (.int 2)))))
def f_is_couple : List Val → Option Val := runV 1 1 g_is_couple
theorem df_is_couple {P : Program} {w : World} {K : PySem.W.Frag} {mg : Str → Option Value} {base : Heap} {cm : Cm} {f : Addr} {fd : FuncData} (D : Dd K mg "is_couple" st_is_couple ["value"] f fd) (T : TxtV K mg cm) : Df P w K mg base cm "is_couple" 1 ["value"] f_is_couple f fd :=
  okD [] D ss_is_couple (by decide) fun cdv A outer s H E hr hu => (sv_one (sv_ret (ve_and (ve_isi (T := "tuple") (by rfl) T.tuple bt_tuple (by rfl) T.isinstance bb_isinstance (vv 0)) (ve_one (ve_cmp (op_eqD hu) ov_eq (ve_callB call_len_seq cv_len (by rfl) T.len PySem.boot_len (va_cons (vv 0) va_nil)) ve_int (nomark _))))))
abbrev st_is_doing : Stmt := (topS 10)
theorem ss_is_doing : FnScope ["value", "many", "word", "letter"] ["value", "many"] (defScope st_is_doing) := ⟨rfl, rfl, rfl, by decide +kernel, rfl, by decide +kernel, by decide +kernel⟩
def g_is_doing : En → Option Out := (seqG (ifG (notT (tst (appF f_is_couple (consF (getE 0) noF)))) (retG (cst (.bl false))) nilG) (seqG (asgG (setTup 2 (setCo (setV 2) (setCo (setV 3) setNo))) (stF [] (getE 0))) (retG (andF (isiF "str" (getE 2)) (andF (bin2 (inF false) (getE 2) (tupF (consF (cst (.str "send")) (consF (cst (.str "get")) noF)))) (appF f_is_index (consF (getE 3) (consF (getE 1) noF))))))))
def f_is_doing : List Val → Option Val := runV 4 2 g_is_doing
theorem df_is_doing {P : Program} {w : World} {K : PySem.W.Frag} {mg : Str → Option Value} {base : Heap} {cm : Cm} {f : Addr} {fd : FuncData} (D : Dd K mg "is_doing" st_is_doing ["value", "many"] f fd) (T : TxtV K mg cm) {fa_is_index : Addr} {fd_is_index : FuncData} (d_is_index : Df P w K mg base cm "is_index" 2 ["value", "many"] f_is_index fa_is_index fd_is_index) {fa_is_couple : Addr} {fd_is_couple : FuncData} (d_is_couple : Df P w K mg base cm "is_couple" 1 ["value"] f_is_couple fa_is_couple fd_is_couple) : Df P w K mg base cm "is_doing" 3 ["value", "many"] f_is_doing f fd :=
  okD [] D ss_is_doing (by decide) fun cdv A outer s H E hr hu => (sv_cons (sv_if (vt_not (vt_val (ve_callD d_is_couple (hr.mono (by decide)) (by rfl) (va_cons (vv 0) va_nil)))) (sv_one (sv_ret ve_bl)) sv_nil) (sv_cons (sv_asg (vv 0) sr_st (pg_tup (n := 2) (by rfl) (pgs_cons (pg_name (i := 2) ss_is_doing.nd rfl (Or.inl rfl)) (pgs_cons (pg_name (i := 3) ss_is_doing.nd rfl (Or.inl rfl)) pgs_nil))) (tg_tup (tgs_cons tg_name (tgs_cons tg_name tgs_nil))) (by decide)) (sv_one (sv_ret (ve_and (ve_isi (T := "str") (by rfl) T.str bt_str (by rfl) T.isinstance bb_isinstance (vv 2)) (ve_and (ve_cmp op_in_seq (ov_in (neg := false)) (vv 2) (ve_tup (va_cons ve_str (va_cons ve_str va_nil))) (by rfl)) (ve_one (ve_callD d_is_index (hr.mono (by decide)) (by rfl) (va_cons (vv 3) (va_cons (vv 1) va_nil))))))))))
end Up

namespace Up
open PySem PySem.Spec PyProof.Rows L2
section
variable {X : Cx} {cm : Cm} {ow : List Nat} {a b : Expr} {f g : En → Option Val}
/-- x, y = e1, e2 of displays -/
def parG (ow : List Nat) (i j : Nat) (f g : En → Option Val) : En → Option Out := fun env => (f (wipeE env ow)).bind fun x => (g (wipeE env ow)).map fun y => .nx (setE env [(i, x), (j, y)])
theorem sv_par {i j : Nat} {x y : Str} {px py pt pos : Pos} {kt k2 pt2} (hc : X.calm = true) (hN : X.N.Nodup) (hi : X.N[i]? = some x) (hj : X.N[j]? = some y) (hij : i ≠ j) (hx : X.env.scope.names.lookup x = some .local) (hy : X.env.scope.names.lookup y = some .local)
    (oi : i ∉ ow) (oj : j ∉ ow) (ha : VE X cm a f) (hb : VE X cm b g) (hw : swappedStores [.Tuple [.Name x px, .Name y py] kt pt] (.Tuple [a, b] k2 pt2) X.env = pure (some [x, y]))
    (h1 : starEach [a, b] X.env = (false, eval a X.env) :: starEach [b] X.env := by rfl) (h2 : starEach [b] X.env = (false, eval b X.env) :: starEach [] X.env := by rfl) (hs : swapsWithSole [.Tuple [.Name x px, .Name y py] kt pt] (.Tuple [a, b] k2 pt2) pos.line X.env = pure false := by rfl) :
    SV X cm ow (.Assign [.Tuple [.Name x px, .Name y py] kt pt] (.Tuple [a, b] k2 pt2) pos) (parG ow i j f g) :=
  (ps_par hc hN hi hj hij hx hy (pa_cons ha (pa_cons hb pa_nil h2) h1) hw hs).weak fun D σ H ⟨P, H0, env, o, st, hk, q⟩ => by
    unfold parG at hk
    obtain ⟨x, ex, hk⟩ := Option.bind_eq_some_iff.mp hk
    obtain ⟨y, ey, rfl⟩ := Option.map_eq_some_iff.mp hk
    refine ⟨_, wipeE env ow, x, st.sl, ex, fun v H1 s1 r1 => ⟨_, wipeE env ow, y, st.sl.same s1, ey, fun w H2 s2 r2 => ⟨v, w, rfl, ?_⟩⟩⟩
    have s12 := s1.trans s2
    obtain ⟨h2, h3⟩ := StV.sets (qs := [(i, v), (j, w)]) (ps := [(i, x), (j, y)]) (.cons ⟨rfl, Rep.same s2 r1⟩ (.cons ⟨rfl, r2⟩ .nil)) (fun q hq => by
      rcases List.mem_cons.mp hq with rfl | hq
      · exact oi
      · rcases List.mem_cons.mp hq with rfl | hq
        · exact oj
        · cases hq) rfl (st.same s12)
    exact q _ H2 h2 ⟨.of s12, fun a c => .inl ((h3 a).mp c), fun a n => n.same s12⟩
end
theorem wipe_out {env : En} {k : Nat} : ∀ {l : List Nat}, k ∉ l → (wipeE env l)[k]? = env[k]?
  | [], _ => rfl
  | j :: l, h => by
    show ((wipeE env l).set j none)[k]? = env[k]?
    rw [List.getElem?_set_ne (fun z => h (by rw [z]; exact List.mem_cons_self ..)), wipe_out fun z => h (List.mem_cons_of_mem _ z)]
theorem wipe_in {env : En} {k : Nat} {x : Val} : ∀ {l : List Nat}, k ∈ l → (wipeE env l)[k]? ≠ some (some x)
  | j :: l, h => fun e => by
    replace e : ((wipeE env l).set j none)[k]? = some (some x) := e
    by_cases c : j = k
    · subst c
      rw [List.getElem?_set] at e
      split at e
      · split at e <;> cases e
      · rename_i c
        exact c rfl
    · rw [List.getElem?_set_ne c] at e
      rcases List.mem_cons.mp h with z | z
      · exact c z.symm
      · exact wipe_in z e
/-- x = y, y owned: from now on it is x's, and y is forgotten -/
def moveG (i j : Nat) : En → Option Out := fun env => match env[j]? with
  | some (some x) => some (.nx ((env.set j none).set i (some x)))
  | _ => none
section
variable {X : Cx} {cm : Cm} {ow : List Nat} {st : Stmt}
theorem sv_move {i j : Nat} (hst : PS X st (tAsg (tVar j) (gName i))) (hi : i ∉ ow) (hj : j ∈ ow) : SV X cm ow st (moveG i j) := hst.weak fun D σ H ⟨P, H0, env, o, hs, hk, q⟩ => by
  unfold moveG at hk
  split at hk
  case h_2 => cases hk
  rename_i x ex
  cases hk
  obtain ⟨a, h2, nP, nH, top⟩ := hs.own j hj x ex
  have ij : i ≠ j := fun z => hi (by rw [z]; exact hj)
  have lj := (List.getElem?_eq_some_iff.mp ex).1
  have at' : ∀ {k : Nat} {y : Val}, k ≠ i → ((env.set j none).set i (some x))[k]? = some (some y) → k ≠ j ∧ env[k]? = some (some y) := fun {k y} ki e => by
    rw [List.getElem?_set_ne (Ne.symm ki)] at e
    by_cases c : j = k
    · subst c
      rw [List.getElem?_set_self lj] at e
      cases e
    · rw [List.getElem?_set_ne c] at e
      exact ⟨Ne.symm c, e⟩
  have kow : ∀ {k : Nat}, k ∈ ow → k ≠ i := fun {k} h z => hi (by rw [← z]; exact h)
  have sub : ∀ b, Ow P ow ((env.set j none).set i (some x)) (σ.set i (some (.ref a))) b → Ow P ow env σ b ∧ b ≠ a := fun b c => by
    rcases c with c | ⟨k, hk, ⟨y, hy⟩, hs2⟩
    · exact ⟨.inl c, fun z => nP (by rw [← z]; exact c)⟩
    · obtain ⟨kj, e⟩ := at' (kow hk) hy
      rw [List.getElem?_set_ne (Ne.symm (kow hk))] at hs2
      refine ⟨.inr ⟨k, hk, ⟨y, e⟩, hs2⟩, fun z => ?_⟩
      subst z
      exact kj (hs.dis k hk j hj b ⟨y, e⟩ ⟨x, ex⟩ hs2 h2)
  have sub1 : ∀ b, Ow P ow ((env.set j none).set i (some x)) (σ.set i (some (.ref a))) b → Ow P ow env σ b := fun b c => (sub b c).1
  refine ⟨.ref a, h2, q (σ.set i (some (.ref a))) H ⟨⟨?_, fun k y e => ?_, fun b c => hs.sl.hid b (sub1 b c)⟩, fun k hk y e => ?_, fun k hk l hl b ⟨y, ey⟩ ⟨z, ez⟩ e1 e2 => ?_, ?_, hs.base⟩ ⟨.refl, fun b c => .inl (sub1 b c), fun b n => n⟩⟩
  · have wl : ∀ (env : En) (l : List Nat), (wipeE env l).length = env.length := fun env l => by
      induction l with
      | nil => rfl
      | cons v l ih =>
        show ((wipeE env l).set v none).length = _
        rw [List.length_set, ih]
    rw [wl, List.length_set, List.length_set, List.length_set]
    exact hs.len
  · by_cases kw : k ∈ ow
    · exact absurd e (wipe_in kw)
    rw [wipe_out kw] at e
    by_cases ki : k = i
    · subst ki
      have lk := (List.getElem?_eq_some_iff.mp e).1
      rw [List.getElem?_set_self (by rw [List.length_set] at lk; exact lk)] at e
      cases e
      rw [List.length_set, List.length_set] at lk
      exact ⟨.ref a, List.getElem?_set_self (by rw [hs.len]; exact lk), Top.re sub1 (fun c => (sub a c).2 rfl) top⟩
    · obtain ⟨kj, e⟩ := at' ki e
      obtain ⟨v, hv, r⟩ := hs.sl.at_ k y (by rw [wipe_out kw]; exact e)
      exact ⟨v, by rw [List.getElem?_set_ne (Ne.symm ki)]; exact hv, r.less sub1⟩
  · obtain ⟨kj, e⟩ := at' (kow hk) e
    obtain ⟨b, e1, e2, e3, e4⟩ := hs.own k hk y e
    exact ⟨b, by rw [List.getElem?_set_ne (Ne.symm (kow hk))]; exact e1, e2, e3, e4.less sub1⟩
  · obtain ⟨kj, ey⟩ := at' (kow hk) ey
    obtain ⟨lj, ez⟩ := at' (kow hl) ez
    rw [List.getElem?_set_ne (Ne.symm (kow hk))] at e1
    rw [List.getElem?_set_ne (Ne.symm (kow hl))] at e2
    exact hs.dis k hk l hl b ⟨y, ey⟩ ⟨z, ez⟩ e1 e2
  · rw [List.length_set, List.length_set, List.length_set]
    exact hs.len
end
end Up

namespace Up
open PySem PySem.Spec PyProof.Rows L2
/-! ### sorted(a tuple of ints) -/
section
variable {pg : Program} {wd : World} {AA : Around} {EE : Value → Shared → Prop} {st : Shared}
theorem collect_tuple {t : Addr} {us : List Value} {R : List Value → Shared → Prop} (ht : IsTup st.heap t us.toArray) (hz : us.length ≤ sizeLine)
    (q : R us { st with heap := (st.heap.push (seqObj "list" #[] 0)).update st.heap.objs.size (Obj.mapSeq (· ++ us.toArray)) }) : wpAny (model pg wd) AA (collect (.ref t)) R EE st := by
  obtain ⟨ob, e1, e2, k, e3⟩ := ht
  unfold collect
  refine wpAny_bind (wpAny_runValue (codeAny_builtin PyProof.Rows.entry_proto_collect' ?_))
  show wpAny _ _ (do again (.builtin "list.__iadd__" ⟨[← newList [], .ref t], []⟩)) _ EE st
  refine wpAny_bind (wpAny_newList (wpAny_pure ⟨Code.quiet_builtin _ (by decide +kernel), codeAny_builtin PyProof.Rows.entry_list_iadd' ?_⟩))
  show wpAny _ _ (Builtin.List.listExtendWith (.ref st.heap.objs.size) (.ref t) (.ref st.heap.objs.size)) _ EE { st with heap := st.heap.push (seqObj "list" #[] 0) }
  unfold Builtin.List.listExtendWith
  have e4 : (st.heap.push (seqObj "list" #[] 0)).get? t = some ob := Heap.get?_push_of_some _ e1
  refine wpAny_bind (wpAny_typeOf (T := "tuple") ⟨ob, e4, e2⟩ ?_)
  have tt : (Value.type "tuple" == Value.type "tuple") = true := by rfl
  rw [if_pos (by rw [tt, Bool.or_true])]
  refine wpAny_bind (PyProof.Rows.listItems_at e4 e3 ?_)
  refine wpAny_bind (PyProof.Rows.listItems_at (xs := #[]) (n := 0) (Heap.get?_push_size _ rfl) rfl ?_)
  rw [if_neg (show ¬((!(#[] : Array Value).isEmpty && _) = true) by simp)]
  refine wpAny_bind (PyProof.Rows.listUpdate_at (xs := #[]) (n := 0) (Heap.get?_push_size _ rfl) rfl ?_ (Nat.zero_le _) (show (#[] ++ us.toArray).size ≤ sizeLine + 1 by simp only [Array.size_append, List.size_toArray, List.length_nil]; omega))
  refine wpAny_pure ?_
  show wpAny (model pg wd) AA (do
      let ob ← load st.heap.objs.size
      match ob.data with
      | .seq xs _ => pure xs.toList
      | _ => unsupported "internal:collect") R EE { st with heap := (st.heap.push (seqObj "list" #[] 0)).update st.heap.objs.size (Obj.mapSeq (· ++ us.toArray)) }
  refine wpAny_bind (wpAny_load (PyProof.Rows.get?_update_seq (Heap.get?_push_size _ rfl) _) ?_)
  show wpAny _ AA (pure ((#[] : Array Value) ++ us.toArray).toList) R EE _
  have eu : ((#[] : Array Value) ++ us.toArray).toList = us := by simp
  rw [eu]
  exact wpAny_pure q
theorem sorted_tuple {t : Addr} {us : List Value} {ns : List Int} {R : Value → Shared → Prop} (ht : IsTup st.heap t us.toArray) (hI : IntsAre us ns) (h64 : us.length < 64)
    (q : ∀ (out : Array Value) (ns' : List Int), IntsAre out.toList ns' → ns'.Perm ns → ns'.Pairwise (· ≤ ·) → R (.ref (st.heap.objs.size + 1)) { st with heap := sortedAll st.heap us out }) :
    wpAny (model pg wd) AA (call (.builtin "sorted") [.ref t]) R EE st := by
  have hz : us.length ≤ sizeLine := small64 h64
  refine Calls.call_function_entry PyProof.Rows.kind_sorted PyProof.Rows.plain_sorted PyProof.Rows.entry_sorted (PyProof.Rows.args_sorted1 _) ?_
  unfold Builtin.«sorted»
  refine wpAny_bind (m := checkCount "sorted" 1 1 _) (wpAny_pure (show _ from ?_))
  refine wpAny_bind (collect_tuple ht hz ?_)
  refine wpAny_bind (wpAny_newList ?_ hz)
  have z1 : ((st.heap.push (seqObj "list" #[] 0)).update st.heap.objs.size (Obj.mapSeq (· ++ us.toArray))).objs.size = st.heap.objs.size + 1 := by
    rw [Heap.size_update, PyProof.Rows.size_push']
  have z2 : (((st.heap.push (seqObj "list" #[] 0)).update st.heap.objs.size (Obj.mapSeq (· ++ us.toArray))).push (seqObj "list" us.toArray 0)).get? (st.heap.objs.size + 1) = some (seqObj "list" us.toArray 0) := by
    rw [← z1]
    exact Heap.get?_push_size _ rfl
  show wpAny _ _ _ _ EE { st with heap := ((st.heap.push (seqObj "list" #[] 0)).update st.heap.objs.size (Obj.mapSeq (· ++ us.toArray))).push (seqObj "list" us.toArray 0) }
  rw [z1]
  refine wpAny_bind (wpAny_holding (wpAny_call_entry PyProof.Rows.slot_list_sort ⟨_, z2, rfl⟩ PyProof.Rows.entry_list_sort (PyProof.Rows.list_sort_tree z2 hI h64 fun out ns' a1 a2 a3 => ⟨_, rfl, ?_⟩) (PyProof.Rows.args_list_sort _)))
  exact wpAny_pure ⟨_, rfl, q out ns' a1 a2 a3⟩
end
def rSortT (K : PySem.W.Frag) : List V → Hp → VK → Prop := fun vs H Q => ∃ (a : Addr) (ns : List Int), vs = [V.ref a] ∧ SqT K H a (ns.map V.int) ∧ ns.length < 64 ∧ ∀ (ns' : List Int) (p : Addr), ns'.Perm ns → ns'.Pairwise (· ≤ ·) → H p = none → Q (.ref p) (upd H p (.lst (ns'.map V.int)))
theorem cr_sortT {X : Cx} : CallR X (.builtin "sorted") (rSortT X.K) := by
  intro pins st σ H vs us Q I r h
  obtain ⟨a, ns, rfl, hs, l64, q⟩ := h
  obtain ⟨its, rv, hl, _⟩ := I.tuple hs
  rw [Vals.ref1 r]
  have hi := rv.ints
  refine sorted_tuple hl hi (by rw [hi.length]; exact l64) fun out ns' k1 k2 k3 => ?_
  obtain ⟨ep, he⟩ := PyProof.Rows.sortedAll_at st.heap its out
  have hz : (ns'.map V.int).length ≤ sizeLine := by rw [List.length_map, k2.length_eq]; exact Nat.le_of_lt (Nat.lt_of_lt_of_le l64 (by decide))
  exact ⟨.ref _, upd H (st.heap.objs.size + 1) (.lst (ns'.map V.int)), I.laid (t' := st.toks) (fun _ _ => PyProof.Rows.sortedAll_old) (Nat.le_succ _) ⟨hz, out.toList, ep, vals_of_ints k1, he⟩, rfl, q ns' _ k2 k3 (I.hok.fresh (Nat.le_succ _))⟩
end Up

namespace Up
open PySem PySem.Spec PyProof.Rows L2
/-! ### sorted, int, sums of lists, list(range(n)) -/
def insI (x : Int) : List Int → List Int
  | [] => [x]
  | y :: ys => if x ≤ y then x :: y :: ys else y :: insI x ys
def isortI : List Int → List Int
  | [] => []
  | x :: xs => insI x (isortI xs)
theorem insI_perm (x : Int) : ∀ ys : List Int, (insI x ys).Perm (x :: ys)
  | [] => .refl _
  | y :: ys => by
    unfold insI
    split
    · exact .refl _
    · exact ((insI_perm x ys).cons y).trans (.swap x y ys)
theorem isortI_perm : ∀ xs : List Int, (isortI xs).Perm xs
  | [] => .refl _
  | x :: xs => (insI_perm x _).trans ((isortI_perm xs).cons x)
theorem insI_sorted (x : Int) : ∀ ys : List Int, ys.Pairwise (· ≤ ·) → (insI x ys).Pairwise (· ≤ ·)
  | [], _ => List.pairwise_singleton _ _
  | y :: ys, h => by
    unfold insI
    obtain ⟨h1, h2⟩ := List.pairwise_cons.mp h
    split
    · rename_i c
      exact List.pairwise_cons.mpr ⟨fun z hz => by
        rcases List.mem_cons.mp hz with d | d
        · rw [d]; exact c
        · exact Int.le_trans c (h1 z d), h⟩
    · rename_i c
      refine List.pairwise_cons.mpr ⟨fun z hz => ?_, insI_sorted x ys h2⟩
      rcases List.mem_cons.mp ((insI_perm x ys).mem_iff.mp hz) with d | d
      · rw [d]; omega
      · exact h1 z d
theorem isortI_sorted : ∀ xs : List Int, (isortI xs).Pairwise (· ≤ ·)
  | [] => .nil
  | x :: xs => insI_sorted x _ (isortI_sorted xs)
theorem perm_sorted : ∀ {a b : List Int}, a.Perm b → a.Pairwise (· ≤ ·) → b.Pairwise (· ≤ ·) → a = b
  | [], b, p, _, _ => (List.Perm.nil_eq p)
  | x :: a, [], p, _, _ => absurd p.length_eq (by simp)
  | x :: a, y :: b, p, ha, hb => by
    obtain ⟨a1, a2⟩ := List.pairwise_cons.mp ha
    obtain ⟨b1, b2⟩ := List.pairwise_cons.mp hb
    have e : x = y := by
      have k1 : x ≤ y := by
        rcases List.mem_cons.mp (p.mem_iff.mpr (List.mem_cons_self ..) : y ∈ x :: a) with c | c
        · omega
        · exact a1 y c
      have k2 : y ≤ x := by
        rcases List.mem_cons.mp (p.mem_iff.mp (List.mem_cons_self ..) : x ∈ y :: b) with c | c
        · omega
        · exact b1 x c
      omega
    subst e
    rw [perm_sorted (List.perm_cons _ |>.mp p) a2 b2]
section
variable {X : Cx} {cm : Cm} {a b c e : Expr} {es : List Expr} {f g h : En → Option Val} {pos : Pos}
def sortF : List Val → Option Val
  | [.tup xs] => (intsOf xs).bind fun ns => if ns.length < 64 then some (.lst ((isortI ns).map .int)) else none
  | _ => none
theorem ints_re2 {P : Addr → Prop} {H : Hp} : ∀ ns : List Int, Res cm P H (ns.map V.int) (ns.map .int)
  | [] => .nil
  | n :: ns => .cons (.int n) (ints_re2 ns)
theorem cv_sort : CaV cm (rSortT X.K) sortF := fun P xs z vs H Q hd e r q => by
  unfold sortF at e
  split at e
  case h_2 => cases e
  rename_i xs
  obtain ⟨ns, en, e⟩ := Option.bind_eq_some_iff.mp e
  split at e
  case isFalse => cases e
  rename_i l
  cases e
  obtain ⟨v, rfl, r1⟩ := Res.one r
  obtain ⟨p, ws, rfl, n1, hh, rs⟩ := Re.tup_ r1
  refine ⟨p, ns, rfl, .inl (.inl (by rw [hh, intsOf_re rs en])), l, fun ns' t pm srt nt => ?_⟩
  have k : ns' = isortI ns := perm_sorted (pm.trans (isortI_perm ns).symm) srt (isortI_sorted ns)
  subst k
  have s2 : Same H (upd H t (.lst ((isortI ns).map V.int))) := fun b o eb => by rw [upd_ne (ne_of_none eb nt)]; exact eb
  exact q _ _ s2 (.lst (hd.new nt) upd_same (ints_re2 _))
def intF : List Val → Option Val
  | [.int i] => some (.int i)
  | [.bl k] => some (.int (if k then 1 else 0))
  | _ => none
theorem cv_int : CaV cm (fun xs H Q => (∃ i, xs = [.int i] ∧ Q (.int i) H) ∨ ∃ k, xs = [.bl k] ∧ Q (.int (if k then 1 else 0)) H) intF := fun P xs z vs H Q hd e r q => by
  unfold intF at e
  split at e
  · cases e
    obtain ⟨v, rfl, r1⟩ := Res.one r
    cases Re.int_ r1
    exact .inl ⟨_, rfl, q _ H (Same.refl H) (.int _)⟩
  · cases e
    obtain ⟨v, rfl, r1⟩ := Res.one r
    cases Re.bl_ r1
    exact .inr ⟨_, rfl, q _ H (Same.refl H) (.int _)⟩
  · cases e
def catL : Val → Val → Option Val
  | .lst xs, .lst ys => if xs.length + ys.length ≤ most then some (.lst (xs ++ ys)) else none
  | _, _ => none
theorem ve_catL (ha : VE X cm a f) (hb : VE X cm b g) : VE X cm (.BinOp a .Add b pos) (bin2 catL f g) := (pe_op op_cat ha hb).weak fun σ H Q q => by
  obtain ⟨P, env, z, hs, hf, q⟩ := q
  unfold bin2 at hf
  obtain ⟨x, ex, h1⟩ := Option.bind_eq_some_iff.mp hf
  obtain ⟨y, ey, h2⟩ := Option.bind_eq_some_iff.mp h1
  refine ⟨P, env, x, hs, ex, fun v H1 s1 r1 => ⟨P, env, y, hs.same s1, ey, fun u H2 s2 r2 => ?_⟩⟩
  unfold catL at h2
  split at h2
  case h_2 => cases h2
  split at h2
  case isFalse => cases h2
  rename_i l
  cases h2
  obtain ⟨p1, vs, rfl, n1, k1, t1⟩ := Re.lst_ (Rep.same s2 r1)
  obtain ⟨p2, us, rfl, n2, k2, t2⟩ := Re.lst_ r2
  have l1 := Res.length t1
  have l2 := Res.length t2
  refine ⟨p1, p2, vs, us, rfl, rfl, k1, k2, by rw [l1, l2]; exact Nat.le_of_lt (most_line l), fun p np => ?_⟩
  have s3 : Same H2 (upd H2 p (.lst (vs ++ us))) := fun b o eb => by rw [upd_ne (ne_of_none eb np)]; exact eb
  exact q _ _ (s1.trans (s2.trans s3)) (.lst (((hs.hid.same s1).same s2).new np) upd_same (Rep.same s3 (Res.append t1 t2 : Res cm P H2 _ _)))
def lrgF (f : En → Option Val) : En → Option Val := fun env => (f env).bind fun x => match x with
  | .int j => if 0 ≤ j ∧ j ≤ 1000 then some (.lst (rangeV 0 j.toNat)) else none
  | _ => none
theorem rg_re {P : Addr → Prop} {H : Hp} : ∀ (n : Nat) (lo : Int), Res cm P H ((List.range n).map fun i : Nat => V.int (lo + (i : Int))) (rangeV lo n)
  | 0, _ => .nil
  | n + 1, lo => by
    rw [List.range_succ_eq_map, List.map_cons, List.map_map]
    show Res cm P H _ (.int lo :: rangeV (lo + 1) n)
    have e : (List.range n).map ((fun i : Nat => V.int (lo + (i : Int))) ∘ Nat.succ) = (List.range n).map fun i : Nat => V.int (lo + 1 + (i : Int)) := by
      refine List.map_congr_left fun i _ => ?_
      show V.int (lo + ((i + 1 : Nat) : Int)) = V.int (lo + 1 + (i : Int))
      congr 1
      omega
    rw [e, show lo + ((0 : Nat) : Int) = lo by omega]
    exact .cons (.int lo) (rg_re n (lo + 1))
theorem ve_listRg {p p2 q2 : Pos} (hc : X.calm = true) (hg : Gl X "list") (hm : X.mg "list" = none) (hg2 : Gl X "range") (hm2 : X.mg "range" = none) (ha : VE X cm a f)
    (na : starEach [a] X.env = (false, eval a X.env) :: starEach [] X.env := by rfl) (nb : starEach [.Call (.Name "range" p2) [a] [] q2] X.env = (false, eval (.Call (.Name "range" p2) [a] [] q2) X.env) :: starEach [] X.env := by rfl) :
    VE X cm (.Call (.Name "list" p) [.Call (.Name "range" p2) [a] [] q2] [] pos) (lrgF f) := (pe_listRg hc hg hm (prg_1 hg2 hm2 ha na) nb).weak fun σ H Q ⟨P, env, z, hs, hf, q⟩ => by
  unfold lrgF at hf
  obtain ⟨x, ex, h1⟩ := Option.bind_eq_some_iff.mp hf
  split at h1
  case h_2 => cases h1
  rename_i j
  split at h1
  case isFalse => cases h1
  rename_i hj
  cases h1
  refine ⟨P, env, _, hs, ex, fun v H1 s1 r1 => ?_⟩
  cases Re.int_ r1
  refine ⟨j, rfl, RgOk.of_le (by omega) (by omega) (by omega) (by omega), fun t nt => ?_⟩
  have s2 : Same H1 (upd H1 t (.lst (rgV 0 j))) := fun b o eb => by rw [upd_ne (ne_of_none eb nt)]; exact eb
  have er : rgV 0 j = (List.range j.toNat).map fun i : Nat => V.int (0 + (i : Int)) := by
    unfold rgV
    rw [show (j - 0).toNat = j.toNat by rw [Int.sub_zero]]
  refine q _ _ (s1.trans s2) (.lst ((hs.hid.same s1).new nt) upd_same ?_)
  rw [er]
  exact rg_re _ 0
end
end Up

namespace Up
open PySem PySem.Spec PyProof.Rows L2
/-! ### a dict of one's own, with tuples as keys: {} and d[k] = e -/
def putX (ks : List (List Key)) (xs : List Val) (k : List Key) (x : Val) : List (List Key) × List Val :=
  if (ks.any fun k' => decide (k' = k)) = true then (ks, List.zipWith (fun k' y => if k' = k then x else y) ks xs) else (ks ++ [k], xs ++ [x])
theorem putK_none_of {kvs : List (List Key × V)} {k : List Key} (h : ¬ (kvs.any fun kv => decide (kv.1 = k)) = true) : valV kvs k = none := by
  unfold valV
  rw [List.find?_eq_none.mpr]
  · rfl
  · intro x hx z
    exact h (List.any_eq_true.mpr ⟨x, hx, z⟩)
section
variable {X : Cx} {cm : Cm} {ow : List Nat} {a b c e : Expr} {es : List Expr} {f g h : En → Option Val} {pos : Pos} {st : Stmt}
theorem Res.zip {P : Addr → Prop} {H : Hp} {v : V} {x : Val} {k : List Key} (r : Re cm P H v x) : ∀ {ks : List (List Key)} {vs : List V} {xs : List Val}, Res cm P H vs xs → Res cm P H (List.zipWith (fun k' y => if k' = k then v else y) ks vs) (List.zipWith (fun k' y => if k' = k then x else y) ks xs)
  | [], _, _, _ => by
    simp only [List.zipWith_nil_left]
    exact .nil
  | k' :: ks, _, _, .nil => by
    simp only [List.zipWith_nil_right]
    exact .nil
  | k' :: ks, _, _, .cons (v := u) (x := y) q t => by
    simp only [List.zipWith_cons_cons]
    refine .cons ?_ (Res.zip r t)
    by_cases c : k' = k
    · rw [if_pos c, if_pos c]
      exact r
    · rw [if_neg c, if_neg c]
      exact q
theorem Top.put {P : Addr → Prop} {H' : Hp} {a : Addr} {kvs : List (List Key × V)} {ks : List (List Key)} {vs : List V} {xs : List Val} {k : List Key} {v : V} {x : Val} (e : H' a = some (.dT (putK kvs k v))) (l1 : kvs.length = ks.length) (l2 : vs.length = ks.length)
    (g1 : ∀ (i : Nat) (k : List Key) (v : V), ks[i]? = some k → vs[i]? = some v → valV kvs k = some v) (g2 : ∀ k, k ∉ ks → valV kvs k = none) (r : Res cm P H' vs xs) (rv : Re cm P H' v x) : Top cm P H' a (.dct (putX ks xs k x).1 (putX ks xs k x).2) := by
  unfold putX
  have am : (ks.any fun k' => decide (k' = k)) = true ↔ k ∈ ks := by
    rw [List.any_eq_true]
    exact ⟨fun ⟨z, hz, d⟩ => by rw [← of_decide_eq_true d]; exact hz, fun hz => ⟨k, hz, decide_eq_true rfl⟩⟩
  by_cases c : k ∈ ks
  · rw [if_pos (am.mpr c)]
    have pl : (putK kvs k v).length = kvs.length := by
      unfold putK
      split
      · rw [List.length_map]
      · rename_i hn
        obtain ⟨i, hi⟩ := List.getElem?_of_mem c
        have lt := (List.getElem?_eq_some_iff.mp hi).1
        have ev := g1 i k _ hi (List.getElem?_eq_getElem (by omega))
        rw [putK_none_of hn] at ev
        cases ev
    refine .dct (vs := List.zipWith (fun k' y => if k' = k then v else y) ks vs) e (by rw [pl]; exact l1) (by rw [List.length_zipWith, l2]; exact Nat.min_self _) (fun i k' u e1 e2 => ?_) (fun k' hk => ?_) (Res.zip rv r)
    · rw [valV_put]
      rw [List.getElem?_zipWith] at e2
      rw [e1] at e2
      cases ev : vs[i]? with
      | none => rw [ev] at e2; cases e2
      | some w =>
        rw [ev] at e2
        cases e2
        by_cases d : k' = k
        · rw [if_pos d, if_pos d]
        · rw [if_neg d, if_neg d]
          exact g1 i k' w e1 ev
    · rw [valV_put, if_neg (fun z => hk (by rw [z]; exact c))]
      exact g2 k' hk
  · rw [if_neg fun z => c (am.mp z)]
    have en := putK_new v (g2 k c)
    refine .dct (vs := vs ++ [v]) e (by rw [en, List.length_append, List.length_append, l1]; rfl) (by rw [List.length_append, List.length_append, l2]; rfl) (fun i k' u e1 e2 => ?_) (fun k' hk => ?_) (Res.snoc r rv)
    · rw [valV_put]
      by_cases lt : i < ks.length
      · rw [List.getElem?_append_left lt] at e1
        rw [List.getElem?_append_left (by omega)] at e2
        rw [if_neg (fun z => c (by rw [← z]; exact List.mem_of_getElem? e1))]
        exact g1 i k' u e1 e2
      · have lt2 := (List.getElem?_eq_some_iff.mp e1).1
        rw [List.length_append] at lt2
        have ei : i = ks.length := by
          simp only [List.length_cons, List.length_nil] at lt2
          omega
        subst ei
        rw [List.getElem?_append_right (Nat.le_refl _), Nat.sub_self] at e1
        rw [← l2, List.getElem?_append_right (Nat.le_refl _), Nat.sub_self] at e2
        cases e1
        cases e2
        rw [if_pos rfl]
    · rw [valV_put, if_neg (fun z => hk (by rw [z]; exact List.mem_append_right _ (List.mem_cons_self ..)))]
      exact g2 k' fun z => hk (List.mem_append_left _ z)
def dputG (i : Nat) (f : En → Option Val) (r : En → Option Val) : En → Option Out := fun env => match env[i]? with
  | some (some (.dct ks xs)) => (r env).bind fun y => (f env).bind fun kv => (tkey kv).bind fun k => if ks.length < most then some (.nx (env.set i (some (.dct (putX ks xs k y).1 (putX ks xs k y).2)))) else none
  | _ => none
theorem sv_dput0 {r : En → Option Val} {t : TE} {i : Nat} (hst : PS X st (sDPut (tVar i) (tV cm f) t)) (ho : i ∈ ow) (sr : SrV cm ow r t) : SV X cm ow st (dputG i f r) := hst.weak fun D σ H ⟨P, H0, env, o, hs, hg, q⟩ => by
  unfold dputG at hg
  split at hg
  case h_2 => cases hg
  rename_i ks xs ex
  obtain ⟨y, ey, hg⟩ := Option.bind_eq_some_iff.mp hg
  obtain ⟨kv, ek, hg⟩ := Option.bind_eq_some_iff.mp hg
  obtain ⟨k, et, hg⟩ := Option.bind_eq_some_iff.mp hg
  split at hg
  case isFalse => cases hg
  rename_i lk
  cases hg
  obtain ⟨a, hσ, nP, h0, tp⟩ := hs.own i ho _ ex
  cases tp with
  | @dct kvs _ vs _ ha l1 l2 g1 g2 ra =>
    refine sr P H0 H env σ y _ hs ey fun v H1 s1 r1 => ⟨_, hσ, ⟨P, env, kv, (hs.same s1).view, ek, fun u H2 s2 r2 => ?_⟩⟩
    obtain ⟨b, rfl, hb⟩ := tkey_re r2 et
    have s12 := s1.trans s2
    refine ⟨a, _, rfl, DPut.t (s12 _ _ ha) hb (by rw [l1]; exact Nat.lt_of_lt_of_le lk (Nat.le_of_lt (by decide))), ?_⟩
    have hs2 := hs.same s12
    have oa : Ow P ow env σ a := .inr ⟨i, ho, ⟨_, ex⟩, hσ⟩
    have kp : Keep (Ow P ow env σ) H2 (upd H2 a (.dT (putK kvs k v))) := fun b o e n => by
      rw [upd_ne fun z => n (by rw [z]; exact oa)]
      exact e
    obtain ⟨h1, h2⟩ := hs2.putO ho ex hσ (Top.put upd_same l1 l2 g1 g2 (Rep.keep kp (Rep.same s12 ra)) (Rep.keep kp (Rep.same s2 r1)))
    exact q _ _ h1 (Fr.trans (.same s12) h2)
def newDG (i : Nat) : En → Option Out := fun env => if i < env.length then some (.nx (env.set i (some (.dct [] [])))) else none
theorem sv_newD {i : Nat} {x : Str} {pos' : Pos} (hN : X.N.Nodup) (hi : X.N[i]? = some x) (hx : Loc X.env.scope x) (ho : i ∈ ow) {spos : Pos} (hs2 : swapsWith (.Dict [] [] pos) (some (.Name x pos')) spos.line X.env = pure false := by rfl) (hf : X.fn x = true ∨ X.env.scope.names.lookup x = some .local := by first | exact .inl rfl | exact .inr rfl | assumption) :
    SV X cm ow (.Assign [.Name x pos'] (.Dict [] [] pos) spos) (newDG i) := by
  refine (ps_set hN hi hx (pe_dnewT (X := X) (pos := pos)) hs2 hf).weak fun D σ H ⟨P, H0, env, o, hs, hg, q⟩ => ?_
  unfold newDG at hg
  split at hg
  case isFalse => cases hg
  rename_i lt
  cases hg
  intro p np
  have s1 : Same H (upd H p (.dT [])) := fun b o eb => by rw [upd_ne (ne_of_none eb np)]; exact eb
  obtain ⟨h1, h2⟩ := hs.newO ho lt np s1 (x := .dct [] []) (.dct (kvs := []) (ks := []) (vs := []) upd_same rfl rfl (fun i k v e => by simp at e) (fun k _ => rfl) .nil)
  exact q _ _ h1 h2
/-! x = l.pop(), l a list of one's own; also with a tuple of names -/
def popG (j : Nat) (m : Val → Option (List (Nat × Val))) : En → Option Out := fun env => match env[j]? with
  | some (some (.lst xs)) => (xs[xs.length - 1]?).bind fun y => (m y).map fun ps => .nx (setE (env.set j (some (.lst xs.dropLast))) ps)
  | _ => none
theorem Res.dropLast {P : Addr → Prop} {H : Hp} {vs : List V} {xs : List Val} (h : Res cm P H vs xs) : Res cm P H vs.dropLast xs.dropLast := by
  refine Res.of (by rw [List.length_dropLast, List.length_dropLast, Res.length h]) fun i v x e1 e2 => ?_
  rw [List.getElem?_dropLast] at e1 e2
  split at e1
  case isFalse => cases e1
  split at e2
  case isFalse => cases e2
  obtain ⟨x', e3, r⟩ := Res.getV h e1
  rw [e2] at e3
  cases e3
  exact r
theorem sv_pop0 {j : Nat} {gt : TG} {m : Val → Option (List (Nat × Val))} {is : List Nat} (hst : PS X st (tAsg (tBM0 X.K "list" rPop (tVar j)) gt)) (ho : j ∈ ow) (tg_ : TgV cm gt m is) (hn : ∀ i ∈ is, i ∉ ow) : SV X cm ow st (popG j m) := hst.weak fun D σ H ⟨P, H0, env, o, hs, hg, q⟩ => by
  unfold popG at hg
  split at hg
  case h_2 => cases hg
  rename_i xs ex
  obtain ⟨y, ey, hg⟩ := Option.bind_eq_some_iff.mp hg
  obtain ⟨ps, em, rfl⟩ := Option.map_eq_some_iff.mp hg
  obtain ⟨a, hσ, nP, h0, tp⟩ := hs.own j ho _ ex
  cases tp with
  | @lst vs0 _ ha ra =>
    obtain ⟨v, ev, rv⟩ := Res.get ra ey
    have oa : Ow P ow env σ a := .inr ⟨j, ho, ⟨_, ex⟩, hσ⟩
    have kp : Keep (Ow P ow env σ) H (upd H a (.lst vs0.dropLast)) := fun b o e n => by
      rw [upd_ne fun z => n (by rw [z]; exact oa)]
      exact e
    refine ⟨_, hσ, .inl ⟨rfl, _, .inl (.inl ha)⟩, a, vs0, v, rfl, rfl, ha, by rw [Res.length ra]; exact ev, ?_⟩
    obtain ⟨h1, h2⟩ := hs.putO ho ex hσ (.lst upd_same (Rep.keep kp (Res.dropLast ra)))
    obtain ⟨qs, pr, mem, go⟩ := tg_.go _ _ v y ps (Rep.move h2.nw h2.kp rv) em
    obtain ⟨h3, h4⟩ := StV.sets pr (fun q hq => hn _ (mem q hq)) rfl h1
    exact go σ _ (q _ _ h3 (h2.trans ⟨.refl, fun b c => .inl ((h4 b).mp c), fun b n => n⟩))
/-! x = l.pop(0) -/
def popHG (j : Nat) (m : Val → Option (List (Nat × Val))) : En → Option Out := fun env => match env[j]? with
  | some (some (.lst (y :: xs))) => (m y).map fun ps => .nx (setE (env.set j (some (.lst xs))) ps)
  | _ => none
theorem sv_popH0 {j : Nat} {gt : TG} {t : TE} {m : Val → Option (List (Nat × Val))} {is : List Nat} (hst : PS X st (tAsg (tBM X.K "list" rPopAt (tVar j) (tCons t tNil)) gt)) (h0' : ∀ σ H Q, Q (.int 0) H → t σ H Q) (ho : j ∈ ow) (tg_ : TgV cm gt m is) (hn : ∀ i ∈ is, i ∉ ow) : SV X cm ow st (popHG j m) := hst.weak fun D σ H ⟨P, H0, env, o, hs, hg, q⟩ => by
  unfold popHG at hg
  split at hg
  case h_2 => cases hg
  rename_i y xs ex
  obtain ⟨ps, em, rfl⟩ := Option.map_eq_some_iff.mp hg
  obtain ⟨a, hσ, nP, h0, tp⟩ := hs.own j ho _ ex
  cases tp with
  | @lst vs0 _ ha ra =>
    cases ra with
    | @cons v vt _ _ rv rt =>
      have oa : Ow P ow env σ a := .inr ⟨j, ho, ⟨_, ex⟩, hσ⟩
      have kp : Keep (Ow P ow env σ) H (upd H a (.lst vt)) := fun b o e n => by
        rw [upd_ne fun z => n (by rw [z]; exact oa)]
        exact e
      refine ⟨_, hσ, .inl ⟨rfl, _, .inl (.inl ha)⟩, h0' _ _ _ ⟨a, v :: vt, 0, 0, v, rfl, rfl, ha, by decide, by decide, (by unfold seqIndex?; simp), rfl, ?_⟩⟩
      obtain ⟨h1, h2⟩ := hs.putO ho ex hσ (.lst upd_same (Rep.keep kp rt))
      obtain ⟨qs, pr, mem, go⟩ := tg_.go _ _ v y ps (Rep.move h2.nw h2.kp rv) em
      obtain ⟨h3, h4⟩ := StV.sets pr (fun q hq => hn _ (mem q hq)) rfl h1
      exact go σ _ (q _ _ h3 (h2.trans ⟨.refl, fun b c => .inl ((h4 b).mp c), fun b n => n⟩))
end
end Up

namespace Up
open PySem PySem.Spec PyProof.Rows L2
/-! in, of lists of any data -/
def inDF (neg : Bool) (x y : Val) : Option Val := (dataV x).bind fun d => (dataV y).bind fun e => match e with
  | .list ds => if (SeqAt.shaped d && SeqAt.shaped (.list ds)) = true then some (.bl (if neg then !(ds.any fun z => PyData.eqv z d) else ds.any fun z => PyData.eqv z d)) else none
  | _ => none
theorem inDF_some {neg : Bool} {x y z : Val} (h : inDF neg x y = some z) : ∃ d ds, dataV x = some d ∧ dataV y = some (.list ds) ∧ SeqAt.shaped d = true ∧ SeqAt.shaped (.list ds) = true ∧ z = .bl (if neg then !(ds.any fun z => PyData.eqv z d) else ds.any fun z => PyData.eqv z d) := by
  unfold inDF at h
  obtain ⟨d, e1, h⟩ := Option.bind_eq_some_iff.mp h
  obtain ⟨e, e2, h⟩ := Option.bind_eq_some_iff.mp h
  split at h
  case h_2 => cases h
  split at h
  case isFalse => cases h
  rename_i c
  cases h
  rw [Bool.and_eq_true] at c
  exact ⟨d, _, e1, e2, c.1, c.2, rfl⟩
section
variable {cm : Cm}
theorem ov_inD {K : PySem.W.Frag} : OpV cm (rInD K) (inDF false) := fun P x y z v u H Q e rx ry q => by
  obtain ⟨d, ds, e1, e2, s1, s2, rfl⟩ := inDF_some e
  exact ⟨d, ds, rx.data e1, ry.data e2, s1, s2, q _ H (Same.refl H) (.bl _)⟩
theorem ov_notInD {K : PySem.W.Frag} : OpV cm (rNotInD K) (inDF true) := fun P x y z v u H Q e rx ry q => by
  obtain ⟨d, ds, e1, e2, s1, s2, rfl⟩ := inDF_some e
  exact ⟨d, ds, rx.data e1, ry.data e2, s1, s2, q _ H (Same.refl H) (.bl _)⟩
end
section
variable {X : Cx} {cm : Cm} {ow : List Nat} {a b : Expr}
/-- x, y = e, a new list of y's own -/
def parNG (i j : Nat) (r : En → Option Val) (r2 : En → Option (List Val)) : En → Option Out := fun env => (r env).bind fun x => (r2 env).bind fun ys => if j < env.length then some (.nx ((env.set j (some (.lst ys))).set i (some x))) else none
theorem sv_parN {r : En → Option Val} {r2 : En → Option (List Val)} {ta tb : TE} {i j : Nat} {x y : Str} {px py pt pos : Pos} {kt k2 pt2} (hc : X.calm = true) (hN : X.N.Nodup) (hi : X.N[i]? = some x) (hj : X.N[j]? = some y) (hij : i ≠ j) (hx : X.env.scope.names.lookup x = some .local) (hy : X.env.scope.names.lookup y = some .local)
    (oi : i ∉ ow) (oj : j ∈ ow) (ha : PE X a ta) (hb : PE X b tb) (sr : SrV cm ow r ta) (sn : SnV cm ow r2 tb) (hw : swappedStores [.Tuple [.Name x px, .Name y py] kt pt] (.Tuple [a, b] k2 pt2) X.env = pure (some [x, y]))
    (h1 : starEach [a, b] X.env = (false, eval a X.env) :: starEach [b] X.env := by rfl) (h2 : starEach [b] X.env = (false, eval b X.env) :: starEach [] X.env := by rfl) (hs : swapsWithSole [.Tuple [.Name x px, .Name y py] kt pt] (.Tuple [a, b] k2 pt2) pos.line X.env = pure false := by rfl) :
    SV X cm ow (.Assign [.Tuple [.Name x px, .Name y py] kt pt] (.Tuple [a, b] k2 pt2) pos) (parNG i j r r2) :=
  (ps_par hc hN hi hj hij hx hy (pa_cons ha (pa_cons hb pa_nil h2) h1) hw hs).weak fun D σ H ⟨P, H0, env, o, st, hk, q⟩ => by
    unfold parNG at hk
    obtain ⟨x, ex, hk⟩ := Option.bind_eq_some_iff.mp hk
    obtain ⟨ys, ey, hk⟩ := Option.bind_eq_some_iff.mp hk
    split at hk
    case isFalse => cases hk
    rename_i lt
    cases hk
    refine sr P H0 H env σ x _ st ex fun v H1 s1 r1 => sn P H0 H1 env σ ys _ (st.same s1) ey fun p vs H2 s2 na ha rs => ⟨v, .ref p, rfl, ?_⟩
    obtain ⟨h1, f1⟩ := (st.same s1).newO oj lt na s2 (.lst ha rs)
    have h2 := h1.set oi (r1.move f1.nw f1.kp)
    have e : (σ.set j (some (.ref p))).set i (some v) = (σ.set i (some v)).set j (some (.ref p)) := List.set_comm _ _ hij.symm
    rw [e] at h2
    refine q _ H2 h2 ((Fr.same s1).trans (f1.trans ?_))
    rw [← e]
    exact Fr.set oi (Same.refl _)
theorem sv_asgN {st : Stmt} {r : En → Option Val} {r2 : En → Option (List Val)} {ta tb : TE} {i j : Nat} (hst : PS X st (tAsg (tTup (tCons ta (tCons tb tNil))) (gTup X.K 2 (gCons (gName i) (gCons (gName j) gNil))))) (oi : i ∉ ow) (oj : j ∈ ow) (hij : i ≠ j) (sr : SrV cm ow r ta) (sn : SnV cm ow r2 tb) : SV X cm ow st (parNG i j r r2) :=
  hst.weak fun D σ H ⟨P, H0, env, o, st, hk, q⟩ => by
    unfold parNG at hk
    obtain ⟨x, ex, hk⟩ := Option.bind_eq_some_iff.mp hk
    obtain ⟨ys, ey, hk⟩ := Option.bind_eq_some_iff.mp hk
    split at hk
    case isFalse => cases hk
    rename_i lt
    cases hk
    refine sr P H0 H env σ x _ st ex fun v H1 s1 r1 => sn P H0 H1 env σ ys _ (st.same s1) ey fun p vs H2 s2 na ha rs => ⟨by show 2 ≤ sizeLine; decide, fun U nU => ?_⟩
    have sU := @same_new H2 U (.tup [v, .ref p]) nU
    refine ⟨U, _, rfl, .inl (.inl upd_same), rfl, _, _, rfl, _, _, rfl, rfl, ?_⟩
    obtain ⟨h1, f1⟩ := (st.same s1).newO oj lt na (s2.trans sU) (.lst (sU _ _ ha) (Rep.same sU rs))
    have h2 := h1.set oi (r1.move f1.nw f1.kp)
    have e : (σ.set j (some (.ref p))).set i (some v) = (σ.set i (some v)).set j (some (.ref p)) := List.set_comm _ _ hij.symm
    rw [e] at h2
    refine q _ _ h2 ((Fr.same s1).trans (f1.trans ?_))
    rw [← e]
    exact Fr.set oi (Same.refl _)
/-- d, y = {}, [] : a dict of d's own -/
def parDG (i j : Nat) : En → Option Out := fun env => if i < env.length then some (.nx ((env.set i (some (.dct [] []))).set j (some (.lst [])))) else none
theorem sv_parD {i j : Nat} {x y : Str} {px py pt pos p1 p2 : Pos} {kt k2 pt2} (hc : X.calm = true) (hN : X.N.Nodup) (hi : X.N[i]? = some x) (hj : X.N[j]? = some y) (hij : i ≠ j) (hx : X.env.scope.names.lookup x = some .local) (hy : X.env.scope.names.lookup y = some .local)
    (oi : i ∈ ow) (oj : j ∉ ow) (hw : swappedStores [.Tuple [.Name x px, .Name y py] kt pt] (.Tuple [.Dict [] [] p1, .List [] p2] k2 pt2) X.env = pure (some [x, y]))
    (h1 : starEach [.Dict [] [] p1, .List [] p2] X.env = (false, eval (.Dict [] [] p1) X.env) :: starEach [.List [] p2] X.env := by rfl) (h2 : starEach [.List [] p2] X.env = (false, eval (.List [] p2) X.env) :: starEach [] X.env := by rfl) (hs : swapsWithSole [.Tuple [.Name x px, .Name y py] kt pt] (.Tuple [.Dict [] [] p1, .List [] p2] k2 pt2) pos.line X.env = pure false := by rfl) :
    SV X cm ow (.Assign [.Tuple [.Name x px, .Name y py] kt pt] (.Tuple [.Dict [] [] p1, .List [] p2] k2 pt2) pos) (parDG i j) :=
  (ps_par hc hN hi hj hij hx hy (pa_cons (pe_dnewT (X := X) (pos := p1)) (pa_cons (pe_lst pa_nil) pa_nil h2) h1) hw hs).weak fun D σ H ⟨P, H0, env, o, st, hk, q⟩ => by
    unfold parDG at hk
    split at hk
    case isFalse => cases hk
    rename_i lt
    cases hk
    intro p np
    have s1 : Same H (upd H p (.dT [])) := same_new np
    refine ⟨Nat.zero_le _, fun l nl => ⟨.ref p, .ref l, rfl, ?_⟩⟩
    have s2 : Same (upd H p (.dT [])) (upd (upd H p (.dT [])) l (.lst [])) := same_new nl
    have lp : l ≠ p := fun z => by rw [z, upd_same] at nl; cases nl
    obtain ⟨h1, f1⟩ := st.newO oi lt np (s1.trans s2) (x := .dct [] []) (.dct (kvs := []) (ks := []) (vs := []) (s2 _ _ upd_same) rfl rfl (fun i k v e => by simp at e) (fun k _ => rfl) .nil)
    have nl0 : ¬ Ow P ow (env.set i (some (.dct [] []))) (σ.set i (some (.ref p))) l := fun c => by
      rcases f1.nw l c with z | z
      · have := (st.same s1).sl.hid.new nl
        exact this z
      · obtain ⟨o, eo, _⟩ := h1.sl.hid l c
        rcases c with c | ⟨k, hk, ⟨y, hy⟩, hs⟩
        · exact (st.sl.hid l (.inl c)).ne z
        · by_cases ik : i = k
          · subst ik
            rw [List.getElem?_set_self (by rw [st.len]; exact lt)] at hs
            cases hs
            exact lp rfl
          · rw [List.getElem?_set_ne ik] at hy hs
            exact (st.sl.hid l (.inr ⟨k, hk, ⟨y, hy⟩, hs⟩)).ne z
    have h2 := h1.set oj (.lst nl0 upd_same .nil)
    exact q _ _ h2 (f1.trans (Fr.set oj (Same.refl _)))
end
end Up

namespace Up
open PySem PySem.Spec PyProof.Rows L2
section
variable {X : Cx} {cm : Cm} {a b e : Expr} {f g : En → Option Val} {pos : Pos}
/-- a list with another one behind it, as a new list -/
def catLN (f g : En → Option Val) : En → Option (List Val) := fun env => (f env).bind fun x => (g env).bind fun y => match x, y with
  | .lst xs, .lst ys => if xs.length + ys.length ≤ most then some (xs ++ ys) else none
  | _, _ => none
theorem catLN_some {env : En} {zs : List Val} (h : catLN f g env = some zs) : ∃ xs ys, f env = some (.lst xs) ∧ g env = some (.lst ys) ∧ xs.length + ys.length ≤ most ∧ zs = xs ++ ys := by
  unfold catLN at h
  obtain ⟨x, ex, h⟩ := Option.bind_eq_some_iff.mp h
  obtain ⟨y, ey, h⟩ := Option.bind_eq_some_iff.mp h
  split at h
  case h_2 => cases h
  split at h
  case isFalse => cases h
  rename_i l
  cases h
  exact ⟨_, _, ex, ey, l, rfl⟩
theorem vn_catL (ha : VE X cm a f) (hb : VE X cm b g) : VN X cm (.BinOp a .Add b pos) (catLN f g) := (pe_op op_cat ha hb).weak fun σ H Q ⟨P, env, zs, hs, hf, q⟩ => by
  obtain ⟨xs, ys, ex, ey, l, rfl⟩ := catLN_some hf
  refine ⟨P, env, _, hs, ex, fun v H1 s1 r1 => ⟨P, env, _, hs.same s1, ey, fun u H2 s2 r2 => ?_⟩⟩
  obtain ⟨p1, vs, rfl, n1, k1, t1⟩ := Re.lst_ (Rep.same s2 r1)
  obtain ⟨p2, us, rfl, n2, k2, t2⟩ := Re.lst_ r2
  have l1 := Res.length t1
  have l2 := Res.length t2
  refine ⟨p1, p2, vs, us, rfl, rfl, k1, k2, by rw [l1, l2]; exact Nat.le_of_lt (most_line l), fun p np => ?_⟩
  have s3 : Same H2 (upd H2 p (.lst (vs ++ us))) := same_new np
  have s12 := s1.trans s2
  exact q p _ _ (s12.trans s3) (s12.free np) upd_same ((Res.append t1 t2 : Res cm P H2 _ _).move (fun b c => c.imp id fun z => by rw [z]; exact np) (.of s3)) (by rw [List.length_append]; exact l)
end
end Up

namespace Up
open PySem PySem.Spec PyProof.Rows L2
theorem FnOk.any {P : Program} {w : World} {K : PySem.W.Frag} {mg : Str → Option Value} {base : Heap} {CX : CXT} {k : Nat} {f : Addr} {fd : FuncData} {ps : List Str} {α : Type} {sp : α → Sp} (F : ∀ a, FnOk P w K mg base CX k f fd ps (sp a)) :
    FnOk P w K mg base CX k f fd ps fun vs H Q E => ∃ a, sp a vs H Q E :=
  ⟨fun vs H Q E ⟨a, h⟩ => (F a).len vs H Q E h, fun A outer s H ar us vs Q E hr e0 hb rv ⟨a, h⟩ => (F a).run A outer s H ar us vs Q E hr e0 hb rv h⟩
theorem MAt.ne {H : Hp} {m g : Addr} {b : Nat} (M : MAt H m g b) {p : Addr} (n : H p = none) : p ≠ m ∧ p ≠ g := ⟨fun c => M.m_some (c ▸ n), fun c => M.g_some (c ▸ n)⟩
/-- all but m and g -/
def hide (m g : Addr) (H : Hp) : Hp := fun b => if b = m ∨ b = g then none else H b
theorem hide_at {m g b : Addr} {H : Hp} {o : HO} (h : H b = some o) (n : b ≠ m ∧ b ≠ g) : hide m g H b = some o := by
  unfold hide
  rw [if_neg (fun c => c.elim n.1 n.2)]
  exact h
theorem hide_of {m g b : Addr} {H : Hp} {o : HO} (h : hide m g H b = some o) : (b ≠ m ∧ b ≠ g) ∧ H b = some o := by
  unfold hide at h
  by_cases c : b = m ∨ b = g
  · rw [if_pos c] at h
    cases h
  · rw [if_neg c] at h
    exact ⟨⟨fun z => c (.inl z), fun z => c (.inr z)⟩, h⟩
theorem hide_same {m g : Addr} {H : Hp} : Same (hide m g H) H := fun b o e => (hide_of e).2
theorem Same.hide {m g : Addr} {H H' : Hp} (s : Same H H') : Same (hide m g H) (hide m g H') := fun b o e => hide_at (s _ _ (hide_of e).2) (hide_of e).1
theorem But.hide {m g : Addr} {H H' : Hp} (B : But m g H H') : Same (hide m g H) (hide m g H') := fun b o e => hide_at (B _ _ (hide_of e).2 (hide_of e).1.1 (hide_of e).1.2) (hide_of e).1
theorem MAt.tup {H : Hp} {m g : Addr} {b : Nat} (M : MAt H m g b) {p : Addr} {xs : List V} (h : H p = some (.tup xs)) : p ≠ m ∧ p ≠ g := by
  obtain ⟨c, cs, gs, n, h1, h2, h3, h4, _⟩ := M.ex
  exact ⟨ne_of h h1 (by intro z; cases z), ne_of h h4 (by intro z; cases z)⟩
theorem MAt.ins {H : Hp} {m g : Addr} {b : Nat} (M : MAt H m g b) {p C d : Addr} {fs : List (Str × V)} (h : H p = some (.ins C d fs)) : p ≠ m ∧ p ≠ g := by
  obtain ⟨c, cs, gs, n, h1, h2, h3, h4, _⟩ := M.ex
  exact ⟨ne_of h h1 (by intro z; cases z), ne_of h h4 (by intro z; cases z)⟩
end Up

namespace Up
open PySem PySem.Spec PyProof.Rows L2
/-! ### what all that draws has -/
theorem But.refl {m g : Addr} {H : Hp} : But m g H H := fun _ _ e _ _ => e
/-- a list that is not m's is changed -/
theorem MAt.put {H : Hp} {m g : Addr} {b : Nat} (M : MAt H m g b) {p : Addr} {o : HO} (n : p ≠ m ∧ p ≠ g) {xs : List V} (hp : H p = some (.lst xs)) (hl : xs.length ≠ 64) : MAt (upd H p o) m g b := by
  obtain ⟨c, cs, gs, k, h1, h2, h3, h4, h5, h6⟩ := M.ex
  have nc : c ≠ p := fun z => by
    rw [z, hp] at h2
    have e := congrArg List.length (HO.lst.inj (Option.some.inj h2))
    rw [List.length_map, h3] at e
    exact hl e
  exact ⟨c, cs, gs, k, by rw [upd_ne n.1.symm]; exact h1, by rw [upd_ne nc]; exact h2, h3, by rw [upd_ne n.2.symm]; exact h4, h5, h6⟩
structure TxtQ (K : PySem.W.Frag) (mg : Str → Option Value) (fD : Addr) : Prop extends TxtB mg where
  drw : mg "_law_draw" = some (.ref fD)
end Up

namespace Up
open PySem PySem.Spec PyProof.Rows L2
/-! ### _law_order: a drawn order -/
abbrev s_order : Stmt := (topS 37)
theorem sc_order : FnScope ["m", "many", "rest", "found"] ["m", "many"] (defScope s_order) := ⟨rfl, rfl, rfl, by decide +kernel, rfl, by decide +kernel, by decide +kernel⟩
/-- numbers as values -/
def nL (ns : List Nat) : List V := ns.map fun n : Nat => V.int (n : Int)
theorem nL_app (a b : List Nat) : nL (a ++ b) = nL a ++ nL b := List.map_append
theorem nL_len (a : List Nat) : (nL a).length = a.length := List.length_map ..
theorem rg_nL (n : Nat) : rgV 0 (n : Int) = nL (List.range n) := by
  unfold rgV nL
  have e : ((n : Int) - 0).toNat = n := by omega
  rw [e]
  refine List.map_congr_left fun i _ => ?_
  rw [Int.zero_add]
theorem nL_erase : ∀ (a : List Nat) (k : Nat), (nL a).eraseIdx k = nL (a.eraseIdx k)
  | [], _ => rfl
  | _ :: _, 0 => rfl
  | x :: a, k + 1 => by
    show V.int (x : Int) :: (nL a).eraseIdx k = V.int (x : Int) :: nL (a.eraseIdx k)
    rw [nL_erase a k]
theorem perm_erase : ∀ (a : List Nat) (k : Nat) (x : Nat), a[k]? = some x → (x :: a.eraseIdx k).Perm a
  | [], k, x, e => by simp at e
  | y :: a, 0, x, e => by
    have e2 : y = x := Option.some.inj e
    subst e2
    exact List.Perm.refl _
  | y :: a, k + 1, x, e => by
    have h := perm_erase a k x e
    show (x :: y :: a.eraseIdx k).Perm (y :: a)
    exact (List.Perm.swap y x _).trans (h.cons y)
theorem eqv_nilN : ∀ ns : List Nat, PyData.eqv (.list (ns.map fun n : Nat => PyData.int (n : Int))) (.list []) = ns.isEmpty
  | [] => rfl
  | _ :: _ => rfl
theorem dp_nL {K : PySem.W.Frag} {H : Hp} : ∀ ns : List Nat, DpAll K H (nL ns) (ns.map fun n : Nat => PyData.int (n : Int))
  | [] => .nil
  | n :: ns => .cons (.int n) (dp_nL ns)
theorem shaped_nL (ns : List Nat) : SeqAt.shaped (.list (ns.map fun n : Nat => PyData.int (n : Int))) = true := by
  have h : ∀ ns : List Nat, PyData.canLayAll0 (ns.map fun n : Nat => PyData.int (n : Int)) = true ∧ PyData.depthAll (ns.map fun n : Nat => PyData.int (n : Int)) = 0 := fun ns => by
    induction ns with
    | nil => simp [PyData.canLayAll0, PyData.depthAll]
    | cons n ns ih => simp [PyData.canLayAll0, PyData.depthAll, PyData.canLay0, PyData.depth, ih.1, ih.2]
  unfold SeqAt.shaped
  rw [Bool.and_eq_true]
  exact ⟨by simp only [PyData.canLay0]; exact (h ns).1, decide_eq_true (by simp only [PyData.depth, (h ns).2]; omega)⟩
structure TxtO (K : PySem.W.Frag) (mg : Str → Option Value) (fD : Addr) : Prop extends TxtQ K mg fD where
  list : mg "list" = none
def spOrder : Sp := fun vs H Q _ => ∃ (m g : Addr) (many b : Nat), vs = [.ref m, .int (many : Int)] ∧ many ≤ 63 ∧ b ≤ 900000 ∧ MAt H m g b ∧
  ∀ (p : Addr) (fs : List Nat) (H' : Hp), H p = none → H' p = some (.lst (nL fs)) → fs.Perm (List.range many) → MAt H' m g (b + many) → But m g H H' → Q (.ref p) H'
section
variable {P : Program} {w : World} {K : PySem.W.Frag} {mg : Str → Option Value} {base : Heap}
theorem ok_order {f fD : Addr} {fd fdD : FuncData} (F : Fun K "_law_order" "_law_order" s_order f fd) (T : TxtO K mg fD) (FD : Fun K "_law_draw" "_law_draw" sDrw fD fdD) (bD : Binds K fdD ["m", "limit"] []) (GD : FnOk P w K mg base CX0 2 fD fdD ["m", "limit"] spDrw) :
    FnOk P w K mg base CX0 3 f fd ["m", "many"] spOrder := by
  refine F.ok sc_order (fun vs H Q E h => ?_) (fun cdv A outer s H vs Q E hr h => ?_)
  · obtain ⟨m, g, many, b, rfl, _⟩ := h
    rfl
  · obtain ⟨m, g, many, b, rfl, mk, bk, M, q⟩ := h
    have hr2 : Room 2 _ := hr
    have hu : (A.deeper (envOfC "_law_order" (defScope s_order) s.heap.objs.size f cdv)).units + 64 < cLine := by
      have := hr.un
      omega
    refine ⟨_, (pss_cons (ps_par (i := 2) (j := 3) (by rfl) sc_order.nd rfl rfl (by decide) rfl rfl (pa_cons (pe_listRg rfl (by rfl) T.list (prg_1 (by rfl) T.range (pv 1))) (pa_cons (pe_lst pa_nil) pa_nil)) (by rfl)) (pss_cons (ps_while PassesOwn.never (pt_cmpR (op_neD hu) (pv 2) (pe_lst pa_nil) (nomark _)) (pss_one (ps_expr (pe_bm PySem.F.plainAttrs_list PySem.F.slot_list_append PySem.F.type_list_append mt_append (pv 3) (pa_cons (pe_bm PySem.F.plainAttrs_list PySem.F.slot_list_pop PySem.F.type_list_pop mt_popAt (pv 2) (pa_cons (pe_call GD hr2 (by rfl) T.drw FD.kp bD .nil pass0 (pa_cons (pv 0) (pa_cons (pe_callB call_len_seq (by rfl) T.len PySem.boot_len (pa_cons (pv 2) pa_nil)) pa_nil))) pa_nil)) pa_nil))))) (pss_one (ps_ret (pv 3))))), ?_⟩
    refine ⟨_, rfl, _, rfl, RgOk.of_le (by omega) (by omega) (by omega) (by omega), fun r nr => ⟨Nat.zero_le _, fun fl nfl => ⟨_, _, rfl, ?_⟩⟩⟩
    rw [rg_nL] at nfl ⊢
    have mr := M.ne nr
    have s0 : Same H (upd H r (.lst (nL (List.range many)))) := same_new nr
    have M1 := M.same s0
    have mf := M1.ne nfl
    have s1 : Same _ (upd (upd H r (.lst (nL (List.range many)))) fl (.lst [])) := same_new nfl
    have M2 := M1.same s1
    have nf0 : H fl = none := s0.free nfl
    have rf : r ≠ fl := fun z => by
      rw [← z, upd_same] at nfl
      cases nfl
    refine ⟨fun k σ H2 => ∃ rs fs : List Nat, σ = [some (.ref m), some (.int (many : Int)), some (.ref r), some (.ref fl)] ∧ H2 r = some (.lst (nL rs)) ∧ H2 fl = some (.lst (nL fs)) ∧ (fs ++ rs).Perm (List.range many) ∧ MAt H2 m g (b + fs.length) ∧ But m g H H2 ∧ k = rs.length,
      ⟨_, List.range many, [], rfl, s1 _ _ upd_same, upd_same, List.Perm.refl _, M2, But.of (s0.trans s1), rfl⟩, ?_⟩
    rintro k σ H2 ⟨rs, fs, rfl, h1, h2, hp, M3, B, rfl⟩
    have len : fs.length + rs.length = many := by
      have := hp.length_eq
      rw [List.length_append, List.length_range] at this
      exact this
    refine ⟨_, rfl, Nat.zero_le _, fun e ne => ?_⟩
    have s2 := @same_new H2 e (.lst []) ne
    refine ⟨.list _, .list [], .lst (.inl (.inl (s2 _ _ h1))) (dp_nL rs), .lst (.inl (.inl upd_same)) .nil, shaped_nL rs, rfl, _, rfl, ?_⟩
    rw [eqv_nilN]
    have M4 := M3.same s2
    have B4 := B.trans (But.of s2)
    have g1 := s2 _ _ h1
    have g2 := s2 _ _ h2
    revert M4 B4 g1 g2
    generalize upd H2 e (.lst []) = H3
    intro M4 B4 g1 g2
    clear s2 M3 B h1 h2
    match rs, hp, len, g1 with
    | [], hp, len, g1 =>
      refine ⟨_, rfl, q fl fs H3 nf0 g2 (by rw [List.append_nil] at hp; exact hp) ?_ B4⟩
      have e1 : fs.length = many := len
      rw [← e1]
      exact M4
    | x :: rs, hp, len, g1 =>
      have len2 : fs.length + (rs.length + 1) = many := len
      refine ⟨fun σ' H' => ∃ k', k' < (x :: rs).length ∧ ∃ rs fs : List Nat, σ' = [some (.ref m), some (.int (many : Int)), some (.ref r), some (.ref fl)] ∧ H' r = some (.lst (nL rs)) ∧ H' fl = some (.lst (nL fs)) ∧ (fs ++ rs).Perm (List.range many) ∧ MAt H' m g (b + fs.length) ∧ But m g H H' ∧ k' = rs.length, fun σ' H' h => h, ?_⟩
      refine ⟨_, rfl, .inl ⟨rfl, _, .inl (.inl g2)⟩, _, rfl, .inl ⟨rfl, _, .inl (.inl g1)⟩, _, rfl, _, rfl, r, _, rfl, .inl (.inl (.inl g1)), ?_⟩
      have lz : ((nL (x :: rs)).length : Int) = (rs.length : Int) + 1 := by rw [nL_len]; rfl
      have lb : b + fs.length < 1000000 := by omega
      refine ⟨m, g, _, b + fs.length, rfl, by rw [lz]; omega, by rw [lz]; omega, lb, M4, fun d H5 d0 d1 M5 B5 => ?_⟩
      rw [lz] at d1
      obtain ⟨k, rfl⟩ := Int.eq_ofNat_of_zero_le d0
      have kl : k < (x :: rs).length := by rw [List.length_cons]; omega
      have g3 := B5 _ _ g1 mr.1 mr.2
      have g4 := B5 _ _ g2 mf.1 mf.2
      have ek : (x :: rs)[k]? = some (x :: rs)[k] := List.getElem?_eq_getElem kl
      refine ⟨r, _, (k : Int), k, .int (((x :: rs)[k] : Nat) : Int), rfl, rfl, g3, by omega, by omega, ?_, ?_, ?_⟩
      · rw [nL_len]
        unfold seqIndex?
        simp
        omega
      · unfold nL
        rw [List.getElem?_map, ek]
        rfl
      rw [nL_erase]
      refine ⟨fl, _, _, rfl, rfl, by rw [upd_ne rf.symm]; exact g4, by rw [nL_len]; exact small1000 (by omega), ?_⟩
      refine ⟨((x :: rs).eraseIdx k).length, by rw [List.length_eraseIdx, if_pos kl, List.length_cons]; omega, (x :: rs).eraseIdx k, fs ++ [(x :: rs)[k]], rfl, by rw [upd_ne rf]; exact upd_same, by rw [upd_same, nL_app]; rfl, ?_, ?_, fun y o e n1 n2 => ?_, rfl⟩
      · rw [List.append_assoc]
        exact ((perm_erase _ _ _ ek).append_left fs).trans hp
      · have M6 := M5.put (o := .lst (nL ((x :: rs).eraseIdx k))) mr g3 (by rw [nL_len]; simp only [List.length_cons]; omega)
        rw [List.length_append]
        exact M6.put mf (by rw [upd_ne rf.symm]; exact g4) (by rw [nL_len]; omega)
      · rw [upd_ne (ne_of_none e nf0), upd_ne (ne_of_none e nr)]
        exact B5 _ _ (B4 _ _ e n1 n2) n1 n2
end
end Up

namespace Up
open PySem PySem.Spec PyProof.Rows L2
/-! ### the clocks of rows that can be gone through are there -/
theorem once_at {gss : List (List Dg)} (o : Once gss) {h h' n n' : Nat} {gs gs' : List Dg} {g : Dg} (e1 : gss[h]? = some gs) (e2 : gs[n]? = some g) (e3 : gss[h']? = some gs') (e4 : gs'[n']? = some g) : h = h' ∧ n = n' := by
  have a := plAll_mem (h := 0) e1 _ (plRow_mem (h := 0 + h) (k := 0) e2)
  have b := plAll_mem (h := 0) e3 _ (plRow_mem (h := 0 + h') (k := 0) e4)
  have key : ∀ {l : List Pl} {t t' : Pl}, (l.map (·.1)).Nodup → t ∈ l → t' ∈ l → t.1 = t'.1 → t = t' := by
    intro l
    induction l with
    | nil => intro t t' _ h; cases h
    | cons x l ih =>
      intro t t' nd h1 h2 e
      rw [List.map_cons, List.nodup_cons] at nd
      rcases List.mem_cons.mp h1 with c | c <;> rcases List.mem_cons.mp h2 with d | d
      · rw [c, d]
      · subst c
        exact absurd (e ▸ List.mem_map_of_mem (f := (·.1)) d) nd.1
      · subst d
        exact absurd (e ▸ List.mem_map_of_mem (f := (·.1)) c) nd.1
      · exact ih nd.2 c d e
  have e := key o a b rfl
  have e5 := congrArg (fun t : Pl => t.2) e
  simp only [Prod.mk.injEq, Nat.zero_add] at e5
  exact e5
open Classical in
noncomputable def ckPlaceOf (gss : List (List Dg)) (g : Dg) : Option (Nat × Nat × List Dg) :=
  if h : ∃ t : Nat × Nat × List Dg, gss[t.1]? = some t.2.2 ∧ t.2.2[t.2.1]? = some g then some h.choose else none
theorem ckPlaceOf_some {gss : List (List Dg)} (o : Once gss) {h n : Nat} {gs : List Dg} {g : Dg} (e1 : gss[h]? = some gs) (e2 : gs[n]? = some g) : ckPlaceOf gss g = some (h, n, gs) := by
  have hx : ∃ t : Nat × Nat × List Dg, gss[t.1]? = some t.2.2 ∧ t.2.2[t.2.1]? = some g := ⟨(h, n, gs), e1, e2⟩
  unfold ckPlaceOf
  rw [dif_pos hx]
  obtain ⟨k1, k2⟩ := hx.choose_spec
  obtain ⟨a, b⟩ := once_at o k1 k2 e1 e2
  have c : hx.choose.2.2 = gs := by
    rw [a, e1] at k1
    exact (Option.some.inj k1).symm
  congr 1
  exact Prod.ext a (Prod.ext b c)
theorem placeOf_at {gss : List (List Dg)} {g : Dg} {h n : Nat} {gs : List Dg} (e : ckPlaceOf gss g = some (h, n, gs)) : gss[h]? = some gs ∧ gs[n]? = some g := by
  unfold ckPlaceOf at e
  split at e
  · rename_i hx
    have e2 := Option.some.inj e
    have k := hx.choose_spec
    rw [e2] at k
    exact k
  · cases e
noncomputable def ckF (gss : List (List Dg)) : Nat → Dg → List Int
  | 0, _ => List.replicate gss.length 0
  | k + 1, g => match ckPlaceOf gss g with
    | none => List.replicate gss.length 0
    | some (h, n, gs) => (if g.s then prevC gss.length (ckF gss k) gs n else List.zipWith mx (prevC gss.length (ckF gss k) gs n) (ckF gss k ⟨true, g.l⟩)).set h ((n : Int) + 1)
theorem prevC_succ {hands : Nat} {Ck : Dg → List Int} {gs : List Dg} {n : Nat} : prevC hands Ck gs (n + 1) = (match gs[n]? with
    | some g => Ck g
    | none => []) := rfl
theorem prevC_len {hands : Nat} {Ck : Dg → List Int} (hl : ∀ g, (Ck g).length = hands) {gs : List Dg} {n : Nat} (hn : n ≤ gs.length) : (prevC hands Ck gs n).length = hands := by
  cases n with
  | zero => exact List.length_replicate
  | succ n =>
    have e : gs[n]? = some gs[n] := List.getElem?_eq_getElem (by omega)
    rw [prevC_succ, e]
    exact hl _
theorem ckF_len (gss : List (List Dg)) : ∀ (k : Nat) (g : Dg), (ckF gss k g).length = gss.length
  | 0, _ => List.length_replicate
  | k + 1, g => by
    unfold ckF
    cases e : ckPlaceOf gss g with
    | none => exact List.length_replicate
    | some t =>
      obtain ⟨h, n, gs⟩ := t
      obtain ⟨_, e2⟩ := placeOf_at e
      have hn := (List.getElem?_eq_some_iff.mp e2).1
      have l1 := prevC_len (ckF_len gss k) (gs := gs) (n := n) (by omega)
      show ((if g.s then prevC gss.length (ckF gss k) gs n else List.zipWith mx (prevC gss.length (ckF gss k) gs n) (ckF gss k ⟨true, g.l⟩)).set h ((n : Int) + 1)).length = _
      rw [List.length_set]
      split
      · exact l1
      · rw [List.length_zipWith, l1, ckF_len gss k, Nat.min_self]
theorem prevC_same {hands : Nat} {Ck Ck' : Dg → List Int} {gs : List Dg} {n : Nat} (h : ∀ j g, n = j + 1 → gs[j]? = some g → Ck g = Ck' g) : prevC hands Ck gs n = prevC hands Ck' gs n := by
  cases n with
  | zero => rfl
  | succ n =>
    rw [prevC_succ, prevC_succ]
    cases e : gs[n]? with
    | none => rfl
    | some g => exact h n g rfl e
section
variable {gss : List (List Dg)} {rk : Dg → Nat} (r1 : ∀ (h : Nat) (gs : List Dg), gss[h]? = some gs → ∀ (n : Nat) (g g' : Dg), gs[n]? = some g → gs[n + 1]? = some g' → rk g < rk g') (r2 : ∀ (h : Nat) (gs : List Dg), gss[h]? = some gs → ∀ (n l : Nat), gs[n]? = some ⟨false, l⟩ → rk ⟨true, l⟩ < rk ⟨false, l⟩)
include r1 r2
theorem ckF_same : ∀ (k : Nat) (g : Dg), rk g < k → ckF gss (k + 1) g = ckF gss k g
  | 0, g, h => absurd h (Nat.not_lt_zero _)
  | k + 1, g, hk => by
    show (match ckPlaceOf gss g with
      | none => List.replicate gss.length (0 : Int)
      | some (h, n, gs) => (if g.s then prevC gss.length (ckF gss (k + 1)) gs n else List.zipWith mx (prevC gss.length (ckF gss (k + 1)) gs n) (ckF gss (k + 1) ⟨true, g.l⟩)).set h ((n : Int) + 1)) =
      (match ckPlaceOf gss g with
      | none => List.replicate gss.length (0 : Int)
      | some (h, n, gs) => (if g.s then prevC gss.length (ckF gss k) gs n else List.zipWith mx (prevC gss.length (ckF gss k) gs n) (ckF gss k ⟨true, g.l⟩)).set h ((n : Int) + 1))
    cases e : ckPlaceOf gss g with
    | none => rfl
    | some t =>
      obtain ⟨h, n, gs⟩ := t
      obtain ⟨e1, e2⟩ := placeOf_at e
      have p : prevC gss.length (ckF gss (k + 1)) gs n = prevC gss.length (ckF gss k) gs n := prevC_same fun j g' en eg => by
        subst en
        have := r1 h gs e1 j g' g eg e2
        exact ckF_same k g' (by omega)
      show (if g.s then prevC gss.length (ckF gss (k + 1)) gs n else List.zipWith mx (prevC gss.length (ckF gss (k + 1)) gs n) (ckF gss (k + 1) ⟨true, g.l⟩)).set h ((n : Int) + 1) =
        (if g.s then prevC gss.length (ckF gss k) gs n else List.zipWith mx (prevC gss.length (ckF gss k) gs n) (ckF gss k ⟨true, g.l⟩)).set h ((n : Int) + 1)
      rw [p]
      cases hs : g.s with
      | true => rfl
      | false =>
        have eg : g = ⟨false, g.l⟩ := by rw [← hs]
        have h3 := r2 h gs e1 n g.l (by rw [← eg]; exact e2)
        rw [← eg] at h3
        rw [ckF_same k ⟨true, g.l⟩ (by omega)]
theorem ckF_from {k : Nat} {g : Dg} (h : rk g + 1 ≤ k) : ckF gss k g = ckF gss (rk g + 1) g := by
  obtain ⟨d, rfl⟩ := Nat.le.dest h
  clear h
  induction d with
  | zero => rfl
  | succ d ih => exact (ckF_same r1 r2 (rk g + 1 + d) g (by omega)).trans ih
theorem ck_ex (o : Once gss) : ∃ Ck : Dg → List Int, (∀ g, (Ck g).length = gss.length) ∧ ∀ (h : Nat) (gs : List Dg), gss[h]? = some gs → RowCk gss.length Ck h gs := by
  refine ⟨fun g => ckF gss (rk g + 1) g, fun g => ckF_len gss _ g, fun h gs e1 n g e2 => ?_⟩
  show (match ckPlaceOf gss g with
    | none => List.replicate gss.length (0 : Int)
    | some (h, n, gs) => (if g.s then prevC gss.length (ckF gss (rk g)) gs n else List.zipWith mx (prevC gss.length (ckF gss (rk g)) gs n) (ckF gss (rk g) ⟨true, g.l⟩)).set h ((n : Int) + 1)) = _
  rw [ckPlaceOf_some o e1 e2]
  have p : prevC gss.length (ckF gss (rk g)) gs n = prevC gss.length (fun g => ckF gss (rk g + 1) g) gs n := prevC_same fun j g' en eg => by
    subst en
    have := r1 h gs e1 j g' g eg e2
    exact ckF_from r1 r2 (by omega)
  show (if g.s then prevC gss.length (ckF gss (rk g)) gs n else List.zipWith mx (prevC gss.length (ckF gss (rk g)) gs n) (ckF gss (rk g) ⟨true, g.l⟩)).set h ((n : Int) + 1) = _
  rw [p]
  cases hs : g.s with
  | true => rfl
  | false =>
    have eg : g = ⟨false, g.l⟩ := by rw [← hs]
    have h3 := r2 h gs e1 n g.l (by rw [← eg]; exact e2)
    rw [← eg] at h3
    rw [ckF_from r1 r2 (k := rk g) (g := ⟨true, g.l⟩) (by omega)]
end
end Up

namespace Up
open PySem PySem.Spec PyProof.Rows L2
/-! ### a schedule: doings one behind another, each of a hand; its rows -/
abbrev Ev := Dg × Nat
def evRow (evs : List Ev) (h : Nat) : List Dg := (evs.filter fun e => decide (e.2 = h)).map (·.1)
def gssOf (hands : Nat) (evs : List Ev) : List (List Dg) := (List.range hands).map (evRow evs)
theorem evRow_snoc (evs : List Ev) (g : Dg) (h k : Nat) : evRow (evs ++ [(g, h)]) k = if h = k then evRow evs k ++ [g] else evRow evs k := by
  unfold evRow
  rw [List.filter_append, List.map_append]
  by_cases c : h = k
  · rw [if_pos c]
    simp [c]
  · rw [if_neg c]
    simp [c]
theorem gssOf_len (hands : Nat) (evs : List Ev) : (gssOf hands evs).length = hands := by
  unfold gssOf
  rw [List.length_map, List.length_range]
theorem gssOf_get {hands h : Nat} {evs : List Ev} (c : h < hands) : (gssOf hands evs)[h]? = some (evRow evs h) := by
  unfold gssOf
  rw [List.getElem?_map, List.getElem?_range c]
  rfl
theorem gssOf_snoc {hands h : Nat} (evs : List Ev) (g : Dg) (c : h < hands) : gssOf hands (evs ++ [(g, h)]) = (gssOf hands evs).set h (evRow evs h ++ [g]) := by
  refine List.ext_getElem? fun i => ?_
  rw [List.getElem?_set, gssOf_len]
  rcases Nat.lt_or_ge i hands with d | d
  · rw [gssOf_get d, evRow_snoc]
    by_cases e : h = i
    · subst e
      rw [if_pos rfl, if_pos rfl, if_pos c]
    · rw [if_neg e, if_neg e, gssOf_get d]
  · have e1 : (gssOf hands (evs ++ [(g, h)]))[i]? = none := List.getElem?_eq_none (by rw [gssOf_len]; exact d)
    have e2 : (gssOf hands evs)[i]? = none := List.getElem?_eq_none (by rw [gssOf_len]; exact d)
    rw [e1, if_neg (by omega), e2]
theorem plAll_map : ∀ (gss : List (List Dg)) (h : Nat), (plAll h gss).map (·.1) = gss.flatten
  | [], _ => rfl
  | r :: rs, h => by
    show (plRow h 0 r ++ plAll (h + 1) rs).map (·.1) = (r :: rs).flatten
    rw [List.map_append, plRow_map h r 0, plAll_map rs, List.flatten_cons]
theorem flat_set : ∀ (gss : List (List Dg)) (h : Nat) (gs : List Dg) (g : Dg), gss[h]? = some gs → ((gss.set h (gs ++ [g])).flatten).Perm (gss.flatten ++ [g])
  | [], _, _, _, e => by simp at e
  | r :: rs, 0, gs, g, e => by
    have e2 : r = gs := Option.some.inj e
    subst e2
    show ((r ++ [g]) ++ rs.flatten).Perm (r ++ rs.flatten ++ [g])
    rw [List.append_assoc, List.append_assoc]
    exact (List.perm_append_comm).append_left r
  | r :: rs, h + 1, gs, g, e => by
    show (r ++ (rs.set h (gs ++ [g])).flatten).Perm (r ++ rs.flatten ++ [g])
    rw [List.append_assoc]
    exact (flat_set rs h gs g e).append_left r
theorem flat_perm (hands : Nat) (evs : List Ev) (hh : ∀ e ∈ evs, e.2 < hands) : ((gssOf hands evs).flatten).Perm (evs.map (·.1)) := by
  have key : ∀ n, n ≤ evs.length → ((gssOf hands (evs.take n)).flatten).Perm ((evs.take n).map (·.1)) := by
    intro n
    induction n with
    | zero =>
      intro _
      rw [List.take_zero]
      have : ∀ l : List Nat, (l.map (evRow [])).flatten = [] := fun l => by
        induction l with
        | nil => rfl
        | cons a l ih =>
          rw [List.map_cons, List.flatten_cons, ih]
          rfl
      unfold gssOf
      rw [this]
      exact List.Perm.refl _
    | succ n ih =>
      intro hn
      have e : evs[n]? = some evs[n] := List.getElem?_eq_getElem (by omega)
      rw [take_snoc e]
      obtain ⟨⟨g, h⟩, eg⟩ : ∃ x : Ev, evs[n] = x := ⟨_, rfl⟩
      rw [eg]
      have hl : h < hands := by
        have := hh _ (List.getElem_mem (l := evs) (n := n) (by omega))
        rw [eg] at this
        exact this
      rw [gssOf_snoc _ g hl, List.map_append]
      exact (flat_set _ h _ g (gssOf_get hl)).trans ((ih (by omega)).append_right [g])
  have h := key evs.length (Nat.le_refl _)
  rw [List.take_length] at h
  exact h
/-- n letters are sent, those of `under` are not got yet; ps: who sends, who gets -/
structure Sched (hands : Nat) (ps : List (Nat × Nat)) (evs : List Ev) (n : Nat) (under : List Nat) : Prop where
  nd : (evs.map (·.1)).Nodup
  snd : ∀ l, (⟨true, l⟩ : Dg) ∈ evs.map (·.1) ↔ l < n
  got : ∀ l, (⟨false, l⟩ : Dg) ∈ evs.map (·.1) ↔ l < n ∧ l ∉ under
  und : under.Nodup
  low : ∀ l ∈ under, l < n
  le : n ≤ ps.length
  hand : ∀ e ∈ evs, ∃ p, ps[e.1.l]? = some p ∧ e.2 = if e.1.s then p.1 else p.2
  ord : ∀ (i l h : Nat), evs[i]? = some (⟨false, l⟩, h) → ∃ j h', j < i ∧ evs[j]? = some (⟨true, l⟩, h')
theorem Sched.nil (hands : Nat) (ps : List (Nat × Nat)) : Sched hands ps [] 0 [] where
  nd := List.nodup_nil
  snd := fun l => ⟨fun h => (by cases h), fun h => absurd h (Nat.not_lt_zero _)⟩
  got := fun l => ⟨fun h => (by cases h), fun h => absurd h.1 (Nat.not_lt_zero _)⟩
  und := List.nodup_nil
  low := fun l h => by cases h
  le := Nat.zero_le _
  hand := fun e h => by cases h
  ord := fun i l h e => by simp at e
theorem mem_get {evs : List Ev} {g : Dg} (h : g ∈ evs.map (·.1)) : ∃ j k, evs[j]? = some (g, k) ∧ j < evs.length := by
  obtain ⟨⟨g', k⟩, hm, rfl⟩ := List.mem_map.mp h
  obtain ⟨j, hj, e⟩ := List.getElem_of_mem hm
  exact ⟨j, k, List.getElem?_eq_some_iff.mpr ⟨hj, e⟩, hj⟩
theorem snoc_ev {evs : List Ev} {x y : Ev} {i : Nat} (e : (evs ++ [x])[i]? = some y) : evs[i]? = some y ∨ (i = evs.length ∧ y = x) := by
  rcases Nat.lt_or_ge i evs.length with c | c
  · rw [List.getElem?_append_left c] at e
    exact .inl e
  · have hl := (List.getElem?_eq_some_iff.mp e).1
    simp only [List.length_append, List.length_cons, List.length_nil] at hl
    have ei : i = evs.length := by omega
    subst ei
    rw [List.getElem?_append_right (Nat.le_refl _), Nat.sub_self] at e
    exact .inr ⟨rfl, (Option.some.inj e).symm⟩
theorem Sched.send {hands : Nat} {ps : List (Nat × Nat)} {evs : List Ev} {n : Nat} {under : List Nat} (S : Sched hands ps evs n under) {p : Nat × Nat} (hp : ps[n]? = some p) : Sched hands ps (evs ++ [(⟨true, n⟩, p.1)]) (n + 1) (under ++ [n]) where
  nd := by
    rw [List.map_append]
    refine List.nodup_append.mpr ⟨S.nd, List.nodup_cons.mpr ⟨List.not_mem_nil, List.nodup_nil⟩, fun a ha b hb => ?_⟩
    rcases List.mem_cons.mp hb with e | e
    · intro c
      rw [c, e] at ha
      exact absurd ((S.snd n).mp ha) (Nat.lt_irrefl _)
    · cases e
  snd := fun l => by
    rw [List.map_append, List.mem_append, S.snd l]
    constructor
    · rintro (c | c)
      · omega
      · rcases List.mem_cons.mp c with d | d
        · have e : l = n := congrArg Dg.l d
          omega
        · cases d
    · intro c
      by_cases d : l < n
      · exact .inl d
      · have e : l = n := by omega
        subst e
        exact .inr (List.mem_cons_self ..)
  got := fun l => by
    rw [List.map_append, List.mem_append, S.got l, List.mem_append]
    constructor
    · rintro (c | c)
      · refine ⟨by omega, fun z => z.elim c.2 fun z => ?_⟩
        rcases List.mem_cons.mp z with d | d
        · omega
        · cases d
      · rcases List.mem_cons.mp c with d | d
        · have e : false = true := congrArg Dg.s d
          cases e
        · cases d
    · rintro ⟨c, d⟩
      have e : l ≠ n := fun z => d (.inr (z ▸ List.mem_cons_self ..))
      exact .inl ⟨by omega, fun z => d (.inl z)⟩
  und := List.nodup_append.mpr ⟨S.und, List.nodup_cons.mpr ⟨List.not_mem_nil, List.nodup_nil⟩, fun a ha b hb => by
    rcases List.mem_cons.mp hb with e | e
    · have := S.low a ha
      omega
    · cases e⟩
  low := fun l h => by
    rcases List.mem_append.mp h with c | c
    · have := S.low l c
      omega
    · rcases List.mem_cons.mp c with d | d
      · omega
      · cases d
  le := (List.getElem?_eq_some_iff.mp hp).1
  hand := fun e h => by
    rcases List.mem_append.mp h with c | c
    · exact S.hand e c
    · rcases List.mem_cons.mp c with d | d
      · subst d
        exact ⟨p, hp, rfl⟩
      · cases d
  ord := fun i l h e => by
    rcases snoc_ev e with c | ⟨_, c⟩
    · obtain ⟨j, h', k1, k2⟩ := S.ord i l h c
      have hl := (List.getElem?_eq_some_iff.mp k2).1
      exact ⟨j, h', k1, by rw [List.getElem?_append_left hl]; exact k2⟩
    · have e : false = true := congrArg (fun x : Ev => x.1.s) c
      cases e
theorem erase_mem {under : List Nat} (nd : under.Nodup) {k l : Nat} (e : under[k]? = some l) (x : Nat) : x ∈ under.eraseIdx k ↔ x ∈ under ∧ x ≠ l := by
  have hp := perm_erase under k l e
  have nd2 := hp.nodup_iff.mpr nd
  rw [List.nodup_cons] at nd2
  constructor
  · intro h
    exact ⟨hp.mem_iff.mp (List.mem_cons_of_mem _ h), fun z => nd2.1 (z ▸ h)⟩
  · rintro ⟨h1, h2⟩
    rcases List.mem_cons.mp (hp.mem_iff.mpr h1) with c | c
    · exact absurd c h2
    · exact c
theorem Sched.recv {hands : Nat} {ps : List (Nat × Nat)} {evs : List Ev} {n : Nat} {under : List Nat} (S : Sched hands ps evs n under) {k l : Nat} (hk : under[k]? = some l) {p : Nat × Nat} (hp : ps[l]? = some p) : Sched hands ps (evs ++ [(⟨false, l⟩, p.2)]) n (under.eraseIdx k) where
  nd := by
    rw [List.map_append]
    refine List.nodup_append.mpr ⟨S.nd, List.nodup_cons.mpr ⟨List.not_mem_nil, List.nodup_nil⟩, fun a ha b hb => ?_⟩
    rcases List.mem_cons.mp hb with e | e
    · intro c
      rw [c, e] at ha
      exact ((S.got l).mp ha).2 (List.mem_of_getElem? hk)
    · cases e
  snd := fun x => by
    rw [List.map_append, List.mem_append, S.snd x]
    constructor
    · rintro (c | c)
      · exact c
      · rcases List.mem_cons.mp c with d | d
        · have e : true = false := congrArg Dg.s d
          cases e
        · cases d
    · exact .inl
  got := fun x => by
    rw [List.map_append, List.mem_append, S.got x, erase_mem S.und hk]
    have hln := S.low l (List.mem_of_getElem? hk)
    constructor
    · rintro (c | c)
      · exact ⟨c.1, fun z => c.2 z.1⟩
      · rcases List.mem_cons.mp c with d | d
        · have e : x = l := congrArg Dg.l d
          subst e
          exact ⟨hln, fun z => z.2 rfl⟩
        · cases d
    · rintro ⟨c, d⟩
      by_cases e : x = l
      · subst e
        exact .inr (List.mem_cons_self ..)
      · exact .inl ⟨c, fun z => d ⟨z, e⟩⟩
  und := (List.nodup_cons.mp ((perm_erase under k l hk).nodup_iff.mpr S.und)).2
  low := fun x h => S.low x ((erase_mem S.und hk x).mp h).1
  le := S.le
  hand := fun e h => by
    rcases List.mem_append.mp h with c | c
    · exact S.hand e c
    · rcases List.mem_cons.mp c with d | d
      · subst d
        exact ⟨p, hp, rfl⟩
      · cases d
  ord := fun i x h e => by
    rcases snoc_ev e with c | ⟨c1, c⟩
    · obtain ⟨j, h', k1, k2⟩ := S.ord i x h c
      have hl := (List.getElem?_eq_some_iff.mp k2).1
      exact ⟨j, h', k1, by rw [List.getElem?_append_left hl]; exact k2⟩
    · have ex : x = l := congrArg (fun y : Ev => y.1.l) c
      subst ex
      obtain ⟨j, h', k1, k2⟩ := mem_get ((S.snd x).mpr (S.low x (List.mem_of_getElem? hk)))
      exact ⟨j, h', by omega, by rw [List.getElem?_append_left k2]; exact k1⟩
/-- where a doing stands -/
def rkOf : List Dg → Dg → Nat
  | [], _ => 0
  | a :: l, x => if a = x then 0 else rkOf l x + 1
theorem rkOf_at : ∀ {l : List Dg}, l.Nodup → ∀ (i : Nat) (h : i < l.length), rkOf l l[i] = i
  | [], _, i, h => absurd h (Nat.not_lt_zero _)
  | a :: l, nd, 0, h => by
    show (if a = a then 0 else rkOf l a + 1) = 0
    rw [if_pos rfl]
  | a :: l, nd, i + 1, h => by
    have nd2 := List.nodup_cons.mp nd
    have hi : i < l.length := Nat.lt_of_succ_lt_succ h
    have ne : a ≠ l[i] := fun z => nd2.1 (z ▸ List.getElem_mem hi)
    show (if a = l[i] then 0 else rkOf l l[i] + 1) = i + 1
    rw [if_neg ne, rkOf_at nd2.2 i hi]
theorem idx_pair {l : List Dg} (nd : l.Nodup) : l.Pairwise fun x y => rkOf l x < rkOf l y := by
  rw [List.pairwise_iff_getElem]
  intro i j hi hj h
  rw [rkOf_at nd i hi, rkOf_at nd j hj]
  exact h
theorem evRow_sub (evs : List Ev) (h : Nat) : (evRow evs h).Sublist (evs.map (·.1)) := (List.filter_sublist ..).map _
theorem evRow_mem {evs : List Ev} {g : Dg} {h : Nat} (e : (g, h) ∈ evs) : g ∈ evRow evs h := List.mem_map_of_mem (f := (·.1)) (List.mem_filter.mpr ⟨e, decide_eq_true rfl⟩)
theorem gssOf_at {hands h : Nat} {evs : List Ev} {gs : List Dg} (e : (gssOf hands evs)[h]? = some gs) : h < hands ∧ gs = evRow evs h := by
  have hl := (List.getElem?_eq_some_iff.mp e).1
  rw [gssOf_len] at hl
  rw [gssOf_get hl] at e
  exact ⟨hl, (Option.some.inj e).symm⟩
theorem Sched.valid {hands many : Nat} {ps : List (Nat × Nat)} {evs : List Ev} (S : Sched hands ps evs many []) (h1 : 1 ≤ hands) (h6 : hands ≤ 6) (m12 : many ≤ 12) (ok : ∀ x ∈ ps, x.1 < hands ∧ x.2 < hands ∧ x.1 ≠ x.2) :
    ∃ Ck, Valid (gssOf hands evs) many (fun l => (ps.getD l (0, 0)).1) (fun l => (ps.getD l (0, 0)).2) Ck := by
  have hh : ∀ e ∈ evs, e.2 < hands := fun e he => by
    obtain ⟨p, hp, e2⟩ := S.hand e he
    have := ok p (List.mem_of_getElem? hp)
    rw [e2]
    split <;> omega
  have hperm := flat_perm hands evs hh
  have once : Once (gssOf hands evs) := by
    unfold Once
    rw [plAll_map]
    exact hperm.nodup_iff.mpr S.nd
  have memF : ∀ {h : Nat} {gs : List Dg} {n : Nat} {g : Dg}, (gssOf hands evs)[h]? = some gs → gs[n]? = some g → g ∈ evs.map (·.1) := fun {h gs n g} e1 e2 => by
    obtain ⟨_, rfl⟩ := gssOf_at e1
    exact (evRow_sub evs h).subset (List.mem_of_getElem? e2)
  have lt : ∀ g ∈ evs.map (·.1), g.l < many := fun g hg => by
    obtain ⟨s, l⟩ := g
    cases s with
    | true => exact (S.snd l).mp hg
    | false => exact ((S.got l).mp hg).1
  have r1 : ∀ (h : Nat) (gs : List Dg), (gssOf hands evs)[h]? = some gs → ∀ (n : Nat) (g g' : Dg), gs[n]? = some g → gs[n + 1]? = some g' → rkOf (evs.map (·.1)) g < rkOf (evs.map (·.1)) g' := fun h gs e1 n g g' e2 e3 => by
    obtain ⟨_, rfl⟩ := gssOf_at e1
    have pw := (idx_pair S.nd).sublist (evRow_sub evs h)
    have k3 := List.getElem?_eq_some_iff.mp e3
    have k2 := List.getElem?_eq_some_iff.mp e2
    have := (List.pairwise_iff_getElem.mp pw) n (n + 1) k2.1 k3.1 (Nat.lt_succ_self n)
    rw [k2.2, k3.2] at this
    exact this
  have ri : ∀ {i : Nat} {g : Dg} {k : Nat}, evs[i]? = some (g, k) → rkOf (evs.map (·.1)) g = i := fun {i g k} e => by
    have hl := List.getElem?_eq_some_iff.mp e
    have e2 : (evs.map (·.1))[i]'(by rw [List.length_map]; exact hl.1) = g := by rw [List.getElem_map, hl.2]
    rw [← e2]
    exact rkOf_at S.nd i _
  have rs : ∀ l, (⟨false, l⟩ : Dg) ∈ evs.map (·.1) → rkOf (evs.map (·.1)) ⟨true, l⟩ < rkOf (evs.map (·.1)) ⟨false, l⟩ := fun l hl => by
    obtain ⟨i, k, e, _⟩ := mem_get hl
    obtain ⟨j, h', k1, k2⟩ := S.ord i l k e
    rw [ri e, ri k2]
    exact k1
  obtain ⟨Ck, c1, c2⟩ := ck_ex (rk := fun g => rkOf (evs.map (·.1)) g) r1 (fun h gs e1 n l e2 => rs l (memF e1 e2)) once
  have pget : ∀ {l : Nat} {p : Nat × Nat}, ps[l]? = some p → ps.getD l (0, 0) = p := fun {l p} e => by
    rw [List.getD_eq_getElem?_getD, e]
    rfl
  have place : ∀ {g : Dg} {h : Nat}, (g, h) ∈ evs → ∃ n, (g, h, n) ∈ plAll 0 (gssOf hands evs) := fun {g h} e => by
    obtain ⟨n, hn, e2⟩ := List.getElem_of_mem (evRow_mem e)
    have a := plAll_mem (h := 0) (gssOf_get (evs := evs) (hh _ e)) _ (plRow_mem (h := 0 + h) (k := 0) (List.getElem?_eq_some_iff.mpr ⟨hn, e2⟩))
    simp only [Nat.zero_add] at a
    exact ⟨n, a⟩
  have side : ∀ {s : Bool} {l : Nat}, (⟨s, l⟩ : Dg) ∈ evs.map (·.1) → ∃ n, ((⟨s, l⟩ : Dg), (if s then (ps.getD l (0, 0)).1 else (ps.getD l (0, 0)).2), n) ∈ plAll 0 (gssOf hands evs) := fun {s l} hm => by
    obtain ⟨j, k, e, _⟩ := mem_get hm
    have he := List.mem_of_getElem? e
    obtain ⟨p, hp, e2⟩ := S.hand _ he
    obtain ⟨n, hn⟩ := place he
    rw [pget hp]
    have e3 : k = if s then p.1 else p.2 := e2
    rw [← e3]
    exact ⟨n, hn⟩
  refine ⟨Ck, ?_⟩
  exact {
    h1 := by rw [gssOf_len]; exact h1
    h6 := by rw [gssOf_len]; exact h6
    lt := fun t ht => by
      obtain ⟨i, n, gs, e1, e2⟩ := plAll_of ht
      exact lt _ (memF e1 e2)
    m12 := m12
    len := by
      have e1 : (plAll 0 (gssOf hands evs)).length = evs.length := by
        rw [← List.length_map (f := fun t : Pl => t.1), plAll_map, hperm.length_eq, List.length_map]
      have sub : ∀ g ∈ evs.map (·.1), g ∈ (List.range many).flatMap fun l => [(⟨true, l⟩ : Dg), ⟨false, l⟩] := fun g hg => by
        rw [List.mem_flatMap]
        refine ⟨g.l, List.mem_range.mpr (lt g hg), ?_⟩
        obtain ⟨s, l⟩ := g
        cases s <;> simp
      have e2 := nd_len S.nd sub
      have e3 : ((List.range many).flatMap fun l => [(⟨true, l⟩ : Dg), ⟨false, l⟩]).length = many * 2 := by
        rw [List.length_flatMap]
        have : ∀ n : Nat, ((List.range n).map fun _ => 2).sum = n * 2 := fun n => by
          induction n with
          | zero => rfl
          | succ n ih => rw [List.range_succ, List.map_append, List.sum_append, ih]; simp; omega
        exact this many
      rw [List.length_map] at e2
      omega
    once := once
    hd := ⟨fun l hl => side (s := true) ((S.snd l).mpr hl), fun l hl => side (s := false) ((S.got l).mpr ⟨hl, List.not_mem_nil⟩), fun l hl => by
      have hl2 : l < ps.length := Nat.lt_of_lt_of_le hl S.le
      have e : ps[l]? = some ps[l] := List.getElem?_eq_getElem hl2
      show (ps.getD l (0, 0)).1 ≠ (ps.getD l (0, 0)).2
      rw [pget e]
      exact (ok _ (List.getElem_mem hl2)).2.2⟩
    ck := by
      rw [gssOf_len] at c2 ⊢
      exact c2
    ckl := c1
    rk := ⟨fun g => rkOf (evs.map (·.1)) g, r1, fun l hl => rs l ((S.got l).mpr ⟨hl, List.not_mem_nil⟩)⟩ }
end Up

namespace Up
open PySem PySem.Spec PyProof.Rows L2
/-! ### rows at lists of their own -/
/-- rows at lists -/
structure RL (H : Hp) (a : Addr) (rs : List Addr) (gss : List (List Dg)) : Prop where
  at_ : H a = some (.lst (rs.map V.ref))
  len : rs.length = gss.length
  nd : rs.Nodup
  na : a ∉ rs
  row : ∀ (i : Nat) (t : Addr) (gs : List Dg), rs[i]? = some t → gss[i]? = some gs → ∃ qs : List Addr, H t = some (.lst (qs.map V.ref)) ∧ qs.length = gs.length ∧ ∀ (j : Nat) (q : Addr) (g : Dg), qs[j]? = some q → gs[j]? = some g → H q = some (.tup g.vs)
theorem RL.rows {H : Hp} {a : Addr} {rs : List Addr} {gss : List (List Dg)} (r : RL H a rs gss) : RowsG H a gss :=
  ⟨rs, .inl r.at_, r.len, fun i t gs e1 e2 => let ⟨qs, h1, h2, h3⟩ := r.row i t gs e1 e2; ⟨qs, .inl h1, h2, h3⟩⟩
/-- all that a draw leaves -/
theorem RL.but {H H' : Hp} {m g : Addr} {b : Nat} (M : MAt H m g b) (B : But m g H H') {a : Addr} {rs : List Addr} {gss : List (List Dg)} (na : a ≠ m ∧ a ≠ g) (nr : ∀ t ∈ rs, t ≠ m ∧ t ≠ g) (r : RL H a rs gss) : RL H' a rs gss := by
  refine ⟨B _ _ r.at_ na.1 na.2, r.len, r.nd, r.na, fun i t gs e1 e2 => ?_⟩
  obtain ⟨qs, h1, h2, h3⟩ := r.row i t gs e1 e2
  have nt := nr t (List.mem_of_getElem? e1)
  exact ⟨qs, B _ _ h1 nt.1 nt.2, h2, fun j q g e3 e4 => B _ _ (h3 j q g e3 e4) (M.tup (h3 j q g e3 e4)).1 (M.tup (h3 j q g e3 e4)).2⟩
theorem RL.same {H H' : Hp} (s : Same H H') {a : Addr} {rs : List Addr} {gss : List (List Dg)} (r : RL H a rs gss) : RL H' a rs gss :=
  ⟨s _ _ r.at_, r.len, r.nd, r.na, fun i t gs e1 e2 => let ⟨qs, h1, h2, h3⟩ := r.row i t gs e1 e2; ⟨qs, s _ _ h1, h2, fun j q g e3 e4 => s _ _ (h3 j q g e3 e4)⟩⟩
/-- one more doing in a row -/
theorem nodup_at {l : List Addr} (nd : l.Nodup) {i j : Nat} {x : Addr} (e1 : l[i]? = some x) (e2 : l[j]? = some x) : i = j := by
  have k1 := List.getElem?_eq_some_iff.mp e1
  have k2 := List.getElem?_eq_some_iff.mp e2
  exact (List.getElem_inj nd).mp (k1.2.trans k2.2.symm)
theorem RL.put {H : Hp} {a : Addr} {rs : List Addr} {gss : List (List Dg)} (r : RL H a rs gss) {i : Nat} {t q : Addr} {gs : List Dg} {g : Dg} {qs : List Addr} (e1 : rs[i]? = some t) (e2 : gss[i]? = some gs) (h1 : H t = some (.lst (qs.map V.ref))) (h2 : qs.length = gs.length)
    (h3 : ∀ (j : Nat) (q : Addr) (g : Dg), qs[j]? = some q → gs[j]? = some g → H q = some (.tup g.vs)) (hq : H q = some (.tup g.vs)) : RL (upd H t (.lst (qs.map V.ref ++ [.ref q]))) a rs (gss.set i (gs ++ [g])) := by
  have tn : ∀ {c : Addr} {ys : List V}, H c = some (.tup ys) → c ≠ t := fun {c ys} e z => by
    rw [z, h1] at e
    cases e
  refine ⟨by rw [upd_ne (fun z => r.na (by rw [z]; exact List.mem_of_getElem? e1))]; exact r.at_, by rw [List.length_set]; exact r.len, r.nd, r.na, fun k u gs' a1 a2 => ?_⟩
  by_cases c : k = i
  · subst c
    rw [e1] at a1
    cases a1
    rw [List.getElem?_set_self (List.getElem?_eq_some_iff.mp e2).1] at a2
    cases a2
    refine ⟨qs ++ [q], by rw [upd_same, List.map_append]; rfl, by rw [List.length_append, List.length_append, h2]; rfl, fun j x y b1 b2 => ?_⟩
    rcases Nat.lt_or_ge j qs.length with d | d
    · rw [List.getElem?_append_left d] at b1
      rw [List.getElem?_append_left (by omega)] at b2
      rw [upd_ne (tn (h3 j x y b1 b2))]
      exact h3 j x y b1 b2
    · have hl := (List.getElem?_eq_some_iff.mp b1).1
      simp only [List.length_append, List.length_cons, List.length_nil] at hl
      have ej : j = qs.length := by omega
      subst ej
      rw [List.getElem?_append_right (Nat.le_refl _), Nat.sub_self] at b1
      rw [h2, List.getElem?_append_right (Nat.le_refl _), Nat.sub_self] at b2
      cases b1
      cases b2
      rw [upd_ne (tn hq)]
      exact hq
  · rw [List.getElem?_set_ne (fun z => c z.symm)] at a2
    obtain ⟨qs', k1, k2, k3⟩ := r.row k u gs' a1 a2
    have ut : u ≠ t := fun z => by
      subst z
      exact c (nodup_at r.nd a1 e1)
    exact ⟨qs', by rw [upd_ne ut]; exact k1, k2, fun j x y b1 b2 => by rw [upd_ne (tn (k3 j x y b1 b2))]; exact k3 j x y b1 b2⟩
end Up

namespace Up
open PySem PySem.Spec PyProof.Rows L2
/-! letters named anew -/
def ren (fs : List Nat) (gss : List (List Dg)) : List (List Dg) := gss.map fun gs => gs.map fun g => ⟨g.s, fs.getD g.l 0⟩
def renD (fs : List Nat) (g : Dg) : Dg := ⟨g.s, fs.getD g.l 0⟩
def backD (fs : List Nat) (g : Dg) : Dg := ⟨g.s, fs.idxOf g.l⟩
section
variable {fs : List Nat} {many : Nat}
theorem perm_len (h : fs.Perm (List.range many)) : fs.length = many := by rw [h.length_eq, List.length_range]
theorem perm_nd (h : fs.Perm (List.range many)) : fs.Nodup := h.nodup_iff.mpr List.nodup_range
theorem perm_lt (h : fs.Perm (List.range many)) {l : Nat} (hl : l < many) : fs.getD l 0 < many := by
  have hl2 : l < fs.length := by rw [perm_len h]; exact hl
  rw [List.getD_eq_getElem?_getD, List.getElem?_eq_getElem hl2]
  exact List.mem_range.mp (h.mem_iff.mp (List.getElem_mem hl2))
theorem perm_idx (h : fs.Perm (List.range many)) {l : Nat} (hl : l < many) : fs.idxOf l < many ∧ fs.getD (fs.idxOf l) 0 = l := by
  have hm : l ∈ fs := h.mem_iff.mpr (List.mem_range.mpr hl)
  have h1 := List.idxOf_lt_length_of_mem hm
  refine ⟨by rw [← perm_len h]; exact h1, ?_⟩
  rw [List.getD_eq_getElem?_getD, List.getElem?_eq_getElem h1]
  exact List.getElem_idxOf h1
theorem perm_back (h : fs.Perm (List.range many)) {l : Nat} (hl : l < many) : fs.idxOf (fs.getD l 0) = l := by
  have hl2 : l < fs.length := by rw [perm_len h]; exact hl
  rw [List.getD_eq_getElem?_getD, List.getElem?_eq_getElem hl2]
  exact (perm_nd h).idxOf_getElem l hl2
theorem back_ren (h : fs.Perm (List.range many)) {g : Dg} (hl : g.l < many) : backD fs (renD fs g) = g := by
  obtain ⟨s, l⟩ := g
  show (⟨s, _⟩ : Dg) = _
  exact congrArg (Dg.mk s) (perm_back h hl)
theorem nodup_map_on {α β : Type} {f : α → β} : ∀ {l : List α}, l.Nodup → (∀ a ∈ l, ∀ b ∈ l, f a = f b → a = b) → (l.map f).Nodup
  | [], _, _ => List.nodup_nil
  | x :: l, nd, h => by
    rw [List.nodup_cons] at nd
    rw [List.map_cons, List.nodup_cons]
    refine ⟨fun hm => ?_, nodup_map_on nd.2 fun a ha b hb => h a (List.mem_cons_of_mem _ ha) b (List.mem_cons_of_mem _ hb)⟩
    obtain ⟨y, hy, e⟩ := List.mem_map.mp hm
    have := h y (List.mem_cons_of_mem _ hy) x (List.mem_cons_self ..) e
    exact nd.1 (this ▸ hy)
theorem plRow_ren (h : Nat) : ∀ (gs : List Dg) (n : Nat), plRow h n (gs.map (renD fs)) = (plRow h n gs).map fun t => (renD fs t.1, t.2)
  | [], _ => rfl
  | g :: r, n => by
    show (renD fs g, h, n) :: plRow h (n + 1) (r.map (renD fs)) = _
    rw [plRow_ren h r]
    rfl
theorem plAll_ren : ∀ (gss : List (List Dg)) (h : Nat), plAll h (ren fs gss) = (plAll h gss).map fun t => (renD fs t.1, t.2)
  | [], _ => rfl
  | r :: rs, h => by
    show plRow h 0 (r.map (renD fs)) ++ plAll (h + 1) (ren fs rs) = (plRow h 0 r ++ plAll (h + 1) rs).map _
    rw [plRow_ren, plAll_ren rs, List.map_append]
theorem ren_get {gss : List (List Dg)} {h : Nat} {gs' : List Dg} (e : (ren fs gss)[h]? = some gs') : ∃ gs, gss[h]? = some gs ∧ gs' = gs.map (renD fs) := by
  unfold ren at e
  rw [List.getElem?_map] at e
  obtain ⟨gs, e1, rfl⟩ := Option.map_eq_some_iff.mp e
  exact ⟨gs, e1, rfl⟩
theorem prevC_ren {hands : Nat} {Ck : Dg → List Int} {gs : List Dg} {n : Nat} (h : ∀ g ∈ gs, backD fs (renD fs g) = g) : prevC hands (fun g => Ck (backD fs g)) (gs.map (renD fs)) n = prevC hands Ck gs n := by
  cases n with
  | zero => rfl
  | succ n =>
    show (match (gs.map (renD fs))[n]? with | some g => Ck (backD fs g) | none => []) = (match gs[n]? with | some g => Ck g | none => [])
    rw [List.getElem?_map]
    cases e : gs[n]? with
    | none => rfl
    | some g =>
      show Ck (backD fs (renD fs g)) = Ck g
      rw [h g (List.mem_of_getElem? e)]
theorem Valid.ren {gss : List (List Dg)} {S G : Nat → Nat} {Ck : Dg → List Int} (h : fs.Perm (List.range many)) (v : Valid gss many S G Ck) :
    Valid (Up.ren fs gss) many (fun l => S (fs.idxOf l)) (fun l => G (fs.idxOf l)) (fun g => Ck (backD fs g)) := by
  have inRow : ∀ {i : Nat} {gs : List Dg}, gss[i]? = some gs → ∀ g ∈ gs, g.l < many := fun {i gs} e g hg => by
    obtain ⟨n, hn, e2⟩ := List.getElem_of_mem hg
    have a := plAll_mem (h := 0) e _ (plRow_mem (h := 0 + i) (k := 0) (List.getElem?_eq_some_iff.mpr ⟨hn, e2⟩))
    exact v.lt _ a
  have bk : ∀ {i : Nat} {gs : List Dg}, gss[i]? = some gs → ∀ g ∈ gs, backD fs (renD fs g) = g := fun {i gs} e g hg => back_ren h (inRow e g hg)
  have lenR : (Up.ren fs gss).length = gss.length := by unfold Up.ren; rw [List.length_map]
  obtain ⟨rk, k1, k2⟩ := v.rk
  exact {
    h1 := by rw [lenR]; exact v.h1
    h6 := by rw [lenR]; exact v.h6
    lt := fun t ht => by
      rw [plAll_ren] at ht
      obtain ⟨t', ht', rfl⟩ := List.mem_map.mp ht
      exact perm_lt h (v.lt t' ht')
    m12 := v.m12
    len := by rw [plAll_ren, List.length_map]; exact v.len
    once := by
      show ((plAll 0 (Up.ren fs gss)).map (·.1)).Nodup
      rw [plAll_ren, List.map_map]
      have o : ((plAll 0 gss).map (·.1)).Nodup := v.once
      have e : ((plAll 0 gss).map ((fun t : Pl => t.1) ∘ fun t => (renD fs t.1, t.2))) = ((plAll 0 gss).map (·.1)).map (renD fs) := by rw [List.map_map]; rfl
      rw [e]
      refine nodup_map_on o fun a ha b hb q => ?_
      obtain ⟨t, ht, rfl⟩ := List.mem_map.mp ha
      obtain ⟨u, hu, rfl⟩ := List.mem_map.mp hb
      rw [← back_ren h (v.lt t ht), q, back_ren h (v.lt u hu)]
    hd := by
      obtain ⟨a, b, c⟩ := v.hd
      refine ⟨fun l hl => ?_, fun l hl => ?_, fun l hl => ?_⟩
      · obtain ⟨i1, i2⟩ := perm_idx h hl
        obtain ⟨n, hn⟩ := a _ i1
        refine ⟨n, ?_⟩
        rw [plAll_ren]
        refine List.mem_map.mpr ⟨_, hn, ?_⟩
        show ((⟨true, fs.getD (fs.idxOf l) 0⟩ : Dg), _) = _
        rw [i2]
      · obtain ⟨i1, i2⟩ := perm_idx h hl
        obtain ⟨n, hn⟩ := b _ i1
        refine ⟨n, ?_⟩
        rw [plAll_ren]
        refine List.mem_map.mpr ⟨_, hn, ?_⟩
        show ((⟨false, fs.getD (fs.idxOf l) 0⟩ : Dg), _) = _
        rw [i2]
      · exact c _ (perm_idx h hl).1
    ck := fun i gs' e n g' eg => by
      obtain ⟨gs, e1, rfl⟩ := ren_get e
      rw [lenR]
      rw [List.getElem?_map] at eg
      obtain ⟨g, e2, rfl⟩ := Option.map_eq_some_iff.mp eg
      have hg := List.mem_of_getElem? e2
      have q := v.ck i gs e1 n g e2
      have hl := inRow e1 g hg
      rw [prevC_ren (bk e1)]
      show Ck (backD fs (renD fs g)) = (if g.s = true then prevC gss.length Ck gs n else List.zipWith mx (prevC gss.length Ck gs n) (Ck (backD fs ⟨true, fs.getD g.l 0⟩))).set i _
      rw [bk e1 g hg, show backD fs ⟨true, fs.getD g.l 0⟩ = ⟨true, g.l⟩ from congrArg (Dg.mk true) (perm_back h hl)]
      exact q
    ckl := fun g => by rw [lenR]; exact v.ckl _
    rk := by
      refine ⟨fun g => rk (backD fs g), fun i gs' e n g g' a b => ?_, fun l hl => ?_⟩
      · obtain ⟨gs, e1, rfl⟩ := ren_get e
        rw [List.getElem?_map] at a b
        obtain ⟨x, ex, rfl⟩ := Option.map_eq_some_iff.mp a
        obtain ⟨y, ey, rfl⟩ := Option.map_eq_some_iff.mp b
        show rk (backD fs (renD fs x)) < rk (backD fs (renD fs y))
        rw [bk e1 x (List.mem_of_getElem? ex), bk e1 y (List.mem_of_getElem? ey)]
        exact k1 i gs e1 n x y ex ey
      · exact k2 _ (perm_idx h hl).1 }
end
end Up

namespace Up
open PySem PySem.Spec PyProof.Rows L2
/-! what laws that draw begin with -/
abbrev hm (m g : Addr) : Addr → Prop := fun a => a = m ∨ a = g
theorem MAt.hid {H : Hp} {m g : Addr} {b : Nat} (M : MAt H m g b) : Hid (hm m g) H := fun a c => by
  obtain ⟨c', cs, gs, n, h1, h2, h3, h4, h5, h6⟩ := M.ex
  rcases c with rfl | rfl
  · exact ⟨_, h1, fun vs z => by cases z⟩
  · exact ⟨_, h4, fun vs z => by cases z⟩
theorem MAt.chgN {H : Hp} {m g p : Addr} {b : Nat} {xs : List V} {o : HO} (M : MAt H m g b) (hp : H p = some (.lst xs)) (l : xs.length ≠ 64) (np : p ≠ m ∧ p ≠ g) : MAt (upd H p o) m g b := by
  obtain ⟨c, cs, gs, n, h1, h2, h3, h4, h5, h6⟩ := M.ex
  have cp : c ≠ p := fun z => by
    subst z
    rw [h2] at hp
    cases hp
    apply l
    unfold iL
    rw [List.length_map]
    exact h3
  exact ⟨c, cs, gs, n, by rw [upd_ne (fun z => np.1 z.symm)]; exact h1, by rw [upd_ne cp]; exact h2, h3, by rw [upd_ne (fun z => np.2 z.symm)]; exact h4, h5, h6⟩
theorem But.keep {m g : Addr} {H H' : Hp} (B : But m g H H') : Keep (hm m g) H H' := fun b o e n => B b o e (fun z => n (.inl z)) fun z => n (.inr z)
def SlR (cm : Cm) (P : Addr → Prop) (H : Hp) : List (Option Val) → List (Option V) → Prop
  | [], [] => True
  | none :: env, _ :: σ => SlR cm P H env σ
  | some x :: env, some v :: σ => Re cm P H v x ∧ SlR cm P H env σ
  | _, _ => False
theorem slots_mk {cm : Cm} {P : Addr → Prop} {H : Hp} (hd : Hid P H) : ∀ {env : List (Option Val)} {σ : List (Option V)}, SlR cm P H env σ → Slots cm P H σ env := by
  have k : ∀ {env : List (Option Val)} {σ : List (Option V)}, SlR cm P H env σ → σ.length = env.length ∧ ∀ (i : Nat) (x : Val), env[i]? = some (some x) → ∃ v, σ[i]? = some (some v) ∧ Re cm P H v x := by
    intro env
    induction env with
    | nil =>
      intro σ h
      cases σ with
      | nil => exact ⟨rfl, fun i x e => by simp at e⟩
      | cons a b => exact h.elim
    | cons a env ih =>
      intro σ h
      cases σ with
      | nil => cases a <;> exact h.elim
      | cons o σ =>
        cases a with
        | none =>
          obtain ⟨l, g⟩ := ih (show SlR cm P H env σ from h)
          refine ⟨congrArg (· + 1) l, fun i x e => ?_⟩
          cases i with
          | zero => cases e
          | succ i => exact g i x e
        | some y =>
          cases o with
          | none => exact h.elim
          | some v =>
            obtain ⟨r, h2⟩ := h
            obtain ⟨l, g⟩ := ih h2
            refine ⟨congrArg (· + 1) l, fun i x e => ?_⟩
            cases i with
            | zero => cases e; exact ⟨v, rfl, r⟩
            | succ i => exact g i x e
  exact fun {env σ} h => ⟨(k h).1, (k h).2, hd⟩
end Up

namespace Up
open PySem PySem.Spec PyProof.Rows L2
/-! ### expressions that draw: what holds whatever is drawn -/
abbrev DE := Addr → En → Nat → (Val → Nat → Prop) → Prop
abbrev DA := Addr → En → Nat → (List Val → Nat → Prop) → Prop
abbrev DB := Addr → En → Nat → (Bool → Nat → Prop) → Prop
structure Mid (cm : Cm) (P : Addr → Prop) (m g : Addr) (b : Nat) (H : Hp) : Prop where
  sub : ∀ a, hm m g a → P a
  tsub : ∀ p ∈ cm.tabs, P p.1
  at_ : MAt H m g b
  tabs : LamX.Tabs cm.tabs H
/-- all but the drawing's two objects and the tables of code objects stay -/
def ButT (cm : Cm) (m g : Addr) (H H' : Hp) : Prop := ∀ c o, H c = some o → c ≠ m → c ≠ g → (∀ p ∈ cm.tabs, c ≠ p.1) → H' c = some o
/-- draws were done, and no more -/
structure Go (cm : Cm) (m g : Addr) (H : Hp) (b : Nat) (H' : Hp) : Prop where
  but : ButT cm m g H H'
  at_ : MAt H' m g b
  tabs : LamX.Tabs cm.tabs H'
section
variable {P : Addr → Prop} {m g : Addr} {b b' b2 : Nat} {H H' H2 : Hp} {cm : Cm} {σ : L2.St} {env : En}
theorem Go.same (h : Mid cm P m g b H) (s : Same H H') : Go cm m g H b H' := ⟨fun c o e _ _ _ => s c o e, h.at_.same s, h.tabs.ext s⟩
theorem Go.refl (h : Mid cm P m g b H) : Go cm m g H b H := ⟨fun _ _ e _ _ _ => e, h.at_, h.tabs⟩
theorem Go.trans (a : Go cm m g H b H') (k : Go cm m g H' b2 H2) : Go cm m g H b2 H2 := ⟨fun c o e n1 n2 n3 => k.but c o (a.but c o e n1 n2 n3) n1 n2 n3, k.at_, k.tabs⟩
theorem Go.sameR (a : Go cm m g H b H') (s : Same H' H2) : Go cm m g H b H2 := ⟨fun c o e n1 n2 n3 => s c o (a.but c o e n1 n2 n3), a.at_.same s, a.tabs.ext s⟩
theorem Go.sameL (s : Same H H') (k : Go cm m g H' b2 H2) : Go cm m g H b2 H2 := ⟨fun c o e n1 n2 n3 => k.but c o (s c o e) n1 n2 n3, k.at_, k.tabs⟩
theorem Mid.go (h : Mid cm P m g b H) (a : Go cm m g H b' H') : Mid cm P m g b' H' := ⟨h.sub, h.tsub, a.at_, a.tabs⟩
theorem Mid.same (h : Mid cm P m g b H) (s : Same H H') : Mid cm P m g b H' := ⟨h.sub, h.tsub, h.at_.same s, h.tabs.ext s⟩
theorem Mid.stay (h : Mid cm P m g b H) (a : Go cm m g H b' H') {c : Addr} {o : HO} (e : H c = some o) (n : ¬ P c) : H' c = some o := a.but c o e (fun z => n (h.sub c (.inl z))) (fun z => n (h.sub c (.inr z))) fun p hp z => n (z ▸ h.tsub p hp)
theorem Mid.kp (h : Mid cm P m g b H) (a : Go cm m g H b' H') : Keep P H H' := fun _ _ e n => h.stay a e n
/-- what is no table of the text's -/
theorem Mid.noT (h : Mid cm P m g b H) {c : Addr} {o : HO} (e : H c = some o) (n : ∀ ps, o ≠ .tbl ps) : ∀ p ∈ cm.tabs, c ≠ p.1 := fun p hp z => by
  obtain ⟨ps, e2, _⟩ := h.tabs p hp
  rw [← z, e] at e2
  exact n ps (Option.some.inj e2)
theorem Go.nt (a : Go cm m g H b H') {c : Addr} (n : NT H c) : NT H' c := by
  by_cases z : hm m g c
  · exact a.at_.hid c z
  · by_cases t : ∃ p ∈ cm.tabs, c = p.1
    · obtain ⟨p, hp, e⟩ := t
      obtain ⟨ps, e2, _⟩ := a.tabs p hp
      exact ⟨.tbl ps, (by rw [e]; exact e2), fun vs q => nomatch q⟩
    · obtain ⟨o, e, no⟩ := n
      exact ⟨o, a.but c o e (fun y => z (.inl y)) (fun y => z (.inr y)) fun p hp q => t ⟨p, hp, q⟩, no⟩
theorem Go.hid (a : Go cm m g H b H') (h : Hid P H) : Hid P H' := fun c p => a.nt (h c p)
theorem hid_but (B : But m g H H') (M : MAt H' m g b) (h : Hid P H) : Hid P H' := fun c p => by
  by_cases z : hm m g c
  · exact M.hid c z
  · obtain ⟨o, e, no⟩ := h c p
    exact ⟨o, B c o e (fun y => z (.inl y)) fun y => z (.inr y), no⟩
theorem Go.free (a : Go cm m g H b H') {c : Addr} (n : H' c = none) : H c = none := by
  cases e : H c with
  | none => rfl
  | some o =>
    have n1 := a.at_.ne n
    have n3 : ∀ p ∈ cm.tabs, c ≠ p.1 := fun p hp z => by
      obtain ⟨ps, e2, _⟩ := a.tabs p hp
      rw [← z, n] at e2
      cases e2
    rw [a.but c o e n1.1 n1.2 n3] at n
    cases n
theorem Slots.go (h : Mid cm P m g b H) (a : Go cm m g H b' H') (s : Slots cm P H σ env) : Slots cm P H' σ env := s.keep (h.kp a) (a.hid s.hid)
/-- of all but the two: the tables stay -/
theorem tabs_but {T : List (Addr × Str)} (t : LamX.Tabs T H) (B : But m g H H') (M : MAt H m g b) : LamX.Tabs T H' := fun p hp => by
  obtain ⟨c, cs, gs, n, k1, _, _, k4, _⟩ := M.ex
  have keep : ∀ {x : Addr} {o : HO}, H x = some o → (∀ kvs, o ≠ .dK kvs) → (∀ xs, o ≠ .lst xs) → H' x = some o := fun {x o} e n1 n2 => B x o e (fun z => by
    rw [z, k1] at e
    exact n1 _ (Option.some.inj e).symm) fun z => by
    rw [z, k4] at e
    exact n2 _ (Option.some.inj e).symm
  obtain ⟨ps, e, h2, h3⟩ := t p hp
  refine ⟨ps, keep e (fun _ z => nomatch z) (fun _ z => nomatch z), h2, fun pos cv hc => ?_⟩
  obtain ⟨d, e1, e2⟩ := h3 pos cv hc
  exact ⟨d, e1, keep e2 (fun _ z => by unfold LamX.CodeO at z; cases z) (fun _ z => by unfold LamX.CodeO at z; cases z)⟩
/-- what is no table is changed -/
theorem tabs_put {T : List (Addr × Str)} (t : LamX.Tabs T H) {D : Addr} {o : HO} (hD : ∀ p ∈ T, D ≠ p.1) (hl : ∃ xs, H D = some (.lst xs)) : LamX.Tabs T (upd H D o) := fun p hp => by
  obtain ⟨ps, e, h2, h3⟩ := t p hp
  obtain ⟨xs, hl⟩ := hl
  refine ⟨ps, by rw [upd_ne (Ne.symm (hD p hp))]; exact e, h2, fun pos cv hc => ?_⟩
  obtain ⟨d, e1, e2⟩ := h3 pos cv hc
  refine ⟨d, e1, ?_⟩
  rw [upd_ne fun z => ?_]
  · exact e2
  · rw [z, hl] at e2
    unfold LamX.CodeO at e2
    cases e2
theorem Go.of_but (h : Mid cm P m g b H) (B : But m g H H') (M : MAt H' m g b') : Go cm m g H b' H' := ⟨fun c o e n1 n2 _ => B c o e n1 n2, M, tabs_but h.tabs B h.at_⟩
end
def tD (cm : Cm) (f : DE) : TE := fun σ H Q => ∃ (P : Addr → Prop) (m g : Addr) (b : Nat) (env : En) (R : Val → Nat → Prop), Mid cm P m g b H ∧ Slots cm P H σ env ∧ f m env b R ∧ ∀ v x b' H', Go cm m g H b' H' → Re cm P H' v x → R x b' → Q v H'
def tDT (cm : Cm) (f : DB) : TT := fun σ H Q => ∃ (P : Addr → Prop) (m g : Addr) (b : Nat) (env : En) (R : Bool → Nat → Prop), Mid cm P m g b H ∧ Slots cm P H σ env ∧ f m env b R ∧ ∀ k b' H', Go cm m g H b' H' → R k b' → Q k H'
def tDA (cm : Cm) (f : DA) : TA := fun σ H Q => ∃ (P : Addr → Prop) (m g : Addr) (b : Nat) (env : En) (R : List Val → Nat → Prop), Mid cm P m g b H ∧ Slots cm P H σ env ∧ f m env b R ∧ ∀ vs xs b' H', Go cm m g H b' H' → Res cm P H' vs xs → R xs b' → Q vs H'
abbrev VD (X : Cx) (cm : Cm) (e : Expr) (f : DE) : Prop := PE X e (tD cm f)
abbrev VDT (X : Cx) (cm : Cm) (e : Expr) (f : DB) : Prop := PT X e (tDT cm f)
abbrev VDA (X : Cx) (cm : Cm) (es : List Expr) (f : DA) : Prop := PA X es (tDA cm f)
abbrev VDW (X : Cx) (cm : Cm) (e : Expr) (f : DB) : Prop := PW X e (tDT cm f)
section
variable {X : Cx} {cm : Cm} {a b c e : Expr} {es : List Expr} {f g h : DE} {pos : Pos}
def pu (f : En → Option Val) : DE := fun _ env b R => ∃ x, f env = some x ∧ R x b
def puT (f : En → Option Bool) : DB := fun _ env b R => ∃ k, f env = some k ∧ R k b
def puA (f : En → Option (List Val)) : DA := fun _ env b R => ∃ xs, f env = some xs ∧ R xs b
theorem vd_pu {f : En → Option Val} (h : VE X cm e f) : VD X cm e (pu f) := h.weak fun σ H Q ⟨P, m, g, b, env, R, M, hs, ⟨x, ex, r⟩, q⟩ => ⟨P, env, x, hs, ex, fun v H1 s1 r1 => q v x b H1 (Go.same M s1) r1 r⟩
theorem vdt_pu {f : En → Option Bool} (h : VT X cm e f) : VDT X cm e (puT f) := h.weak fun σ H Q ⟨P, m, g, b, env, R, M, hs, ⟨x, ex, r⟩, q⟩ => ⟨P, env, x, hs, ex, fun H1 s1 => q x b H1 (Go.same M s1) r⟩
theorem vda_pu {f : En → Option (List Val)} (h : VA X cm es f) : VDA X cm es (puA f) := h.weak fun σ H Q ⟨P, m, g, b, env, R, M, hs, ⟨x, ex, r⟩, q⟩ => ⟨P, env, x, hs, ex, fun v H1 s1 r1 => q v x b H1 (Go.same M s1) r1 r⟩
theorem vdw_pu {f : En → Option Bool} (h : VW X cm e f) : VDW X cm e (puT f) := h.weak fun σ H Q ⟨P, m, g, b, env, R, M, hs, ⟨x, ex, r⟩, q⟩ => ⟨P, env, x, hs, ex, fun H1 s1 => q x b H1 (Go.same M s1) r⟩
def bin2D (op : Val → Val → Option Val) (f g : DE) : DE := fun m env b R => f m env b fun x b1 => g m env b1 fun y b2 => ∃ z, op x y = some z ∧ R z b2
theorem tD_two {r : R2} {op : Val → Val → Option Val} (o : OpV cm r op) (σ : L2.St) (H : Hp) (Q : VK) (q : tD cm (bin2D op f g) σ H Q) : tOp r (tD cm f) (tD cm g) σ H Q := by
  obtain ⟨P, m, gg, b, env, R, M, hs, hf, q⟩ := q
  refine ⟨P, m, gg, b, env, _, M, hs, hf, fun v x b1 H1 G1 rx k1 => ⟨P, m, gg, b1, env, _, M.go G1, hs.go M G1, k1, fun u y b2 H2 G2 ry ⟨z, ez, k2⟩ => ?_⟩⟩
  exact o P x y z v u H2 Q ez (rx.keep ((M.go G1).kp G2)) ry fun v' H3 s3 r3 => q v' z b2 H3 ((G1.trans G2).sameR s3) r3 k2
theorem vd_op {op : Operator} {r : R2} {k : Val → Val → Option Val} (ho : OpR X (binaryOp op) r) (o : OpV cm r k) (ha : VD X cm a f) (hb : VD X cm b g) : VD X cm (.BinOp a op b pos) (bin2D k f g) := (pe_op ho ha hb).weak (tD_two o)
theorem vd_cmp {op : CmpOp} {r : R2} {k : Val → Val → Option Val} (ho : OpR X (compareOp op) r) (o : OpV cm r k) (ha : VD X cm a f) (hb : VD X cm b g) (hm : behindInMarks op b = false) : VD X cm (.Compare a [op] [b] pos) (bin2D k f g) := (pe_cmpR ho ha hb hm).weak (tD_two o)
theorem vd_ix {r : R2} {k : Val → Val → Option Val} (hr : IxR X r) (o : OpV cm r k) (ha : VD X cm a f) (hb : VD X cm b g) (hs : PlainIx b) : VD X cm (.Subscript a b pos) (bin2D k f g) := (pe_ix hr ha hb hs).weak (tD_two o)
def tstD (f : DE) : DB := fun m env b R => f m env b fun x b1 => ∃ k, isB x = some k ∧ R k b1
theorem tD_test (σ : L2.St) (H : Hp) (Q : Bool → Hp → Prop) (q : tDT cm (tstD f) σ H Q) : ∀ R : VK, (∀ k H', Q k H' → R (.bl k) H') → tD cm f σ H R := fun R hR => by
  obtain ⟨P, m, gg, b, env, S, M, hs, hf, q⟩ := q
  refine ⟨P, m, gg, b, env, _, M, hs, hf, fun v x b1 H1 G1 rx ⟨k, ek, k1⟩ => ?_⟩
  cases isB_some ek
  cases Re.bl_ rx
  exact hR _ _ (q k b1 H1 G1 k1)
theorem vdt_cmp {op : CmpOp} {r : R2} {k : Val → Val → Option Val} (ho : OpR X (compareOp op) r) (o : OpV cm r k) (ha : VD X cm a f) (hb : VD X cm b g) (hm : behindInMarks op b = false) : VDT X cm (.Compare a [op] [b] pos) (tstD (bin2D k f g)) :=
  (pt_cmpR ho ha hb hm).weak fun σ H Q q => tD_two o σ H _ (tD_test σ H Q q _ fun k H' q => ⟨k, rfl, q⟩)
theorem vdt_val (h : VD X cm e f) (he : ∀ whole, isTrue e X.env whole = (do let v ← whole; standAt e.pos; holding [v] (truthy v)) := by intro _; rfl) : VDT X cm e (tstD f) :=
  (pt_val h he).weak fun σ H Q q => tD_test σ H Q q _ fun k H' q => ⟨k, rfl, q⟩
def notD (f : DB) : DB := fun m env b R => f m env b fun k b1 => R (!k) b1
def andD (f g : DB) : DB := fun m env b R => f m env b fun k b1 => if k = true then g m env b1 R else R false b1
def orD (f g : DB) : DB := fun m env b R => f m env b fun k b1 => if k = true then R true b1 else g m env b1 R
theorem vdt_not {f : DB} (ha : VDT X cm a f) : VDT X cm (.UnaryOp .Not a pos) (notD f) := (pt_not ha).weak fun σ H Q ⟨P, m, gg, b, env, R, M, hs, hf, q⟩ =>
  ⟨P, m, gg, b, env, _, M, hs, hf, fun k b1 H1 G1 k1 => q _ b1 H1 G1 k1⟩
theorem vdw_and1 {f : DB} (ha : VDT X cm a f) : VDW X cm (.BoolOp .And [a] pos) f := pw_and1 ha
theorem vdw_or1 {f : DB} (ha : VDT X cm a f) : VDW X cm (.BoolOp .Or [a] pos) f := pw_or1 ha
theorem vdw_and {f g : DB} {rest : List Expr} (ha : VDT X cm a f) (hb : VDW X cm (.BoolOp .And (b :: rest) pos) g) : VDW X cm (.BoolOp .And (a :: b :: rest) pos) (andD f g) :=
  (pw_and ha hb).weak fun σ H Q ⟨P, m, gg, b, env, R, M, hs, hf, q⟩ => by
    refine ⟨P, m, gg, b, env, _, M, hs, hf, fun k b1 H1 G1 k1 => ?_⟩
    by_cases c : k = true
    · rw [if_pos c] at k1 ⊢
      exact ⟨P, m, gg, b1, env, R, M.go G1, hs.go M G1, k1, fun k b2 H2 G2 k2 => q k b2 H2 (G1.trans G2) k2⟩
    · rw [if_neg c] at k1 ⊢
      exact q false b1 H1 G1 k1
theorem vdw_or {f g : DB} {rest : List Expr} (ha : VDT X cm a f) (hb : VDW X cm (.BoolOp .Or (b :: rest) pos) g) : VDW X cm (.BoolOp .Or (a :: b :: rest) pos) (orD f g) :=
  (pw_or ha hb).weak fun σ H Q ⟨P, m, gg, b, env, R, M, hs, hf, q⟩ => by
    refine ⟨P, m, gg, b, env, _, M, hs, hf, fun k b1 H1 G1 k1 => ?_⟩
    by_cases c : k = true
    · rw [if_pos c] at k1 ⊢
      exact q true b1 H1 G1 k1
    · rw [if_neg c] at k1 ⊢
      exact ⟨P, m, gg, b1, env, R, M.go G1, hs.go M G1, k1, fun k b2 H2 G2 k2 => q k b2 H2 (G1.trans G2) k2⟩
def iteD (c : DB) (f g : DE) : DE := fun m env b R => c m env b fun k b1 => if k = true then f m env b1 R else g m env b1 R
theorem vd_ite {k : DB} (hc : VDT X cm c k) (ha : VD X cm a f) (hb : VD X cm b g) : VD X cm (.IfExp c a b pos) (iteD k f g) :=
  (pe_ifExp hc ha hb).weak fun σ H Q ⟨P, m, gg, b, env, R, M, hs, hf, q⟩ => by
    refine ⟨P, m, gg, b, env, _, M, hs, hf, fun k b1 H1 G1 k1 => ?_⟩
    by_cases c : k = true
    · rw [if_pos c] at k1 ⊢
      exact ⟨P, m, gg, b1, env, R, M.go G1, hs.go M G1, k1, fun v x b2 H2 G2 => q v x b2 H2 (G1.trans G2)⟩
    · rw [if_neg c] at k1 ⊢
      exact ⟨P, m, gg, b1, env, R, M.go G1, hs.go M G1, k1, fun v x b2 H2 G2 => q v x b2 H2 (G1.trans G2)⟩
/-! arguments, displays, calls -/
def consD (f : DE) (k : DA) : DA := fun m env b R => f m env b fun x b1 => k m env b1 fun xs b2 => R (x :: xs) b2
theorem vda_nil : VDA X cm [] (puA noF) := vda_pu va_nil
theorem vda_cons {k : DA} (ha : VD X cm e f) (hr : VDA X cm es k) (hs : starEach (e :: es) X.env = (false, eval e X.env) :: starEach es X.env := by rfl) : VDA X cm (e :: es) (consD f k) :=
  (pa_cons ha hr hs).weak fun σ H Q ⟨P, m, gg, b, env, R, M, hs, hf, q⟩ =>
    ⟨P, m, gg, b, env, _, M, hs, hf, fun v x b1 H1 G1 rx k1 => ⟨P, m, gg, b1, env, _, M.go G1, hs.go M G1, k1, fun vs xs b2 H2 G2 rs k2 => q (v :: vs) (x :: xs) b2 H2 (G1.trans G2) (.cons (rx.keep ((M.go G1).kp G2)) rs) k2⟩⟩
def tupD (k : DA) : DE := fun m env b R => k m env b fun xs b1 => xs.length ≤ most ∧ R (.tup xs) b1
def lstD (k : DA) : DE := fun m env b R => k m env b fun xs b1 => xs.length ≤ most ∧ R (.lst xs) b1
theorem vd_tup {x1} {k : DA} (h : VDA X cm es k) : VD X cm (.Tuple es x1 pos) (tupD k) := (pe_tup h).weak fun σ H Q ⟨P, m, gg, b, env, R, M, hs, hf, q⟩ => by
  refine ⟨P, m, gg, b, env, _, M, hs, hf, fun vs xs b1 H1 G1 r1 ⟨l, k1⟩ => ⟨by rw [Res.length r1]; exact Nat.le_of_lt (most_line l), fun p np => ?_⟩⟩
  have s2 : Same H1 (upd H1 p (.tup vs)) := fun b o eb => by rw [upd_ne (ne_of_none eb np)]; exact eb
  exact q _ _ b1 _ (G1.sameR s2) (.tup ((G1.hid hs.hid).new np) upd_same (r1.same s2)) k1
theorem vd_lst {k : DA} (h : VDA X cm es k) : VD X cm (.List es pos) (lstD k) := (pe_lst h).weak fun σ H Q ⟨P, m, gg, b, env, R, M, hs, hf, q⟩ => by
  refine ⟨P, m, gg, b, env, _, M, hs, hf, fun vs xs b1 H1 G1 r1 ⟨l, k1⟩ => ⟨by rw [Res.length r1]; exact Nat.le_of_lt (most_line l), fun p np => ?_⟩⟩
  have s2 : Same H1 (upd H1 p (.lst vs)) := fun b o eb => by rw [upd_ne (ne_of_none eb np)]; exact eb
  exact q _ _ b1 _ (G1.sameR s2) (.lst ((G1.hid hs.hid).new np) upd_same (r1.same s2)) k1
def appD (op : List Val → Option Val) (k : DA) : DE := fun m env b R => k m env b fun xs b1 => ∃ z, op xs = some z ∧ R z b1
theorem tD_call {r : List V → Hp → VK → Prop} {op : List Val → Option Val} {k : DA} (o : CaV cm r op) (σ : L2.St) (H : Hp) (Q : VK) (q : tD cm (appD op k) σ H Q) : tCB r (tDA cm k) σ H Q := by
  obtain ⟨P, m, gg, b, env, R, M, hs, hf, q⟩ := q
  exact ⟨P, m, gg, b, env, _, M, hs, hf, fun vs xs b1 H1 G1 r1 ⟨z, ez, k1⟩ => o P xs z vs H1 Q (G1.hid hs.hid) ez r1 fun v' H2 s2 r2 => q v' z b1 H2 (G1.sameR s2) r2 k1⟩
theorem vd_callB {id : String} {r : List V → Hp → VK → Prop} {op : List Val → Option Val} {k : DA} {x : Str} {p : Pos} (hc : CallR X (.builtin id) r) (o : CaV cm r op) (hg : Gl X x) (hm : X.mg x = none) (hv : bootBuiltins x = some (.builtin id)) (ha : VDA X cm (e :: es) k)
    (hn : x ≠ "__name__" := by decide) (hdb : (x == ("__debug__" : Str)) = false := by decide) (he : starEach (e :: es) X.env = (false, eval e X.env) :: starEach es X.env := by rfl) (hpl : (backTo pos (starEach es X.env)).any (·.1) = false := by rfl) :
    VD X cm (.Call (.Name x p) (e :: es) [] pos) (appD op k) := (pe_callB hc hg hm hv ha hn hdb he hpl).weak (tD_call o)
theorem vd_callTy {T : String} {r : List V → Hp → VK → Prop} {op : List Val → Option Val} {k : DA} {x : Str} {p : Pos} (hc : CallR X (.type T) r) (o : CaV cm r op) (hg : Gl X x) (hm : X.mg x = none) (hv : bootBuiltins x = some (.type T)) (ha : VDA X cm (e :: es) k)
    (hn : x ≠ "__name__" := by decide) (hdb : (x == ("__debug__" : Str)) = false := by decide) (he : starEach (e :: es) X.env = (false, eval e X.env) :: starEach es X.env := by rfl) (hpl : (backTo pos (starEach es X.env)).any (·.1) = false := by rfl) :
    VD X cm (.Call (.Name x p) (e :: es) [] pos) (appD op k) := (pe_callTy hc hg hm hv ha hn hdb he hpl).weak (tD_call o)
/-! ### calls of defs -/
abbrev DD := Addr → List Val → Nat → (Val → Nat → Prop) → Prop
/-- the promise of a def that draws -/
def spD (cm : Cm) (F : DD) : Sp := fun vs H Q _ => ∃ (P : Addr → Prop) (m g : Addr) (b : Nat) (xs : List Val) (R : Val → Nat → Prop), Mid cm P m g b H ∧ Hid P H ∧ Res cm P H vs xs ∧ F m xs b R ∧ ∀ v x b' H', Go cm m g H b' H' → Re cm P H' v x → R x b' → Q v H'
structure Ddr (P : Program) (w : World) (K : PySem.W.Frag) (mg : Str → Option Value) (base : Heap) (cm : Cm) (x : Str) (k : Nat) (ps : List Str) (F : DD) (f : Addr) (fd : FuncData) : Prop where
  ok : FnOk P w K mg base CX0 k f fd ps (spD cm F)
  at_ : mg x = some (.ref f)
  kp : PySem.W.keepIn K (.ref f) = true
  bd : Binds K fd ps []
theorem Ddr.mono {P : Program} {w : World} {K : PySem.W.Frag} {mg : Str → Option Value} {base : Heap} {cm : Cm} {x : Str} {k j : Nat} {ps : List Str} {F : DD} {f : Addr} {fd : FuncData} (d : Ddr P w K mg base cm x k ps F f fd) (h : k ≤ j) : Ddr P w K mg base cm x j ps F f fd := ⟨d.ok.mono h, d.at_, d.kp, d.bd⟩
def callD (F : DD) (k : DA) : DE := fun m env b R => k m env b fun xs b1 => F m xs b1 R
theorem vd_callD {k : Nat} {ps : List Str} {F : DD} {x : Str} {p : Pos} {t : DA} {fa : Addr} {fd : FuncData} (d : Ddr X.prog X.w X.K X.mg X.base cm x k ps F fa fd) (hr : Room k X.A) (hg : Gl X x) (ha : VDA X cm (e :: es) t) (hdb : (x == ("__debug__" : Str)) = false := by decide)
    (he : starEach (e :: es) X.env = (false, eval e X.env) :: starEach es X.env := by rfl) (hpl : (backTo pos (starEach es X.env)).any (·.1) = false := by rfl) : VD X cm (.Call (.Name x p) (e :: es) [] pos) (callD F t) :=
  (pe_call d.ok hr hg d.at_ d.kp d.bd .nil pass0 ha hdb he hpl).weak fun σ H Q ⟨P, m, gg, b, env, R, M, hs, hf, q⟩ => by
    refine ⟨P, m, gg, b, env, _, M, hs, hf, fun vs xs b1 H1 G1 r1 k1 => ?_⟩
    show spD cm F (vs ++ []) H1 Q _
    rw [List.append_nil]
    exact ⟨P, m, gg, b1, xs, R, M.go G1, G1.hid hs.hid, r1, k1, fun v x b2 H2 G2 => q v x b2 H2 (G1.trans G2)⟩
/-- a def that does not draw, whose arguments do -/
theorem vd_callP {k : Nat} {ps : List Str} {F : List Val → Option Val} {x : Str} {p : Pos} {t : DA} {fa : Addr} {fd : FuncData} (d : Df X.prog X.w X.K X.mg X.base cm x k ps F fa fd) (hr : Room k X.A) (hg : Gl X x) (ha : VDA X cm (e :: es) t) (hdb : (x == ("__debug__" : Str)) = false := by decide)
    (he : starEach (e :: es) X.env = (false, eval e X.env) :: starEach es X.env := by rfl) (hpl : (backTo pos (starEach es X.env)).any (·.1) = false := by rfl) : VD X cm (.Call (.Name x p) (e :: es) [] pos) (appD F t) :=
  (pe_call d.ok hr hg d.at_ d.kp d.bd .nil pass0 ha hdb he hpl).weak fun σ H Q ⟨P, m, gg, b, env, R, M, hs, hf, q⟩ => by
    refine ⟨P, m, gg, b, env, _, M, hs, hf, fun vs xs b1 H1 G1 r1 ⟨z, ez, k1⟩ => ?_⟩
    show spV cm F (vs ++ []) H1 Q _
    rw [List.append_nil]
    exact ⟨P, xs, z, G1.hid hs.hid, r1, ez, fun v H2 s2 r2 => q v z b1 H2 (G1.sameR s2) r2 k1⟩
theorem FnOk.imp2 {P : Program} {w : World} {K : PySem.W.Frag} {mg : Str → Option Value} {base : Heap} {CX : CXT} {k : Nat} {f : Addr} {fd : FuncData} {ps : List Str} {sp sp' : Sp} (F : FnOk P w K mg base CX k f fd ps sp) (h : ∀ vs H Q E, sp' vs H Q E → sp vs H Q E) : FnOk P w K mg base CX k f fd ps sp' :=
  ⟨fun vs H Q E k => F.len vs H Q E (h _ _ _ _ k), fun A outer s H ar us vs Q E hr e0 hb rv k => F.run A outer s H ar us vs Q E hr e0 hb rv (h _ _ _ _ k)⟩
/-- one draw -/
def drawF : DD := fun m xs b R => ∃ lim : Int, xs = [.loc m, .int lim] ∧ 0 < lim ∧ lim < 1000000 ∧ b < 1000000 ∧ ∀ d : Int, 0 ≤ d → d < lim → R (.int d) (b + 1)
theorem draw_sp (vs : List V) (H : Hp) (Q : VK) (E : XK) (h : spD cm drawF vs H Q E) : spDrw vs H Q E := by
  obtain ⟨P, m, g, b, xs, R, M, hd, rs, ⟨lim, rfl, l0, l1, hb, k⟩, q⟩ := h
  obtain ⟨v, u, rfl, r1, r2⟩ := Res.two rs
  cases Re.int_ r2
  cases r1
  exact ⟨m, g, lim, b, rfl, l0, l1, hb, M.at_, fun d H' d0 d1 M' B => q (.int d) (.int d) (b + 1) H' (Go.of_but M B M') (.int d) (k d d0 d1)⟩
end
end Up

namespace Up
open PySem PySem.Spec PyProof.Rows L2
/-! ### for laws without _law_talk: what part ltalk says of rows -/
def natsV (fs : List Nat) : Val := .lst (fs.map fun n : Nat => .int (n : Int))
theorem nats_re {cm : Cm} {P : Addr → Prop} {H : Hp} : ∀ fs : List Nat, Res cm P H (nL fs) (fs.map fun n : Nat => .int (n : Int))
  | [] => .nil
  | n :: fs => .cons (.int _) (nats_re fs)
theorem rl_re {cm : Cm} {P : Addr → Prop} {H : Hp} {D : Addr} {rs : List Addr} {gss : List (List Dg)} (hd : Hid P H) (nD : ¬ P D) (nr : ∀ t ∈ rs, ¬ P t) (r : RL H D rs gss) : Re cm P H (.ref D) (tLstV gss) := by
  refine .lst nD r.at_ (Res.of (by rw [List.length_map, List.length_map]; exact r.len) fun i v x e1 e2 => ?_)
  rw [List.getElem?_map] at e1 e2
  obtain ⟨t, et, rfl⟩ := Option.map_eq_some_iff.mp e1
  obtain ⟨gs, eg, rfl⟩ := Option.map_eq_some_iff.mp e2
  obtain ⟨qs, h1, h2, h3⟩ := r.row i t gs et eg
  refine .lst (nr t (List.mem_of_getElem? et)) h1 (Res.of (by rw [List.length_map, List.length_map]; exact h2) fun j v x e3 e4 => ?_)
  rw [List.getElem?_map] at e3 e4
  obtain ⟨q, eq, rfl⟩ := Option.map_eq_some_iff.mp e3
  obtain ⟨g, eg', rfl⟩ := Option.map_eq_some_iff.mp e4
  have k := h3 j q g eq eg'
  exact .tup (hd.tup k) k (.cons (.str _) (.cons (.int _) .nil))
/-- a list by a list -/
theorem lcGo_map {α : Type} {bnd : Val → Option (List (Nat × Val))} {fe : En → Option Val} {env : En} {x y : α → Val} : ∀ {as : List α}, (∀ a ∈ as, ∃ ps, bnd (x a) = some ps ∧ fe (setE env ps) = some (y a)) → lcGo bnd yesF fe env (as.map x) = some (as.map y)
  | [], _ => rfl
  | a :: as, h => by
    obtain ⟨ps, e1, e2⟩ := h a (List.mem_cons_self ..)
    have ih := lcGo_map (as := as) fun b hb => h b (List.mem_cons_of_mem _ hb)
    show (bnd (x a)).bind _ = _
    rw [e1]
    show (fe (setE env ps)).bind _ = _
    rw [e2]
    show (lcGo bnd yesF fe env (as.map x)).bind _ = _
    rw [ih]
    rfl
theorem lcF_map {α : Type} {fi : En → Option (List Val)} {bnd : Val → Option (List (Nat × Val))} {fe : En → Option Val} {is : List Nat} {env : En} {x y : α → Val} {as : List α} (hi : fi env = some (as.map x)) (l : as.length ≤ most)
    (h : ∀ a ∈ as, ∃ ps, bnd (x a) = some ps ∧ fe (setE (wipeE env is) ps) = some (y a)) : lcF fi bnd yesF fe is env = some (as.map y) := by
  unfold lcF
  rw [hi]
  show (if (as.map x).length ≤ most then _ else none) = _
  rw [if_pos (by rw [List.length_map]; exact l)]
  exact lcGo_map h
theorem atI_n {α : Type} {xs : List α} {i : Nat} {x : α} (e : xs[i]? = some x) : atI xs (i : Int) = some x := by
  unfold atI ixN
  have lt := (List.getElem?_eq_some_iff.mp e).1
  rw [if_pos (by omega), if_pos (by omega)]
  exact e
end Up

namespace Up
open PySem PySem.Spec PyProof.Rows L2
/-! ### iterators and comprehensions that draw -/
def tID (cm : Cm) (f : DA) : TI := fun σ H T => ∃ (P : Addr → Prop) (m g : Addr) (b : Nat) (env : En) (R : List Val → Nat → Prop), Mid cm P m g b H ∧ Slots cm P H σ env ∧ f m env b R ∧ ∀ J H' b' xs, Go cm m g H b' H' → R xs b' → WalkV cm P J xs H' → T J H'
abbrev VDI (X : Cx) (cm : Cm) (tg it : Expr) (f : DA) : Prop := PI X tg it (tID cm f)
section
variable {X : Cx} {cm : Cm} {a b c e : Expr} {es : List Expr} {pos : Pos}
theorem vdi_pu {tg it : Expr} {f : En → Option (List Val)} (h : VI X cm tg it f) : VDI X cm tg it (puA f) := h.weak fun σ H T ⟨P, m, g, b, env, R, M, hs, ⟨xs, ex, r⟩, q⟩ => ⟨P, env, xs, hs, ex, fun J H' s w => q J H' b xs (Go.same M s) r w⟩
def rng1D (k : DA) : DA := fun m env b R => k m env b fun xs b1 => ∃ j : Int, xs = [.int j] ∧ -1000000 ≤ j ∧ j ≤ 1000000 ∧ R (rangeV 0 j.toNat) b1
theorem vdi_range1 {tg : Expr} {p : Pos} {k : DA} (hg : Gl X "range") (hm : X.mg "range" = none) (ha : VDA X cm [a] k) (hs : starEach [a] X.env = [(false, eval a X.env)] := by rfl) : VDI X cm tg (.Call (.Name "range" p) [a] [] pos) (rng1D k) :=
  (pi_range1 hg hm ha hs).weak fun σ H T ⟨P, m, g, b, env, R, M, hs, hf, q⟩ => by
    refine ⟨P, m, g, b, env, _, M, hs, hf, fun vs xs b1 H1 G1 r1 ⟨j, ej, l1, l2, k1⟩ => ?_⟩
    subst ej
    obtain ⟨v, rfl, r2⟩ := Res.one r1
    cases Re.int_ r2
    exact ⟨j, rfl, by omega, by omega, q _ H1 b1 _ G1 k1 vi_rng⟩
end
def TtD (cm : Cm) (tt : TT) (f : DB) : Prop := ∀ (P : Addr → Prop) (m g : Addr) (b : Nat) (env : En) (σ : L2.St) (H : Hp) (R : Bool → Nat → Prop) (Q : Bool → Hp → Prop), Mid cm P m g b H → Slots cm P H σ env → f m env b R → (∀ k b' H', Go cm m g H b' H' → R k b' → Q k H') → tt σ H Q
def yesD : DB := fun _ _ b R => R true b
theorem ttd_yes {cm : Cm} : TtD cm tYes yesD := fun P m g b env σ H R Q M hs h q => q true b H (Go.refl M) h
theorem ttd_of {cm : Cm} {f : DB} : TtD cm (tDT cm f) f := fun P m g b env σ H R Q M hs h q => ⟨P, m, g, b, env, R, M, hs, h, q⟩
def lcDGo (bnd : Val → Option (List (Nat × Val))) (ft : DB) (fe : DE) (env : En) (m : Addr) (R : List Val → Nat → Prop) : List Val → Nat → List Val → Prop
  | [], b, acc => R acc b
  | x :: xs, b, acc => ∃ ps, bnd x = some ps ∧ ft m (setE env ps) b fun k b1 => if k = true then fe m (setE env ps) b1 fun y b2 => lcDGo bnd ft fe env m R xs b2 (acc ++ [y]) else lcDGo bnd ft fe env m R xs b1 acc
def lcD (fi : DA) (bnd : Val → Option (List (Nat × Val))) (ft : DB) (fe : DE) (vs : List Nat) : DA := fun m env b R => fi m env b fun xs b1 => xs.length ≤ 63 ∧ lcDGo bnd ft fe (wipeE env vs) m R xs b1 []
/-- a new list -/
def tND (cm : Cm) (f : DA) : TE := fun σ H Q => ∃ (P : Addr → Prop) (m g : Addr) (b : Nat) (env : En) (R : List Val → Nat → Prop), Mid cm P m g b H ∧ Slots cm P H σ env ∧ f m env b R ∧ ∀ a vs xs b' H', Go cm m g H b' H' → H a = none → H' a = some (.lst vs) → Res cm (fun b => P b ∨ b = a) H' vs xs → xs.length ≤ most → R xs b' → Q (.ref a) H'
abbrev VND (X : Cx) (cm : Cm) (e : Expr) (f : DA) : Prop := PE X e (tND cm f)
theorem Mid.own {cm : Cm} {P : Addr → Prop} {m g : Addr} {b : Nat} {H : Hp} (h : Mid cm P m g b H) (D : Addr) : Mid cm (fun c => P c ∨ c = D) m g b H := ⟨fun a c => .inl (h.sub a c), fun p hp => .inl (h.tsub p hp), h.at_, h.tabs⟩
theorem tLcD_of {cm : Cm} {fi : DA} {g : TG} {bnd : Val → Option (List (Nat × Val))} {is vs : List Nat} {tt : TT} {ft : DB} {fe : DE} (hg : TgV cm g bnd is) (hi : ∀ i ∈ is, i ∈ vs) (ht : TtD cm tt ft) (σ : L2.St) (H : Hp) (Q : VK) (q : tND cm (lcD fi bnd ft fe vs) σ H Q) :
    tLc (tID cm fi) g tt (tD cm fe) vs σ H Q := by
  obtain ⟨P, m, gg, b, env, R, M, hs, hf, q⟩ := q
  refine ⟨P, m, gg, b, env, _, M, hs, hf, fun J H1 b1 xs G1 ⟨hl, hf⟩ w D nD => ?_⟩
  have hs1 := hs.go M G1
  have M1 := M.go G1
  have nPD : ¬ P D := hs1.hid.new nD
  have mD := M1.at_.ne nD
  refine lc_it w (fun i H2 => ∃ (acc : List V) (dn : List Val) (b2 : Nat), H2 D = some (.lst acc) ∧ Go cm m gg H1 b2 H2 ∧ Res cm (fun b => P b ∨ b = D) H2 acc dn ∧ lcDGo bnd ft fe (wipeE env vs) m R (xs.drop i) b2 dn ∧ acc.length ≤ i)
    ⟨[], [], b1, upd_same, Go.same M1 (same_new nD), .nil, hf, Nat.le_refl _⟩ (fun i H2 _ ⟨_, _, _, _, s2, _⟩ => ⟨M1.kp s2, s2.hid hs1.hid⟩) ?_ ?_
  · rintro i x H2 H3 hi2 ⟨acc, dn, b2, hD, G2, rs, hr, la⟩ ⟨s3, y, ey, ry⟩
    have hid2 : Hid (fun b => P b ∨ b = D) H2 := fun a c => by
      rcases c with c | c
      · exact (G2.hid hs1.hid) a c
      · exact ⟨.lst acc, by rw [c]; exact hD, fun vs z => nomatch z⟩
    have mv : ∀ a, (P a ∨ a = D) → P a ∨ H1 a = none := fun a c => c.elim .inl fun z => .inr (by rw [z]; exact nD)
    have ry2 := ry (fun b => P b ∨ b = D) mv hid2
    have hs2 : Slots cm (fun b => P b ∨ b = D) H3 (L2.wipe σ vs) (wipeE env vs) := by
      have k : Slots cm (fun b => P b ∨ b = D) H2 σ env := ⟨hs.len, fun j z ez => by
        obtain ⟨v, h1, h2⟩ := hs1.at_ j z ez
        exact ⟨v, h1, h2.move mv (M1.kp G2)⟩, hid2⟩
      exact (k.same s3).wipe vs
    have dr : xs.drop i = y :: xs.drop (i + 1) := by
      obtain ⟨lt, eq⟩ := List.getElem?_eq_some_iff.mp ey
      rw [List.drop_eq_getElem_cons lt, eq]
    rw [dr] at hr
    obtain ⟨ps, e1, hr⟩ := hr
    obtain ⟨qs, pr, mem, go⟩ := hg.go _ H3 x y ps ry2 e1
    have hs3 := Slots.sets pr hs2
    have M3 : Mid cm (fun b => P b ∨ b = D) m gg b2 H3 := ((M1.go G2).same s3).own D
    refine go _ _ ⟨?_, ht _ m gg b2 _ _ H3 _ _ M3 hs3 hr fun k b4 H4 G4 k4 => ?_⟩
    · rw [wipe_setA fun q hq => hi _ (mem q hq), wipe_wipe fun _ h => h]
    · have nT : ∀ p ∈ cm.tabs, D ≠ p.1 := (M1.go G2).noT hD (fun _ z => nomatch z)
      have hD4 := G4.but _ _ (s3 _ _ hD) mD.1 mD.2 nT
      have G14 := (G2.sameR s3).trans G4
      have rs4 := (Rep.same s3 rs).keep (M3.kp G4 |> fun kp => (fun b o e n => kp b o e n : Keep (fun b => P b ∨ b = D) H3 H4))
      by_cases c : k = true
      · rw [if_pos c] at k4 ⊢
        refine ⟨_, m, gg, b4, _, _, M3.go G4, hs3.go M3 G4, k4, fun u z b5 H5 G5 ru k5 => ⟨acc, G5.but _ _ hD4 mD.1 mD.2 nT, most_line (by show _ ≤ 100000; omega), ?_⟩⟩
        have hD5 := G5.but _ _ hD4 mD.1 mD.2 nT
        have kp : Keep (fun b => P b ∨ b = D) H5 (upd H5 D (.lst (acc ++ [u]))) := fun b o e n => by
          rw [upd_ne fun z => n (.inr z)]
          exact e
        have G15 := G14.trans G5
        refine ⟨acc ++ [u], dn ++ [z], b5, upd_same, ⟨fun b o e n1 n2 n3 => ?_, G15.at_.put mD hD5 (by omega), tabs_put G15.tabs nT ⟨_, hD5⟩⟩, Res.snoc ((Rep.keep ((M3.go G4).kp G5) rs4).keep kp) (ru.keep kp), k5, by rw [List.length_append]; show acc.length + 1 ≤ i + 1; omega⟩
        rw [upd_ne (ne_of_none e nD)]
        exact G15.but _ _ e n1 n2 n3
      · rw [if_neg c] at k4 ⊢
        exact ⟨acc, dn, b4, hD4, G14, rs4, k4, by omega⟩
  · rintro H2 ⟨acc, dn, b2, hD, G2, rs, hr, la⟩
    rw [List.drop_length] at hr
    exact q D acc dn b2 H2 (G1.trans G2) (G1.free nD) hD rs (by rw [← Res.length rs]; show _ ≤ 100000; omega) hr
section
variable {X : Cx} {cm : Cm} {a b c e : Expr} {es : List Expr} {pos : Pos}
def lstOf (k : DA) : DE := fun m env b R => k m env b fun xs b1 => R (.lst xs) b1
theorem vnd_vd {k : DA} (h : VND X cm e k) : VD X cm e (lstOf k) := h.weak fun σ H Q ⟨P, m, g, b, env, R, M, hs, hf, q⟩ =>
  ⟨P, m, g, b, env, _, M, hs, hf, fun a vs xs b1 H1 G1 na ha rs _ k1 => q _ _ b1 H1 G1 (.lst (hs.hid.new na) ha (rs.less fun b c => .inl c)) k1⟩
theorem vnd_pu {f : En → Option (List Val)} (h : VN X cm e f) : VND X cm e (puA f) := h.weak fun σ H Q ⟨P, m, g, b, env, R, M, hs, ⟨xs, ex, r⟩, q⟩ => ⟨P, env, xs, hs, ex, fun a vs H' s na ha rs l => q a vs xs b H' (Go.same M s) na ha rs l r⟩
theorem vnd_lst {k : DA} (h : VDA X cm es k) : VND X cm (.List es pos) (fun m env b R => k m env b fun xs b1 => xs.length ≤ most ∧ R xs b1) := (pe_lst h).weak fun σ H Q ⟨P, m, g, b, env, R, M, hs, hf, q⟩ => by
  refine ⟨P, m, g, b, env, _, M, hs, hf, fun vs xs b1 H1 G1 r1 ⟨l, k1⟩ => ⟨by rw [Res.length r1]; exact Nat.le_of_lt (most_line l), fun p np => ?_⟩⟩
  have s2 : Same H1 (upd H1 p (.lst vs)) := same_new np
  exact q p vs xs b1 _ (G1.sameR s2) (G1.free np) upd_same (r1.move (fun b c => c.imp id fun z => by rw [z]; exact np) (.of s2)) l k1
theorem vnd_lc {elt tg iter : Expr} {ifs : List Expr} {scope : Scope} {own : List (Str × Nat)} {g : TG} {tt : TT} {fi : DA} {bnd : Val → Option (List (Nat × Val))} {ft : DB} {fe : DE} {is : List Nat} (hc : X.calm = true) (hN : X.N.Nodup) (hi : VDI X cm tg iter fi) (ok : BlkOk X.N X.env.scope scope own)
    (hg : ∀ (s : Shared) (H : Hp) (C : Addr) (cl : List (Str × Addr)) (fp : List Addr), PG (X.blk s H scope (compEnvC scope cl C X.env) fp) tg g) (ht : ∀ (s : Shared) (H : Hp) (C : Addr) (cl : List (Str × Addr)) (fp : List Addr), PTs (X.blk s H scope (compEnvC scope cl C X.env) fp) ifs tt)
    (he : ∀ (s : Shared) (H : Hp) (C : Addr) (cl : List (Str × Addr)) (fp : List Addr), VD (X.blk s H scope (compEnvC scope cl C X.env) fp) cm elt fe) (tg_ : TgV cm g bnd is) (hi2 : ∀ i ∈ is, i ∈ own.map (·.2)) (tt_ : TtD cm tt ft) (hs : ∀ x, foldedSetIterable iter X.env x = pure x := by intro _; rfl) :
    VND X cm (.ListComp elt [⟨tg, iter, ifs, 0⟩] scope pos) (lcD fi bnd ft fe (own.map (·.2))) := (pe_lc hc hN hi ok hg ht he hs).weak (tLcD_of tg_ hi2 tt_)
end
end Up

namespace Up
open PySem PySem.Spec PyProof.Rows L2
/-! ### statements that draw -/
abbrev DS := Addr → En → Nat → (Out → Nat → Prop) → Prop
section
variable {cm : Cm} {P : Addr → Prop} {ow : List Nat} {m g : Addr} {b b' : Nat} {H0 H H' : Hp} {env : En} {σ : L2.St}
theorem Mid.oo (h : Mid cm P m g b H) : Mid cm (Ow P ow env σ) m g b H := ⟨fun a c => .inl (h.sub a c), fun p hp => .inl (h.tsub p hp), h.at_, h.tabs⟩
theorem Go.base (h0 : H0 m = none ∧ H0 g = none ∧ ∀ p ∈ cm.tabs, H0 p.1 = none) (s : Same H0 H) (a : Go cm m g H b' H') : Same H0 H' := fun c o e => a.but c o (s c o e) (fun z => by rw [z, h0.1] at e; cases e) (fun z => by rw [z, h0.2.1] at e; cases e) fun p hp z => by rw [z, h0.2.2 p hp] at e; cases e
theorem StV.go (M : Mid cm P m g b H) (h0 : H0 m = none ∧ H0 g = none ∧ ∀ p ∈ cm.tabs, H0 p.1 = none) (a : Go cm m g H b' H') (h : StV cm P ow H0 env σ H) : StV cm P ow H0 env σ H' :=
  ⟨h.sl.go M.oo a, fun i hi x e => let ⟨c, h2, h4, h5, h6⟩ := h.own i hi x e; ⟨c, h2, h4, h5, h6.keep (fun o eo => M.stay a eo h4) (M.oo.kp a)⟩, h.dis, h.len, a.base h0 h.base⟩
theorem Fr.go (M : Mid cm P m g b H) (a : Go cm m g H b' H') : Fr P ow env σ H env σ H' := ⟨M.oo.kp a, fun c k => .inl k, fun c n => a.nt n⟩
theorem StV.baseLe {H1 : Hp} (h : StV cm P ow H0 env σ H) (s : Same H1 H0) : StV cm P ow H1 env σ H :=
  ⟨h.sl, fun i hi x e => let ⟨c, h2, h4, h5, h6⟩ := h.own i hi x e; ⟨c, h2, h4, s.free h5, h6⟩, h.dis, h.len, s.trans h.base⟩
end
structure Mx (cm : Cm) (H : Hp) (m g : Addr) (b : Nat) : Prop where
  at_ : MAt H m g b
  tabs : LamX.Tabs cm.tabs H
theorem Mx.same {cm : Cm} {m g : Addr} {b : Nat} {H H' : Hp} (x : Mx cm H m g b) (s : Same H H') : Mx cm H' m g b := ⟨x.at_.same s, x.tabs.ext s⟩
theorem Go.mx {cm : Cm} {m g : Addr} {b : Nat} {H H' : Hp} (a : Go cm m g H b H') : Mx cm H' m g b := ⟨a.at_, a.tabs⟩
theorem Mid.mx {cm : Cm} {P : Addr → Prop} {m g : Addr} {b : Nat} {H : Hp} (h : Mid cm P m g b H) : Mx cm H m g b := ⟨h.at_, h.tabs⟩
theorem Mid.re {cm : Cm} {P : Addr → Prop} {m g : Addr} {b b' : Nat} {H H' : Hp} (h : Mid cm P m g b H) (x : Mx cm H' m g b') : Mid cm P m g b' H' := ⟨h.sub, h.tsub, x.at_, x.tabs⟩
def EndsD (cm : Cm) (P : Addr → Prop) (ow : List Nat) (m g : Addr) (H0 : Hp) (env : En) (σ : L2.St) (H : Hp) (D : Ends) (b' : Nat) : Out → Prop
  | .nx env' => ∀ σ' H', StV cm P ow H0 env' σ' H' → Mx cm H' m g b' → Fr P ow env σ H env' σ' H' → D.nx σ' H'
  | .bk env' => ∀ σ' H', StV cm P ow H0 env' σ' H' → Mx cm H' m g b' → Fr P ow env σ H env' σ' H' → D.bk σ' H'
  | .ct env' => ∀ σ' H', StV cm P ow H0 env' σ' H' → Mx cm H' m g b' → Fr P ow env σ H env' σ' H' → D.ct σ' H'
  | .rt x => ∀ v H', Same H0 H' → Mx cm H' m g b' → Re cm P H' v x → D.rt v H'
def tSD (cm : Cm) (ow : List Nat) (k : DS) : TS := fun D σ H => ∃ (P : Addr → Prop) (m g : Addr) (b : Nat) (H0 : Hp) (env : En) (R : Out → Nat → Prop), Mid cm P m g b H ∧ (H0 m = none ∧ H0 g = none ∧ ∀ p ∈ cm.tabs, H0 p.1 = none) ∧ StV cm P ow H0 env σ H ∧ k m env b R ∧ ∀ o b', R o b' → EndsD cm P ow m g H0 env σ H D b' o
abbrev SD (X : Cx) (cm : Cm) (ow : List Nat) (st : Stmt) (k : DS) : Prop := PS X st (tSD cm ow k)
abbrev SDs (X : Cx) (cm : Cm) (ow : List Nat) (st : List Stmt) (k : DS) : Prop := PSs X st (tSD cm ow k)
theorem EndsD.pre {cm : Cm} {P : Addr → Prop} {ow : List Nat} {m g : Addr} {H0 : Hp} {env env1 : En} {σ σ1 : L2.St} {H H1 : Hp} {D : Ends} {b' : Nat} {o : Out} (f : Fr P ow env σ H env1 σ1 H1) (h : EndsD cm P ow m g H0 env σ H D b' o) : EndsD cm P ow m g H0 env1 σ1 H1 D b' o := by
  cases o with
  | nx e2 => exact fun σ2 H2 a c f2 => h σ2 H2 a c (f.trans f2)
  | bk e2 => exact fun σ2 H2 a c f2 => h σ2 H2 a c (f.trans f2)
  | ct e2 => exact fun σ2 H2 a c f2 => h σ2 H2 a c (f.trans f2)
  | rt x => exact h
section
variable {X : Cx} {cm : Cm} {ow : List Nat} {a b c e : Expr} {es : List Expr} {f g h : DE} {pos : Pos} {st : Stmt} {rest : List Stmt}
def notInts : List Val → Bool
  | [] => false
  | .int _ :: _ => false
  | _ :: _ => true
/-- a statement that does not draw; no list of one's own has 64 ints -/
def no64 (ow : List Nat) (env : En) : Bool := ow.all fun i => match env[i]? with
  | some (some (.lst xs)) => decide (xs.length ≠ 64) || notInts xs
  | some (some (.set _)) => false
  | _ => true
def puS (ow : List Nat) (k : En → Option Out) : DS := fun _ env b R => no64 ow env = true ∧ ∃ o, k env = some o ∧ R o b
theorem sd_pu {k : En → Option Out} (h : SV X cm ow st k) : SD X cm ow st (puS ow k) := h.weak fun D σ H ⟨P, m, g, b, H0, env, R, M, h0, hs, ⟨n6, o, eo, r⟩, q⟩ => by
  have q := q o b r
  let H1 : Hp := fun a => open Classical in if isOwn ow env σ a then none else H a
  have own1 : ∀ {a}, isOwn ow env σ a → H1 a = none := fun {a} c => if_pos c
  have own2 : ∀ {a}, ¬ isOwn ow env σ a → H1 a = H a := fun {a} c => if_neg c
  have ownP : ∀ {a}, isOwn ow env σ a → ¬ P a ∧ H0 a = none ∧ ∃ i ∈ ow, ∃ x, env[i]? = some (some x) ∧ Top cm (Ow P ow env σ) H a x := fun {a} ⟨i, hi, ⟨x, ex⟩, e⟩ => by
    obtain ⟨a', h2, h4, h5, h6⟩ := hs.own i hi x ex
    rw [e] at h2
    cases h2
    exact ⟨h4, h5, i, hi, x, ex, h6⟩
  have s1 : Same H1 H := fun a o e => by
    by_cases c : isOwn ow env σ a
    · rw [own1 c] at e
      cases e
    · rw [own2 c] at e
      exact e
  have s01 : Same H0 H1 := fun a o e => by
    by_cases c : isOwn ow env σ a
    · rw [(ownP c).2.1] at e
      cases e
    · rw [own2 c]
      exact hs.base a o e
  have st1 : StV cm P ow H1 env σ H := ⟨hs.sl, fun i hi x e => let ⟨c, h2, h4, h5, h6⟩ := hs.own i hi x e; ⟨c, h2, h4, own1 ⟨i, hi, ⟨x, e⟩, h2⟩, h6⟩, hs.dis, hs.len, s1⟩
  have mat : ∀ H', Same H1 H' → MAt H' m g b := fun H' s => by
    obtain ⟨c, cs, gs, n, k1, k2, k3, k4, k5, k6⟩ := M.at_.ex
    have nm : ¬ isOwn ow env σ m := fun z => (ownP z).1 (M.sub m (.inl rfl))
    have ng : ¬ isOwn ow env σ g := fun z => (ownP z).1 (M.sub g (.inr rfl))
    have nc : ¬ isOwn ow env σ c := fun z => by
      obtain ⟨_, _, i, hi, x, ex, t⟩ := ownP z
      cases t with
      | lst t1 t2 =>
        rw [k2] at t1
        cases t1
        have l := Res.length t2
        unfold iL at l
        rw [List.length_map, k3] at l
        have q := List.all_eq_true.mp n6 i hi
        rw [ex] at q
        rw [Bool.or_eq_true] at q
        rcases q with q | q
        · exact (of_decide_eq_true q) l.symm
        · cases cs with
          | nil => cases k3
          | cons c0 cs =>
            cases t2 with
            | cons r _ =>
              cases r
              cases q
      | set t1 _ _ => rw [k2] at t1; cases t1
      | idk t1 => rw [k2] at t1; cases t1
      | dct t1 _ _ _ _ _ => rw [k2] at t1; cases t1
    exact ⟨c, cs, gs, n, s _ _ (by rw [own2 nm]; exact k1), s _ _ (by rw [own2 nc]; exact k2), k3, s _ _ (by rw [own2 ng]; exact k4), k5, k6⟩
  have nOwn : ∀ {a : Addr} {u : HO}, H a = some u → (∀ x, u ≠ .lst x) → (∀ x, u ≠ .dK x) → (∀ x, u ≠ .dT x) → ¬ isOwn ow env σ a := fun {a u} e n1 n2 n3 z => by
    obtain ⟨_, _, i, hi, x, ex, t⟩ := ownP z
    cases t with
    | lst t1 _ => rw [e] at t1; exact n1 _ (Option.some.inj t1)
    | set t1 _ _ =>
      have q := List.all_eq_true.mp n6 i hi
      rw [ex] at q
      cases q
    | idk t1 => rw [e] at t1; exact n2 _ (Option.some.inj t1)
    | dct t1 _ _ _ _ _ => rw [e] at t1; exact n3 _ (Option.some.inj t1)
  have tab1 : LamX.Tabs cm.tabs H1 := fun p hp => by
    obtain ⟨ps, e, h2, h3⟩ := M.tabs p hp
    refine ⟨ps, by rw [own2 (nOwn e (fun _ z => nomatch z) (fun _ z => nomatch z) (fun _ z => nomatch z))]; exact e, h2, fun pos cv hc => ?_⟩
    obtain ⟨d, e1, e2⟩ := h3 pos cv hc
    exact ⟨d, e1, by rw [own2 (nOwn e2 (fun _ z => by unfold LamX.CodeO at z; cases z) (fun _ z => by unfold LamX.CodeO at z; cases z) (fun _ z => by unfold LamX.CodeO at z; cases z))]; exact e2⟩
  have mat : ∀ H', Same H1 H' → Mx cm H' m g b := fun H' s => ⟨mat H' s, tab1.ext s⟩
  refine ⟨P, H1, env, o, st1, eo, ?_⟩
  cases o with
  | nx e2 => exact fun σ2 H2 a f2 => q σ2 H2 (a.baseLe s01) (mat H2 a.base) f2
  | bk e2 => exact fun σ2 H2 a f2 => q σ2 H2 (a.baseLe s01) (mat H2 a.base) f2
  | ct e2 => exact fun σ2 H2 a f2 => q σ2 H2 (a.baseLe s01) (mat H2 a.base) f2
  | rt x => exact fun v H2 s r => q v H2 (s01.trans s) (mat H2 s) r
def nilD : DS := fun _ env b R => R (.nx env) b
def seqD (j k : DS) : DS := fun m env b R => j m env b fun o b1 => match o with
  | .nx env' => k m env' b1 R
  | o => R o b1
theorem sd_nil : SDs X cm ow [] nilD := pss_nil.weak fun D σ H ⟨P, m, g, b, H0, env, R, M, h0, hs, k, q⟩ => q _ b k σ H hs M.mx .refl
theorem sd_one {k : DS} (h : SD X cm ow st k) : SDs X cm ow [st] k := pss_one h
theorem sd_cons {j k : DS} (h1 : SD X cm ow st j) (h2 : SDs X cm ow rest k) : SDs X cm ow (st :: rest) (seqD j k) := (pss_cons h1 h2).weak fun D σ H ⟨P, m, g, b, H0, env, R, M, h0, hs, hk, q⟩ => by
  refine ⟨P, m, g, b, H0, env, _, M, h0, hs, hk, fun o b1 k1 => ?_⟩
  cases o with
  | nx env1 => exact fun σ1 H1 hs1 M1 f1 => ⟨P, m, g, b1, H0, env1, R, (M.re M1), h0, hs1, k1, fun o b2 k2 => (q o b2 k2).pre f1⟩
  | bk env1 => exact q _ b1 k1
  | ct env1 => exact q _ b1 k1
  | rt x => exact q _ b1 k1
def retD (f : DE) : DS := fun m env b R => f m env b fun x b1 => R (.rt x) b1
theorem sd_ret (he : VD X cm e f) : SD X cm ow (.Return (some e) pos) (retD f) := (ps_ret he).weak fun D σ H ⟨P, m, g, b, H0, env, R, M, h0, hs, hk, q⟩ =>
  ⟨P, m, g, b, env, _, M, hs.view, hk, fun v x b1 H1 G1 r1 k1 => q _ b1 k1 v H1 (G1.base h0 hs.base) G1.mx r1⟩
def ifD (t : DB) (j k : DS) : DS := fun m env b R => t m env b fun c b1 => if c = true then j m env b1 R else k m env b1 R
theorem sd_if {t : DB} {j k : DS} {x y : List Stmt} (hc : VDT X cm c t) (ha : SDs X cm ow x j) (hb : SDs X cm ow y k) : SD X cm ow (.If c x y pos) (ifD t j k) := (ps_if hc ha hb).weak fun D σ H ⟨P, m, g, b, H0, env, R, M, h0, hs, hk, q⟩ => by
  refine ⟨P, m, g, b, env, _, M, hs.view, hk, fun k1 b1 H1 G1 kk => ?_⟩
  show if k1 = true then tSD cm ow j D σ H1 else tSD cm ow k D σ H1
  by_cases c : k1 = true
  · rw [if_pos c] at kk ⊢
    exact ⟨P, m, g, b1, H0, env, R, M.go G1, h0, hs.go M h0 G1, kk, fun o b2 k2 => (q o b2 k2).pre (Fr.go M G1)⟩
  · rw [if_neg c] at kk ⊢
    exact ⟨P, m, g, b1, H0, env, R, M.go G1, h0, hs.go M h0 G1, kk, fun o b2 k2 => (q o b2 k2).pre (Fr.go M G1)⟩
/-! kept values -/
def SrD (cm : Cm) (ow : List Nat) (r : DE) (t : TE) : Prop := ∀ (P : Addr → Prop) (m g : Addr) (b : Nat) (H0 H : Hp) (env : En) (σ : L2.St) (R : Val → Nat → Prop) (Q : VK), Mid cm P m g b H → (H0 m = none ∧ H0 g = none ∧ ∀ p ∈ cm.tabs, H0 p.1 = none) → StV cm P ow H0 env σ H → r m env b R → (∀ v x b' H', Go cm m g H b' H' → Re cm (Ow P ow env σ) H' v x → R x b' → Q v H') → t σ H Q
def stD (ow : List Nat) (f : DE) : DE := fun m env b R => f m (wipeE env ow) b R
def boD (f : DE) : DE := fun m env b R => f m env b fun x b1 => imm x = true ∧ R x b1
theorem srd_st : SrD cm ow (stD ow f) (tD cm f) := fun P m g b H0 H env σ R Q M h0 hs h q => ⟨_, m, g, b, wipeE env ow, R, M.oo, hs.sl, h, q⟩
theorem srd_bo : SrD cm ow (boD f) (tD cm f) := fun P m g b H0 H env σ R Q M h0 hs h q => ⟨P, m, g, b, env, _, M, hs.view, h, fun v x b1 H1 G1 r1 ⟨ci, k1⟩ => q v x b1 H1 G1 ((hs.go M h0 G1).imm r1 ci) k1⟩
def setD (i : Nat) (r : DE) : DS := fun m env b R => r m env b fun x b1 => R (.nx (env.set i (some x))) b1
theorem sd_set {r : DE} {i : Nat} {x : Str} {pos' : Pos} (hN : X.N.Nodup) (hi : X.N[i]? = some x) (hx : Loc X.env.scope x) (ho : i ∉ ow) (he : VD X cm e f) (sr : SrD cm ow r (tD cm f)) (hs : swapsWith e (some (.Name x pos')) pos.line X.env = pure false := by rfl) (hf : X.fn x = true ∨ X.env.scope.names.lookup x = some .local := by first | exact .inl rfl | exact .inr rfl | assumption) :
    SD X cm ow (.Assign [.Name x pos'] e pos) (setD i r) := (ps_set hN hi hx he hs hf).weak fun D σ H ⟨P, m, g, b, H0, env, R, M, h0, hs, hk, q⟩ =>
  sr P m g b H0 H env σ _ _ M h0 hs hk fun v x b1 H1 G1 r1 k1 => q _ b1 k1 _ H1 ((hs.go M h0 G1).set ho r1) G1.mx ((Fr.go M G1).trans (Fr.set ho (Same.refl _)))
def asgD (mm : Val → Option (List (Nat × Val))) (r : DE) : DS := fun m env b R => r m env b fun x b1 => ∃ ps, mm x = some ps ∧ R (.nx (setE env ps)) b1
theorem sd_asg {r : DE} {tg : Expr} {gt : TG} {mm : Val → Option (List (Nat × Val))} {is : List Nat} (he : VD X cm e f) (sr : SrD cm ow r (tD cm f)) (hg : PG X tg gt) (tg_ : TgV cm gt mm is) (ho : ∀ i ∈ is, i ∉ ow) (hs : swapsWithSole [tg] e pos.line X.env = pure false := by rfl) (hw : swappedStores [tg] e X.env = pure none := by rfl)
    (h1 : (assignEach [tg] X.env).map (·.2) = [assign tg X.env] := by rfl) : SD X cm ow (.Assign [tg] e pos) (asgD mm r) := (ps_asg he hg hs hw h1).weak fun D σ H ⟨P, m, g, b, H0, env, R, M, h0, hs, hk, q⟩ => by
  refine sr P m g b H0 H env σ _ _ M h0 hs hk fun v y b1 H1 G1 r1 ⟨ps, e2, k1⟩ => ?_
  obtain ⟨qs, pr, mem, go⟩ := tg_.go _ H1 v y ps r1 e2
  obtain ⟨h2, h3⟩ := StV.sets pr (fun q hq => ho _ (mem q hq)) rfl (hs.go M h0 G1)
  exact go σ _ (q _ b1 k1 _ H1 h2 G1.mx ((Fr.go M G1).trans ⟨.refl, fun a c => .inl ((h3 a).mp c), fun a n => n⟩))
def doD (f : DE) : DS := fun m env b R => f m env b fun _ b1 => R (.nx env) b1
theorem sd_do (he : VD X cm e f) (hs : swapsWith e none pos.line X.env = pure false := by rfl) : SD X cm ow (.Expr e pos) (doD f) := (ps_expr he hs).weak fun D σ H ⟨P, m, g, b, H0, env, R, M, h0, hs, hk, q⟩ =>
  ⟨P, m, g, b, env, _, M, hs.view, hk, fun v x b1 H1 G1 r1 k1 => q _ b1 k1 σ H1 (hs.go M h0 G1) G1.mx (Fr.go M G1)⟩
/-- x, y = e1, e2 of displays -/
def parD (ow : List Nat) (i j : Nat) (f g : DE) : DS := fun m env b R => f m (wipeE env ow) b fun x b1 => g m (wipeE env ow) b1 fun y b2 => R (.nx (setE env [(i, x), (j, y)])) b2
theorem sd_par {i j : Nat} {x y : Str} {px py pt pos : Pos} {kt k2 pt2} (hc : X.calm = true) (hN : X.N.Nodup) (hi : X.N[i]? = some x) (hj : X.N[j]? = some y) (hij : i ≠ j) (hx : X.env.scope.names.lookup x = some .local) (hy : X.env.scope.names.lookup y = some .local)
    (oi : i ∉ ow) (oj : j ∉ ow) (ha : VD X cm a f) (hb : VD X cm b g) (hw : swappedStores [.Tuple [.Name x px, .Name y py] kt pt] (.Tuple [a, b] k2 pt2) X.env = pure (some [x, y]))
    (h1 : starEach [a, b] X.env = (false, eval a X.env) :: starEach [b] X.env := by rfl) (h2 : starEach [b] X.env = (false, eval b X.env) :: starEach [] X.env := by rfl) (hs : swapsWithSole [.Tuple [.Name x px, .Name y py] kt pt] (.Tuple [a, b] k2 pt2) pos.line X.env = pure false := by rfl) :
    SD X cm ow (.Assign [.Tuple [.Name x px, .Name y py] kt pt] (.Tuple [a, b] k2 pt2) pos) (parD ow i j f g) :=
  (ps_par hc hN hi hj hij hx hy (pa_cons ha (pa_cons hb pa_nil h2) h1) hw hs).weak fun D σ H ⟨P, m, g, b, H0, env, R, M, h0, st, hk, q⟩ => by
    refine ⟨_, m, g, b, wipeE env ow, _, M.oo, st.sl, hk, fun v x b1 H1 G1 r1 hk => ⟨_, m, g, b1, wipeE env ow, _, M.oo.go G1, st.sl.go M.oo G1, hk, fun w y b2 H2 G2 r2 k2 => ⟨v, w, rfl, ?_⟩⟩⟩
    have G12 := G1.trans G2
    obtain ⟨h2, h3⟩ := StV.sets (qs := [(i, v), (j, w)]) (ps := [(i, x), (j, y)]) (.cons ⟨rfl, Rep.keep ((M.oo.go G1).kp G2) r1⟩ (.cons ⟨rfl, r2⟩ .nil)) (fun q hq => by
      rcases List.mem_cons.mp hq with rfl | hq
      · exact oi
      · rcases List.mem_cons.mp hq with rfl | hq
        · exact oj
        · cases hq) rfl (st.go M h0 G12)
    exact q _ b2 k2 _ H2 h2 G12.mx ((Fr.go M G12).trans ⟨.refl, fun a c => .inl ((h3 a).mp c), fun a n => n⟩)
/-! lists of one's own -/
theorem MAt.tops {P : Addr → Prop} {m g : Addr} {n : Nat} {H0 H : Hp} {env : En} {σ : L2.St} (M : Mid cm P m g n H) (hs : StV cm P ow H0 env σ H) {i : Nat} (hi : i ∈ ow) {a : Addr} {xs : List V} {y : Val} (ex : env[i]? = some (some y)) (hσ : σ[i]? = some (some (.ref a))) (ha : H a = some (.lst xs)) (hl : xs.length ≠ 64) (o : HO) : MAt (upd H a o) m g n := by
  obtain ⟨a', h2, nP, _, _⟩ := hs.own i hi y ex
  rw [hσ] at h2
  cases h2
  exact M.at_.put ⟨fun z => nP (M.sub a (.inl z)), fun z => nP (M.sub a (.inr z))⟩ ha hl
def appDS (i : Nat) (r : DE) : DS := fun m env b R => ∃ xs, env[i]? = some (some (.lst xs)) ∧ xs.length ≤ 63 ∧ r m env b fun y b1 => R (.nx (env.set i (some (.lst (xs ++ [y]))))) b1
theorem sd_app {r : DE} {t : TE} {i : Nat} (hst : PS X st (tDrop (tBM X.K "list" rAppend (tVar i) (tCons t tNil)))) (ho : i ∈ ow) (sr : SrD cm ow r t) : SD X cm ow st (appDS i r) := hst.weak fun D σ H ⟨P, m, g, b, H0, env, R, M, h0, hs, ⟨xs, ex, lm, hk⟩, q⟩ => by
  obtain ⟨a, hσ, nP, hn, tp⟩ := hs.own i ho _ ex
  cases tp with
  | @lst vs0 _ ha ra =>
    refine ⟨_, hσ, .inl ⟨rfl, _, .inl (.inl ha)⟩, sr P m g b H0 H env σ _ _ M h0 hs hk fun v y b1 H1 G1 r1 k1 => ?_⟩
    have na : a ≠ m ∧ a ≠ g := ⟨fun z => nP (M.sub a (.inl z)), fun z => nP (M.sub a (.inr z))⟩
    have ha1 := G1.but _ _ ha na.1 na.2 (M.noT ha (fun _ z => nomatch z))
    have l0 := Res.length ra
    refine ⟨a, _, v, rfl, rfl, ha1, most_line (by rw [l0]; show _ ≤ 100000; omega), ?_⟩
    have hs1 := hs.go M h0 G1
    have oa : Ow P ow env σ a := .inr ⟨i, ho, ⟨_, ex⟩, hσ⟩
    have kp : Keep (Ow P ow env σ) H1 (upd H1 a (.lst (vs0 ++ [v]))) := fun b o e n => by
      rw [upd_ne fun z => n (by rw [z]; exact oa)]
      exact e
    obtain ⟨h1, h2⟩ := hs1.putO ho ex hσ (.lst upd_same (Res.snoc (Rep.keep kp (Rep.keep (M.oo.kp G1) ra)) (r1.keep kp)))
    exact q _ b1 k1 _ _ h1 ⟨MAt.tops (M.go G1) hs1 ho ex hσ ha1 (by omega) _, tabs_put G1.tabs ((M.go G1).noT ha1 (fun _ z => nomatch z)) ⟨_, ha1⟩⟩ ((Fr.go M G1).trans h2)
/-- x[k] = e -/
def putD_ (i : Nat) (f r : DE) : DS := fun m env b R => ∃ xs, env[i]? = some (some (.lst xs)) ∧ xs.length ≤ 63 ∧ r m env b fun y b1 => f m env b1 fun k b2 => ∃ (j : Int) (n : Nat), k = .int j ∧ ixN xs.length j = some n ∧ R (.nx (env.set i (some (.lst (xs.set n y))))) b2
theorem sd_put {r : DE} {t : TE} {i : Nat} (hst : PS X st (tAsg t (gSub (tVar i) (tD cm f) rSetL))) (ho : i ∈ ow) (sr : SrD cm ow r t) : SD X cm ow st (putD_ i f r) := hst.weak fun D σ H ⟨P, m, g, b, H0, env, R, M, h0, hs, ⟨xs, ex, lm, hk⟩, q⟩ => by
  obtain ⟨a, hσ, nP, hn, tp⟩ := hs.own i ho _ ex
  cases tp with
  | @lst vs0 _ ha ra =>
    have na : a ≠ m ∧ a ≠ g := ⟨fun z => nP (M.sub a (.inl z)), fun z => nP (M.sub a (.inr z))⟩
    refine sr P m g b H0 H env σ _ _ M h0 hs hk fun v y b1 H1 G1 r1 k1 => ⟨_, hσ, ⟨P, m, g, b1, env, _, M.go G1, (hs.go M h0 G1).view, k1, fun u x b2 H2 G2 r2 ⟨j, n, ej, en, k2⟩ => ?_⟩⟩
    subst ej
    cases Re.int_ r2
    have G12 := G1.trans G2
    have ha2 := G12.but _ _ ha na.1 na.2 (M.noT ha (fun _ z => nomatch z))
    have l0 := Res.length ra
    refine ⟨a, _, j, n, rfl, rfl, ha2, by rw [l0]; exact en, ?_⟩
    have hs2 := hs.go M h0 G12
    have oa : Ow P ow env σ a := .inr ⟨i, ho, ⟨_, ex⟩, hσ⟩
    have kp : Keep (Ow P ow env σ) H2 (upd H2 a (.lst (vs0.set n v))) := fun b o e n => by
      rw [upd_ne fun z => n (by rw [z]; exact oa)]
      exact e
    obtain ⟨h1, h2⟩ := hs2.putO ho ex hσ (.lst upd_same (Res.set ((Rep.keep ((M.oo.go G1).kp G2) r1).keep kp) n (Rep.keep kp (Rep.keep (M.oo.kp G12) ra))))
    exact q _ b2 k2 _ _ h1 ⟨MAt.tops (M.go G12) hs2 ho ex hσ ha2 (by omega) _, tabs_put G12.tabs ((M.go G12).noT ha2 (fun _ z => nomatch z)) ⟨_, ha2⟩⟩ ((Fr.go M G12).trans h2)
/-- a new list of one's own -/
def SnD (cm : Cm) (ow : List Nat) (r : DA) (t : TE) : Prop := ∀ (P : Addr → Prop) (m g : Addr) (b : Nat) (H0 H : Hp) (env : En) (σ : L2.St) (R : List Val → Nat → Prop) (Q : VK), Mid cm P m g b H → (H0 m = none ∧ H0 g = none ∧ ∀ p ∈ cm.tabs, H0 p.1 = none) → StV cm P ow H0 env σ H → r m env b R → (∀ a vs xs b' H', Go cm m g H b' H' → H a = none → H' a = some (.lst vs) → Res cm (fun c => Ow P ow env σ c ∨ c = a) H' vs xs → R xs b' → Q (.ref a) H') → t σ H Q
def stDA (ow : List Nat) (f : DA) : DA := fun m env b R => f m (wipeE env ow) b R
theorem snd_st {k : DA} : SnD cm ow (stDA ow k) (tND cm k) := fun P m g b H0 H env σ R Q M h0 hs h q => ⟨_, m, g, b, wipeE env ow, R, M.oo, hs.sl, h, fun a vs xs b' H' G na ha r _ k1 => q a vs xs b' H' G na ha r k1⟩
def newD (i : Nat) (r : DA) : DS := fun m env b R => i < env.length ∧ r m env b fun xs b1 => R (.nx (env.set i (some (.lst xs)))) b1
/-- a new thing of one's own: what stood is kept but for draws -/
theorem StV.newGo {P : Addr → Prop} {m g : Addr} {b b' : Nat} {H0 H H' : Hp} {env : En} {σ : L2.St} (M : Mid cm P m g b H) (h0 : H0 m = none ∧ H0 g = none ∧ ∀ p ∈ cm.tabs, H0 p.1 = none) (G : Go cm m g H b' H') (h : StV cm P ow H0 env σ H) {i : Nat} (hi : i ∈ ow) (lt : i < env.length) {p : Addr} (np : H p = none) {vs : List V} {xs : List Val} (hp : H' p = some (.lst vs)) (r : Res cm (fun c => Ow P ow env σ c ∨ c = p) H' vs xs) :
    StV cm P ow H0 (env.set i (some (.lst xs))) (σ.set i (some (.ref p))) H' ∧ Fr P ow env σ H (env.set i (some (.lst xs))) (σ.set i (some (.ref p))) H' := by
  have nPp : ¬ Ow P ow env σ p := fun c => h.sl.hid.new np c
  have kp := M.oo (ow := ow) (env := env) (σ := σ) |>.kp G
  have ll : i < σ.length := by
    rw [h.len]
    exact lt
  have t : Top cm (fun c => Ow P ow env σ c ∨ c = p) H' p (.lst xs) := .lst hp r
  have k1 : ∀ a, Ow P ow (env.set i (some (.lst xs))) (σ.set i (some (.ref p))) a → Ow P ow env σ a ∨ a = p := by
    rintro a (c | ⟨j, hj, ⟨y, hy⟩, hs⟩)
    · exact .inl (.inl c)
    · by_cases e : i = j
      · subst e
        rw [List.getElem?_set_self ll] at hs
        cases hs
        exact .inr rfl
      · rw [List.getElem?_set_ne e] at hy hs
        exact .inl (.inr ⟨j, hj, ⟨y, hy⟩, hs⟩)
  have k2 : ∀ a, Ow P ow (env.set i (some (.lst xs))) (σ.set i (some (.ref p))) a → Ow P ow env σ a ∨ H a = none := fun a c => (k1 a c).imp id fun z => by rw [z]; exact np
  refine ⟨⟨⟨?_, fun j y e => ?_, fun a c => ?_⟩, fun j hj y e => ?_, fun j hj l hl a x1 x2 e3 e4 => ?_, by rw [List.length_set, List.length_set]; exact h.len, G.base h0 h.base⟩, kp, k2, fun a n => G.nt n⟩
  · rw [wipeE_set_in hi, List.length_set]
    exact h.sl.len
  · rw [wipeE_set_in hi] at e
    have n : i ≠ j := fun z => wipeE_in hi y (by rw [z]; exact e)
    obtain ⟨v, h1, h2⟩ := h.sl.at_ j y e
    exact ⟨v, by rw [List.getElem?_set_ne n]; exact h1, h2.move k2 kp⟩
  · rcases k1 a c with z | z
    · exact (G.hid h.sl.hid) a z
    · rw [z]
      exact t.no
  · by_cases e1 : i = j
    · subst e1
      rw [List.getElem?_set_self lt] at e
      cases e
      exact ⟨p, List.getElem?_set_self ll, fun c => nPp (.inl c), h.base.free np, t.less k1⟩
    · rw [List.getElem?_set_ne e1] at e
      obtain ⟨a, h2, h4, h5, h6⟩ := h.own j hj y e
      exact ⟨a, by rw [List.getElem?_set_ne e1]; exact h2, h4, h5, h6.move k2 kp fun o eo => M.stay G eo h4⟩
  · have no : ∀ l, l ∈ ow → i ≠ l → (∃ y, env[l]? = some (some y)) → σ[l]? = some (some (.ref p)) → False := fun l hl n ⟨y, hy⟩ e => by
      obtain ⟨a, h2, _, _, h6⟩ := h.own l hl y hy
      rw [e] at h2
      cases h2
      obtain ⟨o, eo, _⟩ := h6.no
      rw [np] at eo
      cases eo
    by_cases n1 : i = j
    · by_cases n2 : i = l
      · exact n1.symm.trans n2
      · subst n1
        rw [List.getElem?_set_self ll] at e3
        cases e3
        rw [List.getElem?_set_ne n2] at x2 e4
        exact (no l hl n2 x2 e4).elim
    · by_cases n2 : i = l
      · subst n2
        rw [List.getElem?_set_self ll] at e4
        cases e4
        rw [List.getElem?_set_ne n1] at x1 e3
        exact (no j hj n1 x1 e3).elim
      · rw [List.getElem?_set_ne n1] at x1 e3
        rw [List.getElem?_set_ne n2] at x2 e4
        exact h.dis j hj l hl a x1 x2 e3 e4
theorem sd_new {r k : DA} {i : Nat} {x : Str} {pos' : Pos} (hN : X.N.Nodup) (hi : X.N[i]? = some x) (hx : Loc X.env.scope x) (ho : i ∈ ow) (he : VND X cm e k) (sn : SnD cm ow r (tND cm k)) (hs : swapsWith e (some (.Name x pos')) pos.line X.env = pure false := by rfl) (hf : X.fn x = true ∨ X.env.scope.names.lookup x = some .local := by first | exact .inl rfl | exact .inr rfl | assumption) :
    SD X cm ow (.Assign [.Name x pos'] e pos) (newD i r) := (ps_set hN hi hx he hs hf).weak fun D σ H ⟨P, m, g, b, H0, env, R, M, h0, hs, ⟨lt, hk⟩, q⟩ =>
  sn P m g b H0 H env σ _ _ M h0 hs hk fun a vs xs b1 H1 G1 na ha rs k1 => by
    obtain ⟨h1, h2⟩ := StV.newGo M h0 G1 hs ho lt na ha rs
    exact q _ b1 k1 _ H1 h1 G1.mx h2
/-! ### loops -/
def forD (mm : Val → Option (List (Nat × Val))) (body : DS) (m : Addr) (R : Out → Nat → Prop) : List Val → En → Nat → Prop
  | [], env, b => R (.nx env) b
  | x :: xs, env, b => ∃ ps, mm x = some ps ∧ body m (setE env ps) b fun o b1 => match o with
    | .nx env' => forD mm body m R xs env' b1
    | .ct env' => forD mm body m R xs env' b1
    | .bk env' => R (.nx env') b1
    | .rt y => R (.rt y) b1
def forDS (ow : List Nat) (fi : DA) (mm : Val → Option (List (Nat × Val))) (body : DS) : DS := fun m env b R => fi m (wipeE env ow) b fun xs b1 => forD mm body m R xs env b1
theorem sd_for {tg iter : Expr} {body : List Stmt} {fi : DA} {gt : TG} {mm : Val → Option (List (Nat × Val))} {is : List Nat} {k : DS} (hp : PassesOwn (model X.prog X.w) X.A X.env X.xe) (hc : X.calm = true) (hi : VDI X cm tg iter fi) (hg : PG X tg gt) (hb : SDs X cm ow body k) (tg_ : TgV cm gt mm is) (ho : ∀ i ∈ is, i ∉ ow)
    (hs : ∀ x, foldedSetIterable iter X.env x = pure x := by intro _; rfl) : SD X cm ow (.For tg iter body [] pos) (forDS ow fi mm k) := (ps_for hp hc hi hg hb hs).weak fun D σ H ⟨P, m, g, b, H0, env, R, M, h0, hs, hk, q⟩ => by
  refine ⟨_, m, g, b, wipeE env ow, _, M.oo, hs.sl, hk, fun J H1 b1 xs G1 hk w => ?_⟩
  have hs1 := hs.go M h0 G1
  have M1 := M.go G1
  refine for_it w (fun i σ' H' => ∃ env' b', StV cm P ow H0 env' σ' H' ∧ Mx cm H' m g b' ∧ Fr P ow env σ H env' σ' H' ∧ Keep (Ow P ow env σ) H1 H' ∧ (∀ a, Ow P ow env' σ' a → Ow P ow env σ a ∨ H1 a = none) ∧ Hid (Ow P ow env σ) H' ∧ forD mm k m R (xs.drop i) env' b') ⟨env, b1, hs1, G1.mx, Fr.go M G1, .refl, fun a c => .inl c, hs1.sl.hid, hk⟩ (fun i σ' H' _ ⟨_, _, _, _, _, k1, _, k2, _⟩ => ⟨k1, k2⟩) ?_ ?_
  · rintro i x σ' H' H2 hi2 ⟨env', b', hs', M', fr, kp, nw, hid, hgo⟩ ⟨s2, y, ey, ry⟩
    have ry2 := ry _ nw hs'.sl.hid
    have dr : xs.drop i = y :: xs.drop (i + 1) := by
      obtain ⟨lt, eq⟩ := List.getElem?_eq_some_iff.mp ey
      rw [List.drop_eq_getElem_cons lt, eq]
    rw [dr] at hgo
    obtain ⟨ps, e1, hgo⟩ := hgo
    obtain ⟨qs, pr, mem, go⟩ := tg_.go _ H2 x y ps ry2 e1
    obtain ⟨h2, h3⟩ := StV.sets pr (fun q hq => ho _ (mem q hq)) rfl (hs'.same s2)
    have f2 : Fr P ow env' σ' H' (setE env' ps) (setA σ' qs) H2 := ⟨.of s2, fun a c => .inl ((h3 a).mp c), fun a n => n.same s2⟩
    have turn : ∀ (env3 : En) (σ3 : L2.St) (H3 : Hp), StV cm P ow H0 env3 σ3 H3 → Fr P ow (setE env' ps) (setA σ' qs) H2 env3 σ3 H3 → Fr P ow env σ H env3 σ3 H3 ∧ Keep (Ow P ow env σ) H1 H3 ∧ (∀ a, Ow P ow env3 σ3 a → Ow P ow env σ a ∨ H1 a = none) ∧ Hid (Ow P ow env σ) H3 := fun env3 σ3 H3 hs3 f3 => by
      have f23 := f2.trans f3
      refine ⟨fr.trans f23, fun b o e n => ?_, fun a c => ?_, fun b c => ?_⟩
      · refine f23.kp b o (kp b o e n) fun z => ?_
        rcases nw b z with y | y
        · exact n y
        · rw [e] at y
          cases y
      · rcases f23.nw a c with z | z
        · exact nw a z
        · by_cases n : Ow P ow env σ a
          · exact .inl n
          · cases e : H1 a with
            | none => exact .inr rfl
            | some o =>
              rw [kp a o e n] at z
              cases z
      · exact f23.st b (hid b c)
    refine go σ' _ ⟨P, m, g, b', H0, _, _, (M.re (M'.same s2)), h0, h2, hgo, fun o1 b3 k1 => ?_⟩
    cases o1 with
    | nx env3 =>
      intro σ3 H3 hs3 M3 f3
      obtain ⟨t1, t2, t3, t4⟩ := turn env3 σ3 H3 hs3 f3
      exact ⟨env3, b3, hs3, M3, t1, t2, t3, t4, k1⟩
    | ct env3 =>
      intro σ3 H3 hs3 M3 f3
      obtain ⟨t1, t2, t3, t4⟩ := turn env3 σ3 H3 hs3 f3
      exact ⟨env3, b3, hs3, M3, t1, t2, t3, t4, k1⟩
    | bk env3 =>
      intro σ3 H3 hs3 M3 f3
      exact q _ b3 k1 σ3 H3 hs3 M3 (turn env3 σ3 H3 hs3 f3).1
    | rt z => exact q _ b3 k1
  · rintro σ' H' ⟨env', b', hs', M', fr, kp, nw, hid, hgo⟩
    rw [List.drop_length] at hgo
    exact q _ b' hgo σ' H' hs' M' fr
/-- while, with a number of turns that is enough -/
def whD (t : DB) (body : DS) (m : Addr) (R : Out → Nat → Prop) : Nat → En → Nat → Prop
  | 0, _, _ => False
  | n + 1, env, b => t m env b fun c b1 => if c = true then body m env b1 fun o b2 => match o with
    | .nx env' => whD t body m R n env' b2
    | .ct env' => whD t body m R n env' b2
    | .bk env' => R (.nx env') b2
    | .rt y => R (.rt y) b2
    else R (.nx env) b1
def whDS (t : DB) (body : DS) : DS := fun m env b R => ∃ n, whD t body m R n env b
theorem sd_while {t : DB} {body : List Stmt} {k : DS} (hp : PassesOwn (model X.prog X.w) X.A X.env X.xe) (hc : VDT X cm c t) (hb : SDs X cm ow body k) : SD X cm ow (.While c body [] pos) (whDS t k) := (ps_while hp hc hb).weak fun D σ H ⟨P, m, g, b, H0, env, R, M, h0, hs, ⟨n, hk⟩, q⟩ => by
  refine ⟨fun n σ' H' => ∃ env' b', StV cm P ow H0 env' σ' H' ∧ Mx cm H' m g b' ∧ Fr P ow env σ H env' σ' H' ∧ whD t k m R n env' b', ⟨n, env, b, hs, M.mx, .refl, hk⟩, ?_⟩
  rintro n σ' H' ⟨env', b', hs', M', fr, hw⟩
  cases n with
  | zero => exact hw.elim
  | succ n =>
    have MM : Mid cm P m g b' H' := (M.re (M'))
    refine ⟨P, m, g, b', env', _, MM, hs'.view, hw, fun k1 b1 H1 G1 hw => ?_⟩
    have f1 : Fr P ow env σ H env' σ' H1 := fr.trans (Fr.go MM G1)
    show if k1 = true then _ else _
    by_cases c : k1 = true
    · rw [if_pos c] at hw ⊢
      refine ⟨fun σ2 H2 => ∃ m', m' < n + 1 ∧ ∃ env' b', StV cm P ow H0 env' σ2 H2 ∧ Mx cm H2 m g b' ∧ Fr P ow env σ H env' σ2 H2 ∧ whD t k m R m' env' b', fun σ2 H2 h => h, ?_⟩
      refine ⟨P, m, g, b1, H0, env', _, MM.go G1, h0, hs'.go MM h0 G1, hw, fun o1 b3 k3 => ?_⟩
      cases o1 with
      | nx env3 => exact fun σ3 H3 hs3 M3 f3 => ⟨n, Nat.lt_succ_self _, env3, b3, hs3, M3, f1.trans f3, k3⟩
      | ct env3 => exact fun σ3 H3 hs3 M3 f3 => ⟨n, Nat.lt_succ_self _, env3, b3, hs3, M3, f1.trans f3, k3⟩
      | bk env3 => exact fun σ3 H3 hs3 M3 f3 => q _ b3 k3 σ3 H3 hs3 M3 (f1.trans f3)
      | rt z => exact q _ b3 k3
    · rw [if_neg c] at hw ⊢
      exact q _ b1 hw σ' H1 (hs'.go MM h0 G1) G1.mx f1
/-! ### a def -/
def runD (n k : Nat) (g : DS) : DD := fun m xs b R => xs.length = k ∧ g m (xs.map some ++ List.replicate (n - xs.length) none) b fun o b1 => match o with
  | .nx _ => R .non b1
  | .rt y => R y b1
  | _ => False
end
section
variable {P : Program} {w : World} {K : PySem.W.Frag} {mg : Str → Option Value} {base : Heap} {cm : Cm}
open Classical in
noncomputable def hideT (cm : Cm) (m g : Addr) (H : Hp) : Hp := fun b => if b = m ∨ b = g ∨ ∃ p ∈ cm.tabs, b = p.1 then none else H b
theorem hideT_same {m g : Addr} {H : Hp} : Same (hideT cm m g H) H := fun b o e => by
  unfold hideT at e
  split at e
  · cases e
  · exact e
theorem hideT_z {m g : Addr} {H : Hp} : hideT cm m g H m = none ∧ hideT cm m g H g = none ∧ ∀ p ∈ cm.tabs, hideT cm m g H p.1 = none :=
  ⟨if_pos (.inl rfl), if_pos (.inr (.inl rfl)), fun p hp => if_pos (.inr (.inr ⟨p, hp, rfl⟩))⟩
theorem go_of_hide {m g : Addr} {b : Nat} {H H' : Hp} (s : Same (hideT cm m g H) H') (x : Mx cm H' m g b) : Go cm m g H b H' := ⟨fun c o e n1 n2 n3 => s c o (by
  unfold hideT
  rw [if_neg (fun z => z.elim n1 fun z => z.elim n2 fun ⟨p, hp, q⟩ => n3 p hp q)]
  exact e), x.at_, x.tabs⟩
/-- what a def that draws is, from what its body is -/
theorem runD_start {N ps : List Str} {ow : List Nat} {k : DS} {vs : List V} {H : Hp} {Q : VK} {E : XK} (ho : ∀ i ∈ ow, ps.length ≤ i) (h : spD cm (runD N.length ps.length k) vs H Q E) (D : Ends) (d1 : ∀ σ' H', Q .non H' → D.nx σ' H') (d2 : ∀ v H', Q v H' → D.rt v H') : tSD cm ow k D (start N vs) H := by
  obtain ⟨P', m, g, b, xs, R, M, hd, r, ⟨l, hk⟩, q⟩ := h
  refine ⟨P', m, g, b, hideT cm m g H, _, _, M, hideT_z, (start_st (N := N) hd r (by rw [l]; exact ho)).baseLe hideT_same, hk, fun o b1 k1 => ?_⟩
  cases o with
  | nx env' => exact fun σ' H' hs M' f => d1 σ' H' (q _ _ b1 H' (go_of_hide hs.base M') .non k1)
  | rt y => exact fun v H' s M' r => d2 v H' (q _ _ b1 H' (go_of_hide s M') r k1)
  | bk env' => exact k1.elim
  | ct env' => exact k1.elim
theorem okDr {x qual : Str} {st : Stmt} {f : Addr} {fd : FuncData} {N ps : List Str} {k : Nat} (ow : List Nat) {g : DS} (F : Fun K x qual st f fd) (S : FnScope N ps (defScope st)) (ho : ∀ i ∈ ow, ps.length ≤ i)
    (hbody : ∀ (cdv : Value) (A : Around) (outer : List Env) (s : Shared) (H : Hp) (E : XK), Room k (A.deeper (envOfC qual (defScope st) s.heap.objs.size f cdv)) → (A.deeper (envOfC qual (defScope st) s.heap.objs.size f cdv)).units + 64 < cLine → SDs (cxOf CX0 P w K mg base N qual (defScope st) f cdv A outer s H E).nox cm ow (defBody st) g) :
    FnOk P w K mg base CX0 (k + 1) f fd ps (spD cm (runD N.length ps.length g)) := by
  refine F.ok S (fun vs H Q E h => ?_) (fun cdv A outer s H vs Q E hr h => ?_)
  · obtain ⟨P', m, g, b, xs, R, M, hd, r, ⟨l, hk⟩, q⟩ := h
    rw [Res.length r]
    exact l
  · exact ⟨_, hbody cdv A outer s H E hr (by have := hr.un; omega), runD_start ho h _ (fun _ _ q => q) fun _ _ q => q⟩
end
end Up

namespace Up
open PySem PySem.Spec PyProof.Rows L2
/-! ### defs to be run where no repr is under way -/
structure DfG (P : Program) (w : World) (K : PySem.W.Frag) (mg : Str → Option Value) (base : Heap) (cm : Cm) (x : Str) (k : Nat) (ps : List Str) (F : List Val → Option Val) (f : Addr) (fd : FuncData) : Prop where
  ok : FnG P w K mg base CX0 k f fd ps (spV cm F)
  at_ : mg x = some (.ref f)
  kp : PySem.W.keepIn K (.ref f) = true
  bd : Binds K fd ps []
section
variable {X : Cx} {cm : Cm} {e : Expr} {es : List Expr} {pos : Pos}
theorem ve_callG {k : Nat} {ps : List Str} {F : List Val → Option Val} {x : Str} {p : Pos} {t : En → Option (List Val)} {fa : Addr} {fd : FuncData} (hQ : Quiet X.A) (d : DfG X.prog X.w X.K X.mg X.base cm x k ps F fa fd) (hr : Room k X.A) (hg : Gl X x) (ha : VA X cm (e :: es) t) (hdb : (x == ("__debug__" : Str)) = false := by decide)
    (he : starEach (e :: es) X.env = (false, eval e X.env) :: starEach es X.env := by rfl) (hpl : (backTo pos (starEach es X.env)).any (·.1) = false := by rfl) : VE X cm (.Call (.Name x p) (e :: es) [] pos) (appF F t) :=
  (pe_callG hQ d.ok hr hg d.at_ d.kp d.bd .nil pass0 ha hdb he hpl).weak fun σ H Q ⟨P, env, z, hs, hf, q⟩ => by
    obtain ⟨xs, ex, hf⟩ := Option.bind_eq_some_iff.mp hf
    refine ⟨P, env, xs, hs, ex, fun vs H1 s1 r1 => ?_⟩
    show spV cm F (vs ++ []) H1 Q _
    rw [List.append_nil]
    exact ⟨P, xs, z, hs.hid.same s1, r1, hf, fun v H2 s2 r2 => q v H2 (s1.trans s2) r2⟩
theorem vd_callG {k : Nat} {ps : List Str} {F : List Val → Option Val} {x : Str} {p : Pos} {t : DA} {fa : Addr} {fd : FuncData} (hQ : Quiet X.A) (d : DfG X.prog X.w X.K X.mg X.base cm x k ps F fa fd) (hr : Room k X.A) (hg : Gl X x) (ha : VDA X cm (e :: es) t) (hdb : (x == ("__debug__" : Str)) = false := by decide)
    (he : starEach (e :: es) X.env = (false, eval e X.env) :: starEach es X.env := by rfl) (hpl : (backTo pos (starEach es X.env)).any (·.1) = false := by rfl) : VD X cm (.Call (.Name x p) (e :: es) [] pos) (appD F t) :=
  (pe_callG hQ d.ok hr hg d.at_ d.kp d.bd .nil pass0 ha hdb he hpl).weak fun σ H Q ⟨P, m, gg, b, env, R, M, hs, hf, q⟩ => by
    refine ⟨P, m, gg, b, env, _, M, hs, hf, fun vs xs b1 H1 G1 r1 ⟨z, ez, k1⟩ => ?_⟩
    show spV cm F (vs ++ []) H1 Q _
    rw [List.append_nil]
    exact ⟨P, xs, z, G1.hid hs.hid, r1, ez, fun v H2 s2 r2 => q v z b1 H2 (G1.sameR s2) r2 k1⟩
end
section
variable {P : Program} {w : World} {K : PySem.W.Frag} {mg : Str → Option Value} {base : Heap} {cm : Cm}
theorem okVG {x : Str} {st : Stmt} {f : Addr} {fd : FuncData} {N ps : List Str} {k : Nat} (ow : List Nat) {g : En → Option Out} (D : Dd K mg x st ps f fd) (S : FnScope N ps (defScope st)) (ho : ∀ i ∈ ow, ps.length ≤ i)
    (hbody : ∀ (cdv : Value) (A : Around) (outer : List Env) (s : Shared) (H : Hp) (E : XK), Quiet (A.deeper (envOfC x (defScope st) s.heap.objs.size f cdv)) → Room k (A.deeper (envOfC x (defScope st) s.heap.objs.size f cdv)) → (A.deeper (envOfC x (defScope st) s.heap.objs.size f cdv)).units + 64 < cLine → SVs (cxOf CX0 P w K mg base N x (defScope st) f cdv A outer s H E).nox cm ow (defBody st) g) :
    DfG P w K mg base cm x (k + 1) ps (runV N.length ps.length g) f fd := by
  refine ⟨okG D.fn S (fun vs H Q E h => ?_) (fun cdv A outer s H vs Q E hQ hr h => ?_), D.at_, D.fn.kp, D.bd⟩
  · obtain ⟨P', xs, z, _, r, e, _⟩ := h
    unfold runV at e
    split at e
    · rename_i l
      rw [Res.length r]
      exact l
    · cases e
  · obtain ⟨P', xs, z, hd, r, e, q⟩ := h
    refine ⟨_, hbody cdv A outer s H E hQ hr (by have := hr.un; omega), ?_⟩
    unfold runV at e
    split at e
    case isFalse => cases e
    rename_i l
    obtain ⟨o, e1, e⟩ := Option.bind_eq_some_iff.mp e
    refine ⟨P', H, _, o, start_st (N := N) hd r (by rw [l]; exact ho), e1, ?_⟩
    cases o with
    | nx env' =>
      cases e
      exact fun σ' H' hs f => q _ H' hs.base .non
    | rt y =>
      cases e
      exact fun v H' s r => q v H' s r
    | bk env' => cases e
    | ct env' => cases e
end
section
variable {X : Cx} {cm : Cm} {ow : List Nat} {st : Stmt}
theorem SnD.weak {r : DA} {t t' : TE} (h : SnD cm ow r t) (k : ∀ σ H Q, t σ H Q → t' σ H Q) : SnD cm ow r t' := fun P m g b H0 H env σ R Q M h0 hs hk q => k σ H Q (h P m g b H0 H env σ R Q M h0 hs hk q)
theorem sd_new0 {r : DA} {t : TE} {i : Nat} (hst : PS X st (tAsg t (gName i))) (ho : i ∈ ow) (sn : SnD cm ow r t) : SD X cm ow st (newD i r) := hst.weak fun D σ H ⟨P, m, g, b, H0, env, R, M, h0, hs, ⟨lt, hk⟩, q⟩ =>
  sn P m g b H0 H env σ _ _ M h0 hs hk fun a vs xs b1 H1 G1 na ha rs k1 => by
    obtain ⟨h1, h2⟩ := StV.newGo M h0 G1 hs ho lt na ha rs
    exact q _ b1 k1 _ H1 h1 G1.mx h2
theorem sd_setL0 {r : DA} {t : TE} {i : Nat} (hst : PS X st (tAsg t (gName i))) (ho : i ∉ ow) (sn : SnD cm ow r t) : SD X cm ow st (setD i (lstOf r)) := hst.weak fun D σ H ⟨P, m, g, b, H0, env, R, M, h0, hs, hk, q⟩ =>
  sn P m g b H0 H env σ _ _ M h0 hs hk fun a vs xs b1 H1 G1 na ha rs k1 =>
    q _ b1 k1 _ H1 ((hs.go M h0 G1).set ho (.lst (hs.sl.hid.new na) ha (rs.less fun b c => .inl c))) G1.mx ((Fr.go M G1).trans (Fr.set ho (Same.refl _)))
theorem sd_newLc {i : Nat} {y : Str} {py pos : Pos} {elt tg iter : Expr} {ifs : List Expr} {scope : Scope} {own : List (Str × Nat)} {spos : Pos} {gt : TG} {tt : TT} {fi : DA} {bnd : Val → Option (List (Nat × Val))} {ft : DB} {fe : DE} {is : List Nat} {r : DA} (hc : X.calm = true) (hN : X.N.Nodup) (hy : X.N[i]? = some y) (hyl : X.env.scope.names.lookup y = some .local)
    (hsw : swapsWith (.ListComp elt [⟨tg, iter, ifs, 0⟩] scope pos) (some (.Name y py)) spos.line X.env = pure true) (hi : VDI X cm tg iter fi) (ok : BlkOk X.N X.env.scope scope own)
    (hg : ∀ (s : Shared) (H : Hp) (C : Addr) (cl : List (Str × Addr)) (fp : List Addr), PG (X.blk s H scope (compEnvC scope cl C X.env) fp) tg gt) (ht : ∀ (s : Shared) (H : Hp) (C : Addr) (cl : List (Str × Addr)) (fp : List Addr), PTs (X.blk s H scope (compEnvC scope cl C X.env) fp) ifs tt)
    (he : ∀ (s : Shared) (H : Hp) (C : Addr) (cl : List (Str × Addr)) (fp : List Addr), VD (X.blk s H scope (compEnvC scope cl C X.env) fp) cm elt fe) (tg_ : TgV cm gt bnd is) (hi2 : ∀ i ∈ is, i ∈ own.map (·.2)) (tt_ : TtD cm tt ft) (ho : i ∈ ow) (sn : SnD cm ow r (tND cm (lcD fi bnd ft fe (own.map (·.2))))) (hs : ∀ x, foldedSetIterable iter X.env x = pure x := by intro _; rfl) :
    SD X cm ow (.Assign [.Name y py] (.ListComp elt [⟨tg, iter, ifs, 0⟩] scope pos) spos) (newD i r) := sd_new0 (ps_setLc hc hN hy hyl hsw hi ok hg ht he hs) ho (sn.weak (tLcD_of tg_ hi2 tt_))
theorem sd_setLc {i : Nat} {y : Str} {py pos : Pos} {elt tg iter : Expr} {ifs : List Expr} {scope : Scope} {own : List (Str × Nat)} {spos : Pos} {gt : TG} {tt : TT} {fi : DA} {bnd : Val → Option (List (Nat × Val))} {ft : DB} {fe : DE} {is : List Nat} {r : DA} (hc : X.calm = true) (hN : X.N.Nodup) (hy : X.N[i]? = some y) (hyl : X.env.scope.names.lookup y = some .local)
    (hsw : swapsWith (.ListComp elt [⟨tg, iter, ifs, 0⟩] scope pos) (some (.Name y py)) spos.line X.env = pure true) (hi : VDI X cm tg iter fi) (ok : BlkOk X.N X.env.scope scope own)
    (hg : ∀ (s : Shared) (H : Hp) (C : Addr) (cl : List (Str × Addr)) (fp : List Addr), PG (X.blk s H scope (compEnvC scope cl C X.env) fp) tg gt) (ht : ∀ (s : Shared) (H : Hp) (C : Addr) (cl : List (Str × Addr)) (fp : List Addr), PTs (X.blk s H scope (compEnvC scope cl C X.env) fp) ifs tt)
    (he : ∀ (s : Shared) (H : Hp) (C : Addr) (cl : List (Str × Addr)) (fp : List Addr), VD (X.blk s H scope (compEnvC scope cl C X.env) fp) cm elt fe) (tg_ : TgV cm gt bnd is) (hi2 : ∀ i ∈ is, i ∈ own.map (·.2)) (tt_ : TtD cm tt ft) (ho : i ∉ ow) (sn : SnD cm ow r (tND cm (lcD fi bnd ft fe (own.map (·.2))))) (hs : ∀ x, foldedSetIterable iter X.env x = pure x := by intro _; rfl) :
    SD X cm ow (.Assign [.Name y py] (.ListComp elt [⟨tg, iter, ifs, 0⟩] scope pos) spos) (setD i (lstOf r)) := sd_setL0 (ps_setLc hc hN hy hyl hsw hi ok hg ht he hs) ho (sn.weak (tLcD_of tg_ hi2 tt_))
end
def allN : List Nat → En → Prop
  | [], _ => True
  | i :: is, env => env[i]? = some none ∧ allN is env
theorem ow_all {env : En} : ∀ {ow : List Nat}, allN ow env → ∀ i ∈ ow, env[i]? = some none
  | j :: is, h, i, hi => by
    rcases List.mem_cons.mp hi with rfl | hi
    · exact h.1
    · exact ow_all h.2 i hi
/-! ### talks of any rows -/
open Classical in
noncomputable def f_TalkX (xs : List Val) : Option Val := match f_Talk xs with
  | some t => some t
  | none => match xs with
    | [rows] => if h : ∃ z, ∃ (gss : List (List Dg)) (many : Nat) (S G : Nat → Nat) (Ck : Dg → List Int), rowsOf rows = some gss ∧ Valid gss many S G Ck ∧ z = talkV gss many S G Ck then some h.choose else none
    | _ => none
theorem talkX_ok : MkOk f_TalkX := fun xs z h => by
  unfold f_TalkX at h
  split at h
  · rename_i t e
    cases h
    exact mkT_ok xs _ e
  · match xs, h with
    | [], h => cases h
    | _ :: _ :: _, h => cases h
    | [rows], h =>
      simp only at h
      split at h
      · rename_i hh
        cases h
        obtain ⟨gss, many, S, G, Ck, e1, e2, e3⟩ := hh.choose_spec
        exact ⟨rows, gss, many, S, G, Ck, rfl, e1, e2, e3⟩
      · cases h
theorem rowV_of (gs : List Dg) : allO dgOf (gs.map dgV) = some gs := by
  induction gs with
  | nil => rfl
  | cons g gs ih =>
    have e : dgOf (dgV g) = some g := by
      obtain ⟨s, l⟩ := g
      cases s <;> rfl
    show (dgOf (dgV g)).bind _ = _
    rw [e]
    show (allO dgOf (gs.map dgV)).bind _ = _
    rw [ih]
    rfl
theorem rowsV_of (gss : List (List Dg)) : rowsOf (tLstV gss) = some gss := by
  show allO rowOf (gss.map fun gs => Val.lst (gs.map dgV)) = some gss
  induction gss with
  | nil => rfl
  | cons gs gss ih =>
    show (rowOf (Val.lst (gs.map dgV))).bind _ = _
    have e : rowOf (Val.lst (gs.map dgV)) = some gs := rowV_of gs
    rw [e]
    show (allO rowOf _).bind _ = _
    rw [ih]
    rfl
theorem talkX_tot {gss : List (List Dg)} {many : Nat} {S G : Nat → Nat} {Ck : Dg → List Int} (v : Valid gss many S G Ck) : ∃ (many : Nat) (S G : Nat → Nat) (Ck : Dg → List Int), Valid gss many S G Ck ∧ f_TalkX [tLstV gss] = some (talkV gss many S G Ck) := by
  obtain ⟨z, e⟩ : ∃ z, f_TalkX [tLstV gss] = some z := by
    unfold f_TalkX
    split
    · exact ⟨_, rfl⟩
    · simp only
      have hh : ∃ z, ∃ (gss' : List (List Dg)) (many : Nat) (S G : Nat → Nat) (Ck : Dg → List Int), rowsOf (tLstV gss) = some gss' ∧ Valid gss' many S G Ck ∧ z = talkV gss' many S G Ck := ⟨_, gss, many, S, G, Ck, rowsV_of gss, v, rfl⟩
      rw [dif_pos hh]
      exact ⟨_, rfl⟩
  obtain ⟨rows, gss', many', S', G', Ck', e1, e2, e3, rfl⟩ := talkX_ok _ _ e
  cases e1
  rw [rowsV_of] at e2
  cases e2
  exact ⟨many', S', G', Ck', e3, e⟩
end Up

namespace Up
open PySem PySem.Spec PyProof.Rows L2
/-! ### repr -/
mutual
def dataQ : Val → Option PyData
  | .non => some .none
  | .bl b => some (.bool b)
  | .int i => some (.int i)
  | .str x => some (.str x)
  | .lst xs => (dataQs xs).map .list
  | .tup xs => (dataQs xs).map .tuple
  | .dk0 => some (.dict [])
  | _ => none
def dataQs : List Val → Option (List PyData)
  | [] => some []
  | x :: xs => (dataQ x).bind fun d => (dataQs xs).bind fun ds => some (d :: ds)
end
mutual
/-- no list in it -/
def noL : Val → Bool
  | .lst _ => false
  | .tup xs => noLs xs
  | _ => true
def noLs : List Val → Bool
  | [] => true
  | x :: xs => noL x && noLs xs
end
def AllK (H : Hp) (as : List Addr) : Prop := ∀ b ∈ as, ∃ kvs, H b = some (.dK kvs)
section
variable {cm : Cm}
theorem Rep.dq {K : PySem.W.Frag} {P : Addr → Prop} {H : Hp} : ∀ {b : Bool} {vs : List V} {xs : List Val}, Rep cm P H b vs xs →
    (b = true → ∀ v x d, vs = [v] → xs = [x] → dataQ x = some d → ∃ as, Dq K H v d as ∧ (noL x = true → AllK H as)) ∧ (b = false → ∀ ds, dataQs xs = some ds → ∃ as, DqAll K H vs ds as ∧ (noLs xs = true → AllK H as)) := fun h => by
  have no : AllK H [] := fun b hb => nomatch hb
  induction h with
  | nil => exact ⟨(fun e => nomatch e), fun _ ds e => by rw [dataQs] at e; cases e; exact ⟨[], .nil, fun _ => no⟩⟩
  | cons r t i1 i2 =>
    refine ⟨(fun e => nomatch e), fun _ ds e => ?_⟩
    rw [dataQs] at e
    obtain ⟨d, e1, e⟩ := Option.bind_eq_some_iff.mp e
    obtain ⟨ds', e2, e⟩ := Option.bind_eq_some_iff.mp e
    cases e
    obtain ⟨as, h1, h2⟩ := i1.1 rfl _ _ _ rfl rfl e1
    obtain ⟨bs, h3, h4⟩ := i2.2 rfl _ e2
    refine ⟨as ++ bs, .cons h1 h3, fun c b hb => ?_⟩
    rw [noLs, Bool.and_eq_true] at c
    rcases List.mem_append.mp hb with z | z
    · exact h2 c.1 b z
    · exact h4 c.2 b z
  | non => exact ⟨fun _ v x d h1 h2 e => by cases h1; cases h2; rw [dataQ] at e; cases e; exact ⟨[], .non, fun _ => no⟩, (fun e => nomatch e)⟩
  | bl b => exact ⟨fun _ v x d h1 h2 e => by cases h1; cases h2; rw [dataQ] at e; cases e; exact ⟨[], .bl _, fun _ => no⟩, (fun e => nomatch e)⟩
  | int i => exact ⟨fun _ v x d h1 h2 e => by cases h1; cases h2; rw [dataQ] at e; cases e; exact ⟨[], .int _, fun _ => no⟩, (fun e => nomatch e)⟩
  | str z => exact ⟨fun _ v x d h1 h2 e => by cases h1; cases h2; rw [dataQ] at e; cases e; exact ⟨[], .str _, fun _ => no⟩, (fun e => nomatch e)⟩
  | lst n hh r ih =>
    refine ⟨fun _ v x d h1 h2 e => ?_, (fun e => nomatch e)⟩
    cases h1
    cases h2
    rw [dataQ] at e
    obtain ⟨ds, e1, rfl⟩ := Option.map_eq_some_iff.mp e
    obtain ⟨as, h3, _⟩ := ih.2 rfl _ e1
    exact ⟨_, .lst (.inl (.inl hh)) h3, fun c => by rw [noL] at c; cases c⟩
  | tup n hh r ih =>
    refine ⟨fun _ v x d h1 h2 e => ?_, (fun e => nomatch e)⟩
    cases h1
    cases h2
    rw [dataQ] at e
    obtain ⟨ds, e1, rfl⟩ := Option.map_eq_some_iff.mp e
    obtain ⟨as, h3, h4⟩ := ih.2 rfl _ e1
    exact ⟨as, .tup (.inl (.inl hh)) h3, fun c => h4 (by rw [noL] at c; exact c)⟩
  | dk0 n hh =>
    refine ⟨fun _ v x d h1 h2 e => ?_, (fun e => nomatch e)⟩
    cases h1
    cases h2
    rw [dataQ] at e
    cases e
    refine ⟨_, .dct hh, fun _ b hb => ?_⟩
    rcases List.mem_cons.mp hb with z | z
    · subst z
      exact ⟨_, hh⟩
    · cases z
  | _ =>
    refine ⟨fun _ v x d h1 h2 e => ?_, (fun e => nomatch e)⟩
    cases h1
    cases h2
    simp [dataQ] at e
def showC (d : PyData) : Bool := d.showable && decide (d.depth ≤ 60) && decide (d.shown.length ≤ sizeLine)
def reprF : List Val → Option Val
  | [x] => (dataQ x).bind fun d => if ((noL x || !d.hasDict) && showC d) = true then some (.str d.shown) else none
  | _ => none
theorem reprF_some {xs : List Val} {z : Val} (h : reprF xs = some z) : ∃ x d, xs = [x] ∧ dataQ x = some d ∧ (noL x = true ∨ d.hasDict = false) ∧ d.showable = true ∧ d.depth ≤ 60 ∧ d.shown.length ≤ sizeLine ∧ z = .str d.shown := by
  unfold reprF at h
  split at h
  case h_2 => cases h
  rename_i x
  obtain ⟨d, ed, h⟩ := Option.bind_eq_some_iff.mp h
  split at h
  case isFalse => cases h
  rename_i c
  cases h
  unfold showC at c
  simp only [Bool.and_eq_true, Bool.or_eq_true, decide_eq_true_eq, Bool.not_eq_true'] at c
  exact ⟨x, d, rfl, ed, c.1, c.2.1.1, c.2.1.2, c.2.2, rfl⟩
theorem cv_repr {K : PySem.W.Frag} : CaV cm (rRepr K) reprF := fun P xs z vs H Q hd e r q => by
  obtain ⟨x, d, rfl, ed, h1, h2, h3, h4, rfl⟩ := reprF_some e
  obtain ⟨v, rfl, rv⟩ := Res.one r
  obtain ⟨as, hq, hk⟩ := (Rep.dq (K := K) rv).1 rfl _ _ _ rfl rfl ed
  refine ⟨v, d, as, rfl, hq, h2, fun c b hb => ?_, h3, h4, q _ H (Same.refl H) (.str _)⟩
  rcases h1 with z | z
  · exact .inr (hk z b hb)
  · rw [z] at c
    cases c
end
/-- statements that are functions, begun from names' values -/
theorem stv_mk {cm : Cm} {P : Addr → Prop} {ow : List Nat} {env : En} {σ : L2.St} {H : Hp} (sl : Slots cm P H σ env) (ho : ∀ i ∈ ow, env[i]? = some none) : StV cm P ow H env σ H := by
  have no : ∀ i ∈ ow, ∀ x, env[i]? ≠ some (some x) := fun i hi x e => by
    rw [ho i hi] at e
    cases e
  have wi : ∀ l : List Nat, (∀ i ∈ l, env[i]? = some none) → wipeE env l = env := by
    intro l
    induction l with
    | nil => exact fun _ => rfl
    | cons i l ih =>
      intro h
      show (wipeE env l).set i none = env
      rw [ih fun j hj => h j (List.mem_cons_of_mem _ hj)]
      have e := h i (List.mem_cons_self ..)
      refine List.ext_getElem? fun j => ?_
      by_cases c : i = j
      · subst c
        rw [List.getElem?_set_self (List.getElem?_eq_some_iff.mp e).1, e]
      · rw [List.getElem?_set_ne c]
  have eo : Ow P ow env σ = P := funext fun a => propext ⟨fun c => c.elim id fun ⟨i, hi, ⟨x, hx⟩, _⟩ => absurd hx (no i hi x), .inl⟩
  exact ⟨by rw [eo, wi ow ho]; exact sl, fun i hi x e => absurd e (no i hi x), fun i hi j hj a ⟨x, hx⟩ => absurd hx (no i hi x), sl.len, Same.refl H⟩
theorem StV.val {cm : Cm} {P : Addr → Prop} {ow : List Nat} {H0 H : Hp} {env : En} {σ : L2.St} (h : StV cm P ow H0 env σ H) {i : Nat} {x : Val} (e : env[i]? = some (some x)) (n : i ∉ ow) : ∃ v, σ[i]? = some (some v) ∧ Re cm P H v x := by
  have wi : ∀ l : List Nat, i ∉ l → (wipeE env l)[i]? = env[i]? := by
    intro l
    induction l with
    | nil => exact fun _ => rfl
    | cons j l ih =>
      intro hn
      show ((wipeE env l).set j none)[i]? = env[i]?
      rw [List.getElem?_set_ne (fun z => hn (by rw [z]; exact List.mem_cons_self ..)), ih fun z => hn (List.mem_cons_of_mem _ z)]
  obtain ⟨v, h1, h2⟩ := h.sl.at_ i x (by rw [wi ow n]; exact e)
  exact ⟨v, h1, h2.less fun a c => .inl c⟩
end Up

namespace Up
open PySem PySem.Spec PyProof.Rows L2
/-! ### texts of small things are short -/
structure SzOk (s : Str) (n : Nat) : Prop where
  sz : s.cps.size ≤ n
  ok : PyData.strOk s = true
theorem SzOk.app {a b : Str} {n k : Nat} (h : SzOk a n) (g : SzOk b k) : SzOk (a ++ b) (n + k) := by
  have e : (a ++ b).cps = a.cps ++ b.cps := rfl
  refine ⟨by rw [e, Array.size_append]; exact Nat.add_le_add h.sz g.sz, ?_⟩
  have h2 := h.ok
  have g2 := g.ok
  unfold PyData.strOk at *
  rw [e, Array.all_append, h2, g2]
  rfl
theorem SzOk.mono {s : Str} {n k : Nat} (h : SzOk s n) (l : n ≤ k) : SzOk s k := ⟨Nat.le_trans h.sz l, h.ok⟩
def szB (s : Str) (n : Nat) : Bool := decide (s.cps.size ≤ n) && PyData.strOk s
theorem szB_ok {s : Str} {n : Nat} (h : szB s n = true) : SzOk s n := by
  unfold szB at h
  rw [Bool.and_eq_true] at h
  exact ⟨of_decide_eq_true h.1, h.2⟩
theorem intSmall : (List.range 1001).all (fun n => szB (Str.ofString (toString (n : Int))) 4) = true := by decide +kernel
theorem sz_int {i : Int} (h0 : 0 ≤ i) (h1 : i ≤ 1000) : SzOk (PyData.int i).shown 4 := by
  obtain ⟨n, rfl⟩ := Int.eq_ofNat_of_zero_le h0
  rw [PyData.shown.eq_3]
  exact szB_ok (List.all_eq_true.mp intSmall n (List.mem_range.mpr (by omega)))
theorem join_sz {n : Nat} : ∀ ts : List Str, (∀ t ∈ ts, SzOk t n) → SzOk ((Str.ofString ", ").join ts) (ts.length * (n + 2))
  | [], _ => by
    rw [Str.join.eq_1]
    exact (szB_ok (n := 0) (by decide +kernel)).mono (Nat.zero_le _)
  | [t], h => by
    rw [Str.join.eq_2]
    exact (h t (List.mem_cons_self ..)).mono (by show n ≤ 1 * (n + 2); omega)
  | t :: u :: ts, h => by
    rw [Str.join.eq_3 _ _ _ (fun z => by cases z)]
    have ih := join_sz (u :: ts) fun x hx => h x (List.mem_cons_of_mem _ hx)
    refine (((h t (List.mem_cons_self ..)).app (szB_ok (n := 2) (by decide +kernel))).app ih).mono ?_
    rw [List.length_cons (a := t), Nat.add_mul, Nat.one_mul]
    omega
theorem text_sz {n : Nat} : ∀ (ts : List Str) (k c : Nat) (s : Str), SzOk s c → (∀ t ∈ ts, SzOk t n) → SzOk (textFrom k s ts) (c + ts.length * (n + 2))
  | [], k, c, s, hs, _ => by
    rw [textFrom.eq_1]
    exact hs.mono (by omega)
  | t :: ts, k, c, s, hs, h => by
    rw [textFrom.eq_2]
    have e : SzOk (Str.ofString (if k > 0 then ", " else "")) 2 := by
      split
      · exact szB_ok (by decide +kernel)
      · exact szB_ok (by decide +kernel)
    refine (text_sz ts (k + 1) (c + 2 + n) _ ((hs.app e).app (h t (List.mem_cons_self ..))) fun x hx => h x (List.mem_cons_of_mem _ hx)).mono ?_
    rw [List.length_cons, Nat.add_mul, Nat.one_mul]
    omega
structure Small (d : PyData) (n k : Nat) : Prop where
  sz : SzOk d.shown n
  sh : d.showable = true
  dp : d.depth ≤ k
  hd : d.hasDict = false
theorem Small.mono {d : PyData} {n k n2 k2 : Nat} (h : Small d n k) (l1 : n ≤ n2) (l2 : k ≤ k2) : Small d n2 k2 := ⟨h.sz.mono l1, h.sh, Nat.le_trans h.dp l2, h.hd⟩
theorem small_int {i : Int} (h0 : 0 ≤ i) (h1 : i ≤ 1000) : Small (.int i) 4 0 := by
  refine ⟨sz_int h0 h1, ?_, by simp [PyData.depth], by simp [PyData.hasDict]⟩
  rw [PyData.showable.eq_4]
  refine decide_eq_true ?_
  have h : i.natAbs ≤ 1000 := by omega
  have := Nat.log2_lt (n := i.natAbs) (k := 10)
  by_cases c : i.natAbs = 0
  · rw [c]
    decide
  · have := (Nat.log2_lt c (k := 10)).mpr (by omega)
    omega
theorem small_none : Small .none 5 0 := ⟨by rw [PyData.shown.eq_1]; exact szB_ok (by decide +kernel), by simp [PyData.showable], by simp [PyData.depth], by simp [PyData.hasDict]⟩
theorem small_bool (b : Bool) : Small (.bool b) 5 0 := ⟨by rw [PyData.shown.eq_2]; cases b <;> exact szB_ok (by decide +kernel), by simp [PyData.showable], by simp [PyData.depth], by simp [PyData.hasDict]⟩
theorem small_str {s : Str} {n : Nat} (h : szB (reprText s) n = true) : Small (.str s) n 0 := ⟨by rw [PyData.shown.eq_4]; exact szB_ok h, by simp [PyData.showable], by simp [PyData.depth], by simp [PyData.hasDict]⟩
theorem small_all {n k : Nat} : ∀ {xs : List PyData}, (∀ x ∈ xs, Small x n k) → (∀ t ∈ PyData.shownAll xs, SzOk t n) ∧ (PyData.shownAll xs).length = xs.length ∧ PyData.showableAll xs = true ∧ PyData.depthAll xs ≤ k ∧ PyData.hasDictAll xs = false
  | [], _ => ⟨(fun t ht => by rw [PyData.shownAll.eq_1] at ht; cases ht), by simp [PyData.shownAll], by simp [PyData.showableAll], by simp [PyData.depthAll], by simp [PyData.hasDictAll]⟩
  | x :: xs, h => by
    obtain ⟨a1, a2, a3, a4, a5⟩ := small_all fun y hy => h y (List.mem_cons_of_mem _ hy)
    have hx := h x (List.mem_cons_self ..)
    refine ⟨fun t ht => ?_, by simp [PyData.shownAll, a2], by simp [PyData.showableAll, a3, hx.sh], ?_, by simp [PyData.hasDictAll, a5, hx.hd]⟩
    · rw [PyData.shownAll.eq_2] at ht
      rcases List.mem_cons.mp ht with rfl | c
      · exact hx.sz
      · exact a1 t c
    · have := hx.dp
      simp only [PyData.depthAll]
      omega
theorem small_tuple {n k : Nat} {xs : List PyData} (h : ∀ x ∈ xs, Small x n k) : Small (.tuple xs) (xs.length * (n + 2) + 3) (k + 1) := by
  obtain ⟨a1, a2, a3, a4, a5⟩ := small_all h
  refine ⟨?_, by rw [PyData.showable.eq_6]; exact a3, by simp only [PyData.depth]; omega, by simp [PyData.hasDict, a5]⟩
  rw [PyData.shown.eq_6]
  unfold tupleText
  have e : SzOk (Str.ofString (if ((PyData.shownAll xs).length == 1) = true then ",)" else ")")) 2 := by
    split
    · exact szB_ok (by decide +kernel)
    · exact szB_ok (by decide +kernel)
  have j := join_sz _ a1
  rw [a2] at j
  exact (((szB_ok (n := 1) (by decide +kernel)).app j).app e).mono (by omega)
theorem small_list {n k : Nat} {xs : List PyData} (h : ∀ x ∈ xs, Small x n k) : Small (.list xs) (xs.length * (n + 2) + 3) (k + 1) := by
  obtain ⟨a1, a2, a3, a4, a5⟩ := small_all h
  refine ⟨?_, by rw [PyData.showable.eq_5]; exact a3, by simp only [PyData.depth]; omega, by simp [PyData.hasDict, a5]⟩
  rw [PyData.shown.eq_5]
  unfold listText
  have j := text_sz (PyData.shownAll xs) 0 1 (Str.ofString "[") (szB_ok (by decide +kernel)) a1
  rw [a2] at j
  exact (j.app (szB_ok (n := 1) (by decide +kernel))).mono (by omega)
theorem reprF_small {x : Val} {d : PyData} {n k : Nat} (e : dataQ x = some d) (s : Small d n k) (hk : k ≤ 60) (hn : n ≤ 10000000) : reprF [x] = some (.str d.shown) := by
  show (dataQ x).bind _ = _
  rw [e]
  show (if ((noL x || !d.hasDict) && showC d) = true then some (Val.str d.shown) else none) = _
  rw [if_pos]
  rw [s.hd]
  unfold showC
  rw [s.sh, decide_eq_true (Nat.le_trans s.dp hk), decide_eq_true (show d.shown.length ≤ sizeLine from by
    have := s.sz.sz
    rw [sizeLine_eq]
    show d.shown.cps.size ≤ _
    omega)]
  cases noL x <;> rfl
theorem eq_same {s : Str} (h : PyData.strOk s = true) : eqF false (.str s) (.str s) = some (.bl true) := by
  have e : SeqAt.shaped (.str s) = true := by
    unfold SeqAt.shaped
    rw [PyData.canLay0.eq_4, h]
    simp [PyData.depth]
  unfold eqF
  rw [dataV]
  show (if (SeqAt.shaped (.str s) && SeqAt.shaped (.str s)) = true then some (Val.bl (PyData.eqv (.str s) (.str s))) else none) = _
  rw [e, if_pos (by rfl)]
  simp [PyData.eqv]
end Up

namespace Up
open PySem PySem.Spec PyProof.Rows L2
/-! ### what holds of loops that draw, by an invariant -/
theorem forD_inv {α : Type} {mm : Val → Option (List (Nat × Val))} {body : DS} {m : Addr} {R : Out → Nat → Prop} {x : α → Val} {J : Nat → En → Nat → Prop} : ∀ (as : List α) (i0 : Nat) {env : En} {b : Nat},
    (∀ i a env b, as[i]? = some a → J (i0 + i) env b → ∃ ps, mm (x a) = some ps ∧ ∀ R' : Out → Nat → Prop, (∀ env' b', J (i0 + i + 1) env' b' → R' (.nx env') b') → body m (setE env ps) b R') → J i0 env b → (∀ env' b', J (i0 + as.length) env' b' → R (.nx env') b') → forD mm body m R (as.map x) env b
  | [], _, env, b, _, h, k => k env b h
  | a :: as, i0, env, b, st, h, k => by
    obtain ⟨ps, e, q⟩ := st 0 a env b rfl h
    refine ⟨ps, e, q _ fun env' b' h' => ?_⟩
    refine forD_inv (J := J) as (i0 + 1) (fun i a' env b e h => ?_) h' fun env' b' h => k env' b' ?_
    · have e1 : i0 + 1 + i = i0 + (i + 1) := by omega
      rw [e1] at h
      have := st (i + 1) a' env b (by simpa using e) h
      rw [e1]
      exact this
    · rw [List.length_cons, show i0 + (as.length + 1) = i0 + 1 + as.length by omega]
      exact h
theorem lcDGo_inv {α : Type} {bnd : Val → Option (List (Nat × Val))} {ft : DB} {fe : DE} {env : En} {m : Addr} {R : List Val → Nat → Prop} {x : α → Val} {J : Nat → List Val → Nat → Prop} : ∀ (as : List α) (i0 : Nat) {acc : List Val} {b : Nat},
    (∀ i a acc b, as[i]? = some a → J (i0 + i) acc b → ∃ ps, bnd (x a) = some ps ∧ ∀ R' : List Val → Nat → Prop, (∀ acc' b', J (i0 + i + 1) acc' b' → R' acc' b') → ft m (setE env ps) b fun k b1 => if k = true then fe m (setE env ps) b1 fun y b2 => R' (acc ++ [y]) b2 else R' acc b1) → J i0 acc b → (∀ acc' b', J (i0 + as.length) acc' b' → R acc' b') → lcDGo bnd ft fe env m R (as.map x) b acc
  | [], _, acc, b, _, h, k => k acc b h
  | a :: as, i0, acc, b, st, h, k => by
    obtain ⟨ps, e, q⟩ := st 0 a acc b rfl h
    have rec_ : ∀ acc' b', J (i0 + 0 + 1) acc' b' → lcDGo bnd ft fe env m R (as.map x) b' acc' := fun acc' b' h' => by
      refine lcDGo_inv (J := J) as (i0 + 1) (fun i a' acc b e h => ?_) h' fun acc' b' h => k acc' b' ?_
      · have e1 : i0 + 1 + i = i0 + (i + 1) := by omega
        rw [e1] at h
        have := st (i + 1) a' acc b (by simpa using e) h
        rw [e1]
        exact this
      · rw [List.length_cons, show i0 + (as.length + 1) = i0 + 1 + as.length by omega]
        exact h
    exact ⟨ps, e, q (fun acc' b' => lcDGo bnd ft fe env m R (as.map x) b' acc') rec_⟩
theorem range_at {n i a : Nat} (e : (List.range n)[i]? = some a) : a = i ∧ i < n := by
  have lt := (List.getElem?_eq_some_iff.mp e).1
  rw [List.length_range] at lt
  rw [List.getElem?_range lt] at e
  exact ⟨(Option.some.inj e).symm, lt⟩
end Up

namespace Up
open PySem PySem.Spec PyProof.Rows L2
/-! ### what the functions tell of talks -/
section
variable {f g h : En → Option Val} {r k l : En → Option Out} {t : En → Option Bool} {env env' : En} {x y z : Val} {a b : Bool}
theorem seqG_nx (e : r env = some (.nx env')) : seqG r k env = k env' := by
  unfold seqG
  rw [e]
  rfl
theorem seqG_rt (e : r env = some (.rt z)) : seqG r k env = some (.rt z) := by
  unfold seqG
  rw [e]
  rfl
theorem doG_ok (e : f env = some z) : doG f env = some (.nx env) := by
  unfold doG
  rw [e]
  rfl
theorem retG_ok (e : f env = some z) : retG f env = some (.rt z) := by
  unfold retG
  rw [e]
  rfl
theorem runV_rt {n k : Nat} {xs : List Val} (hl : xs.length = k) (e : r (xs.map some ++ List.replicate (n - xs.length) none) = some (.rt z)) : runV n k r xs = some z := by
  unfold runV
  rw [if_pos hl, e]
  rfl
theorem runV_nx {n k : Nat} {xs : List Val} (hl : xs.length = k) (e : r (xs.map some ++ List.replicate (n - xs.length) none) = some (.nx env')) : runV n k r xs = some .non := by
  unfold runV
  rw [if_pos hl, e]
  rfl
theorem ifG_f (e : t env = some false) : ifG t k l env = l env := by
  unfold ifG
  rw [e]
  rfl
theorem ifG_t (e : t env = some true) : ifG t k l env = k env := by
  unfold ifG
  rw [e]
  rfl
theorem setG_ok {i : Nat} (e : f env = some x) : setG i f env = some (.nx (env.set i (some x))) := by
  unfold setG
  rw [e]
  rfl
theorem andF_ok (e : f env = some (.bl a)) (e2 : a = true → g env = some (.bl b)) : andF f g env = some (.bl (a && b)) := by
  unfold andF
  rw [e]
  show (if a = true then g env else some (.bl false)) = _
  cases a with
  | true => rw [if_pos rfl, e2 rfl, Bool.true_and]
  | false => rw [if_neg (by decide), Bool.false_and]
theorem bin2_ok {op : Val → Val → Option Val} (e1 : f env = some x) (e2 : g env = some y) (e : op x y = some z) : bin2 op f g env = some z := by
  unfold bin2
  rw [e1, e2]
  exact e
theorem appF_ok {F : List Val → Option Val} {u : En → Option (List Val)} {xs : List Val} (e1 : u env = some xs) (e2 : F xs = some z) : appF F u env = some z := by
  unfold appF
  rw [e1]
  exact e2
theorem tst_ok (e : f env = some (.bl b)) : tst f env = some b := by
  unfold tst
  rw [e]
  rfl
theorem notT_ok (e : t env = some b) : notT t env = some (!b) := by
  unfold notT
  rw [e]
  rfl
end
theorem whole_int (i : Int) : f_is_whole [.int i] = some (.bl true) := by rfl
theorem f_index (i n : Int) : f_is_index [.int i, .int n] = some (.bl (decide (0 ≤ i) && decide (i < n))) := by
  refine runV_rt rfl (retG_ok ?_)
  refine andF_ok (a := true) (b := decide (0 ≤ i) && decide (i < n)) (appF_ok rfl (whole_int i)) fun _ => ?_
  show (if decide (0 ≤ i) = true then some (Val.bl (decide (i < n))) else some (Val.bl false)) = _
  by_cases c : 0 ≤ i
  · rw [if_pos (decide_eq_true c), decide_eq_true c, Bool.true_and]
  · rw [if_neg (by rw [decide_eq_false c]; decide), decide_eq_false c, Bool.false_and]
theorem couple_two (x y : Val) : f_is_couple [.tup [x, y]] = some (.bl true) := by rfl
theorem word_in (g : Dg) : inF false (.str g.word) (.tup [.str "send", .str "get"]) = some (.bl true) := by
  obtain ⟨s, l⟩ := g
  cases s <;> rfl
theorem f_doing (g : Dg) (n : Int) : f_is_doing [dgV g, .int n] = some (.bl (decide ((g.l : Int) < n))) := by
  refine runV_rt rfl ?_
  show seqG _ _ [some (dgV g), some (.int n), none, none] = _
  rw [seqG_nx (env' := [some (dgV g), some (.int n), none, none]) (by rw [ifG_f (notT_ok (tst_ok (appF_ok rfl (couple_two _ _))))]; rfl)]
  rw [seqG_nx (env' := [some (dgV g), some (.int n), some (.str g.word), some (.int (g.l : Int))]) rfl]
  refine retG_ok ?_
  have e := f_index (g.l : Int) n
  rw [decide_eq_true (Int.natCast_nonneg _), Bool.true_and] at e
  have e3 : andF (bin2 (inF false) (getE 2) (tupF (consF (cst (.str "send")) (consF (cst (.str "get")) noF)))) (appF f_is_index (consF (getE 3) (consF (getE 1) noF))) [some (dgV g), some (.int n), some (.str g.word), some (.int (g.l : Int))] = some (.bl (true && decide ((g.l : Int) < n))) :=
    andF_ok (bin2_ok rfl rfl (word_in g)) fun _ => appF_ok rfl e
  have e4 := andF_ok (f := isiF "str" (getE 2)) (a := true) (by rfl) fun _ => e3
  rw [Bool.true_and, Bool.true_and] at e4
  exact e4
section
variable {gss : List (List Dg)} {many : Nat} {S G : Nat → Nat} {Ck : Dg → List Int}
theorem dgV_ne (a b : Dg) : eqF true (dgV a) (dgV b) = some (.bl (!dgEq a b)) := by
  obtain ⟨s, l⟩ := a
  obtain ⟨s', l'⟩ := b
  have sh : ∀ g : Dg, SeqAt.shaped (.tuple [.str g.word, .int (g.l : Int)]) = true := fun g => by
    have ok : PyData.strOk g.word = true := by
      obtain ⟨s, l⟩ := g
      cases s
      · show PyData.strOk (("get" : Str)) = true
        decide +kernel
      · show PyData.strOk (("send" : Str)) = true
        decide +kernel
    unfold SeqAt.shaped
    simp [PyData.canLayAll0, PyData.depthAll, PyData.canLay0, PyData.depth, ok]
  have dv : ∀ (g : Dg), dataV (dgV g) = some (.tuple [.str g.word, .int (g.l : Int)]) := fun g => by
    simp [dgV, dataV, dataVs]
  unfold eqF
  rw [dv, dv]
  show (if (SeqAt.shaped _ && SeqAt.shaped _) = true then some (Val.bl _) else none) = _
  rw [sh, sh, if_pos (by rfl)]
  have k : PyData.eqv (.tuple [.str (Dg.word ⟨s, l⟩), .int (l : Int)]) (.tuple [.str (Dg.word ⟨s', l'⟩), .int (l' : Int)]) = dgEq ⟨s, l⟩ ⟨s', l'⟩ := by
    unfold dgEq
    have il : ((l : Int) == (l' : Int)) = (l == l') := by
      rw [Bool.eq_iff_iff]
      simp only [beq_iff_eq]
      exact Int.ofNat_inj
    have w1 : ¬ (("get" : Str) = ("send" : Str)) := by decide +kernel
    have w2 : ¬ (("send" : Str) = ("get" : Str)) := by decide +kernel
    cases s <;> cases s' <;> simp [PyData.eqv, PyData.eqvAll, Dg.word, il, w1, w2]
  rw [k]
  rfl
/-- a place by a doing -/
def placeOf : List Pl → Dg → Option (Nat × Nat)
  | [], _ => none
  | (k, p) :: t, g => if dgEq k g = true then some p else placeOf t g
theorem key_ne {a b : Dg} (h : dgEq a b ≠ true) : a.key ≠ b.key := fun z => h (dgEq_iff.mpr (Dg.key_inj z))
theorem look_place {f : Pl → Val} {g : Dg} : ∀ {pl : List Pl} {p : Nat × Nat}, placeOf pl g = some p → lookK g.key (pl.map fun t => t.1.key) (pl.map f) = some (f (g, p))
  | (k, q) :: t, p, e => by
    unfold placeOf at e
    show (if k.key = g.key then some (f (k, q)) else lookK g.key (t.map fun t => t.1.key) (t.map f)) = _
    by_cases c : dgEq k g = true
    · rw [if_pos c] at e
      cases e
      rw [dgEq_iff] at c
      subst c
      rw [if_pos rfl]
    · rw [if_neg c] at e
      rw [if_neg (key_ne c)]
      exact look_place e
theorem ixD_dct (ks : List (List Key)) (xs : List Val) (y : Val) : ixD (.dct ks xs) y = (tkey y).bind fun k => lookK k ks xs := by
  cases y <;> rfl
theorem tkey_dg (g : Dg) : tkey (dgV g) = some g.key := by rfl
def aheadB (pl : List Pl) (Ck : Dg → List Int) (a b : Dg) : Option Bool := (placeOf pl a).bind fun p => (placeOf pl b).bind fun _ => if dgEq a b = true then some false else ((Ck b)[p.1]?).map fun c => decide ((p.2 : Int) < c)
end
end Up

namespace Up
open PySem PySem.Spec PyProof.Rows L2
/-! ### rising moments, as plain lists -/
abbrev St2 := List (Nat × Nat)
def rowSt (gs : List Dg) : St2 := (gs.zip gs.tail).map fun p => (p.1.l, p.2.l)
def stepsOf (gss : List (List Dg)) : St2 := gss.flatMap rowSt
def mxI (i j : Int) : Int := if j > i then j else i
def rise1 (r : List Int) (p : Nat × Nat) : List Int := r.set p.2 (mxI (r.getD p.2 0) (r.getD p.1 0 + 1))
def rise (st : St2) (xs : List Int) : List Int := st.foldl rise1 xs
def momGo (st : St2) : Nat → List Int → Option (List Int)
  | 0, _ => none
  | n + 1, xs => if rise st xs = xs then some xs else momGo st n (rise st xs)
def momO (gss : List (List Dg)) (many : Nat) : Option (List Int) := momGo (stepsOf gss) (many + 1) (List.replicate many 0)
def intsV (xs : List Int) : List Val := xs.map .int
theorem rise1_len (r : List Int) (p : Nat × Nat) : (rise1 r p).length = r.length := by unfold rise1; rw [List.length_set]
theorem rise_len (st : St2) : ∀ xs : List Int, (rise st xs).length = xs.length := by
  unfold rise
  induction st with
  | nil => exact fun _ => rfl
  | cons p st ih =>
    intro xs
    rw [List.foldl_cons, ih, rise1_len]
theorem intsV_len (xs : List Int) : (intsV xs).length = xs.length := List.length_map ..
theorem intsV_at {xs : List Int} {a : Nat} (h : a < xs.length) : atI (intsV xs) (a : Int) = some (.int (xs.getD a 0)) := by
  have e : (intsV xs)[a]? = some (.int (xs.getD a 0)) := by
    unfold intsV
    rw [List.getElem?_map, List.getElem?_eq_getElem h, List.getD_eq_getElem?_getD, List.getElem?_eq_getElem h]
    rfl
  unfold atI ixN
  have lt := (List.getElem?_eq_some_iff.mp e).1
  rw [if_pos (by omega), if_pos (by omega)]
  exact e
theorem ixN_at {n a : Nat} (h : a < n) : ixN n (a : Int) = some a := by
  unfold ixN
  rw [if_pos (by omega), if_pos (by omega)]
  rfl
theorem intsV_set (xs : List Int) (a : Nat) (y : Int) : (intsV xs).set a (.int y) = intsV (xs.set a y) := by
  unfold intsV
  rw [List.map_set]
/-- a loop over a list, by what holds of the names' values -/
theorem forGo_inv {α β : Type} {m : Val → Option (List (Nat × Val))} {body : En → Option Out} {x : α → Val} {J : β → En → Prop} {f : β → α → β} : ∀ {as : List α}, (∀ b env a, a ∈ as → J b env → ∃ ps env', m (x a) = some ps ∧ body (setE env ps) = some (.nx env') ∧ J (f b a) env') →
    ∀ b env, J b env → ∃ env', forGo m body (as.map x) env = some (.nx env') ∧ J (as.foldl f b) env'
  | [], _, b, env, h => ⟨env, rfl, h⟩
  | a :: as, k, b, env, h => by
    obtain ⟨ps, env1, e1, e2, h1⟩ := k b env a (List.mem_cons_self ..) h
    obtain ⟨env2, e3, h2⟩ := forGo_inv (as := as) (fun b env a ha => k b env a (List.mem_cons_of_mem _ ha)) (f b a) env1 h1
    refine ⟨env2, ?_, h2⟩
    show (m (x a)).bind _ = _
    rw [e1]
    show (body (setE env ps)).bind _ = _
    rw [e2]
    exact e3
def pairI (p : Nat × Nat) : Val := .tup [.int (p.1 : Int), .int (p.2 : Int)]
theorem putG_ok {i : Nat} {f r : En → Option Val} {env : En} {xs : List Val} {y : Val} {k n : Nat} (e : env[i]? = some (some (.lst xs))) (hr : r env = some y) (hf : f env = some (.int (k : Int))) (hk : k < xs.length) : putG i f r env = some (.nx (env.set i (some (.lst (xs.set k y))))) := by
  unfold putG
  rw [e]
  show (r env).bind _ = _
  rw [hr]
  show (f env).bind _ = _
  rw [hf]
  show (ixN xs.length (k : Int)).map _ = _
  rw [ixN_at hk]
  rfl
end Up

namespace Up
open PySem PySem.Spec PyProof.Rows L2
theorem pairV_zip {α β : Type} {x : α → Val} {y : β → Val} : ∀ {as : List α} {bs : List β}, pairV (as.map x) (bs.map y) = (as.zip bs).map fun p => .tup [x p.1, y p.2]
  | [], _ => by simp [pairV]
  | _ :: _, [] => by simp [pairV]
  | a :: as, b :: bs => by
    show Val.tup [x a, y b] :: pairV (as.map x) (bs.map y) = _
    rw [pairV_zip]
    rfl
theorem cut_tail (xs : List Val) : cutG xs (some 1) none = xs.tail := by
  unfold cutG HT.sIx
  cases xs with
  | nil => rfl
  | cons x xs =>
    simp [HT.sIx]
    try omega
def pairD (p : Dg × Dg) : Val := .tup [dgV p.1, dgV p.2]
theorem steps_in {gs : List Dg} {env : En} (l : gs.length ≤ most) (t2 t3 : Option Val) (tk : Val) : lcGo (setTup 2 (setCo (setV 2) (setCo (setV 3) setNo))) yesF (tupF (consF (bin2 ixT (getE 2) (cst (.int 1))) (consF (bin2 ixT (getE 3) (cst (.int 1))) noF))) [some tk, some (rowV gs), t2, t3] ((gs.zip gs.tail).map pairD) = some ((rowSt gs).map pairI) := by
  have := lcGo_map (α := Dg × Dg) (bnd := setTup 2 (setCo (setV 2) (setCo (setV 3) setNo))) (fe := tupF (consF (bin2 ixT (getE 2) (cst (.int 1))) (consF (bin2 ixT (getE 3) (cst (.int 1))) noF))) (env := [some tk, some (rowV gs), t2, t3]) (x := pairD) (y := fun p => pairI (p.1.l, p.2.l)) (as := gs.zip gs.tail) fun p _ => ⟨[(2, dgV p.1), (3, dgV p.2)], rfl, rfl⟩
  rw [this]
  unfold rowSt
  rw [List.map_map]
  rfl
theorem stepsOf_len (gss : List (List Dg)) : (stepsOf gss).length ≤ gss.flatten.length := by
  unfold stepsOf
  induction gss with
  | nil => exact Nat.le_refl _
  | cons gs gss ih =>
    rw [List.flatMap_cons, List.flatten_cons, List.length_append, List.length_append]
    have h : (rowSt gs).length ≤ gs.length := by
      unfold rowSt
      rw [List.length_map, List.length_zip]
      omega
    omega
/-! equality of lists of ints -/
theorem int_eqv (a b : Int) : PyData.eqv (.int a) (.int b) = decide (a = b) := by
  by_cases c : a = b <;> simp [PyData.eqv, c]
theorem dataVs_ints (xs : List Int) : dataVs (intsV xs) = some (xs.map PyData.int) := by
  induction xs with
  | nil => simp [intsV, dataVs]
  | cons x xs ih =>
    show dataVs (.int x :: intsV xs) = _
    rw [dataVs, ih]
    simp [dataV]
theorem shaped_intsI (xs : List Int) : SeqAt.shaped (.list (xs.map PyData.int)) = true ∧ SeqAt.shaped (.tuple (xs.map PyData.int)) = true := by
  have h := all_can (f := PyData.int) (n := 0) (fun a => ⟨by simp [PyData.canLay0], by simp [PyData.depth]⟩) xs
  unfold SeqAt.shaped
  rw [Bool.and_eq_true, Bool.and_eq_true]
  exact ⟨⟨by simp only [PyData.canLay0]; exact h.1, decide_eq_true (by simp only [PyData.depth]; omega)⟩, ⟨by simp only [PyData.canLay0]; exact h.1, decide_eq_true (by simp only [PyData.depth]; omega)⟩⟩
theorem eq_intsL (neg : Bool) (xs ys : List Int) : eqF neg (.lst (intsV xs)) (.lst (intsV ys)) = some (.bl (if neg then !decide (xs = ys) else decide (xs = ys))) := by
  unfold eqF
  rw [dataV, dataV, dataVs_ints, dataVs_ints]
  show (if (SeqAt.shaped (.list (xs.map PyData.int)) && SeqAt.shaped (.list (ys.map PyData.int))) = true then some (Val.bl (if neg then !PyData.eqv (.list (xs.map PyData.int)) (.list (ys.map PyData.int)) else PyData.eqv (.list (xs.map PyData.int)) (.list (ys.map PyData.int)))) else none) = _
  rw [(shaped_intsI xs).1, (shaped_intsI ys).1]
  have e : PyData.eqv (.list (xs.map PyData.int)) (.list (ys.map PyData.int)) = decide (xs = ys) := by
    show PyData.eqvAll (xs.map PyData.int) (ys.map PyData.int) = _
    exact all_eqv int_eqv xs ys
  rw [e]
  rfl
end Up

namespace Up
open PySem PySem.Spec PyProof.Rows L2
def momV : Option (List Int) → Val
  | some r => .tup (intsV r)
  | none => .non
theorem mom_loop {body : En → Option Out} {mk : List Int → Option Val → Option Val → En} {st : St2} {i : Nat} {many : Nat} (hb : ∀ (xs : List Int) (t3 t4 : Option Val) (lo : Int), xs.length = many → ∃ t3' t4', body (setE (mk xs t3 t4) [(i, .int lo)]) = if rise st xs = xs then some (.rt (.tup (intsV xs))) else some (.nx (mk (rise st xs) t3' t4'))) :
    ∀ (n : Nat) (lo : Int) (xs : List Int) (t3 t4 : Option Val), xs.length = many → (∃ r, momGo st n xs = some r ∧ forGo (setV i) body (rangeV lo n) (mk xs t3 t4) = some (.rt (.tup (intsV r)))) ∨ (momGo st n xs = none ∧ ∃ env', forGo (setV i) body (rangeV lo n) (mk xs t3 t4) = some (.nx env'))
  | 0, lo, xs, t3, t4, _ => .inr ⟨rfl, _, rfl⟩
  | n + 1, lo, xs, t3, t4, lx => by
    obtain ⟨t3', t4', e⟩ := hb xs t3 t4 lo lx
    have step : forGo (setV i) body (rangeV lo (n + 1)) (mk xs t3 t4) = (body (setE (mk xs t3 t4) [(i, .int lo)])).bind fun o => match o with
        | .nx env' => forGo (setV i) body (rangeV (lo + 1) n) env'
        | .ct env' => forGo (setV i) body (rangeV (lo + 1) n) env'
        | .bk env' => some (.nx env')
        | .rt y => some (.rt y) := rfl
    rw [step, e]
    by_cases c : rise st xs = xs
    · rw [if_pos c]
      refine .inl ⟨xs, ?_, rfl⟩
      unfold momGo
      rw [if_pos c]
    · rw [if_neg c]
      have em : momGo st (n + 1) xs = momGo st n (rise st xs) := by
        rw [momGo, if_neg c]
      rw [em]
      exact mom_loop hb n (lo + 1) (rise st xs) t3' t4' (by rw [rise_len]; exact lx)
theorem repN_ok {f g : En → Option Val} {env : En} {x : Val} {n : Nat} (e1 : f env = some x) (e2 : g env = some (.int (n : Int))) (h : n ≤ 1000) : repN f g env = some (List.replicate n x) := by
  unfold repN
  rw [e1]
  show (g env).bind _ = _
  rw [e2]
  show (if (n : Int) ≤ 100000 ∧ -100000 ≤ (n : Int) then some (List.replicate (n : Int).toNat x) else none) = _
  rw [if_pos (by omega), Int.toNat_natCast]
theorem rng1_ok {k : En → Option (List Val)} {env : En} {n : Nat} (e : k env = some [.int (n : Int)]) (h : n ≤ 1000) : rng1 k env = some (rangeV 0 n) := by
  unfold rng1
  rw [e]
  show (if -1000000 ≤ (n : Int) ∧ (n : Int) ≤ 1000000 then some (rangeV 0 (n : Int).toNat) else none) = _
  rw [if_pos (by omega), Int.toNat_natCast]
theorem rng2_ok {k : En → Option (List Val)} {env : En} {a n : Nat} (e : k env = some [.int (a : Int), .int (n : Int)]) (h : n ≤ 1000) (ha : a ≤ 1000) : rng2 k env = some (rangeV (a : Int) (n - a)) := by
  unfold rng2
  rw [e]
  show (if -1000000 ≤ (a : Int) ∧ (a : Int) ≤ 1000000 ∧ -1000000 ≤ (n : Int) ∧ (n : Int) ≤ 1000000 then some (rangeV (a : Int) ((n : Int) - (a : Int)).toNat) else none) = _
  rw [if_pos (by omega)]
  exact congrArg some (congrArg (rangeV _) (by omega))
theorem rep_intsV (n : Nat) : List.replicate n (Val.int 0) = intsV (List.replicate n 0) := by
  unfold intsV
  rw [List.map_replicate]
end Up

namespace Up
open PySem PySem.Spec PyProof.Rows L2
theorem rangeV_map : ∀ (n : Nat) (lo : Int), rangeV lo n = (List.range n).map fun i : Nat => .int (lo + (i : Int))
  | 0, _ => rfl
  | n + 1, lo => by
    rw [rangeV, rangeV_map n, List.range_succ_eq_map, List.map_cons, List.map_map]
    have e : Val.int (lo + ((0 : Nat) : Int)) = .int lo := congrArg Val.int (by omega)
    rw [e]
    refine congrArg _ (List.map_congr_left fun i _ => ?_)
    show Val.int _ = Val.int _
    exact congrArg Val.int (by omega)
def dg0 : Dg := ⟨true, 0⟩
theorem rowSt_range : ∀ gs : List Dg, rowSt gs = (List.range (gs.length - 1)).map fun i => ((gs.getD i dg0).l, (gs.getD (i + 1) dg0).l)
  | [] => rfl
  | [_] => rfl
  | a :: b :: r => by
    have ih := rowSt_range (b :: r)
    show (a.l, b.l) :: rowSt (b :: r) = (List.range (r.length + 1)).map _
    rw [ih, List.range_succ_eq_map, List.map_cons, List.map_map]
    rfl
def rowL (gs : List Dg) : Val := .lst (gs.map dgV)
/-- all doings of a talk -/
theorem Valid.flat {gss : List (List Dg)} {many : Nat} {S G : Nat → Nat} {Ck : Dg → List Int} (v : Valid gss many S G Ck) : gss.flatten.length = 2 * many := by
  have e0 : (plAll 0 gss).map (·.1) = gss.flatten := plAll_map gss 0
  have nd : gss.flatten.Nodup := by
    rw [← e0]
    exact v.once
  have all : ∀ g, g ∈ gss.flatten ↔ g.l < many := fun g => by
    rw [← e0]
    constructor
    · intro h
      obtain ⟨t, ht, rfl⟩ := List.mem_map.mp h
      exact v.lt t ht
    · intro h
      obtain ⟨s, l⟩ := g
      cases s with
      | true =>
        obtain ⟨n, hn⟩ := v.hd.snd l h
        exact List.mem_map.mpr ⟨_, hn, rfl⟩
      | false =>
        obtain ⟨n, hn⟩ := v.hd.got l h
        exact List.mem_map.mpr ⟨_, hn, rfl⟩
  have e3 : ((List.range many).flatMap fun l => [(⟨true, l⟩ : Dg), ⟨false, l⟩]).length = many * 2 := by
    rw [List.length_flatMap]
    have : ∀ n : Nat, ((List.range n).map fun _ => 2).sum = n * 2 := fun n => by
      induction n with
      | zero => rfl
      | succ n ih => rw [List.range_succ, List.map_append, List.sum_append, ih]; simp; omega
    exact this many
  have h1 := nd_len nd (fun g hg => by
    rw [List.mem_flatMap]
    refine ⟨g.l, List.mem_range.mpr ((all g).mp hg), ?_⟩
    obtain ⟨s, l⟩ := g
    cases s <;> simp : ∀ g ∈ gss.flatten, g ∈ (List.range many).flatMap fun l => [(⟨true, l⟩ : Dg), ⟨false, l⟩])
  have nd2' : ∀ n : Nat, ((List.range n).flatMap fun l => [(⟨true, l⟩ : Dg), ⟨false, l⟩]).Nodup := fun n => by
    induction n with
    | zero => exact List.nodup_nil
    | succ n ih =>
      rw [List.range_succ, List.flatMap_append]
      refine List.nodup_append.mpr ⟨ih, by simp, fun a ha b hb z => ?_⟩
      subst z
      rw [List.mem_flatMap] at ha
      obtain ⟨l, hl, ha⟩ := ha
      have hl := List.mem_range.mp hl
      simp at ha hb
      rcases ha with rfl | rfl <;> rcases hb with z | z <;> cases z <;> exact Nat.lt_irrefl _ hl
  have nd2 := nd2' many
  have h2 := nd_len nd2 (fun g hg => by
    rw [List.mem_flatMap] at hg
    obtain ⟨l, hl, hg⟩ := hg
    rw [all]
    have := List.mem_range.mp hl
    simp at hg
    rcases hg with rfl | rfl <;> exact this : ∀ g ∈ (List.range many).flatMap fun l => [(⟨true, l⟩ : Dg), ⟨false, l⟩], g ∈ gss.flatten)
  omega
end Up

namespace Up
open PySem PySem.Spec PyProof.Rows L2
theorem mom_loopJ {body : En → Option Out} {J : List Int → En → Prop} {st : St2} {i many : Nat} (hb : ∀ (xs : List Int) (env : En) (lo : Int), J xs env → xs.length = many → ∃ env', body (setE env [(i, .int lo)]) = (if rise st xs = xs then some (.rt (.tup (intsV xs))) else some (.nx env')) ∧ (rise st xs ≠ xs → J (rise st xs) env')) :
    ∀ (n : Nat) (lo : Int) (xs : List Int) (env : En), J xs env → xs.length = many → (∃ r, momGo st n xs = some r ∧ forGo (setV i) body (rangeV lo n) env = some (.rt (.tup (intsV r)))) ∨ (momGo st n xs = none ∧ ∃ env', forGo (setV i) body (rangeV lo n) env = some (.nx env'))
  | 0, lo, xs, env, _, _ => .inr ⟨rfl, _, rfl⟩
  | n + 1, lo, xs, env, hJ, lx => by
    obtain ⟨env', e, hn⟩ := hb xs env lo hJ lx
    have step : forGo (setV i) body (rangeV lo (n + 1)) env = (body (setE env [(i, .int lo)])).bind fun o => match o with
        | .nx env' => forGo (setV i) body (rangeV (lo + 1) n) env'
        | .ct env' => forGo (setV i) body (rangeV (lo + 1) n) env'
        | .bk env' => some (.nx env')
        | .rt y => some (.rt y) := rfl
    rw [step, e]
    by_cases c : rise st xs = xs
    · rw [if_pos c]
      refine .inl ⟨xs, ?_, rfl⟩
      unfold momGo
      rw [if_pos c]
    · rw [if_neg c]
      have em : momGo st (n + 1) xs = momGo st n (rise st xs) := by
        rw [momGo, if_neg c]
      rw [em]
      exact mom_loopJ hb n (lo + 1) (rise st xs) env' (hn c) (by rw [rise_len]; exact lx)
theorem dg_at {gs : List Dg} {i : Nat} (h : i < gs.length) : atI (gs.map dgV) (i : Int) = some (dgV (gs.getD i dg0)) := by
  refine atI_n ?_
  rw [List.getElem?_map, List.getElem?_eq_getElem h, List.getD_eq_getElem?_getD, List.getElem?_eq_getElem h]
  rfl
/-- two neighbours of a row, as a law reads them -/
theorem near_at {gs : List Dg} {i : Nat} {env : En} {r k : Nat} (hr : getE r env = some (rowL gs)) (hk : getE k env = some (.int (1 + (i : Int)))) (h : i + 1 < gs.length) :
    bin2 ixT (bin2 ixL (getE r) (bin2 (iop fun i j => .int (i - j)) (getE k) (cst (.int 1)))) (cst (.int 1)) env = some (.int ((gs.getD i dg0).l : Int)) ∧ bin2 ixT (bin2 ixL (getE r) (getE k)) (cst (.int 1)) env = some (.int ((gs.getD (i + 1) dg0).l : Int)) := by
  constructor
  · refine bin2_ok (x := dgV (gs.getD i dg0)) (y := .int 1) (bin2_ok (x := rowL gs) (y := .int (i : Int)) hr (bin2_ok (x := .int (1 + (i : Int))) (y := .int 1) hk rfl ?_) (dg_at (by omega))) rfl rfl
    exact congrArg some (congrArg Val.int (by omega))
  · refine bin2_ok (x := dgV (gs.getD (i + 1) dg0)) (y := .int 1) (bin2_ok (x := rowL gs) (y := .int ((i + 1 : Nat) : Int)) hr (hk.trans (congrArg some (congrArg Val.int (by omega)))) (dg_at h)) rfl rfl
structure GoodM (gss : List (List Dg)) (many : Nat) (ys : List Int) : Prop where
  len : ys.length = many
  pos : ∀ y ∈ ys, 0 ≤ y
  inc : ∀ p ∈ stepsOf gss, ys.getD p.1 0 < ys.getD p.2 0
theorem eq_int (neg : Bool) (a b : Int) : eqF neg (.int a) (.int b) = some (.bl (if neg then !decide (a = b) else decide (a = b))) := by
  unfold eqF
  rw [dataV, dataV]
  show (if (SeqAt.shaped (.int a) && SeqAt.shaped (.int b)) = true then some (Val.bl (if neg then !PyData.eqv (.int a) (.int b) else PyData.eqv (.int a) (.int b))) else none) = _
  rw [if_pos (by simp [SeqAt.shaped, PyData.canLay0, PyData.depth]), int_eqv]
theorem orT_f {f g : En → Option Bool} {env : En} {b : Bool} (e1 : f env = some false) (e2 : g env = some b) : orT f g env = some b := by
  unfold orT
  rw [e1]
  exact e2
/-- a loop that only looks -/
theorem forGo_look {α : Type} {m : Val → Option (List (Nat × Val))} {body : En → Option Out} {x : α → Val} {J : En → Prop} {as : List α} (h : ∀ env a, a ∈ as → J env → ∃ ps env', m (x a) = some ps ∧ body (setE env ps) = some (.nx env') ∧ J env') {env : En} (hJ : J env) : ∃ env', forGo m body (as.map x) env = some (.nx env') ∧ J env' := by
  obtain ⟨env', e, j⟩ := forGo_inv (β := Unit) (f := fun b _ => b) (J := fun _ env => J env) (as := as) (m := m) (body := body) (x := x) (fun _ env a ha hj => h env a ha hj) () env hJ
  exact ⟨env', e, j⟩
theorem int_lt0 {env : En} {i : Nat} {y : Int} (h : getE i env = some (.int y)) (p : 0 ≤ y) : tst (bin2 (iop fun i j => .bl (decide (i < j))) (getE i) (cst (.int 0))) env = some false := by
  refine tst_ok (bin2_ok h rfl ?_)
  show some (Val.bl (decide (y < 0))) = _
  rw [decide_eq_false (by omega)]
end Up

namespace Up
open PySem PySem.Spec PyProof.Rows L2
/-! ### least moments: what the rising tells -/
theorem Valid.inRow {gss : List (List Dg)} {many : Nat} {S G : Nat → Nat} {Ck : Dg → List Int} (v : Valid gss many S G Ck) {gs : List Dg} (h : gs ∈ gss) {g : Dg} (hg : g ∈ gs) : g.l < many := by
  obtain ⟨i, hi, e⟩ := List.getElem_of_mem h
  obtain ⟨n, hn, e2⟩ := List.getElem_of_mem hg
  have a := plAll_mem (h := 0) (List.getElem?_eq_some_iff.mpr ⟨hi, e⟩) _ (plRow_mem (h := 0 + i) (k := 0) (List.getElem?_eq_some_iff.mpr ⟨hn, e2⟩))
  exact v.lt _ a
theorem rowSt_in {gs : List Dg} {p : Nat × Nat} (h : p ∈ rowSt gs) : (∃ g ∈ gs, g.l = p.1) ∧ ∃ g ∈ gs, g.l = p.2 := by
  unfold rowSt at h
  obtain ⟨q, hq, rfl⟩ := List.mem_map.mp h
  obtain ⟨a, b⟩ := q
  have t := List.of_mem_zip hq
  exact ⟨⟨_, t.1, rfl⟩, _, List.mem_of_mem_tail t.2, rfl⟩
theorem Valid.steps {gss : List (List Dg)} {many : Nat} {S G : Nat → Nat} {Ck : Dg → List Int} (v : Valid gss many S G Ck) : ∀ p ∈ stepsOf gss, p.1 < many ∧ p.2 < many := fun p hp => by
  obtain ⟨gs, hg, h⟩ := List.mem_flatMap.mp hp
  obtain ⟨⟨a, ha, e1⟩, b, hb, e2⟩ := rowSt_in h
  exact ⟨e1 ▸ v.inRow hg ha, e2 ▸ v.inRow hg hb⟩
theorem getD_set {xs : List Int} {i j : Nat} {y : Int} (h : i < xs.length) : (xs.set i y).getD j 0 = if i = j then y else xs.getD j 0 := by
  rw [List.getD_eq_getElem?_getD, List.getD_eq_getElem?_getD, List.getElem?_set]
  by_cases c : i = j
  · subst c
    rw [if_pos rfl, if_pos rfl, if_pos h]
    rfl
  · rw [if_neg c, if_neg c]
theorem ext_getD {xs ys : List Int} (l : xs.length = ys.length) (h : ∀ i, i < xs.length → xs.getD i 0 = ys.getD i 0) : xs = ys := by
  refine List.ext_getElem l fun i h1 h2 => ?_
  have := h i h1
  rw [List.getD_eq_getElem?_getD, List.getD_eq_getElem?_getD, List.getElem?_eq_getElem h1, List.getElem?_eq_getElem h2] at this
  exact this
theorem mxI_ge (a b : Int) : a ≤ mxI a b ∧ b ≤ mxI a b := by unfold mxI; split <;> omega
theorem mxI_le {a b c : Int} (h1 : a ≤ c) (h2 : b ≤ c) : mxI a b ≤ c := by unfold mxI; split <;> omega
def LeL (many : Nat) (xs ys : List Int) : Prop := ∀ i, i < many → xs.getD i 0 ≤ ys.getD i 0
def Bd (many : Nat) (b : Int) (xs : List Int) : Prop := ∀ i, i < many → 0 ≤ xs.getD i 0 ∧ xs.getD i 0 ≤ b
section
variable {st : St2} {many : Nat}
theorem rise_cons (p : Nat × Nat) (st : St2) (xs : List Int) : rise (p :: st) xs = rise st (rise1 xs p) := rfl
theorem rise1_at {xs : List Int} {p : Nat × Nat} (h2 : p.2 < xs.length) (i : Nat) : (rise1 xs p).getD i 0 = if p.2 = i then mxI (xs.getD p.2 0) (xs.getD p.1 0 + 1) else xs.getD i 0 := getD_set h2
theorem rise_le {ys : List Int} : ∀ {st : St2}, (∀ p ∈ st, p.1 < many ∧ p.2 < many) → (∀ p ∈ st, ys.getD p.1 0 < ys.getD p.2 0) → ∀ xs : List Int, xs.length = many → LeL many xs ys → LeL many (rise st xs) ys
  | [], _, _, _, _, h => h
  | p :: st, hs, g, xs, l, h => by
    rw [rise_cons]
    obtain ⟨h1, h2⟩ := hs p (List.mem_cons_self ..)
    have gp := g p (List.mem_cons_self ..)
    refine rise_le (fun q hq => hs q (List.mem_cons_of_mem _ hq)) (fun q hq => g q (List.mem_cons_of_mem _ hq)) _ (by rw [rise1_len]; exact l) fun i hi => ?_
    rw [rise1_at (by rw [l]; exact h2)]
    by_cases c : p.2 = i
    · rw [if_pos c, ← c]
      have a := h p.1 h1
      exact mxI_le (h p.2 h2) (by omega)
    · rw [if_neg c]
      exact h i hi
theorem rise_mono : ∀ {st : St2}, (∀ p ∈ st, p.1 < many ∧ p.2 < many) → ∀ xs : List Int, xs.length = many → LeL many xs (rise st xs)
  | [], _, _, _ => fun i _ => Int.le_refl _
  | p :: st, hs, xs, l => fun i hi => by
    rw [rise_cons]
    obtain ⟨h1, h2⟩ := hs p (List.mem_cons_self ..)
    refine Int.le_trans ?_ (rise_mono (fun q hq => hs q (List.mem_cons_of_mem _ hq)) (rise1 xs p) (by rw [rise1_len]; exact l) i hi)
    rw [rise1_at (by rw [l]; exact h2)]
    by_cases c : p.2 = i
    · rw [if_pos c, ← c]
      exact (mxI_ge _ _).1
    · rw [if_neg c]
      exact Int.le_refl _
theorem rise_rest : ∀ {st : St2}, (∀ p ∈ st, p.1 < many ∧ p.2 < many) → ∀ xs : List Int, xs.length = many → rise st xs = xs → ∀ p ∈ st, xs.getD p.1 0 < xs.getD p.2 0
  | [], _, _, _, _ => fun p hp => by cases hp
  | p :: st, hs, xs, l, e => by
    rw [rise_cons] at e
    obtain ⟨h1, h2⟩ := hs p (List.mem_cons_self ..)
    have hs' : ∀ q ∈ st, q.1 < many ∧ q.2 < many := fun q hq => hs q (List.mem_cons_of_mem _ hq)
    have l1 : (rise1 xs p).length = many := by rw [rise1_len]; exact l
    have m1 := rise_mono hs' (rise1 xs p) l1
    rw [e] at m1
    have a1 := rise1_at (xs := xs) (p := p) (by rw [l]; exact h2)
    have e1 : rise1 xs p = xs := by
      refine ext_getD (by rw [rise1_len]) fun i hi => ?_
      have b := m1 i (by rw [← l1]; exact hi)
      have c := a1 i
      by_cases d : p.2 = i
      · rw [if_pos d] at c
        have k := (mxI_ge (xs.getD p.2 0) (xs.getD p.1 0 + 1)).1
        rw [← c] at k
        subst d
        omega
      · rw [if_neg d] at c
        exact c
    rw [e1] at e a1
    intro q hq
    rcases List.mem_cons.mp hq with c | c
    · subst c
      have k := a1 q.2
      rw [if_pos rfl] at k
      have m := (mxI_ge (xs.getD q.2 0) (xs.getD q.1 0 + 1)).2
      omega
    · exact rise_rest hs' xs l e q c
theorem rise_bd : ∀ {st : St2}, (∀ p ∈ st, p.1 < many ∧ p.2 < many) → ∀ (xs : List Int) (b : Int), xs.length = many → Bd many b xs → Bd many (b + st.length) (rise st xs)
  | [], _, xs, b, _, h => fun i hi => ⟨(h i hi).1, by have := (h i hi).2; show xs.getD i 0 ≤ b + ((0 : Nat) : Int); omega⟩
  | p :: st, hs, xs, b, l, h => by
    rw [rise_cons]
    obtain ⟨h1, h2⟩ := hs p (List.mem_cons_self ..)
    have k := rise_bd (fun q hq => hs q (List.mem_cons_of_mem _ hq)) (rise1 xs p) (b + 1) (by rw [rise1_len]; exact l) fun i hi => by
      rw [rise1_at (by rw [l]; exact h2)]
      have a1 := h p.1 h1
      have a2 := h p.2 h2
      by_cases c : p.2 = i
      · rw [if_pos c]
        have a3 := (mxI_ge (xs.getD p.2 0) (xs.getD p.1 0 + 1)).1
        exact ⟨by omega, mxI_le (by omega) (by omega)⟩
      · rw [if_neg c]
        have a4 := h i hi
        omega
    rw [List.length_cons]
    intro i hi
    have := k i hi
    omega
theorem momGo_some (hs : ∀ p ∈ st, p.1 < many ∧ p.2 < many) : ∀ (n : Nat) (xs r : List Int) (b : Int), xs.length = many → Bd many b xs → momGo st n xs = some r →
    r.length = many ∧ Bd many (b + n * st.length) r ∧ (∀ p ∈ st, r.getD p.1 0 < r.getD p.2 0) ∧ ∀ ys : List Int, (∀ p ∈ st, ys.getD p.1 0 < ys.getD p.2 0) → LeL many xs ys → LeL many r ys
  | 0, _, _, _, _, _, e => by cases e
  | n + 1, xs, r, b, l, hb, e => by
    unfold momGo at e
    by_cases c : rise st xs = xs
    · rw [if_pos c] at e
      cases e
      refine ⟨l, fun i hi => ?_, rise_rest hs xs l c, fun ys _ h => h⟩
      have := hb i hi
      have p : 0 ≤ ((n + 1 : Nat) : Int) * (st.length : Int) := by exact Int.mul_nonneg (by omega) (by omega)
      omega
    · rw [if_neg c] at e
      obtain ⟨a1, a2, a3, a4⟩ := momGo_some hs n (rise st xs) r (b + st.length) (by rw [rise_len]; exact l) (rise_bd hs xs b l hb) e
      refine ⟨a1, fun i hi => ?_, a3, fun ys g h => a4 ys g (rise_le hs g xs l h)⟩
      have := a2 i hi
      have p : ((n + 1 : Nat) : Int) * (st.length : Int) = (n : Int) * (st.length : Int) + st.length := by
        rw [Int.natCast_add, Int.add_mul]
        omega
      omega
end
theorem zeros_at (n i : Nat) : (List.replicate n (0 : Int)).getD i 0 = 0 := by
  rw [List.getD_eq_getElem?_getD, List.getElem?_replicate]
  split <;> rfl
theorem rowSt_len (gs : List Dg) : (rowSt gs).length ≤ gs.length := by
  unfold rowSt
  rw [List.length_map, List.length_zip]
  omega
theorem momO_some {gss : List (List Dg)} {many : Nat} {S G : Nat → Nat} {Ck : Dg → List Int} {r : List Int} (v : Valid gss many S G Ck) (e : momO gss many = some r) :
    GoodM gss many r ∧ (∀ y ∈ r, 0 ≤ y ∧ y ≤ 1000) ∧ ∀ ys, GoodM gss many ys → LeL many r ys := by
  obtain ⟨a1, a2, a3, a4⟩ := momGo_some v.steps (many + 1) _ r 0 (List.length_replicate ..) (fun i _ => by rw [zeros_at]; omega) e
  have lf := v.flat
  have ls := stepsOf_len gss
  have m12 := v.m12
  have bd : ∀ y ∈ r, 0 ≤ y ∧ y ≤ 1000 := fun y hy => by
    obtain ⟨i, hi, rfl⟩ := List.getElem_of_mem hy
    have k := a2 i (by omega)
    rw [List.getD_eq_getElem?_getD, List.getElem?_eq_getElem hi] at k
    have p : ((many + 1 : Nat) : Int) * ((stepsOf gss).length : Int) ≤ 13 * 24 := by
      refine Int.le_trans (Int.mul_le_mul_of_nonneg_right (show ((many + 1 : Nat) : Int) ≤ 13 by omega) (by omega)) (Int.mul_le_mul_of_nonneg_left (by omega) (by decide))
    refine ⟨k.1, ?_⟩
    have k2 : r[i] ≤ 0 + ((many + 1 : Nat) : Int) * ((stepsOf gss).length : Int) := k.2
    omega
  refine ⟨⟨a1, fun y hy => (bd y hy).1, a3⟩, bd, fun ys g => a4 ys g.inc fun i hi => ?_⟩
  rw [zeros_at]
  have hi2 : i < ys.length := by rw [g.len]; exact hi
  rw [List.getD_eq_getElem?_getD, List.getElem?_eq_getElem hi2]
  exact g.pos _ (List.getElem_mem hi2)
/-! ranks -/
theorem countP_lt {α : Type} {p q : α → Bool} : ∀ {l : List α}, (∀ a ∈ l, p a = true → q a = true) → ∀ {x : α}, x ∈ l → p x = false → q x = true → l.countP p < l.countP q
  | [], _, _, hx, _, _ => by cases hx
  | a :: l, h, x, hx, n, y => by
    rw [List.countP_cons, List.countP_cons]
    have h' : ∀ b ∈ l, p b = true → q b = true := fun b hb => h b (List.mem_cons_of_mem _ hb)
    rcases List.mem_cons.mp hx with c | c
    · subst c
      rw [if_neg (by rw [n]; decide), if_pos y]
      have := List.countP_mono_left h'
      omega
    · have ih := countP_lt h' c n y
      have ha := h a (List.mem_cons_self ..)
      by_cases pa : p a = true
      · rw [if_pos pa, if_pos (ha pa)]
        omega
      · rw [if_neg pa]
        omega
def rkM (many : Nat) (r : List Int) (x : Nat) : Nat := (List.range many).countP fun y => decide (r.getD y 0 < r.getD x 0)
theorem rkM_lt {many : Nat} {r : List Int} {x : Nat} (h : x < many) : rkM many r x < many := by
  have e : (List.range many).countP (fun _ => true) = many := by
    rw [List.countP_true, List.length_range]
  have k := countP_lt (p := fun y => decide (r.getD y 0 < r.getD x 0)) (q := fun _ => true) (l := List.range many) (fun _ _ _ => rfl) (x := x) (List.mem_range.mpr h) (decide_eq_false (by omega)) rfl
  rw [e] at k
  exact k
theorem rkM_inc {many : Nat} {r : List Int} {a b : Nat} (h : a < many) (l : r.getD a 0 < r.getD b 0) : rkM many r a < rkM many r b := by
  unfold rkM
  exact countP_lt (fun y _ k => decide_eq_true (by have := of_decide_eq_true k; omega)) (List.mem_range.mpr h) (decide_eq_false (by omega)) (decide_eq_true l)
/-! moments drawn later -/
structure LatI (st : St2) (rk : Nat → Nat) (many k : Nat) (dn : St2) (f : List Int) : Prop where
  len : f.length = many
  pos : ∀ i, i < many → 0 ≤ f.getD i 0
  old : ∀ p ∈ st, rk p.2 < k → f.getD p.1 0 < f.getD p.2 0
  now : ∀ p ∈ dn, rk p.2 = k → f.getD p.1 0 < f.getD p.2 0
def lat1 (f : List Int) (p : Nat × Nat) (e : Int) : List Int := f.set p.2 (mxI (f.getD p.2 0) (f.getD p.1 0 + 1 + e * (if f.getD p.2 0 ≤ f.getD p.1 0 then 1 else 0)))
theorem LatI.step {st : St2} {rk : Nat → Nat} {many k : Nat} {dn : St2} {f : List Int} (hs : ∀ p ∈ st, p.1 < many ∧ p.2 < many) (hr : ∀ p ∈ st, rk p.1 < rk p.2) (hd : ∀ p ∈ dn, p ∈ st) (h : LatI st rk many k dn f) {p : Nat × Nat} (hp : p ∈ st) {e : Int} (he : 0 ≤ e) : LatI st rk many k (dn ++ [p]) (lat1 f p e) := by
  obtain ⟨h1, h2⟩ := hs p hp
  have rp := hr p hp
  have l2 : p.2 < f.length := by rw [h.len]; exact h2
  have p1 := h.pos p.1 h1
  have p2 := h.pos p.2 h2
  have at_ : ∀ i, (lat1 f p e).getD i 0 = if p.2 = i then mxI (f.getD p.2 0) (f.getD p.1 0 + 1 + e * (if f.getD p.2 0 ≤ f.getD p.1 0 then 1 else 0)) else f.getD i 0 := fun i => getD_set l2
  by_cases c : f.getD p.2 0 ≤ f.getD p.1 0
  · have kp : k ≤ rk p.2 := Nat.le_of_not_lt fun z => by have := h.old p hp z; omega
    rw [if_pos c] at at_
    have big := (mxI_ge (f.getD p.2 0) (f.getD p.1 0 + 1 + e * 1)).2
    have inc : ∀ q ∈ st, (rk q.2 < k ∨ q ∈ dn ∧ rk q.2 = k) → (lat1 f p e).getD q.1 0 < (lat1 f p e).getD q.2 0 := fun q hq hk => by
      have rq := hr q hq
      have n1 : p.2 ≠ q.1 := fun z => by rw [z] at kp; omega
      have k0 : f.getD q.1 0 < f.getD q.2 0 := hk.elim (h.old q hq) fun z => h.now q z.1 z.2
      rw [at_, at_, if_neg n1]
      by_cases n2 : p.2 = q.2
      · rw [if_pos n2]
        rw [← n2] at k0
        omega
      · rw [if_neg n2]
        exact k0
    refine ⟨by unfold lat1; rw [List.length_set]; exact h.len, fun i hi => ?_, fun q hq z => inc q hq (.inl z), fun q hq z => ?_⟩
    · rw [at_]
      split
      · omega
      · exact h.pos i hi
    · rcases List.mem_append.mp hq with y | y
      · exact inc q (hd q y) (.inr ⟨y, z⟩)
      · cases List.mem_singleton.mp y
        have n1 : p.2 ≠ p.1 := fun z => by rw [z] at rp; omega
        rw [at_, at_, if_neg n1, if_pos rfl]
        omega
  · rw [if_neg c] at at_
    have e0 : mxI (f.getD p.2 0) (f.getD p.1 0 + 1 + e * 0) = f.getD p.2 0 := by
      have a := mxI_le (c := f.getD p.2 0) (Int.le_refl (f.getD p.2 0)) (show f.getD p.1 0 + 1 + e * 0 ≤ f.getD p.2 0 by omega)
      have b := (mxI_ge (f.getD p.2 0) (f.getD p.1 0 + 1 + e * 0)).1
      omega
    have eq : lat1 f p e = f := by
      refine ext_getD (by unfold lat1; rw [List.length_set]) fun i _ => ?_
      rw [at_, e0]
      by_cases d : p.2 = i
      · rw [if_pos d, d]
      · rw [if_neg d]
    rw [eq]
    refine ⟨h.len, h.pos, h.old, fun q hq z => ?_⟩
    rcases List.mem_append.mp hq with y | y
    · exact h.now q y z
    · cases List.mem_singleton.mp y
      omega
theorem LatI.next {st : St2} {rk : Nat → Nat} {many k : Nat} {f : List Int} (h : LatI st rk many k st f) : LatI st rk many (k + 1) [] f :=
  ⟨h.len, h.pos, fun p hp z => (Nat.lt_or_ge (rk p.2) k).elim (h.old p hp) fun c => h.now p hp (by omega), fun p hp => by cases hp⟩
theorem LatI.good {gss : List (List Dg)} {rk : Nat → Nat} {many k : Nat} {f : List Int} (hs : ∀ p ∈ stepsOf gss, p.1 < many ∧ p.2 < many) (hk : ∀ x, x < many → rk x < k) (h : LatI (stepsOf gss) rk many k [] f) : GoodM gss many f :=
  ⟨h.len, fun y hy => by
    obtain ⟨i, hi, rfl⟩ := List.getElem_of_mem hy
    have := h.pos i (by rw [← h.len]; exact hi)
    rw [List.getD_eq_getElem?_getD, List.getElem?_eq_getElem hi] at this
    exact this, fun p hp => h.old p hp (hk _ (hs p hp).2)⟩
end Up

namespace Up
open PySem PySem.Spec PyProof.Rows L2
/-! ### ahead, as a relation; clocks tell it -/
def At (gss : List (List Dg)) (g : Dg) (h n : Nat) : Prop := ∃ gs, gss[h]? = some gs ∧ gs[n]? = some g
theorem plRow_at {h : Nat} {t : Pl} : ∀ {gs : List Dg} {k : Nat}, t ∈ plRow h k gs → ∃ n : Nat, gs[n]? = some t.1 ∧ t.2 = (h, k + n)
  | [], k, e => by cases e
  | x :: r, k, e => by
    rcases List.mem_cons.mp e with c | c
    · subst c
      exact ⟨0, rfl, rfl⟩
    · obtain ⟨n, h1, h2⟩ := plRow_at c
      exact ⟨n + 1, h1, by rw [h2, show k + 1 + n = k + (n + 1) by omega]⟩
theorem plAll_at {t : Pl} : ∀ {gss : List (List Dg)} {h : Nat}, t ∈ plAll h gss → ∃ i, At gss t.1 i t.2.2 ∧ t.2.1 = h + i
  | [], h, e => by cases e
  | r :: rs, h, e => by
    rcases List.mem_append.mp e with c | c
    · obtain ⟨n, h1, h2⟩ := plRow_at c
      refine ⟨0, ⟨r, rfl, ?_⟩, by rw [h2]; rfl⟩
      rw [h2]
      show r[0 + n]? = _
      rw [Nat.zero_add]
      exact h1
    · obtain ⟨i, ⟨gs, h1, h2⟩, h3⟩ := plAll_at c
      exact ⟨i + 1, ⟨gs, h1, h2⟩, by rw [h3]; omega⟩
theorem At.mem {gss : List (List Dg)} {g : Dg} {h n : Nat} (a : At gss g h n) : (g, h, n) ∈ plAll 0 gss := by
  obtain ⟨gs, e1, e2⟩ := a
  have := plAll_mem (h := 0) e1 _ (plRow_mem (h := 0 + h) (k := 0) e2)
  rw [Nat.zero_add, Nat.zero_add] at this
  exact this
theorem At.of {gss : List (List Dg)} {g : Dg} {h n : Nat} (a : (g, h, n) ∈ plAll 0 gss) : At gss g h n := by
  obtain ⟨i, h1, h2⟩ := plAll_at a
  have e : h = 0 + i := h2
  rw [Nat.zero_add] at e
  subst e
  exact h1
theorem At.flat {gss : List (List Dg)} {g : Dg} {h n : Nat} (a : At gss g h n) : g ∈ gss.flatten := by
  obtain ⟨gs, e1, e2⟩ := a
  exact List.mem_flatten.mpr ⟨gs, List.mem_of_getElem? e1, List.mem_of_getElem? e2⟩
theorem At.ofFlat {gss : List (List Dg)} {g : Dg} (a : g ∈ gss.flatten) : ∃ h n, At gss g h n := by
  obtain ⟨gs, e1, e2⟩ := List.mem_flatten.mp a
  obtain ⟨h, e3⟩ := List.getElem?_of_mem e1
  obtain ⟨n, e4⟩ := List.getElem?_of_mem e2
  exact ⟨h, n, gs, e3, e4⟩
def rowLinks (gs : List Dg) : List (Dg × Dg) := gs.zip gs.tail
def wireLinks (gs : List Dg) : List (Dg × Dg) := (gs.filter fun g => !g.s).map fun g => (⟨true, g.l⟩, g)
def linksL (gss : List (List Dg)) : List (Dg × Dg) := gss.flatMap rowLinks ++ wireLinks gss.flatten
inductive Ahd (L : List (Dg × Dg)) : Dg → Dg → Prop where
  | one {a b : Dg} : (a, b) ∈ L → Ahd L a b
  | more {a b c : Dg} : Ahd L a b → (b, c) ∈ L → Ahd L a c
theorem Ahd.last {L : List (Dg × Dg)} {a c : Dg} : Ahd L a c ↔ ∃ b, (b, c) ∈ L ∧ (a = b ∨ Ahd L a b) := by
  constructor
  · intro h
    cases h with
    | one h => exact ⟨a, h, .inl rfl⟩
    | more h1 h2 => exact ⟨_, h2, .inr h1⟩
  · rintro ⟨b, h, rfl | k⟩
    · exact .one h
    · exact .more k h
theorem Ahd.trans {L : List (Dg × Dg)} {a b c : Dg} (h : Ahd L a b) (k : Ahd L b c) : Ahd L a c := by
  induction k with
  | one k => exact .more h k
  | more _ k ih => exact .more ih k
theorem rowLinks_mem {gs : List Dg} {x y : Dg} : (x, y) ∈ rowLinks gs ↔ ∃ n, gs[n]? = some x ∧ gs[n + 1]? = some y := by
  unfold rowLinks
  constructor
  · intro h
    obtain ⟨n, e⟩ := List.getElem?_of_mem h
    obtain ⟨e1, e2⟩ := List.getElem?_zip_eq_some.mp e
    rw [List.getElem?_tail] at e2
    exact ⟨n, e1, e2⟩
  · rintro ⟨n, e1, e2⟩
    have : (gs.zip gs.tail)[n]? = some (x, y) := List.getElem?_zip_eq_some.mpr ⟨e1, by rw [List.getElem?_tail]; exact e2⟩
    exact List.mem_of_getElem? this
theorem links_mem {gss : List (List Dg)} {x y : Dg} : (x, y) ∈ linksL gss ↔ (∃ h n, At gss x h n ∧ At gss y h (n + 1)) ∨ (y ∈ gss.flatten ∧ y.s = false ∧ x = ⟨true, y.l⟩) := by
  unfold linksL
  rw [List.mem_append]
  constructor
  · rintro (h | h)
    · obtain ⟨gs, hg, h⟩ := List.mem_flatMap.mp h
      obtain ⟨n, e1, e2⟩ := rowLinks_mem.mp h
      obtain ⟨i, ei⟩ := List.getElem?_of_mem hg
      exact .inl ⟨i, n, ⟨gs, ei, e1⟩, gs, ei, e2⟩
    · obtain ⟨g, hg, e⟩ := List.mem_map.mp h
      cases e
      obtain ⟨h1, h2⟩ := List.mem_filter.mp hg
      exact .inr ⟨h1, by simpa using h2, rfl⟩
  · rintro (⟨h, n, ⟨gs, e1, e2⟩, gs', e3, e4⟩ | ⟨h1, h2, h3⟩)
    · rw [e1] at e3
      cases e3
      exact .inl (List.mem_flatMap.mpr ⟨gs, List.mem_of_getElem? e1, rowLinks_mem.mpr ⟨n, e2, e4⟩⟩)
    · exact .inr (List.mem_map.mpr ⟨y, List.mem_filter.mpr ⟨h1, by rw [h2]; rfl⟩, by rw [h3]⟩)
section
variable {gss : List (List Dg)} {many : Nat} {S G : Nat → Nat} {Ck : Dg → List Int}
theorem Valid.uniq (v : Valid gss many S G Ck) {g : Dg} {h n h' n' : Nat} (a : At gss g h n) (b : At gss g h' n') : h = h' ∧ n = n' := by
  obtain ⟨gs, e1, e2⟩ := a
  obtain ⟨gs', e3, e4⟩ := b
  exact once_at v.once e1 e2 e3 e4
theorem Valid.ltA (v : Valid gss many S G Ck) {g : Dg} {h n : Nat} (a : At gss g h n) : g.l < many := v.lt _ a.mem
theorem Valid.hands (v : Valid gss many S G Ck) {g : Dg} {h n : Nat} (a : At gss g h n) : h < gss.length := by
  obtain ⟨gs, e1, e2⟩ := a
  exact (List.getElem?_eq_some_iff.mp e1).1
theorem Valid.has (v : Valid gss many S G Ck) {g : Dg} (hl : g.l < many) : ∃ n, At gss g (if g.s then S g.l else G g.l) n := by
  obtain ⟨a, b, c⟩ := v.hd
  obtain ⟨s, l⟩ := g
  cases s with
  | true =>
    obtain ⟨n, hn⟩ := a l hl
    exact ⟨n, At.of hn⟩
  | false =>
    obtain ⟨n, hn⟩ := b l hl
    exact ⟨n, At.of hn⟩
/-- a rank that all links raise -/
theorem Valid.rank (v : Valid gss many S G Ck) : ∃ rk : Dg → Nat, ∀ x y, (x, y) ∈ linksL gss → rk x < rk y := by
  obtain ⟨rk, r1, r2⟩ := v.rk
  refine ⟨rk, fun x y h => ?_⟩
  rcases links_mem.mp h with ⟨h, n, ⟨gs, e1, e2⟩, gs', e3, e4⟩ | ⟨h1, h2, rfl⟩
  · rw [e1] at e3
    cases e3
    exact r1 h gs e1 n x y e2 e4
  · obtain ⟨h, n, a⟩ := At.ofFlat h1
    have := r2 y.l (v.ltA a)
    obtain ⟨s, l⟩ := y
    cases h2
    exact this
theorem Ahd.rank {L : List (Dg × Dg)} {rk : Dg → Nat} (h : ∀ x y, (x, y) ∈ L → rk x < rk y) {a b : Dg} (k : Ahd L a b) : rk a < rk b := by
  induction k with
  | one k => exact h _ _ k
  | more _ k ih => exact Nat.lt_trans ih (h _ _ k)
/-- what leads to a doing -/
theorem Valid.into (v : Valid gss many S G Ck) {b c : Dg} {hb nb : Nat} (ab : At gss b hb nb) : (c, b) ∈ linksL gss ↔ (∃ k, nb = k + 1 ∧ At gss c hb k) ∨ (b.s = false ∧ c = ⟨true, b.l⟩) := by
  rw [links_mem]
  constructor
  · rintro (⟨h, n, a1, a2⟩ | ⟨h1, h2, h3⟩)
    · obtain ⟨rfl, rfl⟩ := v.uniq ab a2
      exact .inl ⟨n, rfl, a1⟩
    · exact .inr ⟨h2, h3⟩
  · rintro (⟨k, rfl, a⟩ | ⟨h1, h2⟩)
    · exact .inl ⟨hb, k, a, ab⟩
    · exact .inr ⟨ab.flat, h1, h2⟩
theorem zip_getD {xs ys : List Int} {h : Nat} (l1 : h < xs.length) (l2 : h < ys.length) : (List.zipWith mx xs ys).getD h 0 = mx (xs.getD h 0) (ys.getD h 0) := by
  rw [List.getD_eq_getElem?_getD, List.getD_eq_getElem?_getD, List.getD_eq_getElem?_getD, List.getElem?_zipWith, List.getElem?_eq_getElem l1, List.getElem?_eq_getElem l2]
  rfl
theorem mx_lt {a b c : Int} : c < mx a b ↔ c < a ∨ c < b := by
  unfold mx
  split <;> omega
theorem set_getD {xs : List Int} {i j : Nat} {y : Int} (h : i < xs.length) : (xs.set i y).getD j 0 = if i = j then y else xs.getD j 0 := by
  rw [List.getD_eq_getElem?_getD, List.getD_eq_getElem?_getD, List.getElem?_set]
  by_cases c : i = j
  · subst c
    rw [if_pos rfl, if_pos rfl, if_pos h]
    rfl
  · rw [if_neg c, if_neg c]
/-- along a row -/
theorem row_ahd {h : Nat} : ∀ (d n : Nat) {a b : Dg}, At gss a h n → At gss b h (n + d + 1) → Ahd (linksL gss) a b
  | 0, n, a, b, ha, hb => .one (links_mem.mpr (.inl ⟨h, n, ha, hb⟩))
  | d + 1, n, a, b, ha, ⟨gs, e1, e2⟩ => by
    have lt := (List.getElem?_eq_some_iff.mp e2).1
    have hc : At gss gs[n + d + 1] h (n + d + 1) := ⟨gs, e1, List.getElem?_eq_getElem (by omega)⟩
    exact .more (row_ahd d n ha hc) (links_mem.mpr (.inl ⟨h, n + d + 1, hc, gs, e1, e2⟩))
theorem Valid.prevLen (v : Valid gss many S G Ck) (gs : List Dg) (n : Nat) (h : n ≤ gs.length) : (prevC gss.length Ck gs n).length = gss.length := by
  cases n with
  | zero => exact List.length_replicate ..
  | succ n =>
    show (match gs[n]? with | some g => Ck g | none => []).length = _
    rw [List.getElem?_eq_getElem (by omega)]
    exact v.ckl _
/-- the clock of b, at a's hand, is above a's number just if a is ahead of b, or b -/
theorem Valid.clock (v : Valid gss many S G Ck) {b : Dg} {hb nb : Nat} (ab : At gss b hb nb) {a : Dg} {h n : Nat} (aa : At gss a h n) : (n : Int) < (Ck b).getD h 0 ↔ a = b ∨ Ahd (linksL gss) a b := by
  obtain ⟨rk, hr⟩ := v.rank
  have key : ∀ r : Nat, ∀ (b : Dg) (hb nb : Nat), rk b = r → At gss b hb nb → ((n : Int) < (Ck b).getD h 0 ↔ a = b ∨ Ahd (linksL gss) a b) := by
    intro r
    induction r using Nat.strongRecOn with
    | ind r ih =>
      rintro b hb nb rfl ab
      obtain ⟨gs, e1, e2⟩ := ab
      have ab : At gss b hb nb := ⟨gs, e1, e2⟩
      have ck := v.ck hb gs e1 nb b e2
      have lh := v.hands aa
      have lb := v.hands ab
      have ln := (List.getElem?_eq_some_iff.mp e2).1
      have lp := v.prevLen gs nb (by omega)
      have lc : (Ck ⟨true, b.l⟩).length = gss.length := v.ckl _
      have lbase : (if b.s = true then prevC gss.length Ck gs nb else List.zipWith mx (prevC gss.length Ck gs nb) (Ck ⟨true, b.l⟩)).length = gss.length := by
        split
        · exact lp
        · rw [List.length_zipWith, lp, lc, Nat.min_self]
      rw [ck, set_getD (by rw [lbase]; exact lb)]
      by_cases c : hb = h
      · subst c
        rw [if_pos rfl]
        rcases Nat.lt_trichotomy n nb with d | d | d
        · exact ⟨fun _ => .inr (row_ahd (nb - n - 1) n aa (by rw [show n + (nb - n - 1) + 1 = nb by omega]; exact ab)), fun _ => by omega⟩
        · subst d
          obtain ⟨gs', e3, e4⟩ := aa
          rw [e1] at e3
          cases e3
          rw [e2] at e4
          cases e4
          exact ⟨fun _ => .inl rfl, fun _ => by omega⟩
        · refine ⟨fun z => by omega, fun z => ?_⟩
          have ba : Ahd (linksL gss) b a := row_ahd (n - nb - 1) nb ab (by rw [show nb + (n - nb - 1) + 1 = n by omega]; exact aa)
          have k1 := ba.rank hr
          rcases z with rfl | z
          · omega
          · have k2 := z.rank hr
            omega
      · rw [if_neg c]
        have ne : a ≠ b := fun z => by
          subst z
          exact c (v.uniq ab aa).1
        have prevI : (n : Int) < (prevC gss.length Ck gs nb).getD h 0 ↔ ∃ k p, nb = k + 1 ∧ At gss p hb k ∧ (a = p ∨ Ahd (linksL gss) a p) := by
          cases nb with
          | zero =>
            have z : (prevC gss.length Ck gs 0).getD h 0 = 0 := by
              show (List.replicate gss.length (0 : Int)).getD h 0 = 0
              rw [List.getD_eq_getElem?_getD, List.getElem?_replicate]
              split <;> rfl
            rw [z]
            exact ⟨fun y => by omega, fun ⟨k, p, y, _⟩ => by omega⟩
          | succ k =>
            have ep : gs[k]? = some gs[k] := List.getElem?_eq_getElem (by omega)
            have ap : At gss gs[k] hb k := ⟨gs, e1, ep⟩
            have z : prevC gss.length Ck gs (k + 1) = Ck gs[k] := by
              show (match gs[k]? with | some g => Ck g | none => []) = _
              rw [ep]
            rw [z]
            have lnk : (gs[k], b) ∈ linksL gss := links_mem.mpr (.inl ⟨hb, k, ap, ab⟩)
            rw [ih (rk gs[k]) (hr _ _ lnk) gs[k] hb k rfl ap]
            refine ⟨fun y => ⟨k, _, rfl, ap, y⟩, fun ⟨k', p, y1, ⟨gs', y2, y3⟩, y4⟩ => ?_⟩
            cases y1
            rw [e1] at y2
            cases y2
            rw [ep] at y3
            cases y3
            exact y4
        have fin : (a = b ∨ Ahd (linksL gss) a b) ↔ (∃ k p, nb = k + 1 ∧ At gss p hb k ∧ (a = p ∨ Ahd (linksL gss) a p)) ∨ (b.s = false ∧ (a = ⟨true, b.l⟩ ∨ Ahd (linksL gss) a ⟨true, b.l⟩)) := by
          constructor
          · rintro (z | z)
            · exact (ne z).elim
            · obtain ⟨p, h1, h2⟩ := Ahd.last.mp z
              rcases (v.into ab).mp h1 with ⟨k, y1, y2⟩ | ⟨y1, rfl⟩
              · exact .inl ⟨k, p, y1, y2, h2⟩
              · exact .inr ⟨y1, h2⟩
          · rintro (⟨k, p, y1, y2, y3⟩ | ⟨y1, y2⟩)
            · exact .inr (Ahd.last.mpr ⟨p, (v.into ab).mpr (.inl ⟨k, y1, y2⟩), y3⟩)
            · exact .inr (Ahd.last.mpr ⟨_, (v.into ab).mpr (.inr ⟨y1, rfl⟩), y2⟩)
        rw [fin]
        by_cases bs : b.s = true
        · rw [if_pos bs, prevI]
          exact ⟨.inl, fun z => z.elim id fun y => by rw [bs] at y; cases y.1⟩
        · rw [if_neg bs]
          have bf : b.s = false := by simpa using bs
          have hl := v.ltA ab
          obtain ⟨ns, as_⟩ := v.has (g := ⟨true, b.l⟩) hl
          have lnk : ((⟨true, b.l⟩ : Dg), b) ∈ linksL gss := (v.into ab).mpr (.inr ⟨bf, rfl⟩)
          rw [zip_getD (by rw [lp]; exact lh) (by rw [lc]; exact lh), mx_lt, prevI, ih _ (hr _ _ lnk) _ _ ns rfl as_]
          exact or_congr Iff.rfl ⟨fun y => ⟨bf, y⟩, fun y => y.2⟩
  exact key _ b hb nb rfl ab
end
end Up

namespace Up
open PySem PySem.Spec PyProof.Rows L2
/-! ### the search for what is ahead -/
section
variable {L : List (Dg × Dg)} {own : Dg}
def hasL (lot : List Dg) (x : Dg) : Bool := lot.any fun z => dgEq z x
theorem hasL_iff {lot : List Dg} {x : Dg} : hasL lot x = true ↔ x ∈ lot := by
  unfold hasL
  rw [List.any_eq_true]
  exact ⟨fun ⟨z, h1, h2⟩ => by rw [dgEq_iff] at h2; exact h2 ▸ h1, fun h => ⟨x, h, dgEq_iff.mpr rfl⟩⟩
def nearL (L : List (Dg × Dg)) (here : Dg) (lot : List Dg) : List Dg := (L.filter fun p => dgEq p.2 here && !hasL lot p.1).map (·.1)
def cntL (L : List (Dg × Dg)) (lot : List Dg) : Nat := L.countP fun p => !hasL lot p.1
theorem near_mem {here x : Dg} {lot : List Dg} : x ∈ nearL L here lot ↔ (x, here) ∈ L ∧ x ∉ lot := by
  unfold nearL
  constructor
  · intro h
    obtain ⟨p, hp, rfl⟩ := List.mem_map.mp h
    obtain ⟨h1, h2⟩ := List.mem_filter.mp hp
    rw [Bool.and_eq_true, Bool.not_eq_true'] at h2
    obtain ⟨a, b⟩ := p
    have e : b = here := dgEq_iff.mp h2.1
    subst e
    exact ⟨h1, fun z => by rw [hasL_iff.mpr z] at h2; cases h2.2⟩
  · rintro ⟨h1, h2⟩
    refine List.mem_map.mpr ⟨_, List.mem_filter.mpr ⟨h1, ?_⟩, rfl⟩
    rw [Bool.and_eq_true, Bool.not_eq_true']
    exact ⟨dgEq_iff.mpr rfl, Bool.eq_false_iff.mpr fun z => h2 (hasL_iff.mp z)⟩
theorem countP_two {α : Type} {p q B : α → Bool} : ∀ {l : List α}, (∀ a ∈ l, p a = true → B a = true) → (∀ a ∈ l, q a = true → B a = true) → (∀ a ∈ l, p a = true → q a = true → False) → l.countP p + l.countP q ≤ l.countP B
  | [], _, _, _ => Nat.le_refl _
  | a :: l, h1, h2, h3 => by
    have ih := countP_two (l := l) (fun b hb => h1 b (List.mem_cons_of_mem _ hb)) (fun b hb => h2 b (List.mem_cons_of_mem _ hb)) fun b hb => h3 b (List.mem_cons_of_mem _ hb)
    have g1 := h1 a (List.mem_cons_self ..)
    have g2 := h2 a (List.mem_cons_self ..)
    have g3 := h3 a (List.mem_cons_self ..)
    rw [List.countP_cons, List.countP_cons, List.countP_cons]
    cases e1 : p a <;> cases e2 : q a <;> cases e3 : B a <;> simp_all <;> omega
theorem near_cnt (here : Dg) (lot : List Dg) : (nearL L here lot).length + cntL L (lot ++ nearL L here lot) ≤ cntL L lot := by
  have e : (nearL L here lot).length = L.countP fun p => dgEq p.2 here && !hasL lot p.1 := by
    unfold nearL
    rw [List.length_map, List.countP_eq_length_filter]
  rw [e]
  refine countP_two (fun p _ h => ?_) (fun p _ h => ?_) fun p hp h1 h2 => ?_
  · rw [Bool.and_eq_true] at h
    exact h.2
  · rw [Bool.not_eq_true'] at h ⊢
    exact Bool.eq_false_iff.mpr fun z => by
      rw [hasL_iff.mpr (List.mem_append_left _ (hasL_iff.mp z))] at h
      cases h
  · rw [Bool.and_eq_true] at h1
    rw [Bool.not_eq_true'] at h2
    obtain ⟨a, b⟩ := p
    have e : b = here := dgEq_iff.mp h1.1
    subst e
    have m : a ∈ nearL L b lot := near_mem.mpr ⟨hp, fun z => by
      have q := h1.2
      rw [Bool.not_eq_true', hasL_iff.mpr z] at q
      cases q⟩
    rw [hasL_iff.mpr (List.mem_append_right _ m)] at h2
    cases h2
structure Sr (L : List (Dg × Dg)) (own : Dg) (lot fresh : List Dg) : Prop where
  snd : ∀ x ∈ lot, Ahd L x own
  frs : ∀ x ∈ fresh, x = own ∨ x ∈ lot
  cmp : ∀ x y, (x, y) ∈ L → (y = own ∨ y ∈ lot) → y ∈ fresh ∨ x ∈ lot
  len : lot.length + cntL L lot ≤ L.length
theorem Sr.start : Sr L own [] [own] := ⟨(fun x hx => by cases hx), fun x hx => .inl (List.mem_singleton.mp hx), fun x y _ h => .inl (by
  rcases h with rfl | h
  · exact List.mem_singleton.mpr rfl
  · cases h), by
  show 0 + cntL L [] ≤ _
  rw [Nat.zero_add]
  exact List.countP_le_length⟩
theorem Sr.step {lot fr : List Dg} {here : Dg} (h : Sr L own lot (fr ++ [here])) : Sr L own (lot ++ nearL L here lot) (fr ++ nearL L here lot) := by
  have hh := h.frs here (List.mem_append_right _ (List.mem_singleton.mpr rfl))
  refine ⟨fun x hx => ?_, fun x hx => ?_, fun x y hL hy => ?_, ?_⟩
  · rcases List.mem_append.mp hx with c | c
    · exact h.snd x c
    · have l := Ahd.one (near_mem.mp c).1
      rcases hh with rfl | hh
      · exact l
      · exact l.trans (h.snd _ hh)
  · rcases List.mem_append.mp hx with c | c
    · exact (h.frs x (List.mem_append_left _ c)).imp id fun z => List.mem_append_left _ z
    · exact .inr (List.mem_append_right _ c)
  · have old : (y = own ∨ y ∈ lot) → y ∈ fr ++ nearL L here lot ∨ x ∈ lot ++ nearL L here lot := fun z => by
      rcases h.cmp x y hL z with c | c
      · rcases List.mem_append.mp c with c | c
        · exact .inl (List.mem_append_left _ c)
        · cases List.mem_singleton.mp c
          by_cases m : x ∈ lot
          · exact .inr (List.mem_append_left _ m)
          · exact .inr (List.mem_append_right _ (near_mem.mpr ⟨hL, m⟩))
      · exact .inr (List.mem_append_left _ c)
    rcases hy with hy | hy
    · exact old (.inl hy)
    · rcases List.mem_append.mp hy with c | c
      · exact old (.inr c)
      · exact .inl (List.mem_append_right _ c)
  · have := near_cnt (L := L) here lot
    have := h.len
    rw [List.length_append]
    omega
theorem Sr.fin {lot : List Dg} (h : Sr L own lot []) (x : Dg) : x ∈ lot ↔ Ahd L x own := by
  have key : ∀ {x y : Dg}, Ahd L x y → (y = own ∨ y ∈ lot) → x ∈ lot := fun {x y} k => by
    induction k with
    | one k => exact fun z => (h.cmp _ _ k z).elim (fun c => by cases c) id
    | more _ k ih => exact fun z => ih (.inr ((h.cmp _ _ k z).elim (fun c => by cases c) id))
  exact ⟨h.snd x, fun k => key k (.inl rfl)⟩
end
/-! ### what is_ahead tells -/
open Classical in
noncomputable def ahdB (gss : List (List Dg)) (a b : Dg) : Bool := decide (Ahd (linksL gss) a b)
open Classical in
theorem ahdB_iff {gss : List (List Dg)} {a b : Dg} : ahdB gss a b = true ↔ Ahd (linksL gss) a b := by
  unfold ahdB
  exact decide_eq_true_iff
theorem placeOf_mem {g : Dg} {p : Nat × Nat} : ∀ {l : List Pl}, placeOf l g = some p → (g, p) ∈ l
  | [], e => by cases e
  | (k, q) :: t, e => by
    unfold placeOf at e
    by_cases c : dgEq k g = true
    · rw [if_pos c] at e
      cases e
      rw [dgEq_iff] at c
      subst c
      exact List.mem_cons_self ..
    · rw [if_neg c] at e
      exact List.mem_cons_of_mem _ (placeOf_mem e)
theorem placeOf_some {g : Dg} {p : Nat × Nat} : ∀ {l : List Pl}, (g, p) ∈ l → ∃ q, placeOf l g = some q
  | (k, q) :: t, h => by
    unfold placeOf
    by_cases c : dgEq k g = true
    · rw [if_pos c]
      exact ⟨_, rfl⟩
    · rw [if_neg c]
      rcases List.mem_cons.mp h with z | z
      · cases z
        exact (c (dgEq_iff.mpr rfl)).elim
      · exact placeOf_some z
section
variable {gss : List (List Dg)} {many : Nat} {S G : Nat → Nat} {Ck : Dg → List Int}
theorem Valid.place (v : Valid gss many S G Ck) {g : Dg} {h n : Nat} (a : At gss g h n) : placeOf (plAll 0 gss) g = some (h, n) := by
  obtain ⟨⟨h', n'⟩, e⟩ := placeOf_some a.mem
  have b := At.of (placeOf_mem e)
  obtain ⟨rfl, rfl⟩ := v.uniq a b
  exact e
theorem Valid.irr (v : Valid gss many S G Ck) (a : Dg) : ¬ Ahd (linksL gss) a a := fun z => by
  obtain ⟨rk, hr⟩ := v.rank
  have := z.rank hr
  omega
theorem Valid.aheadB_eq (v : Valid gss many S G Ck) {a b : Dg} (ha : a.l < many) (hb : b.l < many) : aheadB (plAll 0 gss) Ck a b = some (ahdB gss a b) := by
  obtain ⟨n, aa⟩ := v.has ha
  obtain ⟨k, ab⟩ := v.has hb
  unfold aheadB
  rw [v.place aa, v.place ab]
  show (if dgEq a b = true then some false else ((Ck b)[(if a.s = true then S a.l else G a.l)]?).map fun c => decide ((n : Int) < c)) = _
  by_cases c : dgEq a b = true
  · rw [if_pos c]
    rw [dgEq_iff] at c
    subst c
    have : ahdB gss a a = false := Bool.eq_false_iff.mpr fun z => v.irr a (ahdB_iff.mp z)
    rw [this]
  · rw [if_neg c]
    have lh := v.hands aa
    have lc := v.ckl b
    have ck := v.clock ab aa
    have e : (Ck b)[(if a.s = true then S a.l else G a.l)]? = some ((Ck b).getD (if a.s = true then S a.l else G a.l) 0) := by
      rw [List.getD_eq_getElem?_getD, List.getElem?_eq_getElem (by rw [lc]; exact lh)]
      rfl
    rw [e]
    show some (decide _) = _
    refine congrArg some ?_
    rw [Bool.eq_iff_iff, decide_eq_true_iff, ck, ahdB_iff]
    exact ⟨fun z => z.elim (fun y => (c (dgEq_iff.mpr y)).elim) id, .inr⟩
end
end Up

namespace Up
open PySem PySem.Spec PyProof.Rows L2
section
variable {gss : List (List Dg)} {many : Nat}
theorem ahd_momC {r : List Int} (g : GoodM gss many r) {a b : Dg} (h : Ahd (linksL gss) a b) : a.l = b.l ∨ r.getD a.l 0 < r.getD b.l 0 := by
  have step : ∀ {x y : Dg}, (x, y) ∈ linksL gss → x.l = y.l ∨ r.getD x.l 0 < r.getD y.l 0 := fun {x y} h => by
    rcases links_mem.mp h with ⟨i, n, ⟨gs, e1, e2⟩, gs', e3, e4⟩ | ⟨_, _, rfl⟩
    · rw [e1] at e3
      cases e3
      refine .inr (g.inc (x.l, y.l) (List.mem_flatMap.mpr ⟨gs, List.mem_of_getElem? e1, ?_⟩))
      unfold rowSt
      exact List.mem_map.mpr ⟨(x, y), rowLinks_mem.mpr ⟨n, e2, e4⟩, rfl⟩
    · exact .inl rfl
  induction h with
  | one h => exact step h
  | more _ h ih =>
    rcases ih with c | c <;> rcases step h with d | d
    · exact .inl (c.trans d)
    · rw [← c] at d
      exact .inr d
    · rw [d] at c
      exact .inr c
    · exact .inr (by omega)
end
end Up

namespace Up
open PySem PySem.Spec PyProof.Rows L2
/-! ### running defs as functions: small steps -/
theorem consF_ok {f : En → Option Val} {g : En → Option (List Val)} {env : En} {x : Val} {xs : List Val} (e1 : f env = some x) (e2 : g env = some xs) : consF f g env = some (x :: xs) := by
  unfold consF
  rw [e1]
  show (g env).bind _ = _
  rw [e2]
  rfl
theorem tupF_ok {g : En → Option (List Val)} {env : En} {xs : List Val} (e : g env = some xs) (l : xs.length ≤ most) : tupF g env = some (.tup xs) := by
  unfold tupF
  rw [e]
  show (if xs.length ≤ most then some (Val.tup xs) else none) = _
  rw [if_pos l]
theorem lstF_ok {g : En → Option (List Val)} {env : En} {xs : List Val} (e : g env = some xs) (l : xs.length ≤ most) : lstF g env = some (.lst xs) := by
  unfold lstF
  rw [e]
  show (if xs.length ≤ most then some (Val.lst xs) else none) = _
  rw [if_pos l]
theorem asgG_ok {m : Val → Option (List (Nat × Val))} {r : En → Option Val} {env : En} {x : Val} {ps : List (Nat × Val)} (e : r env = some x) (e2 : m x = some ps) : asgG m r env = some (.nx (setE env ps)) := by
  unfold asgG
  rw [e]
  show (m x).map _ = _
  rw [e2]
  rfl
theorem ifD_t {t : En → Option Bool} {j k : DS} {m : Addr} {env : En} {b : Nat} {R : Out → Nat → Prop} (e : t env = some true) (h : j m env b R) : ifD (puT t) j k m env b R := ⟨true, e, by show (if true = true then j m env b R else k m env b R); rw [if_pos rfl]; exact h⟩
theorem ifD_f {t : En → Option Bool} {j k : DS} {m : Addr} {env : En} {b : Nat} {R : Out → Nat → Prop} (e : t env = some false) (h : k m env b R) : ifD (puT t) j k m env b R := ⟨false, e, by show (if false = true then j m env b R else k m env b R); rw [if_neg (by decide)]; exact h⟩
/-- a comprehension, filtered -/
theorem lcGo_filt {α : Type} {bnd : Val → Option (List (Nat × Val))} {ft : En → Option Bool} {fe : En → Option Val} {env : En} {x y : α → Val} {p : α → Bool} : ∀ {as : List α}, (∀ a ∈ as, ∃ ps, bnd (x a) = some ps ∧ ft (setE env ps) = some (p a) ∧ (p a = true → fe (setE env ps) = some (y a))) → lcGo bnd ft fe env (as.map x) = some ((as.filter p).map y)
  | [], _ => rfl
  | a :: as, h => by
    obtain ⟨ps, e1, e2, e3⟩ := h a (List.mem_cons_self ..)
    have ih := lcGo_filt (as := as) fun b hb => h b (List.mem_cons_of_mem _ hb)
    show (bnd (x a)).bind _ = _
    rw [e1]
    show (ft (setE env ps)).bind _ = _
    rw [e2]
    show (if p a = true then _ else _) = _
    by_cases c : p a = true
    · rw [if_pos c, e3 c]
      show (lcGo bnd ft fe env (as.map x)).bind _ = _
      rw [ih, List.filter_cons_of_pos c]
      rfl
    · rw [if_neg c, List.filter_cons_of_neg c]
      exact ih
theorem lcF_filt {α : Type} {fi : En → Option (List Val)} {bnd : Val → Option (List (Nat × Val))} {ft : En → Option Bool} {fe : En → Option Val} {is : List Nat} {env : En} {x y : α → Val} {p : α → Bool} {as : List α} (hi : fi env = some (as.map x)) (l : as.length ≤ most)
    (h : ∀ a ∈ as, ∃ ps, bnd (x a) = some ps ∧ ft (setE (wipeE env is) ps) = some (p a) ∧ (p a = true → fe (setE (wipeE env is) ps) = some (y a))) : lcF fi bnd ft fe is env = some ((as.filter p).map y) := by
  unfold lcF
  rw [hi]
  show (if (as.map x).length ≤ most then _ else none) = _
  rw [if_pos (by rw [List.length_map]; exact l)]
  exact lcGo_filt h
theorem andT_ok2 {t u : En → Option Bool} {env : En} {a b : Bool} (e : t env = some a) (e2 : a = true → u env = some b) : andT t u env = some (a && b) := by
  unfold andT
  rw [e]
  show (if a = true then u env else some false) = _
  cases a with
  | true => rw [if_pos rfl, e2 rfl]; rfl
  | false => rw [if_neg (by decide)]; rfl
/-- a loop, by an invariant over its turns -/
theorem forGo_ix {α : Type} {m : Val → Option (List (Nat × Val))} {body : En → Option Out} {x : α → Val} {J : Nat → En → Prop} : ∀ (as : List α) (i0 : Nat) {env : En}, (∀ i a env, as[i]? = some a → J (i0 + i) env → ∃ ps env', m (x a) = some ps ∧ body (setE env ps) = some (.nx env') ∧ J (i0 + i + 1) env') → J i0 env → ∃ env', forGo m body (as.map x) env = some (.nx env') ∧ J (i0 + as.length) env'
  | [], i0, env, _, h => ⟨env, rfl, h⟩
  | a :: as, i0, env, k, h => by
    obtain ⟨ps, env1, e1, e2, h1⟩ := k 0 a env rfl h
    obtain ⟨env2, e3, h2⟩ := forGo_ix (J := J) as (i0 + 1) (fun i b env e h => by
      have e1 : i0 + 1 + i = i0 + (i + 1) := by omega
      rw [e1] at h ⊢
      exact k (i + 1) b env (by simpa using e) h) h1
    refine ⟨env2, ?_, by rw [List.length_cons, show i0 + (as.length + 1) = i0 + 1 + as.length by omega]; exact h2⟩
    show (m (x a)).bind _ = _
    rw [e1]
    show (body (setE env ps)).bind _ = _
    rw [e2]
    exact e3
/-- a while loop, by an invariant and a number that falls -/
theorem whGo_inv {t : En → Option Bool} {body : En → Option Out} {J : Nat → En → Prop} {F : En → Prop} (h : ∀ n env, J n env → (t env = some false ∧ F env) ∨ (t env = some true ∧ ∃ env' n', body env = some (.nx env') ∧ n' < n ∧ J n' env')) : ∀ (fuel n : Nat) (env : En), n < fuel → J n env → ∃ env', whGo t body fuel env = some (.nx env') ∧ F env'
  | 0, n, env, l, _ => absurd l (Nat.not_lt_zero _)
  | fuel + 1, n, env, l, hJ => by
    unfold whGo
    rcases h n env hJ with ⟨e, f⟩ | ⟨e, env', n', e2, l2, j2⟩
    · rw [e]
      exact ⟨env, rfl, f⟩
    · rw [e]
      obtain ⟨env2, e3, f3⟩ := whGo_inv h fuel n' env' (by omega) j2
      refine ⟨env2, ?_, f3⟩
      show (body env).bind _ = _
      rw [e2]
      exact e3
/-! lists of data: compared, searched -/
theorem dataVs_map {α : Type} {x : α → Val} {d : α → PyData} (h : ∀ a, dataV (x a) = some (d a)) : ∀ as : List α, dataVs (as.map x) = some (as.map d)
  | [] => by simp [dataVs]
  | a :: as => by
    show dataVs (x a :: as.map x) = _
    rw [dataVs, h, dataVs_map h as]
    rfl
theorem shapedL {α : Type} {d : α → PyData} {n : Nat} (h : ∀ a, (d a).canLay0 = true ∧ (d a).depth ≤ n) (hn : n ≤ 60) (as : List α) : SeqAt.shaped (.list (as.map d)) = true ∧ SeqAt.shaped (.tuple (as.map d)) = true := by
  have h := all_can h as
  unfold SeqAt.shaped
  rw [Bool.and_eq_true, Bool.and_eq_true]
  exact ⟨⟨by simp only [PyData.canLay0]; exact h.1, decide_eq_true (by simp only [PyData.depth]; omega)⟩, ⟨by simp only [PyData.canLay0]; exact h.1, decide_eq_true (by simp only [PyData.depth]; omega)⟩⟩
theorem eq_nil {α : Type} {x : α → Val} {d : α → PyData} {n : Nat} (neg : Bool) (hd : ∀ a, dataV (x a) = some (d a)) (h : ∀ a, (d a).canLay0 = true ∧ (d a).depth ≤ n) (hn : n ≤ 60) (as : List α) : eqF neg (.lst (as.map x)) (.lst []) = some (.bl (if neg then !as.isEmpty else as.isEmpty)) := by
  have e1 : dataV (.lst (as.map x)) = some (.list (as.map d)) := by
    rw [dataV, dataVs_map hd]
    rfl
  have e2 : dataV (.lst []) = some (.list []) := by simp [dataV, dataVs]
  have s1 := (shapedL h hn as).1
  have s2 : SeqAt.shaped (.list []) = true := (shapedL h hn []).1
  unfold eqF
  rw [e1, e2]
  show (if (SeqAt.shaped (.list (as.map d)) && SeqAt.shaped (.list [])) = true then some (Val.bl (if neg then !PyData.eqv (.list (as.map d)) (.list []) else PyData.eqv (.list (as.map d)) (.list []))) else none) = _
  rw [s1, s2, if_pos (by rfl)]
  have k : PyData.eqv (.list (as.map d)) (.list []) = as.isEmpty := by cases as <;> rfl
  rw [k]
theorem in_list {α : Type} {x : α → Val} {d : α → PyData} {n : Nat} (neg : Bool) (hd : ∀ a, dataV (x a) = some (d a)) (h : ∀ a, (d a).canLay0 = true ∧ (d a).depth ≤ n) (hn : n ≤ 60) (a : α) (as : List α) : inDF neg (x a) (.lst (as.map x)) = some (.bl (if neg then !(as.any fun b => PyData.eqv (d b) (d a)) else as.any fun b => PyData.eqv (d b) (d a))) := by
  have e1 : dataV (.lst (as.map x)) = some (.list (as.map d)) := by
    rw [dataV, dataVs_map hd]
    rfl
  have s1 := (shapedL h hn as).1
  have s2 : SeqAt.shaped (d a) = true := by
    unfold SeqAt.shaped
    rw [(h a).1, decide_eq_true (by have := (h a).2; omega)]
    rfl
  unfold inDF
  rw [hd, e1]
  show (if (SeqAt.shaped (d a) && SeqAt.shaped (.list (as.map d))) = true then some (Val.bl (if neg then !((as.map d).any fun z => PyData.eqv z (d a)) else (as.map d).any fun z => PyData.eqv z (d a))) else none) = _
  rw [s1, s2, if_pos (by rfl), List.any_map]
  rfl
/-! doings -/
theorem dg_data (g : Dg) : dataV (dgV g) = some (dgD g) := by simp [dgV, dataV, dataVs, dgD]
theorem dg_can (g : Dg) : (dgD g).canLay0 = true ∧ (dgD g).depth ≤ 1 := by
  have ok : PyData.strOk g.word = true := by
    obtain ⟨s, l⟩ := g
    cases s
    · show PyData.strOk (("get" : Str)) = true
      decide +kernel
    · show PyData.strOk (("send" : Str)) = true
      decide +kernel
  constructor
  · simp [dgD, PyData.canLay0, PyData.canLayAll0, ok]
  · simp [dgD, PyData.depth, PyData.depthAll]
theorem dg_eqv (a b : Dg) : PyData.eqv (dgD a) (dgD b) = dgEq a b := by
  rw [dgD_eqv, Bool.eq_iff_iff, dgEq_iff, decide_eq_true_iff]
theorem dg_in (neg : Bool) (g : Dg) (gs : List Dg) : inDF neg (dgV g) (.lst (gs.map dgV)) = some (.bl (if neg then !(gs.any fun z => dgEq z g) else gs.any fun z => dgEq z g)) := by
  rw [in_list neg dg_data dg_can (by decide) g gs]
  simp only [dg_eqv]
theorem dg_nil (neg : Bool) (gs : List Dg) : eqF neg (.lst (gs.map dgV)) (.lst []) = some (.bl (if neg then !gs.isEmpty else gs.isEmpty)) := eq_nil neg dg_data dg_can (by decide) gs
theorem dg_eq (a b : Dg) : eqF false (dgV a) (dgV b) = some (.bl (dgEq a b)) := by
  have s : ∀ g : Dg, SeqAt.shaped (dgD g) = true := fun g => by
    unfold SeqAt.shaped
    rw [(dg_can g).1, decide_eq_true (by have := (dg_can g).2; omega)]
    rfl
  unfold eqF
  rw [dg_data, dg_data]
  show (if (SeqAt.shaped (dgD a) && SeqAt.shaped (dgD b)) = true then some (Val.bl (PyData.eqv (dgD a) (dgD b))) else none) = _
  rw [s, s, if_pos (by rfl), dg_eqv]
theorem imm_dgs : ∀ gs : List Dg, imm.imms (gs.map dgV) = true
  | [] => rfl
  | g :: gs => by
    show (imm (dgV g) && imm.imms (gs.map dgV)) = true
    rw [imm_dgs gs]
    rfl
end Up

namespace Up
open PySem PySem.Spec PyProof.Rows L2
/-! ### a list of lists of its own, changed in place: a grid; its place stands in the names' values as a place alone -/
def gcell (D : Addr) (rs : List Addr) (a : Addr) : Prop := a = D ∨ a ∈ rs
structure GrV (cm : Cm) (P : Addr → Prop) (ow : List Nat) (env : En) (σ : L2.St) (H : Hp) (D : Addr) (rs : List Addr) (xss : List (List Val)) : Prop where
  at_ : H D = some (.lst (rs.map V.ref))
  nd : rs.Nodup
  na : D ∉ rs
  len : rs.length = xss.length
  row : ∀ (i : Nat) (t : Addr) (xs : List Val), rs[i]? = some t → xss[i]? = some xs → ∃ vs, H t = some (.lst vs) ∧ Res cm (Ow P ow env σ) H vs xs
/-- what is hidden: P0, and the grid, which is new -/
structure GrP (P0 P : Addr → Prop) (H0 : Hp) (D : Addr) (rs : List Addr) : Prop where
  iff : ∀ a, P a ↔ P0 a ∨ gcell D rs a
  no : ∀ a, gcell D rs a → ¬ P0 a
  new : ∀ a, gcell D rs a → H0 a = none
abbrev DSG := Addr → Addr → En → List (List Val) → Nat → (Out → List (List Val) → Nat → Prop) → Prop
section
variable {cm : Cm} {P0 P : Addr → Prop} {ow : List Nat} {m g : Addr} {b b' : Nat} {H0 H H' : Hp} {env env' : En} {σ σ' : L2.St} {D : Addr} {rs : List Addr} {xss : List (List Val)}
theorem GrV.cell (v : GrV cm P ow env σ H D rs xss) {a : Addr} (c : gcell D rs a) : ∃ xs, H a = some (.lst xs) := by
  rcases c with rfl | c
  · exact ⟨_, v.at_⟩
  · obtain ⟨i, e⟩ := List.getElem?_of_mem c
    have lt : i < xss.length := by
      rw [← v.len]
      exact (List.getElem?_eq_some_iff.mp e).1
    obtain ⟨vs, h, _⟩ := v.row i a _ e (List.getElem?_eq_getElem lt)
    exact ⟨_, h⟩
theorem GrV.move (v : GrV cm P ow env σ H D rs xss) (kp : Keep (Ow P ow env σ) H H') (nw : ∀ a, Ow P ow env' σ' a → Ow P ow env σ a ∨ H a = none) (c : ∀ a, gcell D rs a → ∀ o, H a = some o → H' a = some o) : GrV cm P ow env' σ' H' D rs xss :=
  ⟨c D (.inl rfl) _ v.at_, v.nd, v.na, v.len, fun i t xs e1 e2 => let ⟨vs, h1, h2⟩ := v.row i t xs e1 e2; ⟨vs, c t (.inr (List.mem_of_getElem? e1)) _ h1, h2.move nw kp⟩⟩
theorem GrV.same (v : GrV cm P ow env σ H D rs xss) (s : Same H H') : GrV cm P ow env σ H' D rs xss := v.move (.of s) (fun a c => .inl c) fun a _ o e => s a o e
theorem GrP.mid (p : GrP P0 P H0 D rs) (M : Mid cm P0 m g b H) : Mid cm P m g b H := ⟨fun a c => (p.iff a).mpr (.inl (M.sub a c)), fun q hq => (p.iff q.1).mpr (.inl (M.tsub q hq)), M.at_, M.tabs⟩
theorem GrP.nm (p : GrP P0 P H0 D rs) (M : Mid cm P0 m g b H) {a : Addr} (c : gcell D rs a) : a ≠ m ∧ a ≠ g ∧ ∀ q ∈ cm.tabs, a ≠ q.1 :=
  ⟨fun z => p.no a c (M.sub a (.inl z)), fun z => p.no a c (M.sub a (.inr z)), fun q hq z => p.no a c (z ▸ M.tsub q hq)⟩
theorem GrV.go (v : GrV cm P ow env σ H D rs xss) (p : GrP P0 P H0 D rs) (M : Mid cm P0 m g b H) (G : Go cm m g H b' H') : GrV cm P ow env σ H' D rs xss :=
  v.move ((p.mid M).oo.kp G) (fun a c => .inl c) fun a c o e => let ⟨n1, n2, n3⟩ := p.nm M c; G.but a o e n1 n2 n3
theorem StV.base2 {H2 : Hp} (h : StV cm P ow H0 env σ H) (n : ∀ a, ¬ P a → H0 a = none → H2 a = none) (s : Same H2 H) : StV cm P ow H2 env σ H :=
  ⟨h.sl, fun i hi x e => let ⟨a, h2, h4, h5, h6⟩ := h.own i hi x e; ⟨a, h2, h4, n a h4 h5, h6⟩, h.dis, h.len, s⟩
def EndsG (cm : Cm) (P0 P : Addr → Prop) (ow : List Nat) (m g : Addr) (H0 : Hp) (env : En) (σ : L2.St) (H : Hp) (D : Addr) (rs : List Addr) (Dn : Ends) (b' : Nat) (xss' : List (List Val)) : Out → Prop
  | .nx env' => ∀ σ' H', StV cm P ow H0 env' σ' H' → Mx cm H' m g b' → Fr P ow env σ H env' σ' H' → GrV cm P ow env' σ' H' D rs xss' → Dn.nx σ' H'
  | .bk env' => ∀ σ' H', StV cm P ow H0 env' σ' H' → Mx cm H' m g b' → Fr P ow env σ H env' σ' H' → GrV cm P ow env' σ' H' D rs xss' → Dn.bk σ' H'
  | .ct env' => ∀ σ' H', StV cm P ow H0 env' σ' H' → Mx cm H' m g b' → Fr P ow env σ H env' σ' H' → GrV cm P ow env' σ' H' D rs xss' → Dn.ct σ' H'
  | .rt x => ∀ v H', Same H0 H' → Mx cm H' m g b' → Re cm P0 H' v x → Dn.rt v H'
theorem EndsG.pre {env1 : En} {σ1 : L2.St} {H1 : Hp} {Dn : Ends} {xss' : List (List Val)} {o : Out} (f : Fr P ow env σ H env1 σ1 H1) (h : EndsG cm P0 P ow m g H0 env σ H D rs Dn b' xss' o) : EndsG cm P0 P ow m g H0 env1 σ1 H1 D rs Dn b' xss' o := by
  cases o with
  | nx e2 => exact fun σ2 H2 a c f2 => h σ2 H2 a c (f.trans f2)
  | bk e2 => exact fun σ2 H2 a c f2 => h σ2 H2 a c (f.trans f2)
  | ct e2 => exact fun σ2 H2 a c f2 => h σ2 H2 a c (f.trans f2)
  | rt x => exact h
def tSG (cm : Cm) (ow : List Nat) (k : DSG) : TS := fun Dn σ H => ∃ (P0 P : Addr → Prop) (m g : Addr) (b : Nat) (H0 : Hp) (env : En) (R : Out → List (List Val) → Nat → Prop) (D : Addr) (rs : List Addr) (xss : List (List Val)), Mid cm P0 m g b H ∧
  (H0 m = none ∧ H0 g = none ∧ ∀ p ∈ cm.tabs, H0 p.1 = none) ∧ GrP P0 P H0 D rs ∧ StV cm P ow H0 env σ H ∧ GrV cm P ow env σ H D rs xss ∧ k m D env xss b R ∧ ∀ o xss' b', R o xss' b' → EndsG cm P0 P ow m g H0 env σ H D rs Dn b' xss' o
abbrev SG (X : Cx) (cm : Cm) (ow : List Nat) (st : Stmt) (k : DSG) : Prop := PS X st (tSG cm ow k)
abbrev SGs (X : Cx) (cm : Cm) (ow : List Nat) (st : List Stmt) (k : DSG) : Prop := PSs X st (tSG cm ow k)
end
section
variable {X : Cx} {cm : Cm} {ow : List Nat} {a b c e : Expr} {es : List Expr} {pos : Pos} {st : Stmt} {rest : List Stmt}
def liftG (k : DS) : DSG := fun m _ env xss b R => k m env b fun o b' => R o xss b'
theorem lift_core {k : DS} {Dn : Ends} {σ : L2.St} {H : Hp} (h : tSG cm ow (liftG k) Dn σ H) : tSD cm ow k Dn σ H := by
  obtain ⟨P0, P, m, g, b, H0, env, R, D, rs, xss, M, h0, p, hs, gv, hk, q⟩ := h
  let H2 : Hp := fun a => open Classical in if gcell D rs a then H a else H0 a
  have i1 : ∀ {a}, gcell D rs a → H2 a = H a := fun {a} c => if_pos c
  have i2 : ∀ {a}, ¬ gcell D rs a → H2 a = H0 a := fun {a} c => if_neg c
  have s2 : Same H2 H := fun a o e => by
    by_cases c : gcell D rs a
    · rw [i1 c] at e
      exact e
    · rw [i2 c] at e
      exact hs.base a o e
  have s0 : Same H0 H2 := fun a o e => by
    by_cases c : gcell D rs a
    · rw [p.new a c] at e
      cases e
    · rw [i2 c]
      exact e
  have z : ∀ {a}, P0 a → ¬ gcell D rs a := fun {a} c d => p.no a d c
  refine ⟨P, m, g, b, H2, env, _, p.mid M, ⟨by rw [i2 (z (M.sub m (.inl rfl)))]; exact h0.1, by rw [i2 (z (M.sub g (.inr rfl)))]; exact h0.2.1, fun t ht => by rw [i2 (z (M.tsub t ht))]; exact h0.2.2 t ht⟩,
    hs.base2 (fun a n e => by rw [i2 fun c => n ((p.iff a).mpr (.inr c))]; exact e) s2, hk, fun o b' r => ?_⟩
  have q := q o xss b' r
  have mv : ∀ {env' : En} {σ' : L2.St} {H' : Hp}, StV cm P ow H2 env' σ' H' → Fr P ow env σ H env' σ' H' → GrV cm P ow env' σ' H' D rs xss := fun {env' σ' H'} a f => gv.move f.kp f.nw fun x c o e => a.base x o (by rw [i1 c]; exact e)
  cases o with
  | nx e2 => exact fun σ' H' a M' f => q σ' H' (a.baseLe s0) M' f (mv a f)
  | bk e2 => exact fun σ' H' a M' f => q σ' H' (a.baseLe s0) M' f (mv a f)
  | ct e2 => exact fun σ' H' a M' f => q σ' H' (a.baseLe s0) M' f (mv a f)
  | rt x => exact fun v H' s M' r => q v H' (s0.trans s) M' (Rep.less (fun a c => (p.iff a).mpr (.inl c)) r)
theorem sg_lift {k : DS} (h : SD X cm ow st k) : SG X cm ow st (liftG k) := h.weak fun Dn σ H h => lift_core h
theorem sg_lifts {k : DS} {ss : List Stmt} (h : SDs X cm ow ss k) : SGs X cm ow ss (liftG k) := h.weak fun Dn σ H h => lift_core h
def nilG_ : DSG := fun _ _ env xss b R => R (.nx env) xss b
def seqG_ (j k : DSG) : DSG := fun m D env xss b R => j m D env xss b fun o xss' b1 => match o with
  | .nx env' => k m D env' xss' b1 R
  | o => R o xss' b1
theorem sg_nil : SGs X cm ow [] nilG_ := pss_nil.weak fun Dn σ H ⟨P0, P, m, g, b, H0, env, R, D, rs, xss, M, h0, p, hs, gv, hk, q⟩ => q _ _ b hk σ H hs M.mx .refl gv
theorem sg_one {k : DSG} (h : SG X cm ow st k) : SGs X cm ow [st] k := pss_one h
theorem sg_cons {j k : DSG} (h1 : SG X cm ow st j) (h2 : SGs X cm ow rest k) : SGs X cm ow (st :: rest) (seqG_ j k) := (pss_cons h1 h2).weak fun Dn σ H ⟨P0, P, m, g, b, H0, env, R, D, rs, xss, M, h0, p, hs, gv, hk, q⟩ => by
  refine ⟨P0, P, m, g, b, H0, env, _, D, rs, xss, M, h0, p, hs, gv, hk, fun o xss1 b1 k1 => ?_⟩
  cases o with
  | nx env1 => exact fun σ1 H1 hs1 M1 f1 g1 => ⟨P0, P, m, g, b1, H0, env1, R, D, rs, xss1, M.re M1, h0, p, hs1, g1, k1, fun o xss2 b2 k2 => (q o xss2 b2 k2).pre f1⟩
  | bk env1 => exact q _ _ b1 k1
  | ct env1 => exact q _ _ b1 k1
  | rt x => exact q _ _ b1 k1
def ifG_ (t : DB) (j k : DSG) : DSG := fun m D env xss b R => t m env b fun c b1 => if c = true then j m D env xss b1 R else k m D env xss b1 R
theorem sg_if {t : DB} {j k : DSG} {x y : List Stmt} (hc : VDT X cm c t) (ha : SGs X cm ow x j) (hb : SGs X cm ow y k) : SG X cm ow (.If c x y pos) (ifG_ t j k) := (ps_if hc ha hb).weak fun Dn σ H ⟨P0, P, m, g, b, H0, env, R, D, rs, xss, M, h0, p, hs, gv, hk, q⟩ => by
  refine ⟨P, m, g, b, env, _, p.mid M, hs.view, hk, fun k1 b1 H1 G1 hk => ?_⟩
  show if k1 = true then _ else _
  have st := hs.go (p.mid M) h0 G1
  have fr : Fr P ow env σ H env σ H1 := Fr.go (p.mid M) G1
  by_cases c : k1 = true
  · rw [if_pos c] at hk ⊢
    exact ⟨P0, P, m, g, b1, H0, env, R, D, rs, xss, M.go G1, h0, p, st, gv.go p M G1, hk, fun o xss2 b2 k2 => (q o xss2 b2 k2).pre fr⟩
  · rw [if_neg c] at hk ⊢
    exact ⟨P0, P, m, g, b1, H0, env, R, D, rs, xss, M.go G1, h0, p, st, gv.go p M G1, hk, fun o xss2 b2 k2 => (q o xss2 b2 k2).pre fr⟩
/-! x[k].append(e) -/
def appG_ (gi : Nat) (fi : DE) (fe : DE) (ow : List Nat) : DSG := fun m D env xss b R => env[gi]? = some (some (.loc D)) ∧ xss.length ≤ 1000 ∧ fi m env b fun k b1 => ∃ (j : Nat) (xs : List Val), k = .int (j : Int) ∧ xss[j]? = some xs ∧ xs.length ≤ 63 ∧ fe m (wipeE env ow) b1 fun y b2 => R (.nx env) (xss.set j (xs ++ [y])) b2
theorem GrV.put {P : Addr → Prop} {env : En} {σ : L2.St} {H : Hp} {D t : Addr} {rs : List Addr} {xss : List (List Val)} (v : GrV cm P ow env σ H D rs xss) (hid : ∀ a, gcell D rs a → P a) {j : Nat} {vs' : List V} {xs' : List Val} (e1 : rs[j]? = some t) (lj : j < xss.length)
    (r : Res cm (Ow P ow env σ) H vs' xs') : GrV cm P ow env σ (upd H t (.lst vs')) D rs (xss.set j xs') := by
  have pt : P t := hid t (.inr (List.mem_of_getElem? e1))
  have kp : Keep (Ow P ow env σ) H (upd H t (.lst vs')) := fun b o e n => by
    rw [upd_ne fun z => n (by rw [z]; exact .inl pt)]
    exact e
  refine ⟨?_, v.nd, v.na, by rw [List.length_set]; exact v.len, fun i u xs a1 a2 => ?_⟩
  · rw [upd_ne fun z => v.na (by rw [z]; exact List.mem_of_getElem? e1)]
    exact v.at_
  · by_cases c : j = i
    · subst c
      rw [e1] at a1
      cases a1
      rw [List.getElem?_set_self lj] at a2
      cases a2
      exact ⟨vs', upd_same, r.keep kp⟩
    · rw [List.getElem?_set_ne c] at a2
      obtain ⟨ws, h1, h2⟩ := v.row i u xs a1 a2
      exact ⟨ws, by rw [upd_ne fun z => c (nodup_at v.nd e1 (by rw [← z]; exact a1))]; exact h1, h2.keep kp⟩
theorem StV.hidPut {P : Addr → Prop} {H0 H : Hp} {env : En} {σ : L2.St} {t : Addr} {vs : List V} (h : StV cm P ow H0 env σ H) (pt : P t) (n0 : H0 t = none) : StV cm P ow H0 env σ (upd H t (.lst vs)) ∧ Fr P ow env σ H env σ (upd H t (.lst vs)) := by
  have kp : Keep (Ow P ow env σ) H (upd H t (.lst vs)) := fun b o e n => by
    rw [upd_ne fun z => n (by rw [z]; exact .inl pt)]
    exact e
  have nt : ∀ a, NT H a → NT (upd H t (.lst vs)) a := fun a ⟨o, e, n⟩ => by
    by_cases c : a = t
    · exact ⟨.lst vs, by rw [c, upd_same], fun ws z => by cases z⟩
    · exact ⟨o, by rw [upd_ne c]; exact e, n⟩
  refine ⟨⟨h.sl.keep kp fun a c => nt a (h.sl.hid a c), fun i hi x e => ?_, h.dis, h.len, fun b o e => ?_⟩, kp, fun a c => .inl c, nt⟩
  · obtain ⟨a, h2, h4, h5, h6⟩ := h.own i hi x e
    exact ⟨a, h2, h4, h5, h6.keep (fun o eo => by rw [upd_ne fun z => h4 (by rw [z]; exact pt)]; exact eo) kp⟩
  · rw [upd_ne fun z => by rw [z, n0] at e; cases e]
    exact h.base b o e
theorem sg_app {fi fe : DE} {gi : Nat} (hst : PS X st (tDrop (tBM X.K "list" rAppend (tOp (rIxL X.K) (tVar gi) (tD cm fi)) (tCons (tD cm fe) tNil)))) : SG X cm ow st (appG_ gi fi fe ow) := hst.weak fun Dn σ H ⟨P0, P, m, g, b, H0, env, R, D, rs, xss, M, h0, p, hs, gv, ⟨eg, l1, hk⟩, q⟩ => by
  obtain ⟨v, eσ, rv⟩ := hs.view.at_ gi _ eg
  cases rv
  refine ⟨_, eσ, P, m, g, b, env, _, p.mid M, hs.view, hk, fun w k b1 H1 G1 rw_ ⟨j, xs, ek, ex, lx, hk⟩ => ?_⟩
  subst ek
  cases Re.int_ rw_
  have hs1 := hs.go (p.mid M) h0 G1
  have gv1 := gv.go p M G1
  have M1 := M.go G1
  have lj := (List.getElem?_eq_some_iff.mp ex).1
  obtain ⟨t, er⟩ : ∃ t, rs[j]? = some t := ⟨_, List.getElem?_eq_getElem (by rw [gv.len]; exact lj)⟩
  obtain ⟨vs, ht, rr⟩ := gv1.row j _ xs er ex
  refine ⟨D, _, _, _, rfl, rfl, .inl (.inl gv1.at_), atI_nat (j := j) (by rw [List.getElem?_map, er]; rfl), (show tyV X.K "list" (.ref _) H1 from Or.inl ⟨rfl, _, .inl (.inl ht)⟩), ?_⟩
  refine ⟨_, m, g, b1, wipeE env ow, _, (p.mid M1).oo, hs1.sl, hk, fun y z b2 H2 G2 ry k2 => ?_⟩
  have hs2 := hs1.go (p.mid M1) h0 G2
  have gv2 := gv1.go p M1 G2
  have M2 := M1.go G2
  obtain ⟨vs2, ht2, rr2⟩ := gv2.row j _ xs er ex
  have cl : gcell D rs t := .inr (List.mem_of_getElem? er)
  have pt : P t := (p.iff _).mpr (.inr cl)
  refine ⟨_, vs2, y, rfl, rfl, ht2, most_line (by rw [Res.length rr2]; show _ ≤ 100000; omega), ?_⟩
  obtain ⟨hs3, f3⟩ := hs2.hidPut (vs := vs2 ++ [y]) pt (p.new _ cl)
  obtain ⟨n1, n2, n3⟩ := p.nm M2 cl
  have M3 : Mx cm (upd H2 t (.lst (vs2 ++ [y]))) m g b2 := ⟨M2.at_.put ⟨n1, n2⟩ ht2 (by rw [Res.length rr2]; omega), tabs_put M2.tabs n3 ⟨_, ht2⟩⟩
  exact q _ _ b2 k2 _ _ hs3 M3 ((Fr.go (p.mid M) G1).trans ((Fr.go (p.mid M1) G2).trans f3)) (gv2.put (fun a c => (p.iff a).mpr (.inr c)) er lj (rr2.append (.cons ry .nil)))
/-! for -/
def forGr (mm : Val → Option (List (Nat × Val))) (body : DSG) (m D : Addr) (R : Out → List (List Val) → Nat → Prop) : List Val → En → List (List Val) → Nat → Prop
  | [], env, xss, b => R (.nx env) xss b
  | x :: xs, env, xss, b => ∃ ps, mm x = some ps ∧ body m D (setE env ps) xss b fun o xss1 b1 => match o with
    | .nx env' => forGr mm body m D R xs env' xss1 b1
    | .ct env' => forGr mm body m D R xs env' xss1 b1
    | .bk env' => R (.nx env') xss1 b1
    | .rt y => R (.rt y) xss1 b1
def forGS (ow : List Nat) (fi : DA) (mm : Val → Option (List (Nat × Val))) (body : DSG) : DSG := fun m D env xss b R => fi m (wipeE env ow) b fun xs b1 => forGr mm body m D R xs env xss b1
theorem sg_for {tg iter : Expr} {body : List Stmt} {fi : DA} {gt : TG} {mm : Val → Option (List (Nat × Val))} {is : List Nat} {k : DSG} (hp : PassesOwn (model X.prog X.w) X.A X.env X.xe) (hc : X.calm = true) (hi : VDI X cm tg iter fi) (hg : PG X tg gt) (hb : SGs X cm ow body k) (tg_ : TgV cm gt mm is) (ho : ∀ i ∈ is, i ∉ ow)
    (hs : ∀ x, foldedSetIterable iter X.env x = pure x := by intro _; rfl) : SG X cm ow (.For tg iter body [] pos) (forGS ow fi mm k) := (ps_for hp hc hi hg hb hs).weak fun Dn σ H ⟨P0, P, m, g, b, H0, env, R, D, rs, xss, M0, h0, p, hs, gv, hk, q⟩ => by
  have M := p.mid M0
  refine ⟨_, m, g, b, wipeE env ow, _, M.oo, hs.sl, hk, fun J H1 b1 xs G1 hk w => ?_⟩
  have hs1 := hs.go M h0 G1
  have M1 := M.go G1
  refine for_it w (fun i σ' H' => ∃ env' b' xss', StV cm P ow H0 env' σ' H' ∧ Mx cm H' m g b' ∧ Fr P ow env σ H env' σ' H' ∧ Keep (Ow P ow env σ) H1 H' ∧ (∀ a, Ow P ow env' σ' a → Ow P ow env σ a ∨ H1 a = none) ∧ Hid (Ow P ow env σ) H' ∧ GrV cm P ow env' σ' H' D rs xss' ∧ forGr mm k m D R (xs.drop i) env' xss' b') ⟨env, b1, xss, hs1, G1.mx, Fr.go M G1, .refl, fun a c => .inl c, hs1.sl.hid, gv.go p M0 G1, hk⟩ (fun i σ' H' _ ⟨_, _, _, _, _, _, k1, _, k2, _⟩ => ⟨k1, k2⟩) ?_ ?_
  · rintro i x σ' H' H2 hi2 ⟨env', b', xss', hs', M', fr, kp, nw, hid, gv', hgo⟩ ⟨s2, y, ey, ry⟩
    have ry2 := ry _ nw hs'.sl.hid
    have dr : xs.drop i = y :: xs.drop (i + 1) := by
      obtain ⟨lt, eq⟩ := List.getElem?_eq_some_iff.mp ey
      rw [List.drop_eq_getElem_cons lt, eq]
    rw [dr] at hgo
    obtain ⟨ps, e1, hgo⟩ := hgo
    obtain ⟨qs, pr, mem, go⟩ := tg_.go _ H2 x y ps ry2 e1
    obtain ⟨h2, h3⟩ := StV.sets pr (fun q hq => ho _ (mem q hq)) rfl (hs'.same s2)
    have f2 : Fr P ow env' σ' H' (setE env' ps) (setA σ' qs) H2 := ⟨.of s2, fun a c => .inl ((h3 a).mp c), fun a n => n.same s2⟩
    have gv2 : GrV cm P ow (setE env' ps) (setA σ' qs) H2 D rs xss' := gv'.move f2.kp f2.nw fun a _ o e => s2 a o e
    have turn : ∀ (env3 : En) (σ3 : L2.St) (H3 : Hp), StV cm P ow H0 env3 σ3 H3 → Fr P ow (setE env' ps) (setA σ' qs) H2 env3 σ3 H3 → Fr P ow env σ H env3 σ3 H3 ∧ Keep (Ow P ow env σ) H1 H3 ∧ (∀ a, Ow P ow env3 σ3 a → Ow P ow env σ a ∨ H1 a = none) ∧ Hid (Ow P ow env σ) H3 := fun env3 σ3 H3 hs3 f3 => by
      have f23 := f2.trans f3
      refine ⟨fr.trans f23, fun b o e n => ?_, fun a c => ?_, fun b c => ?_⟩
      · refine f23.kp b o (kp b o e n) fun z => ?_
        rcases nw b z with y | y
        · exact n y
        · rw [e] at y
          cases y
      · rcases f23.nw a c with z | z
        · exact nw a z
        · by_cases n : Ow P ow env σ a
          · exact .inl n
          · cases e : H1 a with
            | none => exact .inr rfl
            | some o =>
              rw [kp a o e n] at z
              cases z
      · exact f23.st b (hid b c)
    refine go σ' _ ⟨P0, P, m, g, b', H0, _, _, D, rs, xss', (M0.re (M'.same s2)), h0, p, h2, gv2, hgo, fun o1 xss3 b3 k1 => ?_⟩
    cases o1 with
    | nx env3 =>
      intro σ3 H3 hs3 M3 f3 g3
      obtain ⟨t1, t2, t3, t4⟩ := turn env3 σ3 H3 hs3 f3
      exact ⟨env3, b3, xss3, hs3, M3, t1, t2, t3, t4, g3, k1⟩
    | ct env3 =>
      intro σ3 H3 hs3 M3 f3 g3
      obtain ⟨t1, t2, t3, t4⟩ := turn env3 σ3 H3 hs3 f3
      exact ⟨env3, b3, xss3, hs3, M3, t1, t2, t3, t4, g3, k1⟩
    | bk env3 =>
      intro σ3 H3 hs3 M3 f3 g3
      exact q _ _ b3 k1 σ3 H3 hs3 M3 (turn env3 σ3 H3 hs3 f3).1 g3
    | rt z => exact q _ _ b3 k1
  · rintro σ' H' ⟨env', b', xss', hs', M', fr, kp, nw, hid, gv', hgo⟩
    rw [List.drop_length] at hgo
    exact q _ _ b' hgo σ' H' hs' M' fr gv'
/-! while -/
def whGr (t : DB) (body : DSG) (m D : Addr) (R : Out → List (List Val) → Nat → Prop) : Nat → En → List (List Val) → Nat → Prop
  | 0, _, _, _ => False
  | n + 1, env, xss, b => t m env b fun c b1 => if c = true then body m D env xss b1 fun o xss2 b2 => match o with
    | .nx env' => whGr t body m D R n env' xss2 b2
    | .ct env' => whGr t body m D R n env' xss2 b2
    | .bk env' => R (.nx env') xss2 b2
    | .rt y => R (.rt y) xss2 b2
    else R (.nx env) xss b1
def whGS (t : DB) (body : DSG) : DSG := fun m D env xss b R => ∃ n, whGr t body m D R n env xss b
theorem sg_while {t : DB} {body : List Stmt} {k : DSG} (hp : PassesOwn (model X.prog X.w) X.A X.env X.xe) (hc : VDT X cm c t) (hb : SGs X cm ow body k) : SG X cm ow (.While c body [] pos) (whGS t k) := (ps_while hp hc hb).weak fun Dn σ H ⟨P0, P, m, g, b, H0, env, R, D, rs, xss, M0, h0, p, hs, gv, ⟨n, hk⟩, q⟩ => by
  have M := p.mid M0
  refine ⟨fun n σ' H' => ∃ env' b' xss', StV cm P ow H0 env' σ' H' ∧ Mx cm H' m g b' ∧ Fr P ow env σ H env' σ' H' ∧ GrV cm P ow env' σ' H' D rs xss' ∧ whGr t k m D R n env' xss' b', ⟨n, env, b, xss, hs, M.mx, .refl, gv, hk⟩, ?_⟩
  rintro n σ' H' ⟨env', b', xss', hs', M', fr, gv', hw⟩
  cases n with
  | zero => exact hw.elim
  | succ n =>
    have MM0 : Mid cm P0 m g b' H' := M0.re M'
    have MM : Mid cm P m g b' H' := p.mid MM0
    refine ⟨P, m, g, b', env', _, MM, hs'.view, hw, fun k1 b1 H1 G1 hw => ?_⟩
    have f1 : Fr P ow env σ H env' σ' H1 := fr.trans (Fr.go MM G1)
    show if k1 = true then _ else _
    by_cases c : k1 = true
    · rw [if_pos c] at hw ⊢
      refine ⟨fun σ2 H2 => ∃ m', m' < n + 1 ∧ ∃ env' b' xss', StV cm P ow H0 env' σ2 H2 ∧ Mx cm H2 m g b' ∧ Fr P ow env σ H env' σ2 H2 ∧ GrV cm P ow env' σ2 H2 D rs xss' ∧ whGr t k m D R m' env' xss' b', fun σ2 H2 h => h, ?_⟩
      refine ⟨P0, P, m, g, b1, H0, env', _, D, rs, xss', MM0.go G1, h0, p, hs'.go MM h0 G1, gv'.go p MM0 G1, hw, fun o1 xss3 b3 k3 => ?_⟩
      cases o1 with
      | nx env3 => exact fun σ3 H3 hs3 M3 f3 g3 => ⟨n, Nat.lt_succ_self _, env3, b3, xss3, hs3, M3, f1.trans f3, g3, k3⟩
      | ct env3 => exact fun σ3 H3 hs3 M3 f3 g3 => ⟨n, Nat.lt_succ_self _, env3, b3, xss3, hs3, M3, f1.trans f3, g3, k3⟩
      | bk env3 => exact fun σ3 H3 hs3 M3 f3 g3 => q _ _ b3 k3 σ3 H3 hs3 M3 (f1.trans f3) g3
      | rt z => exact q _ _ b3 k3
    · rw [if_neg c] at hw ⊢
      exact q _ _ b1 hw σ' H1 (hs'.go MM h0 G1) G1.mx f1 (gv'.go p MM0 G1)
/-! the making of a grid, what is done with it, and the rest, for which it is a value -/
theorem StV.hide {P0 P : Addr → Prop} {H0 H1 H3 : Hp} {env : En} {σ : L2.St} (h : StV cm P0 ow H0 env σ H1) (s : Same H1 H3) (lo : ∀ a, P0 a → P a) (hi : ∀ a, P a → P0 a ∨ H1 a = none) (nt : ∀ a, P a → NT H3 a) : StV cm P ow H0 env σ H3 := by
  have nw : ∀ a, Ow P ow env σ a → Ow P0 ow env σ a ∨ H1 a = none := fun a c => by
    rcases c with c | c
    · exact (hi a c).imp .inl id
    · exact .inl (.inr c)
  refine ⟨⟨h.sl.len, fun i x e => let ⟨v, h1, h2⟩ := h.sl.at_ i x e; ⟨v, h1, h2.move nw (.of s)⟩, fun a c => ?_⟩, fun i hi2 x e => ?_, h.dis, h.len, h.base.trans s⟩
  · rcases c with c | c
    · exact nt a c
    · exact (h.sl.hid a (.inr c)).same s
  · obtain ⟨a, h2, h4, h5, h6⟩ := h.own i hi2 x e
    obtain ⟨o, eo, _⟩ := h6.no
    refine ⟨a, h2, fun c => ?_, h5, h6.move nw (.of s) fun o eo => s a o eo⟩
    rcases hi a c with z | z
    · exact h4 z
    · rw [eo] at z
      cases z
theorem StV.bare {P0 P : Addr → Prop} {H0 H : Hp} {env : En} {σ : L2.St} (h : StV cm P ow H0 env σ H) (lo : ∀ a, P0 a → P a) : StV cm P0 ow H0 env σ H := by
  have l : ∀ a, Ow P0 ow env σ a → Ow P ow env σ a := fun a c => c.imp (lo a) id
  refine ⟨⟨h.sl.len, fun i x e => let ⟨v, h1, h2⟩ := h.sl.at_ i x e; ⟨v, h1, h2.less l⟩, fun a c => h.sl.hid a (l a c)⟩, fun i hi x e => ?_, h.dis, h.len, h.base⟩
  obtain ⟨a, h2, h4, h5, h6⟩ := h.own i hi x e
  refine ⟨a, h2, fun c => h4 (lo a c), h5, ?_⟩
  exact h6.less l
def gridD (gi : Nat) (fh : En → Option Val) (k2 : DSG) (kr : DS) : DS := fun m env b R => gi < env.length ∧ ∃ n : Nat, fh env = some (.int (n : Int)) ∧ n ≤ 1000 ∧
  ∀ D, k2 m D (env.set gi (some (.loc D))) (List.replicate n []) b fun o xss b' => match o with
    | .nx e => e[gi]? = some (some (.loc D)) ∧ kr m (e.set gi (some (.lst (xss.map .lst)))) b' R
    | _ => False
theorem sd_grid {gi j : Nat} {fh : En → Option Val} {st2 : Stmt} {k2 : DSG} {kr : DS} (ho : gi ∉ ow) (hst : PS X st (tAsg (tLc (iRng1 (tCons (tV cm fh) tNil)) (gName j) tYes (tLst tNil) [j]) (gName gi))) (h2 : SG X cm ow st2 k2) (hr : SDs X cm ow rest kr) : SDs X cm ow (st :: st2 :: rest) (gridD gi fh k2 kr) :=
  (pss_cons hst (pss_cons h2 hr)).weak fun Dn σ H ⟨P0, m, g, b, H0, env, R, M0, h0, hs, ⟨lt, n, en, n1000, hk⟩, q⟩ => by
    refine ⟨P0, env, _, hs.view, en, fun v H1 s1 rv => ?_⟩
    cases Re.int_ rv
    refine ⟨(n : Int), rfl, by omega, by omega, fun D nD => lc_range (lo := 0) (n := n) (fun i H3 => ∃ rs : List Addr, rs.length = i ∧ H3 D = some (.lst (rs.map V.ref)) ∧ rs.Nodup ∧ D ∉ rs ∧ (∀ t ∈ rs, H3 t = some (.lst []) ∧ H1 t = none) ∧ Same H1 H3)
      ⟨[], rfl, upd_same, List.nodup_nil, List.not_mem_nil, fun t ht => (by cases ht), same_new nD⟩ ?_ ?_⟩
    · rintro i H3 hi ⟨rs, hl, hD, nd, nDr, hr', sm⟩
      refine ⟨?_, Nat.zero_le _, fun t nt => ?_⟩
      · exact wipe_set (List.mem_singleton.mpr rfl) |>.trans (by rw [wipe_wipe fun _ h => h])
      have st := @same_new H3 t (.lst []) nt
      have nt0 : H1 t = none := sm.free nt
      have tD : t ≠ D := fun z => by
        rw [z, hD] at nt
        cases nt
      have tr : t ∉ rs := fun z => by
        rw [(hr' t z).1] at nt
        cases nt
      refine ⟨_, st _ _ hD, by rw [List.length_map]; exact small1000 (by omega), rs ++ [t], by rw [List.length_append, hl]; rfl, by rw [upd_same, List.map_append]; rfl, List.nodup_append.mpr ⟨nd, List.nodup_cons.mpr ⟨List.not_mem_nil, List.nodup_nil⟩, fun x hx y hy => ?_⟩, fun z => ?_, fun x hx => ?_, fun x o e => ?_⟩
      · rcases List.mem_cons.mp hy with c | c
        · exact fun z => tr (by rw [← c, ← z]; exact hx)
        · cases c
      · rcases List.mem_append.mp z with c | c
        · exact nDr c
        · rcases List.mem_cons.mp c with c | c
          · exact tD c.symm
          · cases c
      · rcases List.mem_append.mp hx with c | c
        · have xD : x ≠ D := fun z => nDr (z ▸ c)
          exact ⟨by rw [upd_ne xD]; exact st _ _ (hr' x c).1, (hr' x c).2⟩
        · rcases List.mem_cons.mp c with c | c
          · subst c
            exact ⟨by rw [upd_ne tD]; exact upd_same, nt0⟩
          · cases c
      · rw [upd_ne (ne_of_none e nD)]
        exact st _ _ (sm _ _ e)
    · rintro H3 ⟨rs, hl, hD, nd, nDr, hr', sm⟩
      have s03 : Same H H3 := s1.trans sm
      have cn : ∀ a, gcell D rs a → H1 a = none := fun a c => by
        rcases c with rfl | c
        · exact nD
        · exact (hr' a c).2
      have c0 : ∀ a, gcell D rs a → H a = none := fun a c => s1.free (cn a c)
      let P : Addr → Prop := fun a => P0 a ∨ gcell D rs a
      have pno : ∀ a, gcell D rs a → ¬ P0 a := fun a c z => by
        obtain ⟨o, eo, _⟩ := hs.sl.hid a (.inl z)
        rw [c0 a c] at eo
        cases eo
      have p : GrP P0 P H0 D rs := ⟨fun a => Iff.rfl, pno, fun a c => hs.base.free (c0 a c)⟩
      have hsP : StV cm P ow H0 env σ H3 := (hs.same s1).hide sm (fun a c => .inl c) (fun a c => c.imp id (cn a)) fun a c => by
        rcases c with c | rfl | c
        · exact (hs.sl.hid a (.inl c)).same s03
        · exact ⟨_, hD, fun vs z => by cases z⟩
        · exact ⟨_, (hr' a c).1, fun vs z => by cases z⟩
      have hs1 : StV cm P ow H0 (env.set gi (some (.loc D))) (σ.set gi (some (.ref D))) H3 := hsP.set ho (.loc D)
      have oe : ∀ a, Ow P ow (env.set gi (some (.loc D))) (σ.set gi (some (.ref D))) a → Ow P0 ow env σ a ∨ H a = none := fun a c => by
        rcases (Ow.set ho a).mp c with (c | c) | c
        · exact .inl (.inl c)
        · exact .inr (c0 a c)
        · exact .inl (.inr c)
      have gv : GrV cm P ow (env.set gi (some (.loc D))) (σ.set gi (some (.ref D))) H3 D rs (List.replicate n []) := ⟨hD, nd, nDr, by rw [List.length_replicate]; exact hl, fun i t xs a1 a2 => by
        have k := List.eq_of_mem_replicate (List.mem_of_getElem? a2)
        subst k
        exact ⟨[], (hr' t (List.mem_of_getElem? a1)).1, .nil⟩⟩
      refine ⟨P0, P, m, g, b, H0, _, _, D, rs, _, M0.same s03, h0, p, hs1, gv, hk D, fun o xss' b' k1 => ?_⟩
      cases o with
      | bk _ => exact k1.elim
      | ct _ => exact k1.elim
      | rt _ => exact k1.elim
      | nx e2 =>
        obtain ⟨eg, k1⟩ := k1
        intro σ2 H2 hs2 M2 f2 gv2
        have lo : ∀ a, P0 a → P a := fun a c => .inl c
        obtain ⟨w, ew, rw_⟩ := hs2.view.at_ gi _ eg
        cases rw_
        have nO : ∀ a, gcell D rs a → ¬ Ow P0 ow e2 σ2 a := fun a c z => by
          rcases z with z | ⟨i, hi, ⟨x, ex⟩, ei⟩
          · exact p.no a c z
          · obtain ⟨a', h2, h4, _⟩ := hs2.own i hi x ex
            rw [ei] at h2
            cases h2
            exact h4 (.inr c)
        have re : Re cm (Ow P0 ow e2 σ2) H2 (.ref D) (.lst (xss'.map .lst)) := by
          refine .lst (nO D (.inl rfl)) gv2.at_ (Res.of (by rw [List.length_map, List.length_map]; exact gv2.len) fun i v x e1 e2 => ?_)
          rw [List.getElem?_map] at e1 e2
          obtain ⟨t, et, rfl⟩ := Option.map_eq_some_iff.mp e1
          obtain ⟨ys, ey, rfl⟩ := Option.map_eq_some_iff.mp e2
          obtain ⟨vs, h1, h2⟩ := gv2.row i t ys et ey
          exact .lst (nO t (.inr (List.mem_of_getElem? et))) h1 (Rep.less (fun a c => c.imp (lo a) id) h2)
        have hs3 := (hs2.bare lo).set (i := gi) ho re
        have eσ : σ2.set gi (some (.ref D)) = σ2 := List.ext_getElem? fun i => by
          by_cases c : gi = i
          · subst c
            rw [List.getElem?_set_self (List.getElem?_eq_some_iff.mp ew).1, ew]
          · rw [List.getElem?_set_ne c]
        rw [eσ] at hs3
        have fr : Fr P0 ow env σ H (e2.set gi (some (.lst (xss'.map .lst)))) σ2 H2 := by
          refine ⟨fun a o e n => f2.kp a o (s03 a o e) fun c => ?_, fun a c => ?_, fun a c => f2.st a (c.same s03)⟩
          · rcases oe a c with z | z
            · exact n z
            · rw [e] at z
              cases z
          · have c2 : Ow P0 ow e2 σ2 a := (Ow.set (o := some (.ref D)) ho a).mp (by rw [eσ]; exact c)
            rcases f2.nw a (c2.imp (lo a) id) with z | z
            · exact oe a z
            · exact .inr (s03.free z)
        exact ⟨P0, m, g, b', H0, _, R, M0.re M2, h0, hs3, k1, fun o b2 k2 => (q o b2 k2).pre fr⟩
end
end Up

namespace Up
open PySem PySem.Spec PyProof.Rows L2
/-! ### x, y = l.pop(e); the rows of the second half are begun -/
section
variable {X : Cx} {cm : Cm} {ow : List Nat} {st : Stmt} {rest : List Stmt}
def popAtD (j : Nat) (f : DE) (mm : Val → Option (List (Nat × Val))) : DS := fun m env b R => ∃ xs : List Val, env[j]? = some (some (.lst xs)) ∧ xs.length ≤ 63 ∧ f m env b fun k b1 => ∃ (i : Nat) (y : Val) (ps : List (Nat × Val)), k = .int (i : Int) ∧ xs[i]? = some y ∧ mm y = some ps ∧ R (.nx (setE (env.set j (some (.lst (xs.eraseIdx i)))) ps)) b1
theorem Res.erase {P : Addr → Prop} {H : Hp} : ∀ {vs : List V} {xs : List Val} (n : Nat), Res cm P H vs xs → Res cm P H (vs.eraseIdx n) (xs.eraseIdx n)
  | _, _, _, .nil => .nil
  | _, _, 0, .cons _ t => t
  | _, _, n + 1, .cons q t => .cons q (Res.erase n t)
theorem sd_popAt {j : Nat} {f : DE} {gt : TG} {mm : Val → Option (List (Nat × Val))} {is : List Nat} (hst : PS X st (tAsg (tBM X.K "list" rPopAt (tVar j) (tCons (tD cm f) tNil)) gt)) (ho : j ∈ ow) (tg_ : TgV cm gt mm is) (hn : ∀ i ∈ is, i ∉ ow) : SD X cm ow st (popAtD j f mm) := hst.weak fun D σ H ⟨P, m, g, b, H0, env, R, M, h0, hs, ⟨xs, ex0, lx, hk⟩, q⟩ => by
  obtain ⟨a, hσ, nP, hn0, tp⟩ := hs.own j ho _ ex0
  cases tp with
  | @lst vs0 _ ha ra =>
    have na : a ≠ m ∧ a ≠ g := ⟨fun z => nP (M.sub a (.inl z)), fun z => nP (M.sub a (.inr z))⟩
    refine ⟨_, hσ, .inl ⟨rfl, _, .inl (.inl ha)⟩, P, m, g, b, env, _, M, hs.view, hk, fun v k b1 H1 G1 rk ⟨i, y, ps, ek, ey, em, k1⟩ => ?_⟩
    subst ek
    cases Re.int_ rk
    have hs1 := hs.go M h0 G1
    have ha1 := G1.but _ _ ha na.1 na.2 (M.noT ha (fun _ z => nomatch z))
    have ra1 := Rep.keep (M.oo.kp G1) ra
    obtain ⟨w, ew, rw_⟩ := Res.get ra1 ey
    have l0 := Res.length ra
    have li := (List.getElem?_eq_some_iff.mp ew).1
    refine ⟨a, vs0, (i : Int), i, w, rfl, rfl, ha1, by omega, by omega, ?_, ew, ?_⟩
    · unfold seqIndex?
      simp
      omega
    have oa : Ow P ow env σ a := .inr ⟨j, ho, ⟨_, ex0⟩, hσ⟩
    have kp : Keep (Ow P ow env σ) H1 (upd H1 a (.lst (vs0.eraseIdx i))) := fun b o e n => by
      rw [upd_ne fun z => n (by rw [z]; exact oa)]
      exact e
    obtain ⟨h1, h2⟩ := hs1.putO ho ex0 hσ (.lst upd_same (Rep.keep kp (Res.erase i ra1)))
    obtain ⟨qs, pr, mem, go⟩ := tg_.go _ _ w y ps (Rep.move h2.nw h2.kp rw_) em
    obtain ⟨h3, h4⟩ := StV.sets pr (fun q hq => hn _ (mem q hq)) rfl h1
    refine go σ _ (q _ b1 k1 _ _ h3 ⟨MAt.tops (M.go G1) hs1 ho ex0 hσ ha1 (by omega) _, tabs_put G1.tabs ((M.go G1).noT ha1 (fun _ z => nomatch z)) ⟨_, ha1⟩⟩ ((Fr.go M G1).trans (h2.trans ⟨.refl, fun b c => .inl ((h4 b).mp c), fun b n => n⟩)))
def grid5D (ia ib gi iu ic : Nat) (fa fb : DE) (fh : En → Option Val) (ow : List Nat) (k2 : DSG) (kr : DS) : DS := fun m env b R => iu < env.length ∧ gi < env.length ∧ fa m (wipeE env ow) b fun x b1 => fb m (wipeE env ow) b1 fun y b2 => ∃ n : Nat, fh (wipeE env ow) = some (.int (n : Int)) ∧ n ≤ 1000 ∧
  ∀ D, k2 m D (((((env.set ia (some x)).set ib (some y)).set gi (some (.loc D))).set iu (some (.lst []))).set ic (some (.int 0))) (List.replicate n []) b2 fun o xss b' => match o with
    | .nx e => e[gi]? = some (some (.loc D)) ∧ kr m (e.set gi (some (.lst (xss.map .lst)))) b' R
    | _ => False
theorem sd_grid5 {ia ib gi iu ic j : Nat} {fa fb : DE} {fh : En → Option Val} {st2 : Stmt} {k2 : DSG} {kr : DS} (oa : ia ∉ ow) (ob : ib ∉ ow) (og : gi ∉ ow) (oc : ic ∉ ow) (ou : iu ∈ ow) (ng : ic ≠ gi)
    (hst : PS X st (tAsg (tTup (tCons (tD cm fa) (tCons (tD cm fb) (tCons (tLc (iRng1 (tCons (tV cm fh) tNil)) (gName j) tYes (tLst tNil) [j]) (tCons (tLst tNil) (tCons (tC (.int 0)) tNil)))))) (gTup X.K 5 (gCons (gName ia) (gCons (gName ib) (gCons (gName gi) (gCons (gName iu) (gCons (gName ic) gNil))))))))
    (h2 : SG X cm ow st2 k2) (hr : SDs X cm ow rest kr) : SDs X cm ow (st :: st2 :: rest) (grid5D ia ib gi iu ic fa fb fh ow k2 kr) :=
  (pss_cons hst (pss_cons h2 hr)).weak fun Dn σ H ⟨P0, m, g, b, H0, env, R, M0, h0, hs, ⟨lu, lg, hk⟩, q⟩ => by
    refine ⟨_, m, g, b, wipeE env ow, _, M0.oo, hs.sl, hk, fun va x b1 Ha Ga ra hk => ⟨_, m, g, b1, wipeE env ow, _, M0.oo.go Ga, hs.sl.go M0.oo Ga, hk, fun vb y b2 Hb Gb rb ⟨n, en, n1000, hk⟩ => ?_⟩⟩
    have Gab := Ga.trans Gb
    have hsB := hs.go M0 h0 Gab
    have MB := M0.go Gab
    have ra := ra.keep ((M0.oo.go Ga).kp Gb)
    refine ⟨_, wipeE env ow, _, hsB.sl, en, fun v H1 s1 rv => ?_⟩
    cases Re.int_ rv
    refine ⟨(n : Int), rfl, by omega, by omega, fun D nD => lc_range (lo := 0) (n := n) (fun i H3 => ∃ rs : List Addr, rs.length = i ∧ H3 D = some (.lst (rs.map V.ref)) ∧ rs.Nodup ∧ D ∉ rs ∧ (∀ t ∈ rs, H3 t = some (.lst []) ∧ H1 t = none) ∧ Same H1 H3)
      ⟨[], rfl, upd_same, List.nodup_nil, List.not_mem_nil, fun t ht => (by cases ht), same_new nD⟩ ?_ ?_⟩
    · rintro i H3 hi ⟨rs, hl, hD, nd, nDr, hr', sm⟩
      refine ⟨?_, Nat.zero_le _, fun t nt => ?_⟩
      · exact wipe_set (List.mem_singleton.mpr rfl) |>.trans (by rw [wipe_wipe fun _ h => h])
      have st := @same_new H3 t (.lst []) nt
      have nt0 : H1 t = none := sm.free nt
      have tD : t ≠ D := fun z => by
        rw [z, hD] at nt
        cases nt
      have tr : t ∉ rs := fun z => by
        rw [(hr' t z).1] at nt
        cases nt
      refine ⟨_, st _ _ hD, by rw [List.length_map]; exact small1000 (by omega), rs ++ [t], by rw [List.length_append, hl]; rfl, by rw [upd_same, List.map_append]; rfl, List.nodup_append.mpr ⟨nd, List.nodup_cons.mpr ⟨List.not_mem_nil, List.nodup_nil⟩, fun x hx y hy => ?_⟩, fun z => ?_, fun x hx => ?_, fun x o e => ?_⟩
      · rcases List.mem_cons.mp hy with c | c
        · exact fun z => tr (by rw [← c, ← z]; exact hx)
        · cases c
      · rcases List.mem_append.mp z with c | c
        · exact nDr c
        · rcases List.mem_cons.mp c with c | c
          · exact tD c.symm
          · cases c
      · rcases List.mem_append.mp hx with c | c
        · have xD : x ≠ D := fun z => nDr (z ▸ c)
          exact ⟨by rw [upd_ne xD]; exact st _ _ (hr' x c).1, (hr' x c).2⟩
        · rcases List.mem_cons.mp c with c | c
          · subst c
            exact ⟨by rw [upd_ne tD]; exact upd_same, nt0⟩
          · cases c
      · rw [upd_ne (ne_of_none e nD)]
        exact st _ _ (sm _ _ e)
    · rintro H3 ⟨rs, hl, hD, nd, nDr, hr', sm⟩
      refine ⟨Nat.zero_le _, fun u nu => ?_⟩
      have s4 := @same_new H3 u (.lst []) nu
      refine ⟨by show 5 ≤ sizeLine; decide, fun p np => ?_⟩
      have s5 := @same_new (upd H3 u (.lst [])) p (.tup [va, vb, .ref D, .ref u, .int 0]) np
      have sB3 : Same Hb H3 := s1.trans sm
      have cn : ∀ a, gcell D rs a → H1 a = none := fun a c => by
        rcases c with rfl | c
        · exact nD
        · exact (hr' a c).2
      have c0 : ∀ a, gcell D rs a → Hb a = none := fun a c => s1.free (cn a c)
      let P : Addr → Prop := fun a => P0 a ∨ gcell D rs a
      have pno : ∀ a, gcell D rs a → ¬ P0 a := fun a c z => by
        obtain ⟨o, eo, _⟩ := hsB.sl.hid a (.inl z)
        rw [c0 a c] at eo
        cases eo
      have pp : GrP P0 P H0 D rs := ⟨fun a => Iff.rfl, pno, fun a c => hsB.base.free (c0 a c)⟩
      have hsP : StV cm P ow H0 env σ H3 := (hsB.same s1).hide sm (fun a c => .inl c) (fun a c => c.imp id (cn a)) fun a c => by
        rcases c with c | rfl | c
        · exact (hsB.sl.hid a (.inl c)).same sB3
        · exact ⟨_, hD, fun vs z => by cases z⟩
        · exact ⟨_, (hr' a c).1, fun vs z => by cases z⟩
      have mvO : ∀ a, Ow P ow env σ a → Ow P0 ow env σ a ∨ Hb a = none := fun a c => by
        rcases c with (c | c) | c
        · exact .inl (.inl c)
        · exact .inr (c0 a c)
        · exact .inl (.inr c)
      have ra3 : Re cm (Ow P ow env σ) H3 va x := ra.move mvO (.of sB3)
      have rb3 : Re cm (Ow P ow env σ) H3 vb y := rb.move mvO (.of sB3)
      have e1 : Ow P ow (env.set ia (some x)) (σ.set ia (some va)) = Ow P ow env σ := funext fun a => propext (Ow.set oa a)
      have e2 : Ow P ow ((env.set ia (some x)).set ib (some y)) ((σ.set ia (some va)).set ib (some vb)) = Ow P ow env σ := (funext fun a => propext (Ow.set ob a)).trans e1
      have e3 : Ow P ow (((env.set ia (some x)).set ib (some y)).set gi (some (.loc D))) (((σ.set ia (some va)).set ib (some vb)).set gi (some (.ref D))) = Ow P ow env σ := (funext fun a => propext (Ow.set og a)).trans e2
      have t1 := hsP.set oa ra3
      have t2 := t1.set ob (by rw [e1]; exact rb3)
      have t3 : StV cm P ow H0 (((env.set ia (some x)).set ib (some y)).set gi (some (.loc D))) (((σ.set ia (some va)).set ib (some vb)).set gi (some (.ref D))) H3 := t2.set og (.loc D)
      obtain ⟨t4, f4⟩ := t3.newO ou (by simp only [List.length_set]; exact lu) nu s4 (x := .lst []) (.lst upd_same .nil)
      have t6 := (t4.same s5).set oc (.int 0)
      have f6 : Fr P ow (((env.set ia (some x)).set ib (some y)).set gi (some (.loc D))) (((σ.set ia (some va)).set ib (some vb)).set gi (some (.ref D))) H3 _ _ _ := f4.trans (Fr.set oc (x := some (.int 0)) (o := some (.int 0)) s5)
      have gv3 : GrV cm P ow (((env.set ia (some x)).set ib (some y)).set gi (some (.loc D))) (((σ.set ia (some va)).set ib (some vb)).set gi (some (.ref D))) H3 D rs (List.replicate n []) := ⟨hD, nd, nDr, by rw [List.length_replicate]; exact hl, fun i t xs a1 a2 => by
        have k := List.eq_of_mem_replicate (List.mem_of_getElem? a2)
        subst k
        exact ⟨[], (hr' t (List.mem_of_getElem? a1)).1, .nil⟩⟩
      have gv := gv3.move f6.kp f6.nw fun a c o e => s5 _ _ (s4 _ _ e)
      have sB6 : Same Hb (upd (upd H3 u (.lst [])) p (.tup [va, vb, .ref D, .ref u, .int 0])) := sB3.trans (s4.trans s5)
      refine ⟨p, [va, vb, .ref D, .ref u, .int 0], rfl, .inl (.inl upd_same), rfl, _, _, rfl, _, _, rfl, _, _, rfl, _, _, rfl, _, _, rfl, rfl, ?_⟩
      refine ⟨P0, P, m, g, b2, H0, _, _, D, rs, _, MB.same sB6, h0, pp, t6, gv, hk D, fun o xss' b' k1 => ?_⟩
      have oe : ∀ a, Ow P ow ((((((env.set ia (some x)).set ib (some y)).set gi (some (.loc D))).set iu (some (.lst []))).set ic (some (.int 0)))) (((((σ.set ia (some va)).set ib (some vb)).set gi (some (.ref D))).set iu (some (.ref u))).set ic (some (.int 0))) a → Ow P0 ow env σ a ∨ Hb a = none := fun a c => by
        rcases f6.nw a c with z | z
        · rw [e3] at z
          exact mvO a z
        · exact .inr (sB3.free z)
      cases o with
      | bk _ => exact k1.elim
      | ct _ => exact k1.elim
      | rt _ => exact k1.elim
      | nx e2 =>
        obtain ⟨eg, k1⟩ := k1
        intro σ2 H2 hs2 M2 f2 gv2
        have lo : ∀ a, P0 a → P a := fun a c => .inl c
        obtain ⟨w, ew, rw_⟩ := hs2.view.at_ gi _ eg
        cases rw_
        have nO : ∀ a, gcell D rs a → ¬ Ow P0 ow e2 σ2 a := fun a c z => by
          rcases z with z | ⟨i, hi, ⟨x, ex⟩, ei⟩
          · exact pp.no a c z
          · obtain ⟨a', h2, h4, _⟩ := hs2.own i hi x ex
            rw [ei] at h2
            cases h2
            exact h4 (.inr c)
        have re : Re cm (Ow P0 ow e2 σ2) H2 (.ref D) (.lst (xss'.map .lst)) := by
          refine .lst (nO D (.inl rfl)) gv2.at_ (Res.of (by rw [List.length_map, List.length_map]; exact gv2.len) fun i v x e1 e2 => ?_)
          rw [List.getElem?_map] at e1 e2
          obtain ⟨t, et, rfl⟩ := Option.map_eq_some_iff.mp e1
          obtain ⟨ys, ey, rfl⟩ := Option.map_eq_some_iff.mp e2
          obtain ⟨vs, h1, h2⟩ := gv2.row i t ys et ey
          exact .lst (nO t (.inr (List.mem_of_getElem? et))) h1 (Rep.less (fun a c => c.imp (lo a) id) h2)
        have hs3 := (hs2.bare lo).set (i := gi) og re
        have eσ : σ2.set gi (some (.ref D)) = σ2 := List.ext_getElem? fun i => by
          by_cases c : gi = i
          · subst c
            rw [List.getElem?_set_self (List.getElem?_eq_some_iff.mp ew).1, ew]
          · rw [List.getElem?_set_ne c]
        rw [eσ] at hs3
        have fr : Fr P0 ow env σ Hb (e2.set gi (some (.lst (xss'.map .lst)))) σ2 H2 := by
          refine ⟨fun a o e n => f2.kp a o (sB6 a o e) fun c => ?_, fun a c => ?_, fun a c => f2.st a (c.same sB6)⟩
          · rcases oe a c with z | z
            · exact n z
            · rw [e] at z
              cases z
          · have c2 : Ow P0 ow e2 σ2 a := (Ow.set (o := some (.ref D)) og a).mp (by rw [eσ]; exact c)
            rcases f2.nw a (c2.imp (lo a) id) with z | z
            · exact oe a z
            · exact .inr (sB6.free z)
        exact ⟨P0, m, g, b', H0, _, R, MB.re M2, h0, hs3, k1, fun o b3 k2 => (q o b3 k2).pre ((Fr.go M0 Gab).trans fr)⟩
end
end Up

namespace Up
open PySem PySem.Spec PyProof.Rows L2
/-! ### _law_draw as a predicate over draws -/
def w__law_draw : DD := drawF
section
variable {P : Program} {w : World} {K : PySem.W.Frag} {mg : Str → Option Value} {base : Heap} {cm : Cm}
theorem ddr_draw {fD : Addr} {fdD : FuncData} (TD : mg "_law_draw" = some (.ref fD)) (FD : Fun K "_law_draw" "_law_draw" sDrw fD fdD) (bD : Binds K fdD ["m", "limit"] []) (GD : FnOk P w K mg base CX0 2 fD fdD ["m", "limit"] spDrw) : Ddr P w K mg base cm "_law_draw" 2 ["m", "limit"] w__law_draw fD fdD := ⟨FnOk.imp2 GD draw_sp, TD, FD.kp, bD⟩
end
end Up

namespace Up
open PySem PySem.Spec PyProof.Rows L2
/-! ### _law_order as a predicate over draws -/
def w__law_order : DD := fun m xs b R => ∃ many : Nat, xs = [.loc m, .int (many : Int)] ∧ many ≤ 63 ∧ b ≤ 900000 ∧ ∀ fs : List Nat, fs.Perm (List.range many) → R (natsV fs) (b + many)
theorem order_sp {cm : Cm} (vs : List V) (H : Hp) (Q : VK) (E : XK) (h : spD cm w__law_order vs H Q E) : spOrder vs H Q E := by
  obtain ⟨P, m, g, b, xs, R, M, hd, rs, ⟨many, rfl, l0, l1, k⟩, q⟩ := h
  obtain ⟨v, u, rfl, r1, r2⟩ := Res.two rs
  cases Re.int_ r2
  cases r1
  exact ⟨m, g, many, b, rfl, l0, l1, M.at_, fun p fs H' np hp pm M' B => q (.ref p) _ _ H' (Go.of_but M B M') (.lst (hd.new np) hp (nats_re fs)) (k fs pm)⟩
theorem ddr_order {P : Program} {w : World} {K : PySem.W.Frag} {mg : Str → Option Value} {base : Heap} {cm : Cm} {f : Addr} {fd : FuncData} (TD : mg "_law_order" = some (.ref f)) (FD : Fun K "_law_order" "_law_order" s_order f fd) (bD : Binds K fd ["m", "many"] []) (GD : FnOk P w K mg base CX0 3 f fd ["m", "many"] spOrder) : Ddr P w K mg base cm "_law_order" 3 ["m", "many"] w__law_order f fd := ⟨FnOk.imp2 GD order_sp, TD, FD.kp, bD⟩
end Up

namespace Up
open PySem PySem.Spec PyProof.Rows L2
abbrev st__law_rows : Stmt := (topS 38)
theorem ss__law_rows : FnScope ["m", "most", "hands_so", "hands", "many", "slow", "names", "rows", "under", "n", "near", "far", "letter", "hand", "row"] ["m", "most", "hands_so"] (defScope st__law_rows) := ⟨rfl, rfl, rfl, by decide +kernel, rfl, by decide +kernel, by decide +kernel⟩
def gd__law_rows : DS := (seqD (parD [8] 3 4 (bin2D (iop fun i j => .int (i + j)) (pu (cst (.int 2))) (callD w__law_draw (puA (consF (getE 0) (consF (bin2 (iop fun i j => .int (i - j)) (getE 2) (cst (.int 1))) noF))))) (callD w__law_draw (puA (consF (getE 0) (consF (bin2 (iop fun i j => .int (i + j)) (getE 1) (cst (.int 1))) noF))))) (grid5D 5 6 7 8 9 (bin2D (iop fun i j => .int (i + j)) (pu (cst (.int 1))) (callD w__law_draw (puA (consF (getE 0) (consF (cst (.int 4)) noF))))) (callD w__law_order (puA (consF (getE 0) (consF (getE 4) noF)))) (getE 3) [8] (whGS (puT (orT (tst (bin2 (iop fun i j => .bl (decide (i < j))) (getE 9) (getE 4))) (tst (bin2 (eqF true) (getE 8) (lstF noF))))) (ifG_ (orD (puT (tst (bin2 (eqF false) (getE 8) (lstF noF)))) (andD (puT (tst (bin2 (iop fun i j => .bl (decide (i < j))) (getE 9) (getE 4)))) (tstD (bin2D (iop fun i j => .bl (decide (j < i))) (callD w__law_draw (puA (consF (getE 0) (consF (bin2 (iop fun i j => .int (i + j)) (getE 5) (cst (.int 1))) noF)))) (pu (cst (.int 0))))))) (seqG_ (liftG (setD 10 (stD [8] (callD w__law_draw (puA (consF (getE 0) (consF (getE 3) noF))))))) (seqG_ (liftG (setD 11 (stD [8] (bin2D (iopC (fun _ j => decide (0 < j)) fun i j => .int (i % j)) (appD intF (consD (bin2D (iop fun i j => .int (i + j)) (pu (bin2 (iop fun i j => .int (i + j)) (getE 10) (cst (.int 1)))) (callD w__law_draw (puA (consF (getE 0) (consF (bin2 (iop fun i j => .int (i - j)) (getE 3) (cst (.int 1))) noF))))) (puA noF))) (pu (getE 3)))))) (seqG_ (appG_ 7 (pu (getE 10)) (pu (tupF (consF (cst (.str "send")) (consF (bin2 ixL (getE 6) (getE 9)) noF)))) [8]) (seqG_ (liftG (puS [8] (appG 8 (stF [8] (tupF (consF (bin2 ixL (getE 6) (getE 9)) (consF (getE 11) noF))))))) (liftG (puS [8] (setG 9 (stF [8] (bin2 (iop fun i j => .int (i + j)) (getE 9) (cst (.int 1))))))))))) (seqG_ (liftG (popAtD 8 (callD w__law_draw (puA (consF (getE 0) (consF (appF lenF (consF (getE 8) noF)) noF)))) (setTup 2 (setCo (setV 12) (setCo (setV 11) setNo))))) (appG_ 7 (pu (getE 11)) (pu (tupF (consF (cst (.str "get")) (consF (getE 12) noF)))) [8])))) (puS [8] (retG (appF tupleF (consF (fun env => ((lcF (itF (getE 7)) (setV 14) yesF (appF tupleF (consF (getE 14) noF)) [14]) env).map .lst) noF))))))
def w__law_rows : DD := runD 15 3 gd__law_rows
theorem ddr__law_rows {P : Program} {w : World} {K : PySem.W.Frag} {mg : Str → Option Value} {base : Heap} {cm : Cm} {f : Addr} {fd : FuncData} (D : Dd K mg "_law_rows" st__law_rows ["m", "most", "hands_so"] f fd) (T : TxtV K mg cm) {fa__law_draw : Addr} {fd__law_draw : FuncData} (dd__law_draw : Ddr P w K mg base cm "_law_draw" 2 ["m", "limit"] w__law_draw fa__law_draw fd__law_draw) {fa__law_order : Addr} {fd__law_order : FuncData} (dd__law_order : Ddr P w K mg base cm "_law_order" 3 ["m", "many"] w__law_order fa__law_order fd__law_order) : Ddr P w K mg base cm "_law_rows" 4 ["m", "most", "hands_so"] w__law_rows f fd :=
  ⟨okDr [8] D.fn ss__law_rows (by decide) fun cdv A outer s H E hr hu => (sd_cons (sd_par (i := 3) (j := 4) (by rfl) ss__law_rows.nd rfl rfl (by decide) rfl rfl (by decide) (by decide) (vd_op op_add ov_add (vd_pu ve_int) (vd_callD dd__law_draw (hr.mono (by decide)) (by rfl) (vda_pu (va_cons (vv 0) (va_cons (ve_op op_sub ov_sub (vv 2) ve_int) va_nil))))) (vd_callD dd__law_draw (hr.mono (by decide)) (by rfl) (vda_pu (va_cons (vv 0) (va_cons (ve_op op_add ov_add (vv 1) ve_int) va_nil)))) (by rfl)) (sd_grid5 (ia := 5) (ib := 6) (gi := 7) (iu := 8) (ic := 9) (j := 13) (by decide) (by decide) (by decide) (by decide) (by decide) (by decide) (ps_asg (pe_tup (pa_cons (vd_op op_add ov_add (vd_pu ve_int) (vd_callD dd__law_draw (hr.mono (by decide)) (by rfl) (vda_pu (va_cons (vv 0) (va_cons ve_int va_nil))))) (pa_cons (vd_callD dd__law_order (hr.mono (by decide)) (by rfl) (vda_pu (va_cons (vv 0) (va_cons (vv 4) va_nil)))) (pa_cons (pe_lc (own := [("hand", 13)]) (tt := tYes) rfl ss__law_rows.nd (pi_range1 (by rfl) T.range (pa_cons (vv 3) pa_nil)) (blkOk_by (own := [("hand", 13)]) (N := ["m", "most", "hands_so", "hands", "many", "slow", "names", "rows", "under", "n", "near", "far", "letter", "hand", "row"]) (sc := defScope st__law_rows) (by decide +kernel)) (fun _ _ _ _ _ => (pg_name (i := 13) ss__law_rows.nd rfl (Or.inl rfl))) (fun _ _ _ _ _ => pts_nil) (fun _ _ _ _ _ => (pe_lst pa_nil))) (pa_cons (pe_lst pa_nil) (pa_cons pe_int pa_nil)))))) (pg_tup (n := 5) (by rfl) (pgs_cons (pg_name (i := 5) ss__law_rows.nd rfl (Or.inl rfl)) (pgs_cons (pg_name (i := 6) ss__law_rows.nd rfl (Or.inl rfl)) (pgs_cons (pg_name (i := 7) ss__law_rows.nd rfl (Or.inl rfl)) (pgs_cons (pg_name (i := 8) ss__law_rows.nd rfl (Or.inl rfl)) (pgs_cons (pg_name (i := 9) ss__law_rows.nd rfl (Or.inl rfl)) pgs_nil))))))) (sg_while PassesOwn.never (vdt_pu (PW.pt (vw_or (vt_cmp op_lt ov_lt (vv 9) (vv 4) (nomark _)) (vw_or1 (vt_cmp (op_neD hu) ov_ne (vv 8) (ve_lst va_nil) (nomark _)))))) (sg_one (sg_if (PW.pt (vdw_or (vdt_pu (vt_cmp (op_eqD hu) ov_eq (vv 8) (ve_lst va_nil) (nomark _))) (vdw_or1 (PW.pt (vdw_and (vdt_pu (vt_cmp op_lt ov_lt (vv 9) (vv 4) (nomark _))) (vdw_and1 (vdt_cmp op_gt ov_gt (vd_callD dd__law_draw (hr.mono (by decide)) (by rfl) (vda_pu (va_cons (vv 0) (va_cons (ve_op op_add ov_add (vv 5) ve_int) va_nil)))) (vd_pu ve_int) (nomark _)))))))) (sg_cons (sg_lift (sd_set (i := 10) ss__law_rows.nd rfl (Or.inl rfl) (by decide) (vd_callD dd__law_draw (hr.mono (by decide)) (by rfl) (vda_pu (va_cons (vv 0) (va_cons (vv 3) va_nil)))) srd_st)) (sg_cons (sg_lift (sd_set (i := 11) ss__law_rows.nd rfl (Or.inl rfl) (by decide) (vd_op op_mod ov_mod (vd_callTy call_int1 cv_int (by rfl) T.int bt_int (vda_cons (vd_op op_add ov_add (vd_pu (ve_op op_add ov_add (vv 10) ve_int)) (vd_callD dd__law_draw (hr.mono (by decide)) (by rfl) (vda_pu (va_cons (vv 0) (va_cons (ve_op op_sub ov_sub (vv 3) ve_int) va_nil))))) (vda_pu va_nil))) (vd_pu (vv 3))) srd_st)) (sg_cons (sg_app (gi := 7) (ps_expr (pe_bm PySem.F.plainAttrs_list PySem.F.slot_list_append PySem.F.type_list_append mt_append (pe_ix ix_list (pv 7) (vd_pu (vv 10)) (fun _ _ => rfl)) (pa_cons (vd_pu (ve_tup (va_cons ve_str (va_cons (ve_ix ix_list ov_ixL (vv 6) (vv 9) (fun _ _ => rfl)) va_nil)))) pa_nil)))) (sg_cons (sg_lift (sd_pu (sv_app0 (i := 8) (ps_expr (pe_bm PySem.F.plainAttrs_list PySem.F.slot_list_append PySem.F.type_list_append mt_append (pv 8) (pa_cons (ve_tup (va_cons (ve_ix ix_list ov_ixL (vv 6) (vv 9) (fun _ _ => rfl)) (va_cons (vv 11) va_nil))) pa_nil))) (by decide) sr_st))) (sg_one (sg_lift (sd_pu (sv_set (i := 9) ss__law_rows.nd rfl (Or.inl rfl) (by decide) (ve_op op_add ov_add (vv 9) ve_int) sr_st)))))))) (sg_cons (sg_lift (sd_popAt (j := 8) (ps_asg (pe_bm PySem.F.plainAttrs_list PySem.F.slot_list_pop PySem.F.type_list_pop mt_popAt (pv 8) (pa_cons (vd_callD dd__law_draw (hr.mono (by decide)) (by rfl) (vda_pu (va_cons (vv 0) (va_cons (ve_callB call_len_seq cv_len (by rfl) T.len PySem.boot_len (va_cons (vv 8) va_nil)) va_nil)))) pa_nil)) (pg_tup (n := 2) (by rfl) (pgs_cons (pg_name (i := 12) ss__law_rows.nd rfl (Or.inl rfl)) (pgs_cons (pg_name (i := 11) ss__law_rows.nd rfl (Or.inl rfl)) pgs_nil)))) (by decide) (tg_tup (tgs_cons tg_name (tgs_cons tg_name tgs_nil))) (by decide))) (sg_one (sg_app (gi := 7) (ps_expr (pe_bm PySem.F.plainAttrs_list PySem.F.slot_list_append PySem.F.type_list_append mt_append (pe_ix ix_list (pv 7) (vd_pu (vv 11)) (fun _ _ => rfl)) (pa_cons (vd_pu (ve_tup (va_cons ve_str (va_cons (vv 12) va_nil)))) pa_nil))))))))) (sd_one (sd_pu (sv_ret (ve_callTy call_tuple_of cv_tuple (by rfl) T.tuple bt_tuple (va_cons (vn_ve (vn_lc (own := [("row", 14)]) rfl ss__law_rows.nd (vi_seq (vv 7)) (blkOk_by (own := [("row", 14)]) (N := ["m", "most", "hands_so", "hands", "many", "slow", "names", "rows", "under", "n", "near", "far", "letter", "hand", "row"]) (sc := defScope st__law_rows) (by decide +kernel)) (fun _ _ _ _ _ => (pg_name (i := 14) ss__law_rows.nd rfl (Or.inl rfl))) (fun _ _ _ _ _ => pts_nil) (fun _ _ _ _ _ => (ve_callTy call_tuple_of cv_tuple (by rfl) T.tuple bt_tuple (va_cons (vv 14) va_nil))) tg_name (by decide) tt_yes)) va_nil))))))), D.at_, D.fn.kp, D.bd⟩
end Up

namespace Up
open PySem PySem.Spec PyProof.Rows L2
/-! ### the rows of the second half: those of a talk -/
def toV (gss : List (List Dg)) : List (List Val) := gss.map fun gs => gs.map dgV
theorem toV_val (gss : List (List Dg)) : Val.lst ((toV gss).map .lst) = tLstV gss := by
  unfold toV
  rw [List.map_map]
  rfl
theorem evRow_len (evs : List Ev) (h : Nat) : (evRow evs h).length ≤ evs.length := by
  have := (evRow_sub evs h).length_le
  rw [List.length_map] at this
  exact this
theorem turn_neF {c d n : Int} (c0 : 0 ≤ c) (c1 : c < n) (d0 : 0 ≤ d) (d1 : d < n - 1) : 0 ≤ (c + 1 + d) % n ∧ (c + 1 + d) % n < n ∧ (c + 1 + d) % n ≠ c := by
  have h1 := Int.emod_nonneg (c + 1 + d) (by omega : n ≠ 0)
  have h2 := Int.emod_lt_of_pos (c + 1 + d) (by omega : 0 < n)
  refine ⟨h1, h2, fun z => ?_⟩
  by_cases k : c + 1 + d < n
  · rw [Int.emod_eq_of_lt (by omega) k] at z
    omega
  · have e : (c + 1 + d) % n = c + 1 + d - n := by
      rw [show c + 1 + d = (c + 1 + d - n) + n by omega, Int.add_emod_right, Int.emod_eq_of_lt (by omega) (by omega)]
      omega
    omega
theorem Sched.more {hands n : Nat} {ps : List (Nat × Nat)} {evs : List Ev} {und : List Nat} (S : Sched hands ps evs n und) (q : Nat × Nat) : Sched hands (ps ++ [q]) evs n und :=
  ⟨S.nd, S.snd, S.got, S.und, S.low, by rw [List.length_append]; have := S.le; omega, fun e he => let ⟨p, h1, h2⟩ := S.hand e he; ⟨p, by rw [List.getElem?_append_left (List.getElem?_eq_some_iff.mp h1).1]; exact h1, h2⟩, S.ord⟩
section
variable {m D : Addr} {hands many most hs : Nat} {slow : Int} {fs : List Nat}
/-- the letters under way, as they stand in the list -/
def undV (fs : List Nat) (ps : List (Nat × Nat)) (und : List Nat) : List Val := und.map fun l => .tup [.int (fs.getD l 0 : Int), .int ((ps.getD l (0, 0)).2 : Int)]
def EnF (m : Addr) (most hs hands many : Nat) (slow : Int) (fs : List Nat) (D : Addr) (u : List Val) (n : Nat) (t10 t11 t12 : Option Val) : En :=
  [some (.loc m), some (.int (most : Int)), some (.int (hs : Int)), some (.int (hands : Int)), some (.int (many : Int)), some (.int slow), some (natsV fs), some (.loc D), some (.lst u), some (.int (n : Int)), t10, t11, t12, none, none]
structure JF (hands many : Nat) (fs : List Nat) (ps : List (Nat × Nat)) (evs : List Ev) (n : Nat) (und : List Nat) : Prop where
  S : Sched hands ps evs n und
  pl : ps.length = n
  ok : ∀ x ∈ ps, x.1 < hands ∧ x.2 < hands ∧ x.1 ≠ x.2
  nm : n ≤ many
  el : evs.length + und.length = 2 * n
theorem ul (fs : List Nat) (ps : List (Nat × Nat)) (und : List Nat) : (undV fs ps und).length = und.length := List.length_map ..
theorem no8 {u : List Val} {n : Nat} {t10 t11 t12 : Option Val} (h : u.length ≤ 63) : no64 [8] (EnF m most hs hands many slow fs D u n t10 t11 t12) = true := by
  show ((decide (u.length ≠ 64) || notInts u) && true) = true
  rw [decide_eq_true (by omega)]
  rfl
theorem und_nil (neg : Bool) (ps : List (Nat × Nat)) (und : List Nat) : eqF neg (.lst (undV fs ps und)) (.lst []) = some (.bl (if neg then !und.isEmpty else und.isEmpty)) :=
  eq_nil (α := Nat) (d := fun l => .tuple [.int (fs.getD l 0 : Int), .int ((ps.getD l (0, 0)).2 : Int)]) (n := 1) neg (fun l => by simp [dataV, dataVs]) (fun l => by simp [PyData.canLay0, PyData.canLayAll0, PyData.depth, PyData.depthAll]) (by decide) und
theorem rowF_get {evs : List Ev} {h : Nat} (c : h < hands) : (toV (ren fs (gssOf hands evs)))[h]? = some (((evRow evs h).map (renD fs)).map dgV) := by
  unfold toV ren
  rw [List.getElem?_map, List.getElem?_map, gssOf_get c]
  rfl
theorem rowF_put {evs : List Ev} {h l : Nat} {s : Bool} (c : h < hands) : (toV (ren fs (gssOf hands evs))).set h (((evRow evs h).map (renD fs)).map dgV ++ [dgV ⟨s, fs.getD l 0⟩]) = toV (ren fs (gssOf hands (evs ++ [(⟨s, l⟩, h)]))) := by
  unfold toV ren
  rw [gssOf_snoc _ _ c, List.map_set, List.map_set, List.map_append, List.map_append]
  rfl
theorem rowF_len (evs : List Ev) (h : Nat) (l : evs.length ≤ 60) : (((evRow evs h).map (renD fs)).map dgV).length ≤ 63 := by
  rw [List.length_map, List.length_map]
  have := evRow_len evs h
  omega
theorem toV_len (evs : List Ev) (h : hands ≤ 6) : (toV (ren fs (gssOf hands evs))).length ≤ 1000 := by
  unfold toV ren
  rw [List.length_map, List.length_map, gssOf_len]
  omega
def bodyS : DSG := (seqG_ (liftG (setD 10 (stD [8] (callD w__law_draw (puA (consF (getE 0) (consF (getE 3) noF))))))) (seqG_ (liftG (setD 11 (stD [8] (bin2D (iopC (fun _ j => decide (0 < j)) fun i j => .int (i % j)) (appD intF (consD (bin2D (iop fun i j => .int (i + j)) (pu (bin2 (iop fun i j => .int (i + j)) (getE 10) (cst (.int 1)))) (callD w__law_draw (puA (consF (getE 0) (consF (bin2 (iop fun i j => .int (i - j)) (getE 3) (cst (.int 1))) noF))))) (puA noF))) (pu (getE 3)))))) (seqG_ (appG_ 7 (pu (getE 10)) (pu (tupF (consF (cst (.str "send")) (consF (bin2 ixL (getE 6) (getE 9)) noF)))) [8]) (seqG_ (liftG (puS [8] (appG 8 (stF [8] (tupF (consF (bin2 ixL (getE 6) (getE 9)) (consF (getE 11) noF))))))) (liftG (puS [8] (setG 9 (stF [8] (bin2 (iop fun i j => .int (i + j)) (getE 9) (cst (.int 1)))))))))))
def bodyR : DSG := (seqG_ (liftG (popAtD 8 (callD w__law_draw (puA (consF (getE 0) (consF (appF lenF (consF (getE 8) noF)) noF)))) (setTup 2 (setCo (setV 12) (setCo (setV 11) setNo))))) (appG_ 7 (pu (getE 11)) (pu (tupF (consF (cst (.str "get")) (consF (getE 12) noF)))) [8]))
def condF : DB := puT (orT (tst (bin2 (iop fun i j => .bl (decide (i < j))) (getE 9) (getE 4))) (tst (bin2 (eqF true) (getE 8) (lstF noF))))
def condS : DB := (orD (puT (tst (bin2 (eqF false) (getE 8) (lstF noF)))) (andD (puT (tst (bin2 (iop fun i j => .bl (decide (i < j))) (getE 9) (getE 4)))) (tstD (bin2D (iop fun i j => .bl (decide (j < i))) (callD w__law_draw (puA (consF (getE 0) (consF (bin2 (iop fun i j => .int (i + j)) (getE 5) (cst (.int 1))) noF)))) (pu (cst (.int 0)))))))
theorem nats_at {n : Nat} (h : n < fs.length) : ixL (natsV fs) (.int (n : Int)) = some (.int (fs.getD n 0 : Int)) := by
  refine atI_n (α := Val) ?_
  rw [List.getElem?_map, List.getElem?_eq_getElem h, List.getD_eq_getElem?_getD, List.getElem?_eq_getElem h]
  rfl
theorem appG_okF {i : Nat} {r : En → Option Val} {env : En} {xs : List Val} {y : Val} (e : env[i]? = some (some (.lst xs))) (l : xs.length ≤ Up.most) (h : r env = some y) : appG i r env = some (.nx (env.set i (some (.lst (xs ++ [y]))))) := by
  unfold appG
  rw [e]
  dsimp only
  rw [if_pos l, h]
  rfl
theorem send_wp {ps : List (Nat × Nat)} {evs : List Ev} {n : Nat} {und : List Nat} {t10 t11 t12 : Option Val} {b : Nat} {R : Out → List (List Val) → Nat → Prop} (l2 : 2 ≤ hands) (l6 : hands ≤ 6) (m12 : many ≤ 12) (pf : fs.Perm (List.range many)) (J : JF hands many fs ps evs n und) (hn : n < many) (hb : b ≤ 900000)
    (k : ∀ (p : Nat × Nat) (t10 t11 t12 : Option Val), JF hands many fs (ps ++ [p]) (evs ++ [(⟨true, n⟩, p.1)]) (n + 1) (und ++ [n]) → R (.nx (EnF m most hs hands many slow fs D (undV fs (ps ++ [p]) (und ++ [n])) (n + 1) t10 t11 t12)) (toV (ren fs (gssOf hands (evs ++ [(⟨true, n⟩, p.1)])))) (b + 2)) :
    bodyS m D (EnF m most hs hands many slow fs D (undV fs ps und) n t10 t11 t12) (toV (ren fs (gssOf hands evs))) b R := by
  have el := J.el
  have fl := perm_len pf
  have ulen := ul fs ps und
  refine ⟨_, rfl, (hands : Int), rfl, by omega, by omega, by omega, fun near n0 n1 => ?_⟩
  obtain ⟨nr, rfl⟩ := Int.eq_ofNat_of_zero_le n0
  have nl : nr < hands := by omega
  show (seqG_ _ _) m D (EnF m most hs hands many slow fs D (undV fs ps und) n (some (.int (nr : Int))) t11 t12) _ (b + 1) R
  refine ⟨.int ((nr : Int) + 1), rfl, _, rfl, (hands : Int) - 1, rfl, by omega, by omega, by omega, fun d d0 d1 => ⟨_, rfl, _, rfl, _, rfl, _, rfl, .int (((nr : Int) + 1 + d) % (hands : Int)), ?_, ?_⟩⟩
  · show (if decide ((0 : Int) < (hands : Int)) = true then _ else none) = _
    rw [if_pos (decide_eq_true (by omega))]
  obtain ⟨f0, f1, f2⟩ := turn_neF (c := (nr : Int)) (d := d) (n := (hands : Int)) (by omega) (by omega) d0 d1
  obtain ⟨fr, ef⟩ := Int.eq_ofNat_of_zero_le f0
  rw [ef] at f1 f2 ⊢
  have fl2 : fr < hands := by omega
  have ne : nr ≠ fr := by omega
  show (seqG_ _ _) m D (EnF m most hs hands many slow fs D (undV fs ps und) n (some (.int (nr : Int))) (some (.int (fr : Int))) t12) _ (b + 1 + 1) R
  have en : ixL (natsV fs) (.int (n : Int)) = some (.int (fs.getD n 0 : Int)) := nats_at (by omega)
  refine ⟨rfl, toV_len _ l6, _, rfl, nr, _, rfl, rowF_get nl, rowF_len _ _ (by omega), dgV ⟨true, fs.getD n 0⟩, tupF_ok (xs := [.str "send", .int (fs.getD n 0 : Int)]) (consF_ok rfl (consF_ok (bin2_ok (x := natsV fs) (y := .int (n : Int)) rfl rfl en) rfl)) (by show 2 ≤ 100000; decide), ?_⟩
  dsimp only
  rw [rowF_put nl]
  show (seqG_ _ _) m D (EnF m most hs hands many slow fs D (undV fs ps und) n (some (.int (nr : Int))) (some (.int (fr : Int))) t12) _ (b + 1 + 1) R
  have pd : ∀ l, l < n → (ps ++ [(nr, fr)]).getD l (0, 0) = ps.getD l (0, 0) := fun l hl => by
    rw [List.getD_eq_getElem?_getD, List.getD_eq_getElem?_getD, List.getElem?_append_left (by rw [J.pl]; exact hl)]
  have pn : (ps ++ [(nr, fr)]).getD n (0, 0) = (nr, fr) := by
    rw [List.getD_eq_getElem?_getD, List.getElem?_append_right (by rw [J.pl]; exact Nat.le_refl _), J.pl, Nat.sub_self]
    rfl
  have eu : undV fs ps und ++ [.tup [.int (fs.getD n 0 : Int), .int (fr : Int)]] = undV fs (ps ++ [(nr, fr)]) (und ++ [n]) := by
    unfold undV
    rw [List.map_append]
    congr 1
    · refine List.map_congr_left fun l hl => ?_
      rw [pd l (J.S.low l hl)]
    · rw [List.map_cons, List.map_nil, pn]
  refine ⟨no8 (by omega), .nx (EnF m most hs hands many slow fs D (undV fs (ps ++ [(nr, fr)]) (und ++ [n])) n (some (.int (nr : Int))) (some (.int (fr : Int))) t12), ?_, ?_⟩
  · rw [← eu]
    refine (appG_okF (xs := undV fs ps und) (y := .tup [.int (fs.getD n 0 : Int), .int (fr : Int)]) rfl ?_ (tupF_ok (xs := [.int (fs.getD n 0 : Int), .int (fr : Int)]) (consF_ok (bin2_ok (x := natsV fs) (y := .int (n : Int)) rfl rfl en) (consF_ok rfl rfl)) (by show 2 ≤ 100000; decide))).trans rfl
    show _ ≤ 100000
    omega
  have u2 : (undV fs (ps ++ [(nr, fr)]) (und ++ [n])).length ≤ 63 := by
    rw [ul, List.length_append]
    show und.length + 1 ≤ 63
    omega
  refine ⟨no8 u2, _, setG_ok (x := .int ((n + 1 : Nat) : Int)) (bin2_ok (x := .int (n : Int)) (y := .int 1) rfl rfl (by show some (Val.int ((n : Int) + 1)) = _; rw [Int.natCast_add]; rfl)), ?_⟩
  refine k (nr, fr) _ _ _ ⟨(J.S.more (nr, fr)).send (by rw [List.getElem?_append_right (by rw [J.pl]; exact Nat.le_refl _), J.pl, Nat.sub_self]; rfl), by rw [List.length_append, J.pl]; rfl, fun x hx => ?_, hn, by rw [List.length_append, List.length_append]; show evs.length + 1 + (und.length + 1) = _; omega⟩
  rcases List.mem_append.mp hx with z | z
  · exact J.ok x z
  · rw [List.mem_singleton.mp z]
    exact ⟨nl, fl2, ne⟩
theorem map_erase {α β : Type} (f : α → β) : ∀ (l : List α) (i : Nat), (l.map f).eraseIdx i = (l.eraseIdx i).map f
  | [], _ => rfl
  | _ :: _, 0 => rfl
  | a :: l, i + 1 => by
    show f a :: (l.map f).eraseIdx i = f a :: (l.eraseIdx i).map f
    rw [map_erase f l i]
theorem recv_wp {ps : List (Nat × Nat)} {evs : List Ev} {n : Nat} {und : List Nat} {t10 t11 t12 : Option Val} {b : Nat} {R : Out → List (List Val) → Nat → Prop} (l6 : hands ≤ 6) (m12 : many ≤ 12) (J : JF hands many fs ps evs n und) (hu : und ≠ []) (hb : b ≤ 900000)
    (k : ∀ (ev : Ev) (und' : List Nat) (t10 t11 t12 : Option Val), und'.length + 1 = und.length → JF hands many fs ps (evs ++ [ev]) n und' → R (.nx (EnF m most hs hands many slow fs D (undV fs ps und') n t10 t11 t12)) (toV (ren fs (gssOf hands (evs ++ [ev])))) (b + 1)) :
    bodyR m D (EnF m most hs hands many slow fs D (undV fs ps und) n t10 t11 t12) (toV (ren fs (gssOf hands evs))) b R := by
  have el := J.el
  have ulen := ul fs ps und
  have nm := J.nm
  have lu : 0 < und.length := List.length_pos_iff.mpr hu
  refine ⟨undV fs ps und, rfl, by omega, _, consF_ok rfl (consF_ok (appF_ok (xs := [.lst (undV fs ps und)]) rfl (show lenF [.lst (undV fs ps und)] = some (.int (und.length : Int)) by show some (Val.int ((undV fs ps und).length : Int)) = _; rw [ulen])) rfl), (und.length : Int), rfl, by omega, by omega, by omega, fun d d0 d1 => ?_⟩
  obtain ⟨i, rfl⟩ := Int.eq_ofNat_of_zero_le d0
  have il : i < und.length := by omega
  obtain ⟨l, hl⟩ : ∃ l, und[i]? = some l := ⟨_, List.getElem?_eq_getElem il⟩
  have ln : l < n := J.S.low l (List.mem_of_getElem? hl)
  have hp : ps[l]? = some (ps.getD l (0, 0)) := by
    rw [List.getD_eq_getElem?_getD, List.getElem?_eq_getElem (by rw [J.pl]; exact ln)]
    rfl
  obtain ⟨p, ep⟩ : ∃ p, p = ps.getD l (0, 0) := ⟨_, rfl⟩
  rw [← ep] at hp
  have pok := J.ok p (List.mem_of_getElem? hp)
  refine ⟨i, .tup [.int (fs.getD l 0 : Int), .int (p.2 : Int)], [(12, .int (fs.getD l 0 : Int)), (11, .int (p.2 : Int))], rfl, ?_, rfl, ?_⟩
  · unfold undV
    rw [List.getElem?_map, hl, ep]
    rfl
  have ee : (undV fs ps und).eraseIdx i = undV fs ps (und.eraseIdx i) := map_erase _ und i
  rw [ee]
  show appG_ _ _ _ _ m D (EnF m most hs hands many slow fs D (undV fs ps (und.eraseIdx i)) n t10 (some (.int (p.2 : Int))) (some (.int (fs.getD l 0 : Int)))) _ (b + 1) R
  refine ⟨rfl, toV_len _ l6, _, rfl, p.2, _, rfl, rowF_get pok.2.1, rowF_len _ _ (by omega), dgV ⟨false, fs.getD l 0⟩, tupF_ok (xs := [.str "get", .int (fs.getD l 0 : Int)]) rfl (by show 2 ≤ 100000; decide), ?_⟩
  dsimp only
  rw [rowF_put pok.2.1]
  have le := List.length_eraseIdx_of_lt il
  exact k (⟨false, l⟩, p.2) (und.eraseIdx i) _ _ _ (by omega) ⟨J.S.recv hl hp, J.pl, J.ok, J.nm, by rw [List.length_append]; show evs.length + 1 + _ = _; omega⟩
theorem loop_wp {R : Out → List (List Val) → Nat → Prop} (l2 : 2 ≤ hands) (l6 : hands ≤ 6) (m12 : many ≤ 12) (s0 : 0 ≤ slow) (s9 : slow ≤ 1000) (pf : fs.Perm (List.range many)) :
    ∀ (k : Nat) (ps : List (Nat × Nat)) (evs : List Ev) (n : Nat) (und : List Nat) (t10 t11 t12 : Option Val) (b : Nat), JF hands many fs ps evs n und → 2 * (many - n) + und.length = k → b + 3 * k ≤ 900000 →
    (∀ (ps : List (Nat × Nat)) (evs : List Ev) (t10 t11 t12 : Option Val) (b' : Nat), JF hands many fs ps evs many [] → b' ≤ b + 3 * k → R (.nx (EnF m most hs hands many slow fs D [] many t10 t11 t12)) (toV (ren fs (gssOf hands evs))) b') →
    whGr condF (ifG_ condS bodyS bodyR) m D R (k + 1) (EnF m most hs hands many slow fs D (undV fs ps und) n t10 t11 t12) (toV (ren fs (gssOf hands evs))) b
  | 0, ps, evs, n, und, t10, t11, t12, b, J, hk, hb, q => by
    have nm := J.nm
    have en : n = many := by omega
    have eu : und = [] := List.eq_nil_of_length_eq_zero (by omega)
    subst en
    subst eu
    refine ⟨false, orT_f (tst_ok (bin2_ok (x := .int (n : Int)) (y := .int (n : Int)) rfl rfl (by show some (Val.bl (decide ((n : Int) < (n : Int)))) = _; rw [decide_eq_false (by omega)]))) (tst_ok (bin2_ok (x := .lst (undV fs ps [])) (y := .lst []) rfl rfl (und_nil true ps []))), ?_⟩
    show (if false = true then _ else R _ _ _)
    rw [if_neg (by decide)]
    exact q ps evs t10 t11 t12 b J (by omega)
  | k + 1, ps, evs, n, und, t10, t11, t12, b, J, hk, hb, q => by
    have nm := J.nm
    have go : decide ((n : Int) < (many : Int)) = true ∨ und ≠ [] := by
      rcases Nat.lt_or_ge n many with c | c
      · exact .inl (decide_eq_true (by omega))
      · refine .inr fun z => ?_
        rw [z] at hk
        simp only [List.length_nil] at hk
        omega
    have hS : ∀ b1, b ≤ b1 → b1 ≤ b + 1 → n < many → bodyS m D (EnF m most hs hands many slow fs D (undV fs ps und) n t10 t11 t12) (toV (ren fs (gssOf hands evs))) b1 fun o xss2 b2 => match o with
        | .nx env' => whGr condF (ifG_ condS bodyS bodyR) m D R (k + 1) env' xss2 b2
        | .ct env' => whGr condF (ifG_ condS bodyS bodyR) m D R (k + 1) env' xss2 b2
        | .bk env' => R (.nx env') xss2 b2
        | .rt y => R (.rt y) xss2 b2 := fun b1 h1 h2 hn => send_wp l2 l6 m12 pf J hn (by omega) fun p t10 t11 t12 J' => loop_wp l2 l6 m12 s0 s9 pf k _ _ _ _ _ _ _ _ J' (by rw [List.length_append]; show 2 * (many - (n + 1)) + (und.length + 1) = k; omega) (by omega) fun ps evs t10 t11 t12 b' J2 hb' => q ps evs t10 t11 t12 b' J2 (by omega)
    have hR : ∀ b1, b ≤ b1 → b1 ≤ b + 1 → und ≠ [] → bodyR m D (EnF m most hs hands many slow fs D (undV fs ps und) n t10 t11 t12) (toV (ren fs (gssOf hands evs))) b1 fun o xss2 b2 => match o with
        | .nx env' => whGr condF (ifG_ condS bodyS bodyR) m D R (k + 1) env' xss2 b2
        | .ct env' => whGr condF (ifG_ condS bodyS bodyR) m D R (k + 1) env' xss2 b2
        | .bk env' => R (.nx env') xss2 b2
        | .rt y => R (.rt y) xss2 b2 := fun b1 h1 h2 hu => recv_wp l6 m12 J hu (by omega) fun ev und' t10 t11 t12 hl J' => loop_wp l2 l6 m12 s0 s9 pf k _ _ _ _ _ _ _ _ J' (by omega) (by omega) fun ps evs t10 t11 t12 b' J2 hb' => q ps evs t10 t11 t12 b' J2 (by omega)
    refine ⟨true, ?_, ?_⟩
    · show orT _ _ _ = _
      unfold orT
      rw [tst_ok (bin2_ok (x := .int (n : Int)) (y := .int (many : Int)) rfl rfl (show (iop fun i j => Val.bl (decide (i < j))) (.int (n : Int)) (.int (many : Int)) = some (.bl (decide ((n : Int) < (many : Int)))) from rfl))]
      cases c : decide ((n : Int) < (many : Int)) with
      | true => rfl
      | false =>
        have ne : und ≠ [] := go.elim (fun z => by rw [c] at z; cases z) id
        show tst _ _ = _
        refine tst_ok (bin2_ok (x := .lst (undV fs ps und)) (y := .lst []) rfl rfl ((und_nil true ps und).trans ?_))
        cases und with
        | nil => exact (ne rfl).elim
        | cons a l => rfl
    show (if true = true then _ else _)
    rw [if_pos rfl]
    -- send or get
    show condS m _ b _
    refine ⟨und.isEmpty, tst_ok (bin2_ok (x := .lst (undV fs ps und)) (y := .lst []) rfl rfl (und_nil false ps und)), ?_⟩
    cases und with
    | nil =>
      show (if true = true then _ else _)
      rw [if_pos rfl]
      show (if true = true then _ else _)
      rw [if_pos rfl]
      exact hS b (by omega) (by omega) (by
        rcases go with z | z
        · have := of_decide_eq_true z
          omega
        · exact (z rfl).elim)
    | cons a l =>
      show (if false = true then _ else _)
      rw [if_neg (by decide)]
      refine ⟨decide ((n : Int) < (many : Int)), tst_ok (bin2_ok (x := .int (n : Int)) (y := .int (many : Int)) rfl rfl rfl), ?_⟩
      by_cases c : (n : Int) < (many : Int)
      · rw [decide_eq_true c]
        show (if true = true then _ else _)
        rw [if_pos rfl]
        refine ⟨_, consF_ok rfl (consF_ok (x := .int (slow + 1)) (bin2_ok (x := .int slow) (y := .int 1) rfl rfl rfl) rfl), slow + 1, rfl, by omega, by omega, by omega, fun d d0 d1 => ⟨_, rfl, .bl (decide (0 < d)), rfl, decide (0 < d), rfl, ?_⟩⟩
        by_cases c2 : 0 < d
        · rw [decide_eq_true c2]
          show (if true = true then _ else _)
          rw [if_pos rfl]
          exact hS (b + 1) (by omega) (by omega) (by omega)
        · rw [decide_eq_false c2]
          show (if false = true then _ else _)
          rw [if_neg (by decide)]
          exact hR (b + 1) (by omega) (by omega) (fun z => nomatch z)
      · rw [decide_eq_false c]
        show (if false = true then _ else _)
        rw [if_neg (by decide)]
        show (if false = true then _ else _)
        rw [if_neg (by decide)]
        exact hR b (by omega) (by omega) (fun z => nomatch z)
end
theorem frows {m : Addr} {most hs b : Nat} {R : Val → Nat → Prop} (h12 : most ≤ 12) (h2 : 2 ≤ hs) (h6 : hs ≤ 6) (hb : b ≤ 800000)
    (k : ∀ (gss : List (List Dg)) (many : Nat) (S G : Nat → Nat) (Ck : Dg → List Int) (b' : Nat), Valid gss many S G Ck → many ≤ most → 2 ≤ gss.length → gss.length ≤ hs → b' ≤ b + 100 → R (rowsV gss) b') : w__law_rows m [.loc m, .int (most : Int), .int (hs : Int)] b R := by
  refine ⟨rfl, ?_⟩
  show seqD _ _ m [some (.loc m), some (.int (most : Int)), some (.int (hs : Int)), none, none, none, none, none, none, none, none, none, none, none, none] b _
  refine ⟨_, rfl, _, consF_ok rfl (consF_ok (x := .int ((hs : Int) - 1)) rfl rfl), (hs : Int) - 1, rfl, by omega, by omega, by omega, fun d d0 d1 => ?_⟩
  obtain ⟨h', rfl⟩ := Int.eq_ofNat_of_zero_le d0
  obtain ⟨hands, eh⟩ : ∃ hands, hands = 2 + h' := ⟨_, rfl⟩
  refine ⟨.int (hands : Int), by show some (Val.int (2 + (h' : Int))) = _; rw [eh, Int.natCast_add]; rfl, _, consF_ok rfl (consF_ok (x := .int ((most : Int) + 1)) rfl rfl), (most : Int) + 1, rfl, by omega, by omega, by omega, fun d2 d20 d21 => ?_⟩
  obtain ⟨many, rfl⟩ := Int.eq_ofNat_of_zero_le d20
  have l2 : 2 ≤ hands := by omega
  have l6 : hands ≤ 6 := by omega
  have m12 : many ≤ 12 := by omega
  show grid5D _ _ _ _ _ _ _ _ _ _ _ m [some (.loc m), some (.int (most : Int)), some (.int (hs : Int)), some (.int (hands : Int)), some (.int (many : Int)), none, none, none, none, none, none, none, none, none, none] _ _
  refine ⟨by show 8 < 15; decide, by show 7 < 15; decide, _, rfl, _, rfl, 4, rfl, by decide, by decide, by omega, fun e e0 e1 => ⟨_, rfl, _, rfl, many, rfl, by omega, by omega, fun fs pf => ⟨hands, rfl, by omega, fun D => ?_⟩⟩⟩
  have rp : (List.replicate hands ([] : List Val)) = toV (ren fs (gssOf hands [])) := by
    refine (List.eq_replicate_iff.mpr ⟨by unfold toV ren; rw [List.length_map, List.length_map, gssOf_len], fun b hb => ?_⟩).symm
    obtain ⟨gs, hg, rfl⟩ := List.mem_map.mp hb
    obtain ⟨gs2, hg2, rfl⟩ := List.mem_map.mp hg
    obtain ⟨i, _, rfl⟩ := List.mem_map.mp hg2
    rfl
  rw [rp]
  refine ⟨2 * many + 1, ?_⟩
  refine loop_wp (slow := 1 + e) l2 l6 m12 (by omega) (by omega) pf (2 * many) [] [] 0 [] none none none _ ⟨Sched.nil _ _, rfl, fun x hx => (nomatch hx), Nat.zero_le _, rfl⟩ (by show 2 * (many - 0) + 0 = _; omega) (by omega) fun ps evs t10 t11 t12 b' J hb' => ⟨rfl, ?_⟩
  obtain ⟨Ck, v⟩ := J.S.valid (by omega) l6 m12 J.ok
  have v2 := Valid.ren pf v
  have h6' := v2.h6
  rw [toV_val]
  refine ⟨?_, _, retG_ok (z := rowsV (ren fs (gssOf hands evs))) (appF_ok (xs := [.lst ((ren fs (gssOf hands evs)).map rowV)]) (consF_ok ?_ rfl) rfl), k _ many _ _ _ b' v2 (by omega) (by unfold ren; rw [List.length_map, gssOf_len]; exact l2) (by unfold ren; rw [List.length_map, gssOf_len]; omega) (by omega)⟩
  · rfl
  · have kk := lcF_map (α := List Dg) (fi := itF (getE 7)) (bnd := setV 14) (fe := appF tupleF (consF (getE 14) noF)) (is := [14]) (env := (EnF m most hs hands many (1 + e) fs D [] many t10 t11 t12).set 7 (some (tLstV (ren fs (gssOf hands evs))))) (x := fun gs => .lst (gs.map dgV)) (y := rowV) (as := ren fs (gssOf hands evs)) rfl (by show _ ≤ 100000; omega) fun gs hg => ⟨[(14, .lst (gs.map dgV))], rfl, appF_ok (xs := [.lst (gs.map dgV)]) rfl rfl⟩
    exact (congrArg (Option.map Val.lst) kk).trans rfl
end Up

namespace Up
open PySem PySem.Spec PyProof.Rows L2 TL
/-! ### texts -/
section
variable {X : Cx} {cm : Cm} {a b c e : Expr} {es : List Expr} {f g : En → Option Val} {pos apos : Pos}
def splitF : Val → Val → Option Val
  | .str x, .str y => if (y.length == 0) = false ∧ x.length + 2 ≤ sizeLine then some (.lst ((Txt.split x y).map .str)) else none
  | _, _ => none
theorem splitF_some {x y z : Val} (h : splitF x y = some z) : ∃ s t, x = .str s ∧ y = .str t ∧ (t.length == 0) = false ∧ s.length + 2 ≤ sizeLine ∧ z = .lst ((Txt.split s t).map .str) := by
  unfold splitF at h
  split at h
  case h_2 => cases h
  rename_i s t
  split at h
  · rename_i c
    cases h
    exact ⟨s, t, rfl, rfl, c.1, c.2, rfl⟩
  · cases h
theorem splitF_ok {s t : Str} (h : (t.length == 0) = false) (h2 : s.length + 2 ≤ sizeLine) : splitF (.str s) (.str t) = some (.lst ((Txt.split s t).map .str)) := if_pos ⟨h, h2⟩
theorem strs_res (P : Addr → Prop) (H : Hp) : ∀ l : List Str, Res cm P H (l.map V.str) (l.map Val.str)
  | [] => .nil
  | x :: l => .cons (.str x) (strs_res P H l)
theorem ve_split (ha : VE X cm a f) (hb : VE X cm b g) (hs : starEach [b] X.env = [(false, eval b X.env)] := by rfl) (hbase : attributeBase a "split" X.env (eval a X.env) = eval a X.env := by rfl) (hline : (apos.endLine == pos.line) = true := by rfl) : VE X cm (.Call (.Attribute a "split" apos) [b] [] pos) (bin2 splitF f g) :=
  (pe_split ha hb hs hbase hline).weak fun σ H Q ⟨P, env, z, hsl, hf, q⟩ => by
    unfold bin2 at hf
    obtain ⟨x, ex, hf⟩ := Option.bind_eq_some_iff.mp hf
    obtain ⟨y, ey, hf⟩ := Option.bind_eq_some_iff.mp hf
    obtain ⟨s, t, rfl, rfl, h0, h1, rfl⟩ := splitF_some hf
    refine ⟨P, env, _, hsl, ex, fun v H1 s1 r1 => ?_⟩
    cases Re.str_ r1
    refine ⟨⟨s, rfl⟩, P, env, _, hsl.same s1, ey, fun u H2 s2 r2 => ?_⟩
    cases Re.str_ r2
    refine ⟨s, t, rfl, rfl, h0, h1, fun p np => ?_⟩
    have s3 := same_new (o := .lst ((Txt.split s t).map V.str)) np
    exact q _ _ (s1.trans (s2.trans s3)) (.lst ((hsl.hid.same (s1.trans s2)).new np) upd_same (strs_res _ _ _))
/-- the texts of a list or a tuple -/
def strOf : Val → Option Str
  | .str x => some x
  | _ => none
def strsOf : List Val → Option (List Str)
  | [] => some []
  | x :: xs => (strOf x).bind fun y => (strsOf xs).bind fun ys => some (y :: ys)
theorem strsOf_some : ∀ {xs : List Val} {l : List Str}, strsOf xs = some l → xs = l.map .str
  | [], l, h => by cases h; rfl
  | x :: xs, l, h => by
    obtain ⟨y, e1, h⟩ := Option.bind_eq_some_iff.mp (show (strOf x).bind _ = some l from h)
    obtain ⟨ys, e2, h⟩ := Option.bind_eq_some_iff.mp h
    cases h
    rw [strsOf_some e2]
    cases x <;> cases e1
    rfl
theorem strsOf_map : ∀ l : List Str, strsOf (l.map .str) = some l
  | [] => rfl
  | x :: l => by
    show (some x).bind _ = _
    rw [Option.bind_some, strsOf_map l] <;> rfl
theorem Res.strs {P : Addr → Prop} {H : Hp} : ∀ {l : List Str} {vs : List V}, Res cm P H vs (l.map .str) → vs = l.map .str
  | [], _, .nil => rfl
  | x :: l, _, .cons r t => by
    cases Re.str_ r
    rw [Res.strs t] <;> rfl
def joinF : Val → Val → Option Val := fun x y => match x with
  | .str s => (itemsOf y).bind fun xs => (strsOf xs).bind fun l => if (l.map (·.length)).sum + l.length * s.length ≤ 16777216 then some (.str (Txt.join s l)) else none
  | _ => none
theorem joinF_some {x y z : Val} (h : joinF x y = some z) : ∃ s l, x = .str s ∧ (y = .lst (l.map .str) ∨ y = .tup (l.map .str)) ∧ (l.map (·.length)).sum + l.length * s.length ≤ 16777216 ∧ z = .str (Txt.join s l) := by
  unfold joinF at h
  split at h
  case h_2 => cases h
  rename_i s
  obtain ⟨xs, e1, h⟩ := Option.bind_eq_some_iff.mp h
  obtain ⟨l, e2, h⟩ := Option.bind_eq_some_iff.mp h
  split at h
  · rename_i c
    cases h
    cases strsOf_some e2
    refine ⟨s, l, rfl, ?_, c, rfl⟩
    cases y <;> cases e1
    · exact .inl rfl
    · exact .inr rfl
  · cases h
theorem joinF_ok {s : Str} {l : List Str} (h : (l.map (·.length)).sum + l.length * s.length ≤ 16777216) : joinF (.str s) (.lst (l.map .str)) = some (.str (Txt.join s l)) := by
  unfold joinF
  dsimp only [itemsOf]
  rw [Option.bind_some, strsOf_map, Option.bind_some, if_pos h]
theorem ve_join (ha : VE X cm a f) (hb : VE X cm b g) (hs : starEach [b] X.env = [(false, eval b X.env)] := by rfl) (hbase : attributeBase a "join" X.env (eval a X.env) = eval a X.env := by rfl) (hline : (apos.endLine == pos.line) = true := by rfl) : VE X cm (.Call (.Attribute a "join" apos) [b] [] pos) (bin2 joinF f g) :=
  (pe_join ha hb hs hbase hline).weak fun σ H Q ⟨P, env, z, hsl, hf, q⟩ => by
    unfold bin2 at hf
    obtain ⟨x, ex, hf⟩ := Option.bind_eq_some_iff.mp hf
    obtain ⟨y, ey, hf⟩ := Option.bind_eq_some_iff.mp hf
    obtain ⟨s, l, rfl, hy, hl, rfl⟩ := joinF_some hf
    refine ⟨P, env, _, hsl, ex, fun v H1 s1 r1 => ?_⟩
    cases Re.str_ r1
    refine ⟨⟨s, rfl⟩, P, env, _, hsl.same s1, ey, fun u H2 s2 r2 => ?_⟩
    rcases hy with rfl | rfl
    · obtain ⟨p, vs, rfl, nP, hh, rs⟩ := r2.lst_
      cases Res.strs rs
      exact ⟨s, p, l, rfl, rfl, .inl (.inl (.inl hh)), hl, q _ _ (s1.trans s2) (.str _)⟩
    · obtain ⟨p, vs, rfl, nP, hh, rs⟩ := r2.tup_
      cases Res.strs rs
      exact ⟨s, p, l, rfl, rfl, .inr (.inl (.inl hh)), hl, q _ _ (s1.trans s2) (.str _)⟩
/-- the sign at a place -/
def ixS : Val → Val → Option Val
  | .str x, .int i => if 0 ≤ i ∧ i < 2 ^ 63 ∧ i < x.length then (x.cps[i.toNat]?).map fun c => .str ⟨#[c]⟩ else none
  | _, _ => none
theorem ixS_some {x y z : Val} (h : ixS x y = some z) : ∃ s i c, x = .str s ∧ y = .int i ∧ (0 ≤ i ∧ i < 2 ^ 63 ∧ i < s.length) ∧ s.cps[i.toNat]? = some c ∧ z = .str ⟨#[c]⟩ := by
  unfold ixS at h
  split at h
  case h_2 => cases h
  rename_i s i
  split at h
  case isFalse => cases h
  rename_i hi
  obtain ⟨c, ec, rfl⟩ := Option.map_eq_some_iff.mp h
  exact ⟨s, i, c, rfl, rfl, hi, ec, rfl⟩
theorem ve_ixS (ha : VE X cm a f) (hb : VE X cm b g) (hs : PlainIxT b) : VE X cm (.Subscript a b pos) (bin2 ixS f g) := (pe_item_str ha hb hs).weak fun σ H Q ⟨P, env, z, hsl, hf, q⟩ => by
  unfold bin2 at hf
  obtain ⟨x, ex, hf⟩ := Option.bind_eq_some_iff.mp hf
  obtain ⟨y, ey, hf⟩ := Option.bind_eq_some_iff.mp hf
  obtain ⟨s, i, c, rfl, rfl, hi, ec, rfl⟩ := ixS_some hf
  refine ⟨P, env, _, hsl, ex, fun v H1 s1 r1 => ⟨P, env, _, hsl.same s1, ey, fun u H2 s2 r2 => ?_⟩⟩
  cases Re.str_ r1
  cases Re.int_ r2
  exact ⟨s, i, c, rfl, rfl, hi.1, hi.2.1, hi.2.2, ec, q _ _ (s1.trans s2) (.str _)⟩
def cutSF : Val → Option Int → Option Int → Option Val
  | .str x, lo, hi => if x.length ≤ sizeLine then some (.str (cutS x lo hi)) else none
  | _, _, _ => none
theorem cutSF_some {x z : Val} {i j : Option Int} (e : cutSF x i j = some z) : ∃ s, x = .str s ∧ s.length ≤ sizeLine ∧ z = .str (cutS s i j) := by
  unfold cutSF at e
  split at e
  case h_2 => cases e
  split at e
  case isFalse => cases e
  rename_i hl
  cases e
  exact ⟨_, rfl, hl, rfl⟩
theorem vs_str (P : Addr → Prop) (x z : Val) (i j : Option Int) (v : V) (H : Hp) (Q : VK) (hd : Hid P H) (e : cutSF x i j = some z) (r : Re cm P H v x) (q : ∀ v' H', Same H H' → Re cm P H' v' z → Q v' H') : rSlS v i j H Q := by
  obtain ⟨s, rfl, hl, rfl⟩ := cutSF_some e
  cases Re.str_ r
  exact ⟨s, rfl, hl, q _ _ (Same.refl H) (.str _)⟩
/-- the number of a text -/
def intSF : List Val → Option Val
  | [.str x] => (intText? x).bind fun n => if x.length ≤ 640 then some (.int n) else none
  | _ => none
def strIF : List Val → Option Val
  | [.int i] => if i.natAbs.log2 < 1920 then some (.str (toString i)) else none
  | _ => none
theorem cv_intS : CaV cm (fun xs H Q => ∃ a n, xs = [.str a] ∧ PySem.intText? a = some n ∧ a.length ≤ 640 ∧ Q (.int n) H) intSF := fun P xs z vs H Q _ e r q => by
  unfold intSF at e
  split at e
  case h_2 => cases e
  rename_i x
  obtain ⟨n, en, e⟩ := Option.bind_eq_some_iff.mp e
  split at e
  case isFalse => cases e
  rename_i hl
  cases e
  obtain ⟨v, rfl, r2⟩ := Res.one r
  cases Re.str_ r2
  exact ⟨x, n, rfl, en, hl, q _ _ (Same.refl H) (.int n)⟩
theorem cv_strI : CaV cm (fun xs H Q => ∃ i, xs = [.int i] ∧ i.natAbs.log2 < 1920 ∧ Q (.str (toString i)) H) strIF := fun P xs z vs H Q _ e r q => by
  unfold strIF at e
  split at e
  case h_2 => cases e
  rename_i i
  split at e
  case isFalse => cases e
  rename_i hl
  cases e
  obtain ⟨v, rfl, r2⟩ := Res.one r
  cases Re.int_ r2
  exact ⟨i, rfl, hl, q _ _ (Same.refl H) (.str _)⟩
def lenSFx : List Val → Option Val
  | [.str x] => if x.length ≤ sizeLine then some (.int x.length) else none
  | _ => none
theorem cv_lenStr : CaV cm (fun xs H Q => ∃ z, xs = [.str z] ∧ z.length ≤ sizeLine ∧ Q (.int z.length) H) lenSFx := fun P xs z vs H Q _ e r q => by
  unfold lenSFx at e
  split at e
  case h_2 => cases e
  rename_i x
  split at e
  case isFalse => cases e
  rename_i hl
  cases e
  obtain ⟨v, rfl, r2⟩ := Res.one r
  cases Re.str_ r2
  exact ⟨x, rfl, hl, q _ _ (Same.refl H) (.int _)⟩
/-- one text behind another -/
def addStr : Val → Val → Option Val
  | .str x, .str y => if x.length + y.length ≤ sizeLine then some (.str (x ++ y)) else none
  | _, _ => none
theorem ov_addStr : OpV cm (fun x y H Q => ∃ i j, x = .str i ∧ y = .str j ∧ i.length + j.length ≤ sizeLine ∧ Q (.str (i ++ j)) H) addStr := fun P x y z v u H Q e rx ry q => by
  unfold addStr at e
  split at e
  case h_2 => cases e
  split at e
  case isFalse => cases e
  rename_i hl
  cases e
  cases Re.str_ rx
  cases Re.str_ ry
  exact ⟨_, _, rfl, rfl, hl, q _ _ (Same.refl H) (.str _)⟩
/-- a sign in a text -/
def inSgn : Val → Val → Option Val
  | .str ⟨⟨[c]⟩⟩, .str z => some (.bl (decide (c ∈ z.cps.toList)))
  | _, _ => none
theorem ov_inSgn : OpV cm (fun x y H Q => ∃ (c : Nat) (z : Str), x = .str ⟨#[c]⟩ ∧ y = .str z ∧ Q (.bl (decide (c ∈ z.cps.toList))) H) inSgn := fun P x y z v u H Q e rx ry q => by
  unfold inSgn at e
  split at e
  case h_2 => cases e
  cases e
  cases Re.str_ rx
  cases Re.str_ ry
  exact ⟨_, _, rfl, rfl, q _ _ (Same.refl H) (.bl _)⟩
/-- f'..{}..' : texts and numbers -/
def fmtV : Val → Option Str
  | .str x => if x.length ≤ sizeLine then some x else none
  | .int i => if i.natAbs.log2 < 1920 then some (toString i) else none
  | _ => none
def fmt2F (f g : En → Option Val) : En → Option Val := fun env => (f env).bind fun x => (fmtV x).bind fun s => (g env).bind fun y => (fmtV y).bind fun t => if s.length + t.length ≤ sizeLine then some (.str (s ++ t)) else none
theorem fmtV_use {P : Addr → Prop} {H : Hp} {x : Val} {s : Str} {v : V} {Q : VK} (e : fmtV x = some s) (r : Re cm P H v x) (q : Q (.str s) H) : (∃ y : Str, v = .str y ∧ y.length ≤ sizeLine ∧ Q (.str y) H) ∨ ∃ i : Int, v = .int i ∧ i.natAbs.log2 < 1920 ∧ Q (.str (toString i)) H := by
  unfold fmtV at e
  split at e
  · split at e
    · cases e
      cases Re.str_ r
      exact .inl ⟨_, rfl, by assumption, q⟩
    · cases e
  · split at e
    · cases e
      cases Re.int_ r
      exact .inr ⟨_, rfl, by assumption, q⟩
    · cases e
  · cases e
theorem str_empty_app (s : Str) : Str.empty ++ s = s := by
  have e : tl (Str.empty ++ s) = tl s := by
    rw [tl_append]
    rfl
  exact ext_tl e
theorem ve_fmt2 {p1 p2 : Pos} (ha : VE X cm a f) (hb : VE X cm b g) : VE X cm (.JoinedStr [.FormattedValue a (-1) none p1, .FormattedValue b (-1) none p2] pos) (fmt2F f g) :=
  (pe_joined (.cons (pe_fmt ha) (.cons (pe_fmt hb) .nil))).weak fun σ H Q ⟨P, env, z, hsl, hf, q⟩ => by
    unfold fmt2F at hf
    obtain ⟨x, ex, hf⟩ := Option.bind_eq_some_iff.mp hf
    obtain ⟨s, es, hf⟩ := Option.bind_eq_some_iff.mp hf
    obtain ⟨y, ey, hf⟩ := Option.bind_eq_some_iff.mp hf
    obtain ⟨t, et, hf⟩ := Option.bind_eq_some_iff.mp hf
    split at hf
    case isFalse => cases hf
    rename_i hl
    cases hf
    refine ⟨P, env, x, hsl, ex, fun v H1 s1 r1 => ?_⟩
    refine fmtV_use (Q := fun x H1 => ∃ y : Str, x = .str y ∧ (Str.empty ++ y).length ≤ sizeLine ∧ tJs [tFmt (tV cm g)] (Str.empty ++ y) σ H1 fun out H2 => Q (.str out) H2) es r1 ⟨s, rfl, ?_, ?_⟩
    · rw [str_empty_app]
      omega
    · rw [str_empty_app]
      refine ⟨P, env, y, hsl.same s1, ey, fun u H2 s2 r2 => ?_⟩
      refine fmtV_use (Q := fun x H1 => ∃ y : Str, x = .str y ∧ (s ++ y).length ≤ sizeLine ∧ tJs [] (s ++ y) σ H1 fun out H2 => Q (.str out) H2) et r2 ⟨t, rfl, ?_, ?_⟩
      · have : (s ++ t).length = s.length + t.length := by
          have h1 := len_tl (s ++ t)
          have h2 := len_tl s
          have h3 := len_tl t
          rw [tl_append, List.length_append] at h1
          omega
        omega
      · exact q _ _ (s1.trans s2) (.str _)
end
end Up

namespace Up
open PySem PySem.Spec PyProof.Rows L2
/-! ### enumerate of a text -/
def IeS (x : Str) : It :=
  ⟨fun i _ => i < x.cps.size,
   fun i H v H' => ∃ U c, v = .ref U ∧ H U = none ∧ H' = upd H U (.tup [.int (i : Nat), .str ⟨#[c]⟩]) ∧ x.cps[i]? = some c,
   fun i _ => i = x.cps.size⟩
theorem turn_eS {P : Program} {w : World} {K : PySem.W.Frag} {elts : List Expr} {kk : Nat} {tp : Pos} (x : Str) (t : Tok) (e it : Addr) :
    Turn P w K (.Tuple elts kk tp) (IeS x) [e, it] e (fun i h => (∃ old, IsEnum h e it ((i : Nat) : Int) old) ∧ h.IsStrIter it (strIterType x) x t i ∧ e ≠ it) where
  mem := List.mem_cons_self ..
  obj := fun i h st b hb => by
    obtain ⟨⟨old, he⟩, ⟨o, ho, _, hd⟩, _⟩ := st
    rcases (show b = e ∨ b = it by simpa using hb) with z | z
    · rw [z]
      exact ⟨_, he, fun v q => nomatch q⟩
    · rw [z]
      exact ⟨o, ho, fun v q => by rw [hd] at q; cases q⟩
  keep := fun i h h' st k => by
    obtain ⟨⟨old, he⟩, ⟨o, ho, r⟩, ne⟩ := st
    exact ⟨⟨old, k e (by simp) _ he⟩, ⟨o, k it (by simp) o ho, r⟩, ne⟩
  item := by
    intro X hP hw hK hc i pins s σ H E I hf st hg
    subst hP hw hK
    obtain ⟨⟨old, he⟩, hit, nei⟩ := st
    have hlt : i < x.cps.size := hg
    have el : e < s.heap.objs.size := Heap.lt_size he
    have il : it < s.heap.objs.size := by
      obtain ⟨_, q, _⟩ := hit
      exact Heap.lt_size q
    refine wpAny_pyNext_enum_itemD (Draws.text (A := X.A.in1) (I.ok.hd hc) it x t) he hit hlt nei (by simp [nei]) fun x2 h' tk hx2 ho hit' hU hsz hk => ?_
    obtain ⟨c, u, hcx, rfl⟩ := hx2
    refine ⟨_, rfl, wpAny_letOwnedTupleGo_enum (s := { s with heap := h', toks := tk + 1 }) ho fun h2 he2 sb => ?_⟩
    have hU2 : h2.get? s.heap.objs.size = some { cls := .type "tuple", data := .seq #[.int i tk, .str ⟨#[c]⟩ u] } := (sb.2 _ (Nat.ne_of_gt el)).trans hU
    have new : ObjOk X.prog X.w (upd H s.heap.objs.size (.tup [.int (i : Nat), .str ⟨#[c]⟩])) h2 s.heap.objs.size (.tup [.int (i : Nat), .str ⟨#[c]⟩]) :=
      ⟨by show 2 ≤ sizeLine; decide, [.int i tk, .str ⟨#[c]⟩ u], .cons ⟨_, rfl⟩ (.cons ⟨_, rfl⟩ .nil), ⟨_, hU2, rfl, _, rfl⟩⟩
    have J : Inv X pins σ (upd H s.heap.objs.size (.tup [.int (i : Nat), .str ⟨#[c]⟩])) { s with heap := h2, toks := tk + 1 } :=
      I.turnedNew (ch := [e, it]) (fun b ob hb q => (sb.2 b (fun z => hb (by simp [z]))).trans (hk b ob (fun z => hb (by simp [z])) (fun z => hb (by simp [z])) q)) hf (Nat.le_refl _) new
    refine ⟨.ref s.heap.objs.size, _, J, rfl, ⟨_, c, rfl, I.hok.fresh (Nat.le_refl _), rfl, hcx⟩, ⟨⟨.str ⟨#[c]⟩ u, ?_⟩, ?_, nei⟩, fun b hb => ?_⟩
    · have e1 : ((i + 1 : Nat) : Int) = (i : Int) + 1 := by omega
      rw [e1]
      exact he2
    · obtain ⟨o, ho2, r⟩ := hit'
      exact ⟨o, (sb.2 it nei.symm).trans ho2, r⟩
    · have lb : b < s.heap.objs.size := by
        rcases (show b = e ∨ b = it by simpa using hb) with z | z
        · exact z ▸ el
        · exact z ▸ il
      rw [upd_ne (Nat.ne_of_lt lb)]
      exact (hf b hb).1
  done := by
    intro X hP hw hK hc i pins s σ H E I hf st hg
    subst hP hw hK
    obtain ⟨⟨old, he⟩, hit, nei⟩ := st
    obtain ⟨f0, f1, f2, f3, f4, f5⟩ := hf it (by simp)
    have sz : i = x.cps.size := hg
    exact wpAny_pyNext_enum_endD (Draws.text (A := X.A.in1) (I.ok.hd hc) it x t) he (by rw [← sz]; exact hit) fun h' eb => ⟨rfl, I.turned (t' := s.toks) (fun b o hb q => eb b o hb q) f0 f1 f3 f4 f5⟩
  self := fun A i s Q E st h => let ⟨⟨_, he⟩, _⟩ := st; wpAny_pyIter_enum he h
def iEnS (ta : TA) : TI := fun σ H R => ta σ H fun vs H1 => ∃ x, vs = [.str x] ∧ R (IeS x) H1
theorem pi_enS {X : Cx} {e : Expr} {ta : TA} {p pos tp : Pos} {elts : List Expr} {kk : Nat} (hg : Gl X "enumerate") (hm : X.mg "enumerate" = none) (ha : PA X [e] ta) (hs : starEach [e] X.env = [(false, eval e X.env)] := by rfl) :
    PI X (.Tuple elts kk tp) (.Call (.Name "enumerate" p) [e] [] pos) (iEnS ta) := by
  refine ⟨fun pins s σ H R I h => ?_⟩
  refine Call_ (ld_blt I hg hm boot_enumerate (PyProof.Rows.callWith_type1 (thn (ha.run pos pins s σ H _ I h) fun us s1 ⟨vs, H1, I1, r1, q1⟩ => ?_) hs rfl))
  obtain ⟨x, rfl, q⟩ := q1
  cases r1 with
  | cons r rr =>
    cases rr
    obtain ⟨t, rfl⟩ := r
    refine call_enumerate_str fun h' he hit hsz hk => wpAny_pyIter_enum he ?_
    have I2 : Inv X pins σ H1 { s1 with heap := h' } := I1.kept (t' := s1.toks) hk
    refine ⟨s1.heap.objs.size + 1, [s1.heap.objs.size + 1, s1.heap.objs.size], _, _, H1, rfl, I2, turn_eS x t (s1.heap.objs.size + 1) s1.heap.objs.size, ⟨⟨.none, he⟩, hit, Nat.succ_ne_self _⟩, fun b hb => ?_, q⟩
    have hle : s1.heap.objs.size ≤ b := by
      rcases (show b = s1.heap.objs.size + 1 ∨ b = s1.heap.objs.size by simpa using hb) with z | z
      · rw [z]
        exact Nat.le_succ _
      · exact Nat.le_of_eq z.symm
    exact I1.fpOk hle (I1.hok.fresh hle)
def sgnsV (x : Str) : List Val := x.cps.toList.map fun c => .str ⟨#[c]⟩
theorem walk_enS {x : Str} {n : Nat} (hn : n = x.cps.size) : Walk (IeS x) n (fun _ => True) (YPair (fun i => some (.int (i : Nat))) (fun i => ((x.cps.toList.map fun c => V.str ⟨#[c]⟩)[i]?))) := by
  subst hn
  refine ⟨fun i _ hi q => hi, fun _ q => rfl, fun i H v H' _ q y => ?_⟩
  obtain ⟨U, c, h1, h2, h3, h4⟩ := y
  refine ⟨U, .int (i : Nat), .str ⟨#[c]⟩, h1, h2, h3, rfl, ?_⟩
  show (List.map (fun c => V.str ⟨#[c]⟩) x.cps.toList)[i]? = some (V.str ⟨#[c]⟩)
  rw [List.getElem?_map, Array.getElem?_toList, h4] <;> rfl
theorem sgns_res {cm : Cm} (P : Addr → Prop) (H : Hp) : ∀ l : List Nat, Res cm P H (l.map fun c => V.str ⟨#[c]⟩) (l.map fun c => Val.str ⟨#[c]⟩)
  | [] => .nil
  | _ :: l => .cons (.str _) (sgns_res P H l)
def enuSt (k : En → Option (List Val)) : En → Option (List Val) := fun env => (k env).bind fun xs => match xs with
  | [.str x] => some (pairV (rangeV 0 (sgnsV x).length) (sgnsV x))
  | _ => none
theorem vi_enSt {X : Cx} {cm : Cm} {a : Expr} {pos p tp : Pos} {elts : List Expr} {kk : Nat} {k : En → Option (List Val)} (hg : Gl X "enumerate") (hm : X.mg "enumerate" = none) (ha : VA X cm [a] k) (hs : starEach [a] X.env = [(false, eval a X.env)] := by rfl) : VI X cm (.Tuple elts kk tp) (.Call (.Name "enumerate" p) [a] [] pos) (enuSt k) :=
  (pi_enS hg hm ha hs).weak fun σ H R ⟨P, env, z, hs, hf, q⟩ => by
    unfold enuSt at hf
    obtain ⟨xs, ex, hf⟩ := Option.bind_eq_some_iff.mp hf
    refine ⟨P, env, xs, hs, ex, fun vs H1 s1 r1 => ?_⟩
    split at hf
    · rename_i x
      cases hf
      obtain ⟨v, rfl, r2⟩ := Res.one r1
      cases Re.str_ r2
      exact ⟨x, rfl, q _ H1 s1 (vi_enumR (walk_enS (by simp)) (fun H k => trivial) (sgns_res _ _ _))⟩
    · cases hf
end Up

namespace Up
open PySem PySem.Spec PyProof.Rows L2
/-! ### a tuple of the module -/
def KTup (K : PySem.W.Frag) (a : Addr) (vs : List V) : Prop := ∃ (o : Obj) (its : Array Value) (n : Nat), List.lookup a K = some o ∧ o.cls = .type "tuple" ∧ o.data = .seq its n ∧ its.size ≤ sizeLine ∧ Vals vs its.toList
theorem KTup.sq {K : PySem.W.Frag} {a : Addr} {vs : List V} (h : KTup K a vs) (H : Hp) : SqT K H a vs := .inr h
section
variable {X : Cx} {cm : Cm} {e : Expr} {es : List Expr} {pos : Pos} {x : Str} {p p1 p2 : Pos} {aK : Addr}
theorem ve_listK {vs : List V} {zs : List Val} (hK : KTup X.K aK vs) (hz : ∀ (P : Addr → Prop) (H : Hp), Res cm P H vs zs) (hgK : Gl X x) (hmK : X.mg x = some (.ref aK)) (hg : Gl X "list") (hm : X.mg "list" = none) (hv : bootBuiltins "list" = some (.type "list")) (hd2 : (x == ("__debug__" : Str)) = false := by decide)
    (he : starEach [.Name x p2] X.env = (false, eval (.Name x p2) X.env) :: starEach [] X.env := by rfl) (hpl : (backTo pos (starEach [] X.env)).any (·.1) = false := by rfl) : VE X cm (.Call (.Name "list" p) [.Name x p2] [] pos) (cst (.lst zs)) :=
  (pe_callTy call_list_of hg hm hv (pa_cons (pe_glob (v := .ref aK) hgK hmK rfl hd2) pa_nil he) (by decide) (by decide) he hpl).weak fun σ H Q ⟨P, env, z, hs, hf, q⟩ => by
    cases hf
    exact ⟨aK, vs, rfl, .inr (hK.sq H), fun l nl => q _ _ (same_new nl) (.lst (hs.hid.new nl) upd_same (hz _ _))⟩
theorem ve_isK {vs : List V} (hK : KTup X.K aK vs) (hgK : Gl X x) (hmK : X.mg x = some (.ref aK)) (hg2 : Gl X "tuple") (hm2 : X.mg "tuple" = none) (hv2 : bootBuiltins "tuple" = some (.type "tuple")) (hg : Gl X "isinstance") (hm : X.mg "isinstance" = none) (hv : bootBuiltins "isinstance" = some (.builtin "isinstance")) (hd2 : (x == ("__debug__" : Str)) = false := by decide)
    (he : starEach [.Name x p1, .Name "tuple" p2] X.env = (false, eval (.Name x p1) X.env) :: starEach [.Name "tuple" p2] X.env := by rfl) (he2 : starEach [.Name "tuple" p2] X.env = (false, eval (.Name "tuple" p2) X.env) :: starEach [] X.env := by rfl) (hpl : (backTo pos (starEach [.Name "tuple" p2] X.env)).any (·.1) = false := by rfl) :
    VE X cm (.Call (.Name "isinstance" p) [.Name x p1, .Name "tuple" p2] [] pos) (cst (.bl true)) :=
  (pe_callB call_isi hg hm hv (pa_cons (pe_glob (v := .ref aK) hgK hmK rfl hd2) (pa_cons (pe_bltn (v := .ty "tuple") hg2 hm2 hv2 rfl (by decide) (by decide)) pa_nil he2) he) (by decide) (by decide) he hpl).weak fun σ H Q ⟨P, env, z, hs, hf, q⟩ => by
    cases hf
    obtain ⟨o, its, n, h1, h2, _⟩ := hK
    exact ⟨.ref aK, .ty "tuple", .type "tuple", .type "tuple", true, rfl, .ty "tuple", .kTuple h1 h2, kit_ty (show kitB "tuple" "tuple" = some true by decide +kernel), q _ H (Same.refl H) (.bl true)⟩
end
end Up

namespace Up
open PySem PySem.Spec PyProof.Rows L2
/-! ### tuples and dicts of the module, their values as trees: a tuple of the module is its place -/
def ofValue : Value → V
  | .none => .non
  | .bool b => .bl b
  | .int i _ => .int i
  | .str x _ => .str x
  | .bytes b _ => .byt b
  | .float b _ => .flt b
  | .ref a => .ref a
  | .type n => .ty n
  | _ => .non
theorem ofValue_eq {v : V} {z : Value} (a : L2.RelV v z) : ofValue z = v := by
  cases v <;> unfold L2.RelV at a <;> first
    | (subst a; rfl)
    | (obtain ⟨t, rfl⟩ := a; rfl)
theorem relV_inj {v u : V} {z : Value} (a : L2.RelV v z) (b : L2.RelV u z) : v = u := (ofValue_eq a).symm.trans (ofValue_eq b)
theorem vals_inj : ∀ {vs us : List V} {zs : List Value}, Vals vs zs → Vals us zs → vs = us
  | _, _, _, .nil, .nil => rfl
  | _, _, _, .cons a r, .cons b t => by rw [relV_inj a b, vals_inj r t]
theorem kTup_uniq {K : PySem.W.Frag} {a : Addr} {vs us : List V} (h : KTup K a vs) (k : KTup K a us) : vs = us := by
  obtain ⟨o, its, n, h1, h2, h3, h4, h5⟩ := h
  obtain ⟨o', its', n', k1, k2, k3, k4, k5⟩ := k
  rw [h1] at k1
  cases k1
  rw [h3] at k3
  cases k3
  exact vals_inj h5 k5
/-- the tree of a value of the module -/
def kV1 : V → Option Val
  | .str x => some (.str x)
  | .int i => some (.int i)
  | .bl b => some (.bl b)
  | .non => some .non
  | .ref a => some (.loc a)
  | _ => none
def kVs : List V → Option (List Val)
  | [] => some []
  | v :: vs => (kV1 v).bind fun x => (kVs vs).bind fun xs => some (x :: xs)
theorem kV1_re {cm : Cm} {v : V} {x : Val} (e : kV1 v = some x) (P : Addr → Prop) (H : Hp) : Re cm P H v x := by
  cases v <;> cases e
  · exact .non
  · exact .bl _
  · exact .int _
  · exact .str _
  · exact .loc _
theorem kVs_res {cm : Cm} : ∀ {vs : List V} {xs : List Val}, kVs vs = some xs → ∀ (P : Addr → Prop) (H : Hp), Res cm P H vs xs
  | [], xs, e, _, _ => by cases e; exact .nil
  | v :: vs, xs, e, P, H => by
    obtain ⟨x, e1, e⟩ := Option.bind_eq_some_iff.mp (show (kV1 v).bind _ = some xs from e)
    obtain ⟨ys, e2, e⟩ := Option.bind_eq_some_iff.mp e
    cases e
    exact .cons (kV1_re e1 P H) (kVs_res e2 P H)
open Classical in
/-- what the tuple of the module at a place holds -/
noncomputable def kTab (K : PySem.W.Frag) (a : Addr) : Option (List Val) := if h : ∃ vs, KTup K a vs then kVs h.choose else none
theorem kTab_eq {K : PySem.W.Frag} {a : Addr} {vs : List V} (h : KTup K a vs) : kTab K a = kVs vs := by
  unfold kTab
  have e : ∃ vs, KTup K a vs := ⟨vs, h⟩
  rw [dif_pos e, kTup_uniq e.choose_spec h]
theorem kTab_some {K : PySem.W.Frag} {a : Addr} {xs : List Val} (h : kTab K a = some xs) : ∃ vs, KTup K a vs ∧ kVs vs = some xs := by
  unfold kTab at h
  by_cases e : ∃ vs, KTup K a vs
  · rw [dif_pos e] at h
    exact ⟨_, e.choose_spec, h⟩
  · rw [dif_neg e] at h
    cases h
open Classical in
/-- a text's value in the dict of the module -/
noncomputable def kGet (K : PySem.W.Frag) (w : World) (d : Addr) (x : Str) : Option Val := if h : ∃ v, KDct K w d x v then kV1 h.choose else none
theorem kDct_uniq {K : PySem.W.Frag} {w : World} {d : Addr} {x : Str} {v u : V} (h : KDct K w d x v) (k : KDct K w d x u) : v = u := by
  obtain ⟨es, n, z, h1, h2, h3, h4⟩ := h
  obtain ⟨es', n', z', k1, k2, k3, k4⟩ := k
  rw [h3] at k3
  cases k3
  exact relV_inj h4 k4
theorem kGet_eq {K : PySem.W.Frag} {w : World} {d : Addr} {x : Str} {v : V} (h : KDct K w d x v) : kGet K w d x = kV1 v := by
  unfold kGet
  have e : ∃ v, KDct K w d x v := ⟨v, h⟩
  rw [dif_pos e, kDct_uniq e.choose_spec h]
theorem kGet_some {K : PySem.W.Frag} {w : World} {d : Addr} {x : Str} {z : Val} (h : kGet K w d x = some z) : ∃ v, KDct K w d x v ∧ kV1 v = some z := by
  unfold kGet at h
  by_cases e : ∃ v, KDct K w d x v
  · rw [dif_pos e] at h
    exact ⟨_, e.choose_spec, h⟩
  · rw [dif_neg e] at h
    cases h
section
variable {X : Cx} {cm : Cm} {a b e : Expr} {f g : En → Option Val} {pos : Pos}
theorem ve_kglob {x : Str} {d : Addr} (hg : Gl X x) (hm : X.mg x = some (.ref d)) (hd : (x == ("__debug__" : Str)) = false := by decide) : VE X cm (.Name x pos) (cst (.loc d)) :=
  (pe_glob (v := .ref d) hg hm rfl hd).weak fun σ H Q ⟨P, env, x, hs, hf, q⟩ => by
    cases hf
    exact q _ H (Same.refl H) (.loc d)
noncomputable def ixKD (K : PySem.W.Frag) (w : World) : Val → Val → Option Val
  | .loc d, .str x => kGet K w d x
  | _, _ => none
theorem ixKD_some {K : PySem.W.Frag} {w : World} {x y z : Val} (h : ixKD K w x y = some z) : ∃ d s, x = .loc d ∧ y = .str s ∧ kGet K w d s = some z := by
  unfold ixKD at h
  split at h
  · exact ⟨_, _, rfl, rfl, h⟩
  · cases h
theorem Re.loc_ {cm : Cm} {P : Addr → Prop} {H : Hp} {v : V} {d : Addr} (h : Re cm P H v (.loc d)) : v = .ref d := by cases h; rfl
theorem ov_ixKD {K : PySem.W.Frag} {w : World} : OpV cm (rIxD K w) (ixKD K w) := fun P x y z v u H Q e rx ry q => by
  obtain ⟨d, s, rfl, rfl, e⟩ := ixKD_some e
  obtain ⟨r, h1, h2⟩ := kGet_some e
  cases Re.loc_ rx
  cases Re.str_ ry
  exact ⟨d, s, r, rfl, rfl, h1, q _ _ (Same.refl H) (kV1_re h2 P H)⟩
/-- a tuple of the module, walked -/
noncomputable def itK (K : PySem.W.Frag) (f : En → Option Val) : En → Option (List Val) := fun env => (f env).bind fun x => match x with
  | .loc a => kTab K a
  | _ => none
theorem vi_tupK {tg : Expr} (he : VE X cm e f) : VI X cm tg e (itK X.K f) := (pi_tup he).weak fun σ H R ⟨P, env, z, hs, hf, q⟩ => by
  obtain ⟨x, ex, hf⟩ := Option.bind_eq_some_iff.mp hf
  refine ⟨P, env, x, hs, ex, fun v H1 s1 r1 => ?_⟩
  split at hf
  · obtain ⟨vs, h1, h2⟩ := kTab_some hf
    cases Re.loc_ r1
    exact ⟨_, rfl, ⟨vs, h1.sq H1⟩, q _ H1 s1 (vi_of walk_tup (fun H k => h1.sq H) (kVs_res h2 P H1))⟩
  · cases hf
noncomputable def setTupK (K : PySem.W.Frag) (n : Nat) (bs : List Val → Option (List (Nat × Val))) : Val → Option (List (Nat × Val)) := fun x => match x with
  | .loc a => (kTab K a).bind fun xs => if xs.length = n then bs xs else none
  | _ => none
theorem tg_tupK2 {K : PySem.W.Frag} {n : Nat} {gs : TGs} {bs : List Val → Option (List (Nat × Val))} {is : List Nat} (h : TgsV cm gs bs is) : TgV cm (gTup K n gs) (setTupK K n bs) is := ⟨fun P H v x ps r e => by
  unfold setTupK at e
  split at e
  · obtain ⟨xs, e1, e⟩ := Option.bind_eq_some_iff.mp e
    split at e
    · rename_i l
      obtain ⟨vs, h1, h2⟩ := kTab_some e1
      cases Re.loc_ r
      have rs := kVs_res (cm := cm) h2 P H
      obtain ⟨qs, k1, k2, k3⟩ := h.go P H vs _ ps rs e
      exact ⟨qs, k1, k2, fun σ Q q => ⟨_, vs, rfl, h1.sq H, by rw [Res.length rs]; exact l, k3 σ Q q⟩⟩
    · cases e
  · cases e⟩
end
end Up

namespace Up
open PySem PySem.Spec PyProof.Rows L2 TL
/-! ### what the module of texts keeps -/
def wordsT : List (Str × Str) := [("s", "send"), ("g", "get")]
def endsT : List Str := ["figure", "number", "empty"]
def nextsT : List (Str × List (Str × Str)) :=
  [("row", [("sg", "letter"), ("-", "empty")]), ("letter", [("0", "number"), ("123456789", "figure")]), ("figure", [("0123456789", "number"), (" ", "blank")]), ("number", [(" ", "blank")]),
   ("blank", [("sg", "letter"), ("/", "stroke")]), ("empty", [(" ", "gap")]), ("gap", [("/", "stroke")]), ("stroke", [(" ", "row")])]
def WordsK (K : PySem.W.Frag) (w : World) (d : Addr) : Prop := ∀ p ∈ wordsT, KDct K w d p.1 (.str p.2)
def EndsK (K : PySem.W.Frag) (d : Addr) : Prop := KTup K d (endsT.map .str)
def NextsK (K : PySem.W.Frag) (w : World) (d : Addr) : Prop := ∀ p ∈ nextsT, ∃ (a : Addr) (bs : List Addr), KDct K w d p.1 (.ref a) ∧ KTup K a (bs.map .ref) ∧ bs.length = p.2.length ∧ ∀ (i : Nat) (b : Addr) (r : Str × Str), bs[i]? = some b → p.2[i]? = some r → KTup K b [.str r.1, .str r.2]
def wordF (g : En → Option Val) : En → Option Val := fun env => (g env).bind fun x => match x with
  | .str z => (wordsT.lookup z).map .str
  | _ => none
theorem mem_of_lookup {α β : Type} [BEq α] [LawfulBEq α] {k : α} {v : β} : ∀ {l : List (α × β)}, l.lookup k = some v → (k, v) ∈ l
  | [], h => by cases h
  | (k', v') :: l, h => by
    rw [List.lookup_cons] at h
    split at h
    · rename_i e
      cases h
      rw [eq_of_beq e]
      exact List.mem_cons_self ..
    · exact List.mem_cons_of_mem _ (mem_of_lookup h)
section
variable {X : Cx} {cm : Cm} {a b e : Expr} {f g : En → Option Val} {pos p1 : Pos}
theorem ve_word {x : Str} {d : Addr} (hg : Gl X x) (hm : X.mg x = some (.ref d)) (kW : WordsK X.K X.w d) (hb : VE X cm b g) (hs : PlainIx b) (hd : (x == ("__debug__" : Str)) = false := by decide) : VE X cm (.Subscript (.Name x p1) b pos) (wordF g) :=
  (pe_ix ix_kdict (pe_glob (v := .ref d) hg hm rfl hd) hb hs).weak fun σ H Q ⟨P, env, z, hsl, hf, q⟩ => by
    unfold wordF at hf
    obtain ⟨x, ex, hf⟩ := Option.bind_eq_some_iff.mp hf
    refine ⟨P, env, x, hsl, ex, fun v H1 s1 r1 => ?_⟩
    split at hf
    case h_2 => cases hf
    rename_i z
    obtain ⟨y, ey, rfl⟩ := Option.map_eq_some_iff.mp hf
    cases Re.str_ r1
    exact ⟨d, z, .str y, rfl, rfl, kW _ (mem_of_lookup ey), q _ _ s1 (.str y)⟩
def endF (g : En → Option Val) : En → Option Bool := fun env => (g env).bind fun x => match x with
  | .str z => some (!decide (z ∈ endsT))
  | _ => none
theorem inV_strs (z : Str) : ∀ l : List Str, inV (.str z) (l.map V.str) = decide (z ∈ l)
  | [] => by simp [inV]
  | y :: l => by
    have h := inV_strs z l
    unfold inV at h ⊢
    rw [List.map_cons, List.any_cons, h]
    by_cases c : z = y
    · subst c
      simp [eqV]
    · have c2 : y ≠ z := fun q => c q.symm
      simp [eqV, c, c2]
theorem vt_ends {x : Str} {d : Addr} (hg : Gl X x) (hm : X.mg x = some (.ref d)) (kE : EndsK X.K d) (ha : VE X cm a f) (hd : (x == ("__debug__" : Str)) = false := by decide) (hmk : behindInMarks .NotIn (.Name x p1) = false := by rfl) : VT X cm (.Compare a [.NotIn] [.Name x p1] pos) (endF f) :=
  (pt_cmpR op_notIn_seq ha (pe_glob (v := .ref d) hg hm rfl hd) hmk).weak fun σ H Q ⟨P, env, z, hsl, hf, q⟩ => by
    unfold endF at hf
    obtain ⟨x, ex, hf⟩ := Option.bind_eq_some_iff.mp hf
    refine ⟨P, env, x, hsl, ex, fun v H1 s1 r1 => ?_⟩
    split at hf
    case h_2 => cases hf
    rename_i z
    cases hf
    cases Re.str_ r1
    refine ⟨d, endsT.map .str, rfl, .inr (kE.sq H1), rfl, rfl, _, rfl, ?_⟩
    rw [inV_strs]
    exact q _ s1
end
/-- the place behind a character -/
def nextF : List Val → Option Val
  | [.str a, .str ⟨⟨[c]⟩⟩] => (nextsT.lookup a).map fun rows => match rows.find? fun r => decide (c ∈ r.1.cps.toList) with
    | some r => .str r.2
    | none => .non
  | _ => none
abbrev f_next_step : List Val → Option Val := nextF
end Up

namespace Up
open PySem PySem.Spec PyProof.Rows L2 TL
abbrev st_next_step : Stmt := (topS 31)
theorem ss_next_step : FnScope ["step", "character", "characters", "later"] ["step", "character"] (defScope st_next_step) := ⟨rfl, rfl, rfl, by decide +kernel, rfl, by decide +kernel, by decide +kernel⟩
noncomputable def g_next_step (K : PySem.W.Frag) (w : World) (d : Addr) : En → Option Out := seqG (forG [] (itK K (bin2 (ixKD K w) (cst (.loc d)) (getE 0))) (setTupK K 2 (setCo (setV 2) (setCo (setV 3) setNo))) (ifG (tst (bin2 inSgn (getE 1) (getE 2))) (retG (getE 3)) nilG)) (retG (cst .non))
theorem df_next_raw {P : Program} {w : World} {K : PySem.W.Frag} {mg : Str → Option Value} {base : Heap} {cm : Cm} {f d : Addr} {fd : FuncData} (D : Dd K mg "next_step" st_next_step ["step", "character"] f fd) (hN : mg "NEXTS" = some (.ref d)) : Df P w K mg base cm "next_step" 1 ["step", "character"] (runV 4 2 (g_next_step K w d)) f fd :=
  okD [] D ss_next_step (by decide) fun cdv A outer s H E hr hu => (sv_cons (sv_for PassesOwn.never rfl (vi_tupK (ve_ix ix_kdict ov_ixKD (ve_kglob (by rfl) hN) (vv 0) (fun _ _ => rfl))) (pg_tup (n := 2) (by rfl) (pgs_cons (pg_name (i := 2) ss_next_step.nd rfl (Or.inl rfl)) (pgs_cons (pg_name (i := 3) ss_next_step.nd rfl (Or.inl rfl)) pgs_nil))) (sv_one (sv_if (vt_cmp op_in_sign ov_inSgn (vv 1) (vv 2) (by rfl)) (sv_one (sv_ret (vv 3))) sv_nil)) (tg_tupK2 (tgs_cons tg_name (tgs_cons tg_name tgs_nil))) (by decide)) (sv_one (sv_ret ve_non)))
end Up

namespace Up
open PySem PySem.Spec PyProof.Rows L2 TL
theorem Df.of {P : Program} {w : World} {K : PySem.W.Frag} {mg : Str → Option Value} {base : Heap} {cm : Cm} {x : Str} {k : Nat} {ps : List Str} {F G : List Val → Option Val} {f : Addr} {fd : FuncData} (d : Df P w K mg base cm x k ps F f fd) (h : ∀ xs z, G xs = some z → F xs = some z) : Df P w K mg base cm x k ps G f fd := ⟨d.ok.imp fun vs H Q E => spV.imp h vs H Q E, d.at_, d.kp, d.bd⟩
theorem kVs_refs : ∀ bs : List Addr, kVs (bs.map V.ref) = some (bs.map Val.loc)
  | [] => rfl
  | b :: bs => by
    show (some (Val.loc b)).bind _ = _
    rw [Option.bind_some, kVs_refs bs] <;> rfl
noncomputable abbrev nxM (K : PySem.W.Frag) : Val → Option (List (Nat × Val)) := setTupK K 2 (setCo (setV 2) (setCo (setV 3) setNo))
abbrev nxB : En → Option Out := ifG (tst (bin2 inSgn (getE 1) (getE 2))) (retG (getE 3)) nilG
theorem nx_turn {K : PySem.W.Frag} {b : Addr} {r : Str × Str} {s y o1 o2 : Option Val} (h : KTup K b [.str r.1, .str r.2]) : nxM K (.loc b) = some [(2, .str r.1), (3, .str r.2)] := by
  show (kTab K b).bind _ = _
  rw [kTab_eq h]
  rfl
theorem nx_body {a : Str} {c : Nat} {r : Str × Str} : nxB [some (.str a), some (.str ⟨#[c]⟩), some (.str r.1), some (.str r.2)] = if c ∈ r.1.cps.toList then some (.rt (.str r.2)) else some (.nx [some (.str a), some (.str ⟨#[c]⟩), some (.str r.1), some (.str r.2)]) := by
  have e : tst (bin2 inSgn (getE 1) (getE 2)) [some (.str a), some (.str ⟨#[c]⟩), some (.str r.1), some (.str r.2)] = some (decide (c ∈ r.1.cps.toList)) := rfl
  show (tst (bin2 inSgn (getE 1) (getE 2)) [some (.str a), some (.str ⟨#[c]⟩), some (.str r.1), some (.str r.2)]).bind _ = _
  rw [e]
  by_cases q : c ∈ r.1.cps.toList
  · rw [if_pos q, decide_eq_true q] <;> rfl
  · rw [if_neg q, decide_eq_false q] <;> rfl
theorem nx_loop {K : PySem.W.Frag} {a : Str} {c : Nat} : ∀ (bs : List Addr) (rows : List (Str × Str)) (o1 o2 : Option Val), bs.length = rows.length → (∀ (i : Nat) (b : Addr) (r : Str × Str), bs[i]? = some b → rows[i]? = some r → KTup K b [.str r.1, .str r.2]) →
    ∃ env', forGo (nxM K) nxB (bs.map .loc) [some (.str a), some (.str ⟨#[c]⟩), o1, o2] = match rows.find? fun r => decide (c ∈ r.1.cps.toList) with
      | some r => some (.rt (.str r.2))
      | none => some (.nx env')
  | [], [], o1, o2, _, _ => ⟨_, rfl⟩
  | [], _ :: _, _, _, l, _ => by cases l
  | _ :: _, [], _, _, l, _ => by cases l
  | b :: bs, r :: rows, o1, o2, l, h => by
    have h0 := h 0 b r rfl rfl
    have g : forGo (nxM K) nxB ((b :: bs).map .loc) [some (.str a), some (.str ⟨#[c]⟩), o1, o2] = (nxB [some (.str a), some (.str ⟨#[c]⟩), some (.str r.1), some (.str r.2)]).bind fun o => match o with
        | .nx env' => forGo (nxM K) nxB (bs.map .loc) env'
        | .ct env' => forGo (nxM K) nxB (bs.map .loc) env'
        | .bk env' => some (.nx env')
        | .rt y => some (.rt y) := by
      rw [List.map_cons, forGo, nx_turn (s := none) (y := none) (o1 := none) (o2 := none) h0]
      rfl
    rw [g, nx_body]
    by_cases q : c ∈ r.1.cps.toList
    · rw [if_pos q, List.find?_cons_of_pos (by simpa using q)]
      exact ⟨[], rfl⟩
    · rw [if_neg q, List.find?_cons_of_neg (by simpa using q)]
      exact nx_loop bs rows _ _ (by simpa using l) fun i b' r' e1 e2 => h (i + 1) b' r' e1 e2
theorem nextF_some {xs : List Val} {z : Val} (h : nextF xs = some z) : ∃ a c rows, xs = [.str a, .str ⟨#[c]⟩] ∧ nextsT.lookup a = some rows ∧ z = match rows.find? fun r => decide (c ∈ r.1.cps.toList) with
    | some r => .str r.2
    | none => .non := by
  unfold nextF at h
  split at h
  · obtain ⟨rows, e, rfl⟩ := Option.map_eq_some_iff.mp h
    exact ⟨_, _, rows, rfl, e, rfl⟩
  · cases h
theorem df_next_step {P : Program} {w : World} {K : PySem.W.Frag} {mg : Str → Option Value} {base : Heap} {cm : Cm} {f d : Addr} {fd : FuncData} (D : Dd K mg "next_step" st_next_step ["step", "character"] f fd) (_T : TxtV K mg cm) (hN : mg "NEXTS" = some (.ref d)) (kN : NextsK K w d) : Df P w K mg base cm "next_step" 1 ["step", "character"] f_next_step f fd :=
  (df_next_raw D hN).of fun xs z h => by
    obtain ⟨a, c, rows, rfl, e, rfl⟩ := nextF_some h
    obtain ⟨p, bs, k1, k2, k3, k4⟩ := kN _ (mem_of_lookup e)
    have e1 : itK K (bin2 (ixKD K w) (cst (.loc d)) (getE 0)) [some (.str a), some (.str ⟨#[c]⟩), none, none] = some (bs.map .loc) := by
      show ((kGet K w d a).bind _) = _
      rw [kGet_eq k1]
      show kTab K p = _
      rw [kTab_eq k2, kVs_refs]
    obtain ⟨env', e2⟩ := nx_loop (K := K) (a := a) (c := c) bs rows none none k3 k4
    have e3 : forG [] (itK K (bin2 (ixKD K w) (cst (.loc d)) (getE 0))) (nxM K) nxB [some (.str a), some (.str ⟨#[c]⟩), none, none] = match rows.find? fun r => decide (c ∈ r.1.cps.toList) with
        | some r => some (.rt (.str r.2))
        | none => some (.nx env') := by
      show ((itK K (bin2 (ixKD K w) (cst (.loc d)) (getE 0)) [some (.str a), some (.str ⟨#[c]⟩), none, none]).bind _) = _
      rw [e1, Option.bind_some]
      exact e2
    have e4 : g_next_step K w d [some (.str a), some (.str ⟨#[c]⟩), none, none] = (forG [] (itK K (bin2 (ixKD K w) (cst (.loc d)) (getE 0))) (nxM K) nxB [some (.str a), some (.str ⟨#[c]⟩), none, none]).bind _ := rfl
    show (g_next_step K w d [some (.str a), some (.str ⟨#[c]⟩), none, none]).bind _ = _
    rw [e4, e3]
    cases rows.find? fun r => decide (c ∈ r.1.cps.toList) <;> rfl
end Up

namespace Up
open PySem PySem.Spec PyProof.Rows L2
abbrev st_row_text : Stmt := (topS 27)
theorem ss_row_text : FnScope ["row", "word", "letter"] ["row"] (defScope st_row_text) := ⟨rfl, rfl, rfl, by decide +kernel, rfl, by decide +kernel, by decide +kernel⟩
def g_row_text : En → Option Out := (seqG (ifG (tst (bin2 (eqF false) (appF lenF (consF (getE 0) noF)) (cst (.int 0)))) (retG (cst (.str "-"))) nilG) (retG (bin2 joinF (cst (.str " ")) (fun env => ((lcF (itT (getE 0)) (setTup 2 (setCo (setV 1) (setCo (setV 2) setNo))) yesF (fmt2F (bin2 ixS (getE 1) (cst (.int 0))) (getE 2)) [1, 2]) env).map .lst))))
def f_row_text : List Val → Option Val := runV 3 1 g_row_text
theorem df_row_text {P : Program} {w : World} {K : PySem.W.Frag} {mg : Str → Option Value} {base : Heap} {cm : Cm} {f : Addr} {fd : FuncData} (D : Dd K mg "row_text" st_row_text ["row"] f fd) (T : TxtV K mg cm) : Df P w K mg base cm "row_text" 1 ["row"] f_row_text f fd :=
  okD [] D ss_row_text (by decide) fun cdv A outer s H E hr hu => (sv_cons (sv_if (vt_cmp (op_eqD hu) ov_eq (ve_callB call_len_seq cv_len (by rfl) T.len PySem.boot_len (va_cons (vv 0) va_nil)) ve_int (nomark _)) (sv_one (sv_ret ve_str)) sv_nil) (sv_one (sv_ret (ve_join ve_str (vn_ve (vn_lc (own := [("word", 1), ("letter", 2)]) rfl ss_row_text.nd (vi_tup (vv 0)) (blkOk_by (own := [("word", 1), ("letter", 2)]) (N := ["row", "word", "letter"]) (sc := defScope st_row_text) (by decide +kernel)) (fun _ _ _ _ _ => (pg_tupK (K := K) (n := 2) rfl (by rfl) (pgs_cons (pg_name (i := 1) ss_row_text.nd rfl (Or.inl rfl)) (pgs_cons (pg_name (i := 2) ss_row_text.nd rfl (Or.inl rfl)) pgs_nil)))) (fun _ _ _ _ _ => pts_nil) (fun _ _ _ _ _ => (ve_fmt2 (ve_ixS (vv 1) ve_int (fun _ _ => rfl)) (vv 2))) (tg_tup (K := K) (tgs_cons tg_name (tgs_cons tg_name tgs_nil))) (by decide) tt_yes))))))
abbrev st_talk_text : Stmt := (topS 26)
theorem ss_talk_text : FnScope ["talk", "row"] ["talk"] (defScope st_talk_text) := ⟨rfl, rfl, rfl, by decide +kernel, rfl, by decide +kernel, by decide +kernel⟩
def g_talk_text : En → Option Out := (retG (bin2 joinF (cst (.str " / ")) (fun env => ((lcF (itT (fldF 0 "rows" (getE 0))) (setV 1) yesF (appF f_row_text (consF (getE 1) noF)) [1]) env).map .lst)))
def f_talk_text : List Val → Option Val := runV 2 1 g_talk_text
theorem df_talk_text {P : Program} {w : World} {K : PySem.W.Frag} {mg : Str → Option Value} {base : Heap} {cm : Cm} {f : Addr} {fd : FuncData} (D : Dd K mg "talk_text" st_talk_text ["talk"] f fd) (T : TxtV K mg cm) {fa_row_text : Addr} {fd_row_text : FuncData} (d_row_text : Df P w K mg base cm "row_text" 1 ["row"] f_row_text fa_row_text fd_row_text) : Df P w K mg base cm "talk_text" 2 ["talk"] f_talk_text f fd :=
  okD [] D ss_talk_text (by decide) fun cdv A outer s H E hr hu => (sv_one (sv_ret (ve_join ve_str (vn_ve (vn_lc (own := [("row", 1)]) rfl ss_talk_text.nd (vi_tup (ve_fld (c := 0) T.cl T.n_rows (vv 0) rfl)) (blkOk_by (own := [("row", 1)]) (N := ["talk", "row"]) (sc := defScope st_talk_text) (by decide +kernel)) (fun _ _ _ _ _ => (pg_name (i := 1) ss_talk_text.nd rfl (Or.inl rfl))) (fun _ _ _ _ _ => pts_nil) (fun _ _ _ _ _ => (ve_callD d_row_text (hr.mono (by decide)) (by rfl) (va_cons (vv 1) va_nil))) tg_name (by decide) tt_yes)))))
abbrev st_read_row : Stmt := (topS 29)
theorem ss_read_row : FnScope ["text", "part"] ["text"] (defScope st_read_row) := ⟨rfl, rfl, rfl, by decide +kernel, rfl, by decide +kernel, by decide +kernel⟩
def g_read_row : En → Option Out := (seqG (ifG (tst (bin2 (eqF false) (getE 0) (cst (.str "-")))) (retG (lstF noF)) nilG) (retG (fun env => ((lcF (itL (bin2 splitF (getE 0) (cst (.str " ")))) (setV 1) yesF (tupF (consF (wordF (bin2 ixS (getE 1) (cst (.int 0)))) (consF (appF intSF (consF (slF cutSF (getE 1) (partF (cst (.int 1))) noPart) noF)) noF))) [1]) env).map .lst)))
def f_read_row : List Val → Option Val := runV 2 1 g_read_row
theorem df_read_row {P : Program} {w : World} {K : PySem.W.Frag} {mg : Str → Option Value} {base : Heap} {cm : Cm} {f : Addr} {fd : FuncData} (D : Dd K mg "read_row" st_read_row ["text"] f fd) (T : TxtV K mg cm) {dW : Addr} (hW : mg "WORDS" = some (.ref dW)) (kW : WordsK K w dW) : Df P w K mg base cm "read_row" 1 ["text"] f_read_row f fd :=
  okD [] D ss_read_row (by decide) fun cdv A outer s H E hr hu => (sv_cons (sv_if (vt_cmp (op_eqD hu) ov_eq (vv 0) ve_str (nomark _)) (sv_one (sv_ret (ve_lst va_nil))) sv_nil) (sv_one (sv_ret (vn_ve (vn_lc (own := [("part", 1)]) rfl ss_read_row.nd (vi_list (ve_split (vv 0) ve_str)) (blkOk_by (own := [("part", 1)]) (N := ["text", "part"]) (sc := defScope st_read_row) (by decide +kernel)) (fun _ _ _ _ _ => (pg_name (i := 1) ss_read_row.nd rfl (Or.inl rfl))) (fun _ _ _ _ _ => pts_nil) (fun _ _ _ _ _ => (ve_tup (va_cons (ve_word (by rfl) hW kW (ve_ixS (vv 1) ve_int (fun _ _ => rfl)) (fun _ _ => rfl)) (va_cons (ve_callTy call_int_str cv_intS (by rfl) T.int bt_int (va_cons (ve_slice sl_str vs_str (vv 1) (vo_some ve_int) vo_none) va_nil)) va_nil)))) tg_name (by decide) tt_yes)))))
abbrev st_check_text : Stmt := (topS 30)
theorem ss_check_text : FnScope ["text", "step", "place", "character"] ["text"] (defScope st_check_text) := ⟨rfl, rfl, rfl, by decide +kernel, rfl, by decide +kernel, by decide +kernel⟩
def g_check_text : En → Option Out := (seqG (ifG (notT (tst (isiF "str" (getE 0)))) nevG nilG) (seqG (setG 1 (stF [] (cst (.str "row")))) (seqG (forG [] (enuSt (consF (getE 0) noF)) (setTup 2 (setCo (setV 2) (setCo (setV 3) setNo))) (seqG (setG 1 (stF [] (appF f_next_step (consF (getE 1) (consF (getE 3) noF))))) (ifG (tst (bin2 (isNV false) (getE 1) (cst .non))) nevG nilG))) (ifG (endF (getE 1)) nevG nilG))))
def f_check_text : List Val → Option Val := runV 4 1 g_check_text
theorem df_check_text {P : Program} {w : World} {K : PySem.W.Frag} {mg : Str → Option Value} {base : Heap} {cm : Cm} {f : Addr} {fd : FuncData} (D : Dd K mg "check_text" st_check_text ["text"] f fd) (T : TxtV K mg cm) {fa_next_step : Addr} {fd_next_step : FuncData} (d_next_step : Df P w K mg base cm "next_step" 1 ["step", "character"] f_next_step fa_next_step fd_next_step) {dE : Addr} (hE : mg "ENDS" = some (.ref dE)) (kE : EndsK K dE) : Df P w K mg base cm "check_text" 2 ["text"] f_check_text f fd :=
  okD [] D ss_check_text (by decide) fun cdv A outer s H E hr hu => (sv_cons (sv_if (vt_not (vt_val (ve_isi (T := "str") (by rfl) T.str bt_str (by rfl) T.isinstance bb_isinstance (vv 0)))) (sv_one sv_never) sv_nil) (sv_cons (sv_set (i := 1) ss_check_text.nd rfl (Or.inl rfl) (by decide) ve_str sr_st) (sv_cons (sv_for PassesOwn.never rfl (vi_enSt (by rfl) T.enumerate (va_cons (vv 0) va_nil)) (pg_tup (n := 2) (by rfl) (pgs_cons (pg_name (i := 2) ss_check_text.nd rfl (Or.inl rfl)) (pgs_cons (pg_name (i := 3) ss_check_text.nd rfl (Or.inl rfl)) pgs_nil))) (sv_cons (sv_set (i := 1) ss_check_text.nd rfl (Or.inl rfl) (by decide) (ve_callD d_next_step (hr.mono (by decide)) (by rfl) (va_cons (vv 1) (va_cons (vv 3) va_nil))) sr_st) (sv_one (sv_if (vt_cmp op_isN ov_isN (vv 1) ve_non (nomark _)) (sv_one sv_never) sv_nil))) (tg_tup (tgs_cons tg_name (tgs_cons tg_name tgs_nil))) (by decide)) (sv_one (sv_if (vt_ends (by rfl) hE kE (vv 1)) (sv_one sv_never) sv_nil)))))
abbrev st__law_text : Stmt := (topS 39)
theorem ss__law_text : FnScope ["rows", "found", "row", "word", "letter"] ["rows"] (defScope st__law_text) := ⟨rfl, rfl, rfl, by decide +kernel, rfl, by decide +kernel, by decide +kernel⟩
def g__law_text : En → Option Out := (seqG (newG 1 (stN [1] (fun env => (noF env).bind fun xs => if xs.length ≤ most then some xs else none))) (seqG (forG [1] (itT (getE 0)) (setV 2) (appG 1 (stF [1] (iteF (tst (bin2 (eqF true) (getE 2) (tupF noF))) (bin2 joinF (cst (.str " ")) (fun env => ((lcF (itT (getE 2)) (setTup 2 (setCo (setV 3) (setCo (setV 4) setNo))) yesF (bin2 addStr (slF cutSF (getE 3) noPart (partF (cst (.int 1)))) (appF strIF (consF (getE 4) noF))) [3, 4]) env).map .lst)) (cst (.str "-")))))) (retG (bin2 joinF (cst (.str " / ")) (getE 1)))))
def f__law_text : List Val → Option Val := runV 5 1 g__law_text
theorem df__law_text {P : Program} {w : World} {K : PySem.W.Frag} {mg : Str → Option Value} {base : Heap} {cm : Cm} {f : Addr} {fd : FuncData} (D : Dd K mg "_law_text" st__law_text ["rows"] f fd) (T : TxtV K mg cm) : Df P w K mg base cm "_law_text" 1 ["rows"] f__law_text f fd :=
  okD [1] D ss__law_text (by decide) fun cdv A outer s H E hr hu => (sv_cons (sv_new (i := 1) ss__law_text.nd rfl (Or.inl rfl) (by decide) (vn_lst va_nil) sn_st) (sv_cons (sv_for PassesOwn.never rfl (vi_tup (vv 0)) (pg_name (i := 2) ss__law_text.nd rfl (Or.inl rfl)) (sv_one (sv_app0 (i := 1) (ps_expr (pe_bm PySem.F.plainAttrs_list PySem.F.slot_list_append PySem.F.type_list_append mt_append (pv 1) (pa_cons (ve_ite (vt_cmp (op_neD hu) ov_ne (vv 2) (ve_tup va_nil) (nomark _)) (ve_join ve_str (vn_ve (vn_lc (own := [("word", 3), ("letter", 4)]) rfl ss__law_text.nd (vi_tup (vv 2)) (blkOk_by (own := [("word", 3), ("letter", 4)]) (N := ["rows", "found", "row", "word", "letter"]) (sc := defScope st__law_text) (by decide +kernel)) (fun _ _ _ _ _ => (pg_tupK (K := K) (n := 2) rfl (by rfl) (pgs_cons (pg_name (i := 3) ss__law_text.nd rfl (Or.inl rfl)) (pgs_cons (pg_name (i := 4) ss__law_text.nd rfl (Or.inl rfl)) pgs_nil)))) (fun _ _ _ _ _ => pts_nil) (fun _ _ _ _ _ => (ve_op op_add_str ov_addStr (ve_slice sl_str vs_str (vv 3) vo_none (vo_some ve_int)) (ve_callTy call_str_int cv_strI (by rfl) T.str bt_str (va_cons (vv 4) va_nil)))) (tg_tup (K := K) (tgs_cons tg_name (tgs_cons tg_name tgs_nil))) (by decide) tt_yes))) ve_str) pa_nil))) (by decide) sr_st)) tg_name (by decide)) (sv_one (sv_ret (ve_join ve_str (vv 1))))))
end Up

namespace Up
open PySem PySem.Spec PyProof.Rows L2
/-! ### isinstance(x, Talk) of a talk -/
def isTF (f : En → Option Val) : En → Option Val := fun env => (f env).bind fun x => match x with
  | .ins 0 _ _ => some (.bl true)
  | _ => none
section
variable {X : Cx} {cm : Cm} {a : Expr} {f : En → Option Val} {pos p p1 : Pos} {x : Str}
theorem ve_isT {C : Addr} (hC : cm.cls 0 = C) (cl : Cls X.K (cm.cls 0)) (JT : IsTalk X.K C) (hgK : Gl X x) (hmK : X.mg x = some (.ref C)) (hg : Gl X "isinstance") (hm : X.mg "isinstance" = none) (hv : bootBuiltins "isinstance" = some (.builtin "isinstance")) (ha : VE X cm a f) (hd2 : (x == ("__debug__" : Str)) = false := by decide)
    (he : starEach [a, .Name x p1] X.env = (false, eval a X.env) :: starEach [.Name x p1] X.env := by rfl) (he2 : starEach [.Name x p1] X.env = (false, eval (.Name x p1) X.env) :: starEach [] X.env := by rfl) (hpl : (backTo pos (starEach [.Name x p1] X.env)).any (·.1) = false := by rfl) :
    VE X cm (.Call (.Name "isinstance" p) [a, .Name x p1] [] pos) (isTF f) :=
  (pe_callB call_isi hg hm hv (pa_cons ha (pa_cons (pe_glob (v := .ref C) hgK hmK rfl hd2) pa_nil he2) he) (by decide) (by decide) he hpl).weak fun σ H Q ⟨P, env, z, hs, hf, q⟩ => by
    unfold isTF at hf
    obtain ⟨y, ey, hf⟩ := Option.bind_eq_some_iff.mp hf
    refine ⟨P, env, y, hs, ey, fun v H1 s1 r1 => ?_⟩
    split at hf
    case h_2 => cases hf
    cases hf
    cases r1 with
    | ins nP hh r0 =>
      subst hC
      exact ⟨_, .ref (cm.cls 0), .ref (cm.cls 0), .ref (cm.cls 0), true, rfl, .own _, .base (.ins hh cl JT.ha JT.hn JT.htk JT.hm), JT.self, q _ H1 s1 (.bl true)⟩
end
end Up

namespace Up
open PySem PySem.Spec PyProof.Rows L2
abbrev st_read_talk : Stmt := (topS 28)
theorem ss_read_talk : FnScope ["text", "part"] ["text"] (defScope st_read_talk) := ⟨rfl, rfl, rfl, by decide +kernel, rfl, by decide +kernel, by decide +kernel⟩
noncomputable def g_read_talk : En → Option Out := (seqG (doG (appF f_check_text (consF (getE 0) noF))) (retG (appF f_TalkX (consF (fun env => ((lcF (itL (bin2 splitF (getE 0) (cst (.str " / ")))) (setV 1) yesF (appF f_read_row (consF (getE 1) noF)) [1]) env).map .lst) noF))))
noncomputable def f_read_talk : List Val → Option Val := runV 2 1 g_read_talk
theorem df_read_talk {P : Program} {w : World} {K : PySem.W.Frag} {mg : Str → Option Value} {base : Heap} {cm : Cm} {f : Addr} {fd : FuncData} (D : Dd K mg "read_talk" st_read_talk ["text"] f fd) (T : TxtV K mg cm) {fa_read_row : Addr} {fd_read_row : FuncData} (d_read_row : Df P w K mg base cm "read_row" 1 ["text"] f_read_row fa_read_row fd_read_row) {fa_check_text : Addr} {fd_check_text : FuncData} (d_check_text : Df P w K mg base cm "check_text" 2 ["text"] f_check_text fa_check_text fd_check_text)
    {C fI : Addr} {fdI : FuncData} (hC : cm.cls 0 = C) (MT : Mk K C fI) (GT : ∀ Ck, FnOk P w K mg base CX0 5 fI fdI ["self", "rows"] (spTInit C Sl0 Ck)) (bT : Binds K fdI ["self", "rows"] []) (TT : mg "Talk" = some (.ref C)) : Df P w K mg base cm "read_talk" 8 ["text"] f_read_talk f fd :=
  okD [] D ss_read_talk (by decide) fun cdv A outer s H E hr hu => (sv_cons (sv_do (ve_callD d_check_text (hr.mono (by decide)) (by rfl) (va_cons (vv 0) va_nil))) (sv_one (sv_ret (ve_make hC talkX_ok MT GT bT (hr.mono (by decide)) (by rfl) TT (va_cons (vn_ve (vn_lc (own := [("part", 1)]) rfl ss_read_talk.nd (vi_list (ve_split (vv 0) ve_str)) (blkOk_by (own := [("part", 1)]) (N := ["text", "part"]) (sc := defScope st_read_talk) (by decide +kernel)) (fun _ _ _ _ _ => (pg_name (i := 1) ss_read_talk.nd rfl (Or.inl rfl))) (fun _ _ _ _ _ => pts_nil) (fun _ _ _ _ _ => (ve_callD d_read_row (hr.mono (by decide)) (by rfl) (va_cons (vv 1) va_nil))) tg_name (by decide) tt_yes)) va_nil)))))
end Up

namespace Up
open PySem PySem.Spec PyProof.Rows L2
abbrev st_law : Stmt := (topS 40)
theorem ss_law : FnScope ["script", "m", "most", "hands", "rows", "text", "told", "two"] ["script"] (defScope st_law) := ⟨rfl, rfl, rfl, by decide +kernel, rfl, by decide +kernel, by decide +kernel⟩
noncomputable def lw_rest : DS := (seqD (forDS [] (puA (itT (tupF (consF (tupF (consF (cst (.int 3)) (consF (cst (.int 3)) noF))) (consF (tupF (consF (cst (.int 7)) (consF (cst (.int 6)) noF))) (consF (tupF (consF (cst (.int 12)) (consF (cst (.int 6)) noF))) noF)))))) (setTup 2 (setCo (setV 2) (setCo (setV 3) setNo))) (seqD (setD 4 (stD [] (callD w__law_rows (puA (consF (getE 1) (consF (getE 2) (consF (getE 3) noF))))))) (seqD (puS [] (setG 5 (stF [] (appF f__law_text (consF (getE 4) noF))))) (seqD (puS [] (setG 6 (stF [] (appF f_read_talk (consF (getE 5) noF))))) (ifD (puT (orT (tst (bin2 (eqF true) (appF reprF (consF (appF f_talk_text (consF (appF f_TalkX (consF (getE 4) noF)) noF)) noF)) (appF reprF (consF (getE 5) noF)))) (orT (notT (tst (isTF (getE 6)))) (tst (bin2 (eqF true) (fldF 0 "rows" (getE 6)) (getE 4)))))) (puS [] (retG (cst (.bl false)))) nilD))))) (seqD (puS [] (setG 7 (stF [] (appF f_TalkX (consF (lstF (consF (lstF (consF (tupF (consF (cst (.str "send")) (consF (cst (.int 0)) noF))) (consF (tupF (consF (cst (.str "get")) (consF (cst (.int 1)) noF))) noF))) (consF (lstF (consF (tupF (consF (cst (.str "get")) (consF (cst (.int 0)) noF))) (consF (tupF (consF (cst (.str "send")) (consF (cst (.int 1)) noF))) noF))) noF))) noF))))) (puS [] (retG (andF (bin2 (eqF false) (appF f_talk_text (consF (getE 7) noF)) (cst (.str "s0 g1 / g0 s1"))) (andF (bin2 (eqF false) (fldF 0 "rows" (appF f_read_talk (consF (cst (.str "- / -")) noF))) (tupF (consF (tupF noF) (consF (tupF noF) noF)))) (bin2 (eqF false) (fldF 0 "many" (appF f_read_talk (consF (cst (.str "-")) noF))) (cst (.int 0)))))))))
def lw_env (m : Addr) : En := [none, some (.loc m), none, none, none, none, none, none]
def spLaw (K : PySem.W.Frag) : Sp := fun vs H Q _ => ∃ (a : Addr) (ns : List Int), vs = [.ref a] ∧ SqL K H a (iL ns) ∧ ns.length ≤ 63 ∧ ∀ H', Q (.bl true) H'
theorem ok_law (U : ∀ m, lw_rest m (lw_env m) 0 fun o _ => o = .rt (.bl true)) {P : Program} {w : World} {K : PySem.W.Frag} {mg : Str → Option Value} {base : Heap} {cm : Cm} {f : Addr} {fd : FuncData} (F : Fun K "law" "law" st_law f fd) (T : TxtV K mg cm) (hcT : cm.tabs = []) {fa_read_talk : Addr} {fd_read_talk : FuncData} (d_read_talk : Df P w K mg base cm "read_talk" 8 ["text"] f_read_talk fa_read_talk fd_read_talk) {fa_talk_text : Addr} {fd_talk_text : FuncData} (d_talk_text : Df P w K mg base cm "talk_text" 2 ["talk"] f_talk_text fa_talk_text fd_talk_text) {fa__law_text : Addr} {fd__law_text : FuncData} (d__law_text : Df P w K mg base cm "_law_text" 1 ["rows"] f__law_text fa__law_text fd__law_text) {fa__law_rows : Addr} {fd__law_rows : FuncData} (dd__law_rows : Ddr P w K mg base cm "_law_rows" 4 ["m", "most", "hands_so"] w__law_rows fa__law_rows fd__law_rows)
    {C fI : Addr} {fdI : FuncData} (hC : cm.cls 0 = C) (MT : Mk K C fI) (GT : ∀ Ck, FnOk P w K mg base CX0 5 fI fdI ["self", "rows"] (spTInit C Sl0 Ck)) (bT : Binds K fdI ["self", "rows"] []) (TT : mg "Talk" = some (.ref C)) (JT : IsTalk K C) (Trep : mg "repr" = none)
    {fB : Addr} {fdB : FuncData} (TB : mg "_law_begun" = some (.ref fB)) (FB : Fun K "_law_begun" "_law_begun" sBeg fB fdB) (bB : Binds K fdB ["script"] []) (GB : FnOk P w K mg base CX0 2 fB fdB ["script"] (spBeg K)) :
    FnG P w K mg base CX0 9 f fd ["script"] (spLaw K) := by
  refine okG F ss_law (fun vs H Q E h => ?_) (fun cdv A outer s H vs Q E hQ hr h => ?_)
  · obtain ⟨a, ns, rfl, _⟩ := h
    rfl
  · obtain ⟨a, ns, rfl, hS, hlen, q⟩ := h
    have hu : (A.deeper (envOfC "law" (defScope st_law) s.heap.objs.size f cdv)).units + 64 < cLine := by
      have := hr.un
      omega
    refine ⟨_, pss_cons (ps_set (i := 1) ss_law.nd rfl (Or.inl rfl) (pe_call GB (hr.mono (by decide)) (by rfl) TB FB.kp bB .nil pass0 (pa_cons (pv 0) pa_nil))) (show SDs _ cm [] _ lw_rest from (sd_cons (sd_for PassesOwn.never rfl (vdi_pu (vi_tup (ve_tup (va_cons (ve_tup (va_cons ve_int (va_cons ve_int va_nil))) (va_cons (ve_tup (va_cons ve_int (va_cons ve_int va_nil))) (va_cons (ve_tup (va_cons ve_int (va_cons ve_int va_nil))) va_nil)))))) (pg_tup (n := 2) (by rfl) (pgs_cons (pg_name (i := 2) ss_law.nd rfl (Or.inl rfl)) (pgs_cons (pg_name (i := 3) ss_law.nd rfl (Or.inl rfl)) pgs_nil))) (sd_cons (sd_set (i := 4) ss_law.nd rfl (Or.inl rfl) (by decide) (vd_callD dd__law_rows (hr.mono (by decide)) (by rfl) (vda_pu (va_cons (vv 1) (va_cons (vv 2) (va_cons (vv 3) va_nil))))) srd_st) (sd_cons (sd_pu (sv_set (i := 5) ss_law.nd rfl (Or.inl rfl) (by decide) (ve_callD d__law_text (hr.mono (by decide)) (by rfl) (va_cons (vv 4) va_nil)) sr_st)) (sd_cons (sd_pu (sv_set (i := 6) ss_law.nd rfl (Or.inl rfl) (by decide) (ve_callD d_read_talk (hr.mono (by decide)) (by rfl) (va_cons (vv 5) va_nil)) sr_st)) (sd_one (sd_if (vdt_pu (PW.pt (vw_or (vt_cmp (op_neD hu) ov_ne (ve_callB (call_reprD hQ hu) cv_repr (by rfl) Trep bb_repr (va_cons (ve_callD d_talk_text (hr.mono (by decide)) (by rfl) (va_cons (ve_make hC talkX_ok MT GT bT (hr.mono (by decide)) (by rfl) TT (va_cons (vv 4) va_nil)) va_nil)) va_nil)) (ve_callB (call_reprD hQ hu) cv_repr (by rfl) Trep bb_repr (va_cons (vv 5) va_nil)) (nomark _)) (vw_or (vt_not (vt_val (ve_isT hC T.cl JT (by rfl) TT (by rfl) T.isinstance bb_isinstance (vv 6)))) (vw_or1 (vt_cmp (op_neD hu) ov_ne (ve_fld (c := 0) T.cl T.n_rows (vv 6) rfl) (vv 4) (nomark _))))))) (sd_one (sd_pu (sv_ret ve_bl))) sd_nil))))) (tg_tup (tgs_cons tg_name (tgs_cons tg_name tgs_nil))) (by decide)) (sd_cons (sd_pu (sv_set (i := 7) ss_law.nd rfl (Or.inl rfl) (by decide) (ve_make hC talkX_ok MT GT bT (hr.mono (by decide)) (by rfl) TT (va_cons (ve_lst (va_cons (ve_lst (va_cons (ve_tup (va_cons ve_str (va_cons ve_int va_nil))) (va_cons (ve_tup (va_cons ve_str (va_cons ve_int va_nil))) va_nil))) (va_cons (ve_lst (va_cons (ve_tup (va_cons ve_str (va_cons ve_int va_nil))) (va_cons (ve_tup (va_cons ve_str (va_cons ve_int va_nil))) va_nil))) va_nil))) va_nil)) sr_st)) (sd_one (sd_pu (sv_ret (ve_and (ve_cmp (op_eqD hu) ov_eq (ve_callD d_talk_text (hr.mono (by decide)) (by rfl) (va_cons (vv 7) va_nil)) ve_str (nomark _)) (ve_and (ve_cmp (op_eqD hu) ov_eq (ve_fld (c := 0) T.cl T.n_rows (ve_callD d_read_talk (hr.mono (by decide)) (by rfl) (va_cons ve_str va_nil)) rfl) (ve_tup (va_cons (ve_tup va_nil) (va_cons (ve_tup va_nil) va_nil))) (nomark _)) (ve_one (ve_cmp (op_eqD hu) ov_eq (ve_fld (c := 0) T.cl T.n_many (ve_callD d_read_talk (hr.mono (by decide)) (by rfl) (va_cons ve_str va_nil)) rfl) ve_int (nomark _))))))))))), ?_⟩
    refine ⟨_, rfl, a, ns, rfl, hS, hlen, fun H1 m g s1 M => ?_⟩
    have tabs : LamX.Tabs cm.tabs H1 := fun p hp => by
      rw [hcT] at hp
      cases hp
    have hidT : Hid (fun a => hm m g a ∨ ∃ p ∈ cm.tabs, a = p.1) H1 := fun a c => by
      rcases c with c | ⟨p, hp, rfl⟩
      · exact M.hid a c
      · obtain ⟨ps, e, _⟩ := tabs p hp
        exact ⟨_, e, fun vs z => by cases z⟩
    refine ⟨fun a => hm m g a ∨ ∃ p ∈ cm.tabs, a = p.1, m, g, 0, hideT cm m g H1, lw_env m, _, ⟨fun a h => .inl h, fun p hp => .inr ⟨p, hp, rfl⟩, M, tabs⟩, hideT_z, (stv_mk (ow := []) (env := lw_env m) (slots_mk hidT (by exact ⟨.loc m, True.intro⟩)) (ow_all (show allN [] (lw_env m) from True.intro))).baseLe hideT_same, U m, fun o b' e => ?_⟩
    subst e
    exact fun v H' s M' r => by
      cases Re.bl_ r
      exact q H'

end Up

namespace Up
open PySem PySem.Spec PyProof.Rows L2 TL
/-! ### the texts of talks -/
def dgS (d : Dg) : Str := (if d.s then ("s" : Str) else "g") ++ Str.ofString (toString (d.l : Int))
def rowS (gs : List Dg) : Str := if gs = [] then "-" else Txt.join " " (gs.map dgS)
def talkS (gss : List (List Dg)) : Str := Txt.join " / " (gss.map rowS)
def dgL (s : Bool) (l : Nat) : List Nat := (if s then 115 else 103) :: numL l
theorem tl_dg (d : Dg) : tl (dgS d) = dgL d.s d.l := by
  unfold dgS dgL
  rw [tl_append, tl_num]
  cases d.s <;> rfl
def rwL (gs : List Dg) : List Nat := if gs = [] then [45] else joinL [32] (gs.map fun d => dgL d.s d.l)
theorem tl_rwS (gs : List Dg) : tl (rowS gs) = rwL gs := by
  unfold rowS rwL
  by_cases c : gs = []
  · rw [if_pos c, if_pos c] <;> rfl
  · rw [if_neg c, if_neg c, join_eq, tl_join, List.map_map]
    show joinL [32] _ = _
    congr 1
    exact List.map_congr_left fun d _ => tl_dg d
def tkL (gss : List (List Dg)) : List Nat := joinL [32, 47, 32] (gss.map rwL)
theorem tl_talk (gss : List (List Dg)) : tl (talkS gss) = tkL gss := by
  unfold talkS tkL
  rw [join_eq, tl_join, List.map_map]
  show joinL [32, 47, 32] _ = _
  congr 1
  exact List.map_congr_left fun d _ => tl_rwS d
/-! the places in a text -/
def stepT (a : Str) (c : Nat) : Option Str := (nextsT.lookup a).bind fun rows => (rows.find? fun r => decide (c ∈ r.1.cps.toList)).map (·.2)
def runT : Str → List Nat → Option Str
  | a, [] => some a
  | a, c :: r => (stepT a c).bind fun b => runT b r
theorem runT_app : ∀ (x : List Nat) (a : Str) (y : List Nat), runT a (x ++ y) = (runT a x).bind fun b => runT b y
  | [], a, y => rfl
  | c :: x, a, y => by
    show (stepT a c).bind (fun b => runT b (x ++ y)) = ((stepT a c).bind fun b => runT b x).bind _
    cases stepT a c with
    | none => rfl
    | some b => exact runT_app x b y
theorem dg_run : ∀ s : Bool, ∀ l, l < 13 → ∀ a ∈ (["row", "blank"] : List Str), runT a (dgL s l) = some (if 1 ≤ l ∧ l ≤ 9 then ("figure" : Str) else ("number" : Str)) := by decide +kernel
theorem end_blank : ∀ e ∈ (["figure", "number"] : List Str), runT e [32] = some ("blank" : Str) := by decide +kernel
theorem end_row : ∀ e ∈ endsT, runT e [32, 47, 32] = some ("row" : Str) := by decide +kernel
def Low (gs : List Dg) : Prop := ∀ d ∈ gs, d.l < 13
theorem fn_mem (l : Nat) : (if 1 ≤ l ∧ l ≤ 9 then ("figure" : Str) else "number") ∈ (["figure", "number"] : List Str) := by
  by_cases c : 1 ≤ l ∧ l ≤ 9
  · rw [if_pos c]
    exact List.mem_cons_self ..
  · rw [if_neg c]
    exact List.mem_cons_of_mem _ (List.mem_cons_self ..)
theorem row_run : ∀ (gs : List Dg) (a : Str), gs ≠ [] → Low gs → a ∈ (["row", "blank"] : List Str) → ∃ e ∈ (["figure", "number"] : List Str), runT a (joinL [32] (gs.map fun d => dgL d.s d.l)) = some e
  | [], _, h, _, _ => absurd rfl h
  | [d], a, _, lo, ha => ⟨_, fn_mem d.l, dg_run d.s d.l (lo d (List.mem_cons_self ..)) a ha⟩
  | d :: d2 :: gs, a, _, lo, ha => by
    obtain ⟨e, he, k⟩ := row_run (d2 :: gs) "blank" (by simp) (fun x hx => lo x (List.mem_cons_of_mem _ hx)) (List.mem_cons_of_mem _ (List.mem_cons_self ..))
    refine ⟨e, he, ?_⟩
    show runT a (dgL d.s d.l ++ ([32] ++ joinL [32] ((d2 :: gs).map fun d => dgL d.s d.l))) = some e
    rw [runT_app, dg_run d.s d.l (lo d (List.mem_cons_self ..)) a ha, Option.bind_some, runT_app, end_blank _ (fn_mem d.l), Option.bind_some, k]
theorem rwL_run (gs : List Dg) (lo : Low gs) : ∃ e ∈ endsT, runT "row" (rwL gs) = some e := by
  unfold rwL
  by_cases c : gs = []
  · rw [if_pos c]
    exact ⟨"empty", by decide, by decide +kernel⟩
  · rw [if_neg c]
    obtain ⟨e, he, k⟩ := row_run gs "row" c lo (List.mem_cons_self ..)
    refine ⟨e, ?_, k⟩
    have : ∀ e ∈ (["figure", "number"] : List Str), e ∈ endsT := by decide
    exact this e he
theorem talk_run : ∀ (gss : List (List Dg)), gss ≠ [] → (∀ gs ∈ gss, Low gs) → ∃ e ∈ endsT, runT "row" (tkL gss) = some e
  | [], h, _ => absurd rfl h
  | [gs], _, lo => rwL_run gs (lo gs (List.mem_cons_self ..))
  | gs :: g2 :: gss, _, lo => by
    obtain ⟨e1, h1, k1⟩ := rwL_run gs (lo gs (List.mem_cons_self ..))
    obtain ⟨e, he, k⟩ := talk_run (g2 :: gss) (by simp) fun x hx => lo x (List.mem_cons_of_mem _ hx)
    refine ⟨e, he, ?_⟩
    show runT "row" (rwL gs ++ ([32, 47, 32] ++ tkL (g2 :: gss))) = some e
    rw [runT_app, k1, Option.bind_some, runT_app, end_row _ h1, Option.bind_some, k]
/-! split gives the parts back -/
theorem num_free : ∀ l, l < 13 → (32 ∉ numL l ∧ 47 ∉ numL l) := by decide +kernel
theorem dg_free (s : Bool) {l : Nat} (h : l < 13) : 32 ∉ dgL s l ∧ 47 ∉ dgL s l := by
  obtain ⟨h1, h2⟩ := num_free l h
  unfold dgL
  cases s <;> exact ⟨by simp [h1], by simp [h2]⟩
theorem row_free : ∀ (gs : List Dg), Low gs → 47 ∉ joinL [32] (gs.map fun d => dgL d.s d.l)
  | [], _ => by simp [joinL]
  | [d], lo => (dg_free d.s (lo d (List.mem_cons_self ..))).2
  | d :: d2 :: gs, lo => by
    show 47 ∉ dgL d.s d.l ++ ([32] ++ joinL [32] ((d2 :: gs).map fun d => dgL d.s d.l))
    intro hm
    rcases List.mem_append.mp hm with hm | hm
    · exact (dg_free d.s (lo d (List.mem_cons_self ..))).2 hm
    · rcases List.mem_append.mp hm with hm | hm
      · simp at hm
      · exact row_free (d2 :: gs) (fun x hx => lo x (List.mem_cons_of_mem _ hx)) hm
theorem rwL_free (gs : List Dg) (lo : Low gs) : 47 ∉ rwL gs := by
  unfold rwL
  by_cases c : gs = []
  · rw [if_pos c]
    decide
  · rw [if_neg c]
    exact row_free gs lo
theorem pre_no {p rest : List Nat} (h : 47 ∉ p) (hr : rest = [] ∨ ∃ r, rest = 32 :: r) : ∀ i, i < p.length → pre [32, 47, 32] ((p ++ rest).drop i) = false := fun i hi => by
  have lt : i < (p ++ rest).length := by rw [List.length_append]; omega
  cases hp : pre [32, 47, 32] ((p ++ rest).drop i) with
  | false => rfl
  | true =>
    have e : ((p ++ rest).drop i).take 3 = [32, 47, 32] := eq_of_beq hp
    have e1 : (p ++ rest)[i + 1]? = some 47 := by
      have z := congrArg (fun l => l[1]?) e
      simp only [List.getElem?_take, List.getElem?_drop] at z
      simpa using z
    by_cases c : i + 1 < p.length
    · rw [List.getElem?_append_left c] at e1
      exact absurd (List.mem_of_getElem? e1) h
    · have ei : i + 1 - p.length = 0 := by omega
      rw [List.getElem?_append_right (by omega), ei] at e1
      rcases hr with rfl | ⟨r, rfl⟩
      · cases e1
      · cases e1
theorem spl_talk : ∀ (gss : List (List Nat)), gss ≠ [] → (∀ p ∈ gss, 47 ∉ p) → spl [32, 47, 32] 0 [] (joinL [32, 47, 32] gss) = gss
  | [], h, _ => absurd rfl h
  | [p], _, lo => by
    show spl [32, 47, 32] 0 [] p = [p]
    have k := spl_last (S := [32, 47, 32]) (p := p) (acc := []) fun i hi => by
      have z := pre_no (rest := []) (lo p (List.mem_cons_self ..)) (.inl rfl) i hi
      rw [List.append_nil] at z
      exact z
    rw [k] <;> rfl
  | p :: q :: r, _, lo => by
    show spl [32, 47, 32] 0 [] (p ++ ([32, 47, 32] ++ joinL [32, 47, 32] (q :: r))) = p :: q :: r
    rw [spl_part (by simp) (pre_no (lo p (List.mem_cons_self ..)) (.inr ⟨_, rfl⟩)), spl_talk (q :: r) (by simp) fun x hx => lo x (List.mem_cons_of_mem _ hx)] <;> rfl
theorem split_talk {gss : List (List Dg)} (ne : gss ≠ []) (lo : ∀ gs ∈ gss, Low gs) : Txt.split (talkS gss) " / " = gss.map rowS := by
  refine map_tl_inj ?_
  rw [split_spl _ _ (by decide +kernel) (kind_ok (by decide +kernel)), tl_talk]
  show spl [32, 47, 32] 0 [] (joinL [32, 47, 32] (gss.map rwL)) = _
  rw [spl_talk _ (by simpa using ne) fun p hp => by
    obtain ⟨gs, hg, rfl⟩ := List.mem_map.mp hp
    exact rwL_free gs (lo gs hg)]
  rw [List.map_map]
  exact List.map_congr_left fun gs _ => (tl_rwS gs).symm
theorem split_row {gs : List Dg} (ne : gs ≠ []) (lo : Low gs) : Txt.split (rowS gs) " " = gs.map dgS := by
  unfold rowS
  rw [if_neg ne]
  refine split_join (s := 32) (S := []) (by rfl) (by decide +kernel) (by simpa using ne) fun p hp => ?_
  obtain ⟨d, hd, rfl⟩ := List.mem_map.mp hp
  rw [tl_dg]
  exact (dg_free d.s (lo d hd)).1
/-! lengths and signs -/
theorem dg_len : ∀ s : Bool, ∀ l, l < 13 → (dgL s l).length ≤ 3 := by decide +kernel
theorem join_len {S : List Nat} {k : Nat} : ∀ (ps : List (List Nat)), (∀ p ∈ ps, p.length ≤ k) → (joinL S ps).length ≤ ps.length * (k + S.length)
  | [], _ => Nat.zero_le _
  | [p], h => by
    show p.length ≤ 1 * _
    have := h p (List.mem_cons_self ..)
    omega
  | p :: q :: r, h => by
    have h1 := h p (List.mem_cons_self ..)
    have ih := join_len (S := S) (q :: r) fun x hx => h x (List.mem_cons_of_mem _ hx)
    show (p ++ (S ++ joinL S (q :: r))).length ≤ (r.length + 1 + 1) * (k + S.length)
    rw [List.length_append, List.length_append, Nat.add_mul]
    have e : (q :: r).length = r.length + 1 := rfl
    rw [e] at ih
    omega
theorem rwL_len {gs : List Dg} (lo : Low gs) (l : gs.length ≤ 24) : (rwL gs).length ≤ 96 := by
  unfold rwL
  by_cases c : gs = []
  · rw [if_pos c]
    decide
  · rw [if_neg c]
    have := join_len (S := [32]) (k := 3) (gs.map fun d => dgL d.s d.l) fun p hp => by
      obtain ⟨d, hd, rfl⟩ := List.mem_map.mp hp
      exact dg_len d.s d.l (lo d hd)
    rw [List.length_map] at this
    have e : (3 : Nat) + [32].length = 4 := rfl
    rw [e] at this
    omega
theorem tkL_len {gss : List (List Dg)} (lo : ∀ gs ∈ gss, Low gs) (l : ∀ gs ∈ gss, gs.length ≤ 24) (h : gss.length ≤ 6) : (tkL gss).length ≤ 600 := by
  unfold tkL
  have := join_len (S := [32, 47, 32]) (k := 96) (gss.map rwL) fun p hp => by
    obtain ⟨gs, hg, rfl⟩ := List.mem_map.mp hp
    exact rwL_len (lo gs hg) (l gs hg)
  rw [List.length_map] at this
  have e : (96 : Nat) + [32, 47, 32].length = 99 := rfl
  rw [e] at this
  omega
theorem row_slen {gs : List Dg} (lo : Low gs) (l : gs.length ≤ 24) : (rowS gs).length ≤ 96 := by rw [len_tl, tl_rwS]; exact rwL_len lo l
theorem talk_slen {gss : List (List Dg)} (lo : ∀ gs ∈ gss, Low gs) (l : ∀ gs ∈ gss, gs.length ≤ 24) (h : gss.length ≤ 6) : (talkS gss).length ≤ 600 := by rw [len_tl, tl_talk]; exact tkL_len lo l h
theorem dg_slen {d : Dg} (h : d.l < 13) : (dgS d).length ≤ 3 := by rw [len_tl, tl_dg]; exact dg_len d.s d.l h
theorem dg_low : ∀ s : Bool, ∀ l, l < 13 → ∀ c ∈ dgL s l, c < 128 := by decide +kernel
theorem join_all {S : List Nat} {Q : Nat → Prop} (hS : ∀ c ∈ S, Q c) : ∀ (ps : List (List Nat)), (∀ p ∈ ps, ∀ c ∈ p, Q c) → ∀ c ∈ joinL S ps, Q c
  | [], _, c, hc => by cases hc
  | [p], h, c, hc => h p (List.mem_cons_self ..) c hc
  | p :: q :: r, h, c, hc => by
    have hc : c ∈ p ++ (S ++ joinL S (q :: r)) := hc
    rcases List.mem_append.mp hc with z | z
    · exact h p (List.mem_cons_self ..) c z
    · rcases List.mem_append.mp z with z | z
      · exact hS c z
      · exact join_all hS (q :: r) (fun x hx => h x (List.mem_cons_of_mem _ hx)) c z
theorem rwL_low {gs : List Dg} (lo : Low gs) : ∀ c ∈ rwL gs, c < 128 := by
  unfold rwL
  by_cases c : gs = []
  · rw [if_pos c]
    decide
  · rw [if_neg c]
    exact join_all (Q := fun c => c < 128) (by decide) _ fun p hp => by
      obtain ⟨d, hd, rfl⟩ := List.mem_map.mp hp
      exact dg_low d.s d.l (lo d hd)
theorem tkL_low {gss : List (List Dg)} (lo : ∀ gs ∈ gss, Low gs) : ∀ c ∈ tkL gss, c < 128 := by
  unfold tkL
  exact join_all (Q := fun c => c < 128) (by decide) _ fun p hp => by
    obtain ⟨gs, hg, rfl⟩ := List.mem_map.mp hp
    exact rwL_low (lo gs hg)
end Up

namespace Up
open PySem PySem.Spec PyProof.Rows L2 TL
/-! ### the defs of texts, of a talk's rows -/
theorem word0 (d : Dg) : ixS (.str d.word) (.int 0) = some (.str (if d.s then ("s" : Str) else "g")) := by
  unfold Dg.word
  cases d.s <;> kernel_rfl
theorem num_small : ∀ l : Nat, l < 13 → (Str.ofString (toString (l : Int))).length ≤ 2 ∧ ((l : Int)).natAbs.log2 < 1920 := by decide +kernel
theorem sg_len (s : Bool) : (if s then ("s" : Str) else "g").length = 1 := by cases s <;> rfl
theorem fmt_dg {d : Dg} (h : d.l < 13) {env : En} {f g : En → Option Val} (e1 : f env = some (.str (if d.s then ("s" : Str) else "g"))) (e2 : g env = some (.int (d.l : Int))) : fmt2F f g env = some (.str (dgS d)) := by
  obtain ⟨h1, h2⟩ := num_small d.l h
  have hs := sg_len d.s
  unfold fmt2F
  rw [e1, Option.bind_some]
  have k1 : fmtV (.str (if d.s then ("s" : Str) else "g")) = some (if d.s then ("s" : Str) else "g") := if_pos (by rw [hs]; show 1 ≤ 16777216; decide)
  have k2 : fmtV (.int (d.l : Int)) = some (Str.ofString (toString (d.l : Int))) := if_pos h2
  rw [k1, Option.bind_some, e2, Option.bind_some, k2, Option.bind_some, if_pos (by rw [hs]; show _ ≤ 16777216; omega)]
  rfl
theorem sum_le {α : Type} {f : α → Nat} {k : Nat} : ∀ (l : List α), (∀ x ∈ l, f x ≤ k) → (l.map f).sum ≤ l.length * k
  | [], _ => Nat.zero_le _
  | x :: l, h => by
    have := sum_le l fun y hy => h y (List.mem_cons_of_mem _ hy)
    have hx := h x (List.mem_cons_self ..)
    rw [List.map_cons, List.sum_cons, List.length_cons, Nat.add_mul]
    omega
theorem join_dg {gs : List Dg} (lo : Low gs) (l : gs.length ≤ 24) : joinF (.str " ") (.lst ((gs.map dgS).map .str)) = some (.str (Txt.join " " (gs.map dgS))) := by
  refine joinF_ok ?_
  have k := sum_le (f := fun s : Str => s.length) (k := 3) (gs.map dgS) fun s hs => by
    obtain ⟨d, hd, rfl⟩ := List.mem_map.mp hs
    exact dg_slen (lo d hd)
  rw [List.length_map] at k ⊢
  have e : (" " : Str).length = 1 := rfl
  rw [e]
  omega
theorem join_rows {gss : List (List Dg)} (lo : ∀ gs ∈ gss, Low gs) (l : ∀ gs ∈ gss, gs.length ≤ 24) (h : gss.length ≤ 6) : joinF (.str " / ") (.lst ((gss.map rowS).map .str)) = some (.str (talkS gss)) := by
  refine joinF_ok ?_
  have k := sum_le (f := fun s : Str => s.length) (k := 96) (gss.map rowS) fun s hs => by
    obtain ⟨gs, hg, rfl⟩ := List.mem_map.mp hs
    exact row_slen (lo gs hg) (l gs hg)
  rw [List.length_map] at k ⊢
  have e : (" / " : Str).length = 3 := rfl
  rw [e]
  omega
theorem lenF_rowV {gs : List Dg} (h : gs.length ≤ 24) : lenF [rowV gs] = some (.int (gs.length : Int)) := by
  show some (Val.int ((gs.map dgV).length : Int)) = _
  rw [List.length_map]
theorem row_text_ev {gs : List Dg} (lo : Low gs) (l : gs.length ≤ 24) : f_row_text [rowV gs] = some (.str (rowS gs)) := by
  refine runV_rt rfl ?_
  show g_row_text [some (rowV gs), none, none] = _
  have e1 : tst (bin2 (eqF false) (appF lenF (consF (getE 0) noF)) (cst (.int 0))) [some (rowV gs), none, none] = some (decide ((gs.length : Int) = 0)) := by
    have k := bin2_ok (op := eqF false) (f := appF lenF (consF (getE 0) noF)) (g := cst (.int 0)) (env := [some (rowV gs), none, none]) (appF_ok (xs := [rowV gs]) rfl (lenF_rowV l)) rfl (eq_int false _ 0)
    unfold tst
    rw [k]
    rfl
  by_cases c : gs = []
  · subst c
    unfold g_row_text
    exact seqG_rt ((ifG_t e1).trans (retG_ok rfl))
  · have c2 : decide ((gs.length : Int) = 0) = false := decide_eq_false fun z => c (List.eq_nil_of_length_eq_zero (by omega))
    rw [c2] at e1
    unfold g_row_text
    rw [seqG_nx ((ifG_f e1).trans rfl)]
    refine retG_ok ?_
    have k := lcF_map (α := Dg) (fi := itT (getE 0)) (bnd := setTup 2 (setCo (setV 1) (setCo (setV 2) setNo))) (fe := fmt2F (bin2 ixS (getE 1) (cst (.int 0))) (getE 2)) (is := [1, 2]) (env := [some (rowV gs), none, none]) (x := dgV) (y := fun d => .str (dgS d)) (as := gs) rfl (by show _ ≤ 100000; omega) fun d hd => ⟨[(1, .str d.word), (2, .int (d.l : Int))], rfl, fmt_dg (lo d hd) (bin2_ok (x := .str d.word) (y := .int 0) rfl rfl (word0 d)) rfl⟩
    unfold rowS
    rw [if_neg c]
    refine bin2_ok (x := .str " ") (y := .lst ((gs.map dgS).map .str)) rfl ?_ (join_dg lo l)
    rw [k, List.map_map]
    rfl
theorem talk_text_ev {gss : List (List Dg)} {many : Nat} {S G : Nat → Nat} {Ck : Dg → List Int} (lo : ∀ gs ∈ gss, Low gs) (l : ∀ gs ∈ gss, gs.length ≤ 24) (h : gss.length ≤ 6) : f_talk_text [talkV gss many S G Ck] = some (.str (talkS gss)) := by
  refine runV_rt rfl (retG_ok ?_)
  have k := lcF_map (α := List Dg) (fi := itT (fldF 0 "rows" (getE 0))) (bnd := setV 1) (fe := appF f_row_text (consF (getE 1) noF)) (is := [1]) (env := [some (talkV gss many S G Ck), none]) (x := rowV) (y := fun gs => .str (rowS gs)) (as := gss) rfl (by show _ ≤ 100000; omega) fun gs hg => ⟨[(1, rowV gs)], rfl, appF_ok (xs := [rowV gs]) rfl (row_text_ev (lo gs hg) (l gs hg))⟩
  refine bin2_ok (x := .str " / ") (y := .lst ((gss.map rowS).map .str)) rfl ?_ (join_rows lo l h)
  show (lcF _ _ _ _ _ [some (talkV gss many S G Ck), none]).map Val.lst = _
  rw [k, List.map_map]
  rfl
end Up

namespace Up
open PySem PySem.Spec PyProof.Rows L2 TL
/-! ### texts read -/
theorem eq_strs {a b : Str} (neg : Bool) (ha : PyData.strOk a = true) (hb : PyData.strOk b = true) : eqF neg (.str a) (.str b) = some (.bl (if neg then !(a == b) else a == b)) := by
  have e : ∀ s : Str, PyData.strOk s = true → SeqAt.shaped (.str s) = true := fun s h => by
    unfold SeqAt.shaped
    rw [PyData.canLay0.eq_4, h]
    simp [PyData.depth]
  unfold eqF
  rw [dataV, dataV]
  show (if (SeqAt.shaped (.str a) && SeqAt.shaped (.str b)) = true then some (Val.bl (if neg then !PyData.eqv (.str a) (.str b) else PyData.eqv (.str a) (.str b))) else none) = _
  rw [e a ha, e b hb, if_pos (by rfl)]
  simp [PyData.eqv]
theorem strOk_of {s : Str} (h : ∀ c ∈ tl s, c < 128) : PyData.strOk s = true := by
  unfold PyData.strOk
  rw [Array.all_eq_true_iff_forall_mem]
  intro c hc
  have := h c (by simpa [tl] using hc)
  simp
  omega
theorem rw_ne {gs : List Dg} (h : gs ≠ []) : (rowS gs == ("-" : Str)) = false := by
  have hne : rowS gs ≠ ("-" : Str) := fun z => by
    have e := congrArg tl z
    rw [tl_rwS] at e
    unfold rwL at e
    rw [if_neg h] at e
    obtain ⟨d, r, rfl⟩ := List.exists_cons_of_ne_nil h
    have e2 : (joinL [32] ((d :: r).map fun d => dgL d.s d.l))[0]? = some (if d.s then 115 else 103) := by
      cases r <;> rfl
    rw [e] at e2
    have e3 : (tl ("-" : Str))[0]? = some 45 := by rfl
    rw [e3] at e2
    cases hd : d.s <;> rw [hd] at e2 <;> cases e2
  cases k : rowS gs == ("-" : Str) with
  | false => rfl
  | true => exact absurd (eq_of_beq k) hne
theorem dg_read : ∀ s : Bool, ∀ l : Nat, l < 13 → (dgS ⟨s, l⟩).cps[0]? = some (if s then 115 else 103) ∧ cutS (dgS ⟨s, l⟩) (some 1) none = Str.ofString (toString (l : Int)) ∧ intText? (Str.ofString (toString (l : Int))) = some (l : Int) ∧ 1 ≤ (dgS ⟨s, l⟩).length := by decide +kernel
theorem word_of : ∀ s : Bool, wordsT.lookup ⟨#[if s then 115 else 103]⟩ = some (if s then ("send" : Str) else "get") := by decide +kernel
theorem read_dg {d : Dg} (h : d.l < 13) (t : Option Val) : tupF (consF (wordF (bin2 ixS (getE 1) (cst (.int 0)))) (consF (appF intSF (consF (slF cutSF (getE 1) (partF (cst (.int 1))) noPart) noF)) noF)) [t, some (.str (dgS d))] = some (dgV d) := by
  obtain ⟨s, l⟩ := d
  obtain ⟨h1, h2, h3, h4⟩ := dg_read s l h
  have k := dg_slen (d := ⟨s, l⟩) h
  have e1 : bin2 ixS (getE 1) (cst (.int 0)) [t, some (.str (dgS ⟨s, l⟩))] = some (.str ⟨#[if s then 115 else 103]⟩) := by
    refine bin2_ok (x := .str (dgS ⟨s, l⟩)) (y := .int 0) rfl rfl ?_
    show (if (0 : Int) ≤ 0 ∧ (0 : Int) < 2 ^ 63 ∧ (0 : Int) < (dgS ⟨s, l⟩).length then ((dgS ⟨s, l⟩).cps[(0 : Int).toNat]?).map _ else none) = _
    rw [if_pos ⟨by decide, by decide, by omega⟩]
    show ((dgS ⟨s, l⟩).cps[0]?).map _ = _
    rw [h1] <;> rfl
  have e2 : wordF (bin2 ixS (getE 1) (cst (.int 0))) [t, some (.str (dgS ⟨s, l⟩))] = some (.str (if s then ("send" : Str) else "get")) := by
    unfold wordF
    rw [e1, Option.bind_some]
    show (wordsT.lookup ⟨#[if s then 115 else 103]⟩).map Val.str = _
    rw [word_of] <;> rfl
  have e3 : slF cutSF (getE 1) (partF (cst (.int 1))) noPart [t, some (.str (dgS ⟨s, l⟩))] = some (.str (Str.ofString (toString (l : Int)))) := by
    show cutSF (.str (dgS ⟨s, l⟩)) (some 1) none = _
    have q : (dgS ⟨s, l⟩).length ≤ sizeLine := by show _ ≤ 16777216; omega
    unfold cutSF
    dsimp only
    rw [if_pos q, h2]
  have e4 : appF intSF (consF (slF cutSF (getE 1) (partF (cst (.int 1))) noPart) noF) [t, some (.str (dgS ⟨s, l⟩))] = some (.int (l : Int)) := by
    refine appF_ok (consF_ok e3 rfl) ?_
    show (intText? (Str.ofString (toString (l : Int)))).bind _ = _
    rw [h3, Option.bind_some, if_pos (by have := (num_small l h).1; omega)]
  show (consF _ _ _).bind _ = _
  rw [consF_ok e2 (consF_ok e4 rfl)]
  cases s <;> rfl
theorem read_row_ev {gs : List Dg} (lo : Low gs) (l : gs.length ≤ 24) : f_read_row [.str (rowS gs)] = some (.lst (gs.map dgV)) := by
  refine runV_rt rfl ?_
  show g_read_row [some (.str (rowS gs)), none] = _
  have o1 : PyData.strOk (rowS gs) = true := strOk_of (by rw [tl_rwS]; exact rwL_low lo)
  have e1 : tst (bin2 (eqF false) (getE 0) (cst (.str "-"))) [some (.str (rowS gs)), none] = some (rowS gs == ("-" : Str)) := by
    unfold tst
    rw [bin2_ok (op := eqF false) (f := getE 0) (g := cst (.str "-")) (x := .str (rowS gs)) rfl rfl (eq_strs false o1 (by decide +kernel))]
    rfl
  by_cases c : gs = []
  · subst c
    have e2 : (rowS [] == ("-" : Str)) = true := by decide +kernel
    rw [e2] at e1
    unfold g_read_row
    exact seqG_rt ((ifG_t e1).trans (retG_ok rfl))
  · rw [rw_ne c] at e1
    unfold g_read_row
    rw [seqG_nx ((ifG_f e1).trans rfl)]
    refine retG_ok ?_
    have sp : splitF (.str (rowS gs)) (.str " ") = some (.lst ((gs.map dgS).map .str)) := by
      rw [splitF_ok (by decide +kernel) (by have := row_slen lo l; show _ ≤ 16777216; omega), split_row c lo]
    have k := lcF_map (α := Dg) (fi := itL (bin2 splitF (getE 0) (cst (.str " ")))) (bnd := setV 1) (fe := tupF (consF (wordF (bin2 ixS (getE 1) (cst (.int 0)))) (consF (appF intSF (consF (slF cutSF (getE 1) (partF (cst (.int 1))) noPart) noF)) noF))) (is := [1]) (env := [some (.str (rowS gs)), none]) (x := fun d => .str (dgS d)) (y := dgV) (as := gs) (by
      show (bin2 splitF (getE 0) (cst (.str " ")) [some (.str (rowS gs)), none]).bind _ = _
      rw [bin2_ok (op := splitF) (f := getE 0) (g := cst (.str " ")) (x := .str (rowS gs)) rfl rfl sp, Option.bind_some, List.map_map]
      rfl) (by show _ ≤ 100000; omega) fun d hd => ⟨[(1, .str (dgS d))], rfl, read_dg (lo d hd) _⟩
    show (lcF _ _ _ _ _ [some (.str (rowS gs)), none]).map Val.lst = _
    rw [k]
    rfl
/-! check_text -/
theorem next_ev {a b : Str} {c : Nat} (h : stepT a c = some b) : f_next_step [.str a, .str ⟨#[c]⟩] = some (.str b) := by
  unfold stepT at h
  obtain ⟨rows, e1, h⟩ := Option.bind_eq_some_iff.mp h
  obtain ⟨r, e2, rfl⟩ := Option.map_eq_some_iff.mp h
  show (nextsT.lookup a).map _ = _
  rw [e1]
  show some (match rows.find? fun r => decide (c ∈ r.1.cps.toList) with
    | some r => Val.str r.2
    | none => .non) = _
  rw [e2]
abbrev ctB : En → Option Out := seqG (setG 1 (stF [] (appF f_next_step (consF (getE 1) (consF (getE 3) noF))))) (ifG (tst (bin2 (isNV false) (getE 1) (cst .non))) nevG nilG)
abbrev ctM : Val → Option (List (Nat × Val)) := setTup 2 (setCo (setV 2) (setCo (setV 3) setNo))
theorem ct_loop {x : Val} : ∀ (cs : List Nat) (k : Int) (a e : Str) (o2 o3 : Option Val), runT a cs = some e → ∃ o2' o3', forGo ctM ctB (pairV (rangeV k cs.length) (cs.map fun c => .str ⟨#[c]⟩)) [some x, some (.str a), o2, o3] = some (.nx [some x, some (.str e), o2', o3'])
  | [], k, a, e, o2, o3, h => by
    cases h
    exact ⟨o2, o3, rfl⟩
  | c :: cs, k, a, e, o2, o3, h => by
    obtain ⟨b, e1, h⟩ := Option.bind_eq_some_iff.mp (show (stepT a c).bind (fun b => runT b cs) = some e from h)
    obtain ⟨o2', o3', ih⟩ := ct_loop (x := x) cs (k + 1) b e (some (.int k)) (some (.str ⟨#[c]⟩)) h
    refine ⟨o2', o3', ?_⟩
    have eb : ctB [some x, some (.str a), some (.int k), some (.str ⟨#[c]⟩)] = some (.nx [some x, some (.str b), some (.int k), some (.str ⟨#[c]⟩)]) := by
      have e2 : setG 1 (stF [] (appF f_next_step (consF (getE 1) (consF (getE 3) noF)))) [some x, some (.str a), some (.int k), some (.str ⟨#[c]⟩)] = some (.nx [some x, some (.str b), some (.int k), some (.str ⟨#[c]⟩)]) :=
        setG_ok (appF_ok (xs := [.str a, .str ⟨#[c]⟩]) rfl (next_ev e1))
      exact (seqG_nx e2).trans ((ifG_f rfl).trans rfl)
    show forGo ctM ctB (.tup [.int k, .str ⟨#[c]⟩] :: pairV (rangeV (k + 1) cs.length) (cs.map fun c => .str ⟨#[c]⟩)) [some x, some (.str a), o2, o3] = _
    rw [forGo]
    show (ctB [some x, some (.str a), some (.int k), some (.str ⟨#[c]⟩)]).bind _ = _
    rw [eb]
    exact ih
theorem check_ev {x e : Str} (h : runT "row" (tl x) = some e) (he : e ∈ endsT) : f_check_text [.str x] = some .non := by
  obtain ⟨o2, o3, k⟩ := ct_loop (x := .str x) (tl x) 0 "row" e none none h
  have e1 : ifG (notT (tst (isiF "str" (getE 0)))) nevG nilG [some (.str x), none, none, none] = some (.nx [some (.str x), none, none, none]) := (ifG_f (by kernel_rfl)).trans rfl
  have e2 : setG 1 (stF [] (cst (.str "row"))) [some (.str x), none, none, none] = some (.nx [some (.str x), some (.str "row"), none, none]) := setG_ok rfl
  have e3 : forG [] (enuSt (consF (getE 0) noF)) ctM ctB [some (.str x), some (.str "row"), none, none] = some (.nx [some (.str x), some (.str e), o2, o3]) := by
    show forGo ctM ctB (pairV (rangeV 0 (sgnsV x).length) (sgnsV x)) [some (.str x), some (.str "row"), none, none] = _
    have l : (sgnsV x).length = (tl x).length := by unfold sgnsV; rw [List.length_map]
    rw [l]
    exact k
  have e4 : ifG (endF (getE 1)) nevG nilG [some (.str x), some (.str e), o2, o3] = some (.nx [some (.str x), some (.str e), o2, o3]) := by
    refine (ifG_f ?_).trans rfl
    show some (!decide (e ∈ endsT)) = _
    rw [decide_eq_true he] <;> rfl
  have e5 : g_check_text [some (.str x), none, none, none] = some (.nx [some (.str x), some (.str e), o2, o3]) := by
    unfold g_check_text
    rw [seqG_nx e1, seqG_nx e2, seqG_nx e3]
    exact e4
  show (g_check_text [some (.str x), none, none, none]).bind _ = _
  rw [e5] <;> rfl
/-! read_talk -/
theorem read_talk_ev {gss : List (List Dg)} {t : Val} (ne : gss ≠ []) (lo : ∀ gs ∈ gss, Low gs) (l : ∀ gs ∈ gss, gs.length ≤ 24) (h : gss.length ≤ 6) (et : f_TalkX [tLstV gss] = some t) : f_read_talk [.str (talkS gss)] = some t := by
  obtain ⟨e, he, k⟩ := talk_run gss ne lo
  have k1 := check_ev (x := talkS gss) (by rw [tl_talk]; exact k) he
  have sp : splitF (.str (talkS gss)) (.str " / ") = some (.lst ((gss.map rowS).map .str)) := by
    rw [splitF_ok (by decide +kernel) (by have := talk_slen lo l h; show _ ≤ 16777216; omega), split_talk ne lo]
  refine runV_rt rfl ?_
  show g_read_talk [some (.str (talkS gss)), none] = _
  have e1 : doG (appF f_check_text (consF (getE 0) noF)) [some (.str (talkS gss)), none] = some (.nx [some (.str (talkS gss)), none]) := by
    show (appF f_check_text (consF (getE 0) noF) [some (.str (talkS gss)), none]).map _ = _
    rw [appF_ok (xs := [.str (talkS gss)]) rfl k1] <;> rfl
  unfold g_read_talk
  rw [seqG_nx e1]
  refine retG_ok ?_
  have k2 := lcF_map (α := List Dg) (fi := itL (bin2 splitF (getE 0) (cst (.str " / ")))) (bnd := setV 1) (fe := appF f_read_row (consF (getE 1) noF)) (is := [1]) (env := [some (.str (talkS gss)), none]) (x := fun gs => .str (rowS gs)) (y := fun gs => .lst (gs.map dgV)) (as := gss) (by
    show (bin2 splitF (getE 0) (cst (.str " / ")) [some (.str (talkS gss)), none]).bind _ = _
    rw [bin2_ok (op := splitF) (f := getE 0) (g := cst (.str " / ")) (x := .str (talkS gss)) rfl rfl sp, Option.bind_some, List.map_map]
    rfl) (by show _ ≤ 100000; omega) fun gs hg => ⟨[(1, .str (rowS gs))], rfl, appF_ok (xs := [.str (rowS gs)]) rfl (read_row_ev (lo gs hg) (l gs hg))⟩
  refine appF_ok (xs := [tLstV gss]) (consF_ok ?_ rfl) et
  show (lcF _ _ _ _ _ [some (.str (talkS gss)), none]).map Val.lst = _
  rw [k2]
  rfl
end Up

namespace Up
open PySem PySem.Spec PyProof.Rows L2 TL
open PySem.Builtin.Str (reprChar)
/-! ### repr of a text -/
theorem quote_or (x : Str) : reprQuote x ∈ ([34, 39] : List Nat) := by
  unfold reprQuote
  split
  · exact List.mem_cons_self ..
  · exact List.mem_cons_of_mem _ (List.mem_cons_self ..)
theorem char_low : ∀ q ∈ ([34, 39] : List Nat), ∀ c : Nat, c < 128 → ∀ x ∈ reprChar q c, x < 128 := by decide +kernel
theorem fold_low {q : Nat} (hq : q ∈ ([34, 39] : List Nat)) : ∀ (l : List Nat) (acc : Array Nat), (∀ c ∈ l, c < 128) → (∀ y ∈ acc.toList, y < 128) → ∀ y ∈ (l.foldl (fun out c => out ++ (reprChar q c).toArray) acc).toList, y < 128
  | [], acc, _, ha => ha
  | c :: l, acc, h, ha => by
    rw [List.foldl_cons]
    refine fold_low hq l _ (fun d hd => h d (List.mem_cons_of_mem _ hd)) fun y hy => ?_
    rw [Array.toList_append] at hy
    rcases List.mem_append.mp hy with z | z
    · exact ha y z
    · exact char_low q hq c (h c (List.mem_cons_self ..)) y z
theorem repr_strOk {x : Str} (h : ∀ c ∈ tl x, c < 128) : PyData.strOk (reprText x) = true := by
  refine strOk_of fun c hc => ?_
  have hq := quote_or x
  unfold reprText at hc
  change c ∈ ((x.cps.foldl (fun out c => out ++ (reprChar (reprQuote x) c).toArray) #[reprQuote x]).push (reprQuote x)).toList at hc
  rw [Array.toList_push, ← Array.foldl_toList] at hc
  have q128 : reprQuote x < 128 := by
    have : ∀ q ∈ ([34, 39] : List Nat), q < 128 := by decide
    exact this _ hq
  rcases List.mem_append.mp hc with z | z
  · exact fold_low hq _ _ h (fun y hy => by rw [List.mem_singleton.mp hy]; exact q128) c z
  · rw [List.mem_singleton.mp z]
    exact q128
theorem repr_str {x : Str} {n : Nat} (h : ∀ c ∈ tl x, c < 128) (l : x.length ≤ n) (hn : n ≤ 100000) : reprF [.str x] = some (.str (reprText x)) := by
  have k := StrLaws.reprText_len x fun c hc => by
    have := h c hc
    have e : (16 : Nat) ^ 8 = 4294967296 := by decide
    omega
  have sm : Small (.str x) (10 * n + 2) 0 := small_str (by
    unfold szB
    rw [Bool.and_eq_true]
    exact ⟨decide_eq_true (by have q : (reprText x).cps.size ≤ 10 * x.length + 2 := k; omega), repr_strOk h⟩)
  have r := reprF_small (x := .str x) (d := .str x) (by simp [dataQ]) sm (by decide) (by omega)
  rw [r, PyData.shown.eq_4]
/-! talks of rows as tuples -/
theorem rowsOf_T (gss : List (List Dg)) : rowsOf (rowsV gss) = some gss := by
  show allO rowOf (gss.map rowV) = some gss
  induction gss with
  | nil => rfl
  | cons gs gss ih =>
    show (rowOf (rowV gs)).bind _ = _
    have e : rowOf (rowV gs) = some gs := rowV_of gs
    rw [e]
    show (allO rowOf _).bind _ = _
    rw [ih]
    rfl
theorem talkX_totR {x : Val} {gss : List (List Dg)} {many : Nat} {S G : Nat → Nat} {Ck : Dg → List Int} (e : rowsOf x = some gss) (v : Valid gss many S G Ck) : ∃ (many : Nat) (S G : Nat → Nat) (Ck : Dg → List Int), f_TalkX [x] = some (talkV gss many S G Ck) := by
  obtain ⟨z, ez⟩ : ∃ z, f_TalkX [x] = some z := by
    unfold f_TalkX
    split
    · exact ⟨_, rfl⟩
    · simp only
      have hh : ∃ z, ∃ (gss' : List (List Dg)) (many : Nat) (S G : Nat → Nat) (Ck : Dg → List Int), rowsOf x = some gss' ∧ Valid gss' many S G Ck ∧ z = talkV gss' many S G Ck := ⟨_, gss, many, S, G, Ck, e, v, rfl⟩
      rw [dif_pos hh]
      exact ⟨_, rfl⟩
  obtain ⟨rows, gss', many', S', G', Ck', e1, e2, e3, rfl⟩ := talkX_ok _ _ ez
  cases e1
  rw [e] at e2
  cases e2
  exact ⟨many', S', G', Ck', ez⟩
def rowQT (gs : List Dg) : PyData := .tuple (gs.map dgD)
theorem rowQT_can (gs : List Dg) : (rowQT gs).canLay0 = true ∧ (rowQT gs).depth ≤ 2 := by
  have h := all_can dg_can gs
  exact ⟨by simp only [rowQT, PyData.canLay0]; exact h.1, by simp only [rowQT, PyData.depth]; omega⟩
theorem rowQT_eqv (a b : List Dg) : PyData.eqv (rowQT a) (rowQT b) = decide (a = b) := by
  show PyData.eqvAll (a.map dgD) (b.map dgD) = _
  exact all_eqv dgD_eqv a b
theorem rowVT_data (gs : List Dg) : dataV (rowV gs) = some (rowQT gs) := by
  unfold rowV
  rw [dataV, dataVs_map dg_data]
  rfl
theorem rowsV_eq (a b : List (List Dg)) : eqF true (rowsV a) (rowsV b) = some (.bl (!decide (a = b))) := by
  have d : ∀ c : List (List Dg), dataV (rowsV c) = some (.tuple (c.map rowQT)) := fun c => by
    unfold rowsV
    rw [dataV, dataVs_map (x := rowV) (d := rowQT) rowVT_data]
    rfl
  have s : ∀ c : List (List Dg), SeqAt.shaped (.tuple (c.map rowQT)) = true := fun c => (shapedL rowQT_can (by decide) c).2
  unfold eqF
  rw [d, d]
  show (if (SeqAt.shaped (.tuple (a.map rowQT)) && SeqAt.shaped (.tuple (b.map rowQT))) = true then some (Val.bl (!PyData.eqv (.tuple (a.map rowQT)) (.tuple (b.map rowQT)))) else none) = _
  rw [s, s, if_pos (by rfl)]
  show some (Val.bl (!PyData.eqvAll (a.map rowQT) (b.map rowQT))) = _
  rw [all_eqv rowQT_eqv]
theorem rowV_nil (gs : List Dg) : eqF true (rowV gs) (.tup []) = some (.bl (!decide (gs = []))) := by
  have s : ∀ c : List Dg, SeqAt.shaped (.tuple (c.map dgD)) = true := fun c => (shapedL dg_can (by decide) c).2
  have e2 : dataV (.tup []) = some (.tuple []) := by simp [dataV, dataVs]
  unfold eqF
  rw [rowVT_data, e2]
  show (if (SeqAt.shaped (.tuple (gs.map dgD)) && SeqAt.shaped (.tuple (([] : List Dg).map dgD))) = true then some (Val.bl (!PyData.eqv (rowQT gs) (rowQT []))) else none) = _
  rw [s, s, if_pos (by rfl), rowQT_eqv]
/-! _law_text -/
theorem word1 (d : Dg) : cutSF (.str d.word) none (some 1) = some (.str (if d.s then ("s" : Str) else "g")) := by
  unfold Dg.word
  cases d.s <;> kernel_rfl
theorem tell_dg {d : Dg} (h : d.l < 13) (t0 t1 t2 : Option Val) : bin2 addStr (slF cutSF (getE 3) noPart (partF (cst (.int 1)))) (appF strIF (consF (getE 4) noF)) [t0, t1, t2, some (.str d.word), some (.int (d.l : Int))] = some (.str (dgS d)) := by
  obtain ⟨h1, h2⟩ := num_small d.l h
  have hs := sg_len d.s
  refine bin2_ok (x := .str (if d.s then ("s" : Str) else "g")) (y := .str (Str.ofString (toString (d.l : Int)))) (word1 d) (appF_ok (xs := [.int (d.l : Int)]) rfl (if_pos h2)) ?_
  exact if_pos (by rw [hs]; show _ ≤ 16777216; omega)
abbrev ltB : En → Option Out := appG 1 (stF [1] (iteF (tst (bin2 (eqF true) (getE 2) (tupF noF))) (bin2 joinF (cst (.str " ")) (fun env => ((lcF (itT (getE 2)) (setTup 2 (setCo (setV 3) (setCo (setV 4) setNo))) yesF (bin2 addStr (slF cutSF (getE 3) noPart (partF (cst (.int 1)))) (appF strIF (consF (getE 4) noF))) [3, 4]) env).map .lst)) (cst (.str "-"))))
theorem lt_row {gs : List Dg} (lo : Low gs) (l : gs.length ≤ 24) (R : Val) : (iteF (tst (bin2 (eqF true) (getE 2) (tupF noF))) (bin2 joinF (cst (.str " ")) (fun env => ((lcF (itT (getE 2)) (setTup 2 (setCo (setV 3) (setCo (setV 4) setNo))) yesF (bin2 addStr (slF cutSF (getE 3) noPart (partF (cst (.int 1)))) (appF strIF (consF (getE 4) noF))) [3, 4]) env).map .lst)) (cst (.str "-"))) [some R, none, some (rowV gs), none, none] = some (.str (rowS gs)) := by
  have e1 : tst (bin2 (eqF true) (getE 2) (tupF noF)) [some R, none, some (rowV gs), none, none] = some (!decide (gs = [])) := by
    unfold tst
    rw [bin2_ok (op := eqF true) (f := getE 2) (g := tupF noF) (x := rowV gs) (y := .tup []) rfl rfl (rowV_nil gs)]
    rfl
  unfold iteF
  rw [e1, Option.bind_some]
  by_cases c : gs = []
  · rw [decide_eq_true c]
    subst c
    rfl
  · rw [decide_eq_false c, Bool.not_false, if_pos rfl]
    have k := lcF_map (α := Dg) (fi := itT (getE 2)) (bnd := setTup 2 (setCo (setV 3) (setCo (setV 4) setNo))) (fe := bin2 addStr (slF cutSF (getE 3) noPart (partF (cst (.int 1)))) (appF strIF (consF (getE 4) noF))) (is := [3, 4]) (env := [some R, none, some (rowV gs), none, none]) (x := dgV) (y := fun d => .str (dgS d)) (as := gs) rfl (by show _ ≤ 100000; omega) fun d hd => ⟨[(3, .str d.word), (4, .int (d.l : Int))], rfl, tell_dg (lo d hd) _ _ _⟩
    unfold rowS
    rw [if_neg c]
    refine bin2_ok (x := .str " ") (y := .lst ((gs.map dgS).map .str)) rfl ?_ (join_dg lo l)
    show (lcF _ _ _ _ _ [some R, none, some (rowV gs), none, none]).map Val.lst = _
    rw [k, List.map_map]
    rfl
theorem lt_loop {R : Val} : ∀ (gss : List (List Dg)) (acc : List Val) (o2 : Option Val), (∀ gs ∈ gss, Low gs) → (∀ gs ∈ gss, gs.length ≤ 24) → acc.length + gss.length ≤ 6 → ∃ o2', forGo (setV 2) ltB (gss.map rowV) [some R, some (.lst acc), o2, none, none] = some (.nx [some R, some (.lst (acc ++ gss.map fun gs => .str (rowS gs))), o2', none, none])
  | [], acc, o2, _, _, _ => ⟨o2, by rw [List.map_nil, List.map_nil, List.append_nil]; rfl⟩
  | gs :: gss, acc, o2, lo, l, h => by
    rw [List.length_cons] at h
    obtain ⟨o2', ih⟩ := lt_loop (R := R) gss (acc ++ [.str (rowS gs)]) (some (rowV gs)) (fun x hx => lo x (List.mem_cons_of_mem _ hx)) (fun x hx => l x (List.mem_cons_of_mem _ hx)) (by rw [List.length_append]; simp; omega)
    refine ⟨o2', ?_⟩
    have eb : ltB [some R, some (.lst acc), some (rowV gs), none, none] = some (.nx [some R, some (.lst (acc ++ [.str (rowS gs)])), some (rowV gs), none, none]) := by
      show (if acc.length ≤ most then _ else none) = _
      rw [if_pos (by show _ ≤ 100000; omega)]
      show (stF [1] _ [some R, some (.lst acc), some (rowV gs), none, none]).map _ = _
      have q := lt_row (lo gs (List.mem_cons_self ..)) (l gs (List.mem_cons_self ..)) R
      show (iteF _ _ _ [some R, none, some (rowV gs), none, none]).map _ = _
      rw [q]
      rfl
    rw [List.map_cons, forGo]
    show (ltB [some R, some (.lst acc), some (rowV gs), none, none]).bind _ = _
    rw [eb, List.map_cons]
    have ea : acc ++ Val.str (rowS gs) :: gss.map (fun gs => Val.str (rowS gs)) = (acc ++ [.str (rowS gs)]) ++ gss.map fun gs => .str (rowS gs) := by rw [List.append_assoc]; rfl
    rw [ea]
    exact ih
theorem law_text_ev {gss : List (List Dg)} (lo : ∀ gs ∈ gss, Low gs) (l : ∀ gs ∈ gss, gs.length ≤ 24) (h : gss.length ≤ 6) : f__law_text [rowsV gss] = some (.str (talkS gss)) := by
  refine runV_rt rfl ?_
  show g__law_text [some (rowsV gss), none, none, none, none] = _
  obtain ⟨o2, k⟩ := lt_loop (R := rowsV gss) gss [] none lo l (by simp; omega)
  have e1 : newG 1 (stN [1] (fun env => (noF env).bind fun xs => if xs.length ≤ most then some xs else none)) [some (rowsV gss), none, none, none, none] = some (.nx [some (rowsV gss), some (.lst []), none, none, none]) := by kernel_rfl
  have e2 : forG [1] (itT (getE 0)) (setV 2) ltB [some (rowsV gss), some (.lst []), none, none, none] = some (.nx [some (rowsV gss), some (.lst (gss.map fun gs => .str (rowS gs))), o2, none, none]) := k
  unfold g__law_text
  rw [seqG_nx e1, seqG_nx e2]
  refine retG_ok (bin2_ok (x := .str " / ") (y := .lst ((gss.map rowS).map .str)) rfl ?_ (join_rows lo l h))
  rw [List.map_map]
  rfl
end Up

namespace Up
open PySem PySem.Spec PyProof.Rows L2 TL
/-! ### the law of k60 -/
theorem talkX_from {xs : List Val} {t : Val} (e : f_Talk xs = some t) : f_TalkX xs = some t := by
  unfold f_TalkX
  rw [e]
theorem row_le_flat {gs : List Dg} : ∀ {gss : List (List Dg)}, gs ∈ gss → gs.length ≤ gss.flatten.length
  | g :: gss, h => by
    rw [List.flatten_cons, List.length_append]
    rcases List.mem_cons.mp h with z | z
    · rw [z]
      omega
    · have := row_le_flat z
      omega
theorem Valid.low {gss : List (List Dg)} {many : Nat} {S G : Nat → Nat} {Ck : Dg → List Int} (v : Valid gss many S G Ck) : ∀ gs ∈ gss, Low gs := fun gs hg d hd => by
  obtain ⟨i, hi⟩ := List.getElem?_of_mem hg
  obtain ⟨n, hn⟩ := List.getElem?_of_mem hd
  obtain ⟨t, ht, rfl⟩ := List.mem_map.mp (in_all hi hn)
  have := v.lt t ht
  have := v.m12
  omega
theorem Valid.short {gss : List (List Dg)} {many : Nat} {S G : Nat → Nat} {Ck : Dg → List Int} (v : Valid gss many S G Ck) : ∀ gs ∈ gss, gs.length ≤ 24 := fun gs hg => by
  have h1 := row_le_flat hg
  have h2 := v.flat
  have h3 := v.m12
  omega
def P60 (m : Addr) (t2 t3 t4 t5 t6 t7 : Option Val) : En := [none, some (.loc m), t2, t3, t4, t5, t6, t7]
def threeT : List (Nat × Nat) := [(3, 3), (7, 6), (12, 6)]
def two60 : Val := .lst [.lst [.tup [.str "send", .int 0], .tup [.str "get", .int 1]], .lst [.tup [.str "get", .int 0], .tup [.str "send", .int 1]]]
theorem fix_two : ((f_Talk [two60]).bind fun t => bin2 (eqF false) (appF f_talk_text (consF (cst t) noF)) (cst (.str "s0 g1 / g0 s1")) []) = some (.bl true) := by kernel_rfl
theorem fix_gap : ((f_Talk [tLstV [[], []]]).bind fun t => bin2 (eqF false) (fldF 0 "rows" (cst t)) (tupF (consF (tupF noF) (consF (tupF noF) noF))) []) = some (.bl true) := by kernel_rfl
theorem fix_one : ((f_Talk [tLstV [[]]]).bind fun t => bin2 (eqF false) (fldF 0 "many" (cst t)) (cst (.int 0)) []) = some (.bl true) := by kernel_rfl
theorem txt_gap : talkS [[], []] = ("- / -" : Str) := by decide +kernel
theorem txt_one : talkS [[]] = ("-" : Str) := by decide +kernel
theorem fld_of {c : Nat} {s : Str} {f : En → Option Val} {env : En} {t : Val} (e : f env = some t) : fldF c s f env = fldF c s (cst t) [] := by
  unfold fldF
  rw [e]
  rfl
theorem last60 (env : En) (t : Val) (h7 : getE 7 env = some t) (e2 : bin2 (eqF false) (appF f_talk_text (consF (cst t) noF)) (cst (.str "s0 g1 / g0 s1")) [] = some (.bl true)) :
    andF (bin2 (eqF false) (appF f_talk_text (consF (getE 7) noF)) (cst (.str "s0 g1 / g0 s1"))) (andF (bin2 (eqF false) (fldF 0 "rows" (appF f_read_talk (consF (cst (.str "- / -")) noF))) (tupF (consF (tupF noF) (consF (tupF noF) noF)))) (bin2 (eqF false) (fldF 0 "many" (appF f_read_talk (consF (cst (.str "-")) noF))) (cst (.int 0)))) env = some (.bl true) := by
  have a1 : bin2 (eqF false) (appF f_talk_text (consF (getE 7) noF)) (cst (.str "s0 g1 / g0 s1")) env = some (.bl true) := by
    rw [← e2]
    have q : appF f_talk_text (consF (getE 7) noF) env = appF f_talk_text (consF (cst t) noF) [] := by
      unfold appF consF
      rw [h7]
      rfl
    unfold bin2
    rw [q]
    rfl
  obtain ⟨t3, g1, g2⟩ := Option.bind_eq_some_iff.mp fix_gap
  obtain ⟨t4, o1, o2⟩ := Option.bind_eq_some_iff.mp fix_one
  have r3 := read_talk_ev (gss := [[], []]) (by simp) (fun gs hg d hd => by simp at hg; subst hg; cases hd) (fun gs hg => by simp at hg; subst hg; exact Nat.zero_le _) (by decide) (talkX_from g1)
  have r4 := read_talk_ev (gss := [[]]) (by simp) (fun gs hg d hd => by simp at hg; subst hg; cases hd) (fun gs hg => by simp at hg; subst hg; exact Nat.zero_le _) (by decide) (talkX_from o1)
  rw [txt_gap] at r3
  rw [txt_one] at r4
  have a3 : bin2 (eqF false) (fldF 0 "rows" (appF f_read_talk (consF (cst (.str "- / -")) noF))) (tupF (consF (tupF noF) (consF (tupF noF) noF))) env = some (.bl true) := by
    rw [← g2]
    unfold bin2
    rw [fld_of (appF_ok (xs := [.str "- / -"]) rfl r3)]
    rfl
  have a4 : bin2 (eqF false) (fldF 0 "many" (appF f_read_talk (consF (cst (.str "-")) noF))) (cst (.int 0)) env = some (.bl true) := by
    rw [← o2]
    unfold bin2
    rw [fld_of (appF_ok (xs := [.str "-"]) rfl r4)]
    rfl
  exact andF_ok a1 fun _ => andF_ok a3 fun _ => a4
theorem wp60 (m : Addr) : lw_rest m (lw_env m) 0 fun o _ => o = .rt (.bl true) := by
  refine ⟨threeT.map fun p => .tup [.int (p.1 : Int), .int (p.2 : Int)], rfl, ?_⟩
  refine forD_inv (α := Nat × Nat) (J := fun i env b => b ≤ 100 * i ∧ ∃ t2 t3 t4 t5 t6, env = P60 m t2 t3 t4 t5 t6 none) threeT 0 (fun i a env b e ⟨eb, t2, t3, t4, t5, t6, ee⟩ => ⟨[(2, .int (a.1 : Int)), (3, .int (a.2 : Int))], rfl, fun R' h => ?_⟩) ⟨Nat.zero_le _, none, none, none, none, none, rfl⟩ fun env b2 ⟨eb, t2, t3, t4, t5, t6, ee⟩ => ?_
  · subst ee
    rw [Nat.zero_add] at eb h
    have hi : i < 3 := by
      have := (List.getElem?_eq_some_iff.mp e).1
      exact this
    have ha : a.1 ≤ 12 ∧ 2 ≤ a.2 ∧ a.2 ≤ 6 := by
      have hm := List.mem_of_getElem? e
      have all : ∀ a ∈ threeT, a.1 ≤ 12 ∧ 2 ≤ a.2 ∧ a.2 ≤ 6 := by decide
      exact all a hm
    refine ⟨_, consF_ok (x := .loc m) rfl (consF_ok (x := .int (a.1 : Int)) rfl (consF_ok (x := .int (a.2 : Int)) rfl rfl)), frows ha.1 ha.2.1 ha.2.2 (by omega) fun gss many S G Ck b' v hm h2 h6 hb => ?_⟩
    have lo := v.low
    have sh := v.short
    have hh := v.h6
    have ne : gss ≠ [] := fun z => by
      rw [z] at h2
      exact absurd h2 (by decide)
    obtain ⟨n1, S1, G1, C1, v1, et⟩ := talkX_tot v
    obtain ⟨n2, S2, G2, C2, et2⟩ := talkX_totR (rowsOf_T gss) v
    let X : Val := .str (talkS gss)
    let T := talkV gss n1 S1 G1 C1
    let T2 := talkV gss n2 S2 G2 C2
    let Q : Val := .str (reprText (talkS gss))
    have low : ∀ c ∈ tl (talkS gss), c < 128 := by
      rw [tl_talk]
      exact tkL_low lo
    have rp : reprF [X] = some Q := repr_str low (talk_slen lo sh hh) (by decide)
    refine ⟨rfl, _, setG_ok (x := X) (appF_ok (xs := [rowsV gss]) rfl (law_text_ev lo sh hh)), ?_⟩
    refine ⟨rfl, _, setG_ok (x := T) (appF_ok (xs := [X]) rfl (read_talk_ev ne lo sh hh et)), ?_⟩
    have qq : eqF true Q Q = some (.bl false) := by
      have k := eq_strs (a := reprText (talkS gss)) (b := reprText (talkS gss)) true (repr_strOk low) (repr_strOk low)
      rw [k]
      simp
    have rr : eqF true (rowsV gss) (rowsV gss) = some (.bl false) := by
      rw [rowsV_eq]
      simp
    refine ifD_f (orT_f (tst_ok (bin2_ok (x := Q) (y := Q) (appF_ok (xs := [X]) (consF_ok (appF_ok (xs := [T2]) (consF_ok (appF_ok (xs := [rowsV gss]) rfl et2) rfl) (talk_text_ev lo sh hh)) rfl) rp) (appF_ok (xs := [X]) rfl rp) qq)) (orT_f (notT_ok (tst_ok (b := true) rfl)) (tst_ok (bin2_ok (x := rowsV gss) (y := rowsV gss) rfl rfl rr)))) ?_
    exact h _ _ ⟨by omega, _, _, _, _, _, rfl⟩
  · subst ee
    obtain ⟨t, g1, g2⟩ := Option.bind_eq_some_iff.mp fix_two
    refine ⟨rfl, _, setG_ok (x := t) (appF_ok (xs := [two60]) rfl (talkX_from g1)), ?_⟩
    exact ⟨rfl, _, retG_ok (last60 _ t rfl g2), rfl⟩
end Up

namespace Up
open PySem PySem.Spec PyProof.Rows L2
theorem kit_sub {K : PySem.W.Frag} {t : Value} {C : Addr} {b : Bool} (h1 : PySem.W.subIn K (.ref C) (.ref C) = some true) (h2 : PySem.W.isClsIn K C = true) (h3 : PySem.W.typeIn K (.ref C) = some (.type "type")) (h4 : PySem.W.subIn K t (.ref C) = some b) : PySem.W.kitOne K t (.ref C) = some b := by
  have h2' : (PySem.W.clsIn K C).isSome = true := h2
  by_cases c : (t == Value.ref C) = true
  · have e : t = Value.ref C := eq_of_beq c
    subst e
    rw [h1] at h4
    cases h4
    unfold PySem.W.kitOne
    rw [if_pos c]
  · unfold PySem.W.kitOne PySem.W.kitCls
    rw [if_neg c]
    show (if ((PySem.W.clsIn K C).isSome && PySem.W.typeIn K (.ref C) == some (.type "type")) = true then PySem.W.subIn K t (.ref C) else none) = some b
    rw [h2', h3, if_pos (by rfl)]
    exact h4
theorem all_mk {P : Program} {w : World} {K : PySem.W.Frag} {h : Heap} {mg : Str → Option Value} {fa : Addr} (X : K.In h) (G : h.Ns mainGlobals mg) (hfa : mg "law" = some (.ref fa))
    {tH tL : Tok}
    {f_is_whole : Addr}
    {od_is_whole an_is_whole : Option Addr}
    {sl_is_whole : Array (Option Value)}
    {oc_is_whole kV_is_whole dc_is_whole pm_is_whole cd_is_whole ct_is_whole : Value}
    {f_is_index : Addr}
    {od_is_index an_is_index : Option Addr}
    {sl_is_index : Array (Option Value)}
    {oc_is_index kV_is_index dc_is_index pm_is_index cd_is_index ct_is_index : Value}
    {f_is_listing : Addr}
    {od_is_listing an_is_listing : Option Addr}
    {sl_is_listing : Array (Option Value)}
    {oc_is_listing kV_is_listing dc_is_listing pm_is_listing cd_is_listing ct_is_listing : Value}
    {f_is_couple : Addr}
    {od_is_couple an_is_couple : Option Addr}
    {sl_is_couple : Array (Option Value)}
    {oc_is_couple kV_is_couple dc_is_couple pm_is_couple cd_is_couple ct_is_couple : Value}
    {f_is_doing : Addr}
    {od_is_doing an_is_doing : Option Addr}
    {sl_is_doing : Array (Option Value)}
    {oc_is_doing kV_is_doing dc_is_doing pm_is_doing cd_is_doing ct_is_doing : Value}
    {f_copied_rows : Addr}
    {od_copied_rows an_copied_rows : Option Addr}
    {sl_copied_rows : Array (Option Value)}
    {oc_copied_rows kV_copied_rows dc_copied_rows pm_copied_rows cd_copied_rows ct_copied_rows : Value}
    {f_found_places : Addr}
    {od_found_places an_found_places : Option Addr}
    {sl_found_places : Array (Option Value)}
    {oc_found_places kV_found_places dc_found_places pm_found_places cd_found_places ct_found_places : Value}
    {f_count_letters : Addr}
    {od_count_letters an_count_letters : Option Addr}
    {sl_count_letters : Array (Option Value)}
    {oc_count_letters kV_count_letters dc_count_letters pm_count_letters cd_count_letters ct_count_letters : Value}
    {f_check_letters : Addr}
    {od_check_letters an_check_letters : Option Addr}
    {sl_check_letters : Array (Option Value)}
    {oc_check_letters kV_check_letters dc_check_letters pm_check_letters cd_check_letters ct_check_letters : Value}
    {f_found_hands : Addr}
    {od_found_hands an_found_hands : Option Addr}
    {sl_found_hands : Array (Option Value)}
    {oc_found_hands kV_found_hands dc_found_hands pm_found_hands cd_found_hands ct_found_hands : Value}
    {f_found_clocks : Addr}
    {od_found_clocks an_found_clocks : Option Addr}
    {sl_found_clocks : Array (Option Value)}
    {oc_found_clocks kV_found_clocks dc_found_clocks pm_found_clocks cd_found_clocks ct_found_clocks : Value}
    {f_row_clocks : Addr}
    {od_row_clocks an_row_clocks : Option Addr}
    {sl_row_clocks : Array (Option Value)}
    {oc_row_clocks kV_row_clocks dc_row_clocks pm_row_clocks cd_row_clocks ct_row_clocks : Value}
    {f_law_mixed : Addr}
    {od_law_mixed an_law_mixed : Option Addr}
    {sl_law_mixed : Array (Option Value)}
    {oc_law_mixed kV_law_mixed dc_law_mixed pm_law_mixed cd_law_mixed ct_law_mixed : Value}
    {f_law_folded : Addr}
    {od_law_folded an_law_folded : Option Addr}
    {sl_law_folded : Array (Option Value)}
    {oc_law_folded kV_law_folded dc_law_folded pm_law_folded cd_law_folded ct_law_folded : Value}
    {f_law_draw : Addr}
    {od_law_draw an_law_draw : Option Addr}
    {sl_law_draw : Array (Option Value)}
    {oc_law_draw kV_law_draw dc_law_draw pm_law_draw cd_law_draw ct_law_draw : Value}
    {f_law_begun : Addr}
    {od_law_begun an_law_begun : Option Addr}
    {sl_law_begun : Array (Option Value)}
    {oc_law_begun kV_law_begun dc_law_begun pm_law_begun cd_law_begun ct_law_begun : Value}
    {CT fTI fTE : Addr}
    {odTI anTI : Option Addr}
    {slTI : Array (Option Value)}
    {ocTI kVTI dcTI pmTI cdTI ctTI : Value}
    {odTE anTE : Option Addr}
    {slTE : Array (Option Value)}
    {ocTE kVTE dcTE pmTE cdTE ctTE : Value}
    {f_read_row : Addr}
    {od_read_row an_read_row : Option Addr}
    {sl_read_row : Array (Option Value)}
    {oc_read_row kV_read_row dc_read_row pm_read_row cd_read_row ct_read_row : Value}
    {f_next_step : Addr}
    {od_next_step an_next_step : Option Addr}
    {sl_next_step : Array (Option Value)}
    {oc_next_step kV_next_step dc_next_step pm_next_step cd_next_step ct_next_step : Value}
    {f_check_text : Addr}
    {od_check_text an_check_text : Option Addr}
    {sl_check_text : Array (Option Value)}
    {oc_check_text kV_check_text dc_check_text pm_check_text cd_check_text ct_check_text : Value}
    {f_read_talk : Addr}
    {od_read_talk an_read_talk : Option Addr}
    {sl_read_talk : Array (Option Value)}
    {oc_read_talk kV_read_talk dc_read_talk pm_read_talk cd_read_talk ct_read_talk : Value}
    {f_row_text : Addr}
    {od_row_text an_row_text : Option Addr}
    {sl_row_text : Array (Option Value)}
    {oc_row_text kV_row_text dc_row_text pm_row_text cd_row_text ct_row_text : Value}
    {f_talk_text : Addr}
    {od_talk_text an_talk_text : Option Addr}
    {sl_talk_text : Array (Option Value)}
    {oc_talk_text kV_talk_text dc_talk_text pm_talk_text cd_talk_text ct_talk_text : Value}
    {f_law_text : Addr}
    {od_law_text an_law_text : Option Addr}
    {sl_law_text : Array (Option Value)}
    {oc_law_text kV_law_text dc_law_text pm_law_text cd_law_text ct_law_text : Value}
    {f_law_order : Addr}
    {od_law_order an_law_order : Option Addr}
    {sl_law_order : Array (Option Value)}
    {oc_law_order kV_law_order dc_law_order pm_law_order cd_law_order ct_law_order : Value}
    {f_law_rows : Addr}
    {od_law_rows an_law_rows : Option Addr}
    {sl_law_rows : Array (Option Value)}
    {oc_law_rows kV_law_rows dc_law_rows pm_law_rows cd_law_rows ct_law_rows : Value}
    {f_law : Addr}
    {od_law an_law : Option Addr}
    {sl_law : Array (Option Value)}
    {oc_law kV_law dc_law pm_law cd_law ct_law : Value}
    {aW aN aE : Addr}
    {esW esN : Array DictEntry} {nW nN : Nat}
    {tw0 : Tok}
    {tw1 : Tok}
    {dE : Option Addr} {nE : Nat} {slE : Array (Option Value)} {te0 te1 te2 : Tok}
    {aN0 : Addr} {dN0 : Option Addr} {nN0 : Nat} {slN0 : Array (Option Value)}
    {b00 : Addr} {db00 : Option Addr} {nb00 : Nat} {slb00 : Array (Option Value)} {ta00 tb00 : Tok}
    {b01 : Addr} {db01 : Option Addr} {nb01 : Nat} {slb01 : Array (Option Value)} {ta01 tb01 : Tok}
    {aN1 : Addr} {dN1 : Option Addr} {nN1 : Nat} {slN1 : Array (Option Value)}
    {b10 : Addr} {db10 : Option Addr} {nb10 : Nat} {slb10 : Array (Option Value)} {ta10 tb10 : Tok}
    {b11 : Addr} {db11 : Option Addr} {nb11 : Nat} {slb11 : Array (Option Value)} {ta11 tb11 : Tok}
    {aN2 : Addr} {dN2 : Option Addr} {nN2 : Nat} {slN2 : Array (Option Value)}
    {b20 : Addr} {db20 : Option Addr} {nb20 : Nat} {slb20 : Array (Option Value)} {ta20 tb20 : Tok}
    {b21 : Addr} {db21 : Option Addr} {nb21 : Nat} {slb21 : Array (Option Value)} {ta21 tb21 : Tok}
    {aN3 : Addr} {dN3 : Option Addr} {nN3 : Nat} {slN3 : Array (Option Value)}
    {b30 : Addr} {db30 : Option Addr} {nb30 : Nat} {slb30 : Array (Option Value)} {ta30 tb30 : Tok}
    {aN4 : Addr} {dN4 : Option Addr} {nN4 : Nat} {slN4 : Array (Option Value)}
    {b40 : Addr} {db40 : Option Addr} {nb40 : Nat} {slb40 : Array (Option Value)} {ta40 tb40 : Tok}
    {b41 : Addr} {db41 : Option Addr} {nb41 : Nat} {slb41 : Array (Option Value)} {ta41 tb41 : Tok}
    {aN5 : Addr} {dN5 : Option Addr} {nN5 : Nat} {slN5 : Array (Option Value)}
    {b50 : Addr} {db50 : Option Addr} {nb50 : Nat} {slb50 : Array (Option Value)} {ta50 tb50 : Tok}
    {aN6 : Addr} {dN6 : Option Addr} {nN6 : Nat} {slN6 : Array (Option Value)}
    {b60 : Addr} {db60 : Option Addr} {nb60 : Nat} {slb60 : Array (Option Value)} {ta60 tb60 : Tok}
    {aN7 : Addr} {dN7 : Option Addr} {nN7 : Nat} {slN7 : Array (Option Value)}
    {b70 : Addr} {db70 : Option Addr} {nb70 : Nat} {slb70 : Array (Option Value)} {ta70 tb70 : Tok}
    (z_int : PySem.W.nsIn K mainGlobals "int" = some none)
    (z_len : PySem.W.nsIn K mainGlobals "len" = some none)
    (z_range : PySem.W.nsIn K mainGlobals "range" = some none)
    (z_enumerate : PySem.W.nsIn K mainGlobals "enumerate" = some none)
    (z_isinstance : PySem.W.nsIn K mainGlobals "isinstance" = some none)
    (z_bool : PySem.W.nsIn K mainGlobals "bool" = some none)
    (z_str : PySem.W.nsIn K mainGlobals "str" = some none)
    (z_list : PySem.W.nsIn K mainGlobals "list" = some none)
    (z_tuple : PySem.W.nsIn K mainGlobals "tuple" = some none)
    (z_max : PySem.W.nsIn K mainGlobals "max" = some none)
    (z_zip : PySem.W.nsIn K mainGlobals "zip" = some none)
    (z_min : PySem.W.nsIn K mainGlobals "min" = some none)
    (z_set : PySem.W.nsIn K mainGlobals "set" = some none)
    (z_sorted : PySem.W.nsIn K mainGlobals "sorted" = some none)
    (z_sum : PySem.W.nsIn K mainGlobals "sum" = some none)
    (z_repr : PySem.W.nsIn K mainGlobals "repr" = some none)
    (mH : PySem.W.nsIn K mainGlobals "MOST_HANDS" = some (some (.int 6 tH)))
    (mL : PySem.W.nsIn K mainGlobals "MOST_LETTERS" = some (some (.int 12 tL)))
    (a_is_whole : PySem.W.nsIn K mainGlobals "is_whole" = some (some (.ref f_is_whole)))
    (l_is_whole : K.lookup f_is_whole = some ⟨oc_is_whole, od_is_whole, .func (PySem.W.fnOf "is_whole" "is_whole" (defArgs s_is_whole) (defBody s_is_whole) (defScope s_is_whole) .none kV_is_whole dc_is_whole pm_is_whole an_is_whole cd_is_whole ct_is_whole), sl_is_whole⟩)
    (c_is_whole : PySem.W.codeIn K cd_is_whole "is_whole" = true)
    (k_is_whole : PySem.W.keepIn K (.ref f_is_whole) = true)
    (a_is_index : PySem.W.nsIn K mainGlobals "is_index" = some (some (.ref f_is_index)))
    (l_is_index : K.lookup f_is_index = some ⟨oc_is_index, od_is_index, .func (PySem.W.fnOf "is_index" "is_index" (defArgs s_is_index) (defBody s_is_index) (defScope s_is_index) .none kV_is_index dc_is_index pm_is_index an_is_index cd_is_index ct_is_index), sl_is_index⟩)
    (c_is_index : PySem.W.codeIn K cd_is_index "is_index" = true)
    (k_is_index : PySem.W.keepIn K (.ref f_is_index) = true)
    (a_is_listing : PySem.W.nsIn K mainGlobals "is_listing" = some (some (.ref f_is_listing)))
    (l_is_listing : K.lookup f_is_listing = some ⟨oc_is_listing, od_is_listing, .func (PySem.W.fnOf "is_listing" "is_listing" (defArgs s_is_listing) (defBody s_is_listing) (defScope s_is_listing) .none kV_is_listing dc_is_listing pm_is_listing an_is_listing cd_is_listing ct_is_listing), sl_is_listing⟩)
    (c_is_listing : PySem.W.codeIn K cd_is_listing "is_listing" = true)
    (k_is_listing : PySem.W.keepIn K (.ref f_is_listing) = true)
    (a_is_couple : PySem.W.nsIn K mainGlobals "is_couple" = some (some (.ref f_is_couple)))
    (l_is_couple : K.lookup f_is_couple = some ⟨oc_is_couple, od_is_couple, .func (PySem.W.fnOf "is_couple" "is_couple" (defArgs s_is_couple) (defBody s_is_couple) (defScope s_is_couple) .none kV_is_couple dc_is_couple pm_is_couple an_is_couple cd_is_couple ct_is_couple), sl_is_couple⟩)
    (c_is_couple : PySem.W.codeIn K cd_is_couple "is_couple" = true)
    (k_is_couple : PySem.W.keepIn K (.ref f_is_couple) = true)
    (a_is_doing : PySem.W.nsIn K mainGlobals "is_doing" = some (some (.ref f_is_doing)))
    (l_is_doing : K.lookup f_is_doing = some ⟨oc_is_doing, od_is_doing, .func (PySem.W.fnOf "is_doing" "is_doing" (defArgs s_is_doing) (defBody s_is_doing) (defScope s_is_doing) .none kV_is_doing dc_is_doing pm_is_doing an_is_doing cd_is_doing ct_is_doing), sl_is_doing⟩)
    (c_is_doing : PySem.W.codeIn K cd_is_doing "is_doing" = true)
    (k_is_doing : PySem.W.keepIn K (.ref f_is_doing) = true)
    (a_copied_rows : PySem.W.nsIn K mainGlobals "copied_rows" = some (some (.ref f_copied_rows)))
    (l_copied_rows : K.lookup f_copied_rows = some ⟨oc_copied_rows, od_copied_rows, .func (PySem.W.fnOf "copied_rows" "copied_rows" (defArgs s_copied_rows) (defBody s_copied_rows) (defScope s_copied_rows) .none kV_copied_rows dc_copied_rows pm_copied_rows an_copied_rows cd_copied_rows ct_copied_rows), sl_copied_rows⟩)
    (c_copied_rows : PySem.W.codeIn K cd_copied_rows "copied_rows" = true)
    (k_copied_rows : PySem.W.keepIn K (.ref f_copied_rows) = true)
    (a_found_places : PySem.W.nsIn K mainGlobals "found_places" = some (some (.ref f_found_places)))
    (l_found_places : K.lookup f_found_places = some ⟨oc_found_places, od_found_places, .func (PySem.W.fnOf "found_places" "found_places" (defArgs s_found_places) (defBody s_found_places) (defScope s_found_places) .none kV_found_places dc_found_places pm_found_places an_found_places cd_found_places ct_found_places), sl_found_places⟩)
    (c_found_places : PySem.W.codeIn K cd_found_places "found_places" = true)
    (k_found_places : PySem.W.keepIn K (.ref f_found_places) = true)
    (a_count_letters : PySem.W.nsIn K mainGlobals "count_letters" = some (some (.ref f_count_letters)))
    (l_count_letters : K.lookup f_count_letters = some ⟨oc_count_letters, od_count_letters, .func (PySem.W.fnOf "count_letters" "count_letters" (defArgs s_count_letters) (defBody s_count_letters) (defScope s_count_letters) .none kV_count_letters dc_count_letters pm_count_letters an_count_letters cd_count_letters ct_count_letters), sl_count_letters⟩)
    (c_count_letters : PySem.W.codeIn K cd_count_letters "count_letters" = true)
    (k_count_letters : PySem.W.keepIn K (.ref f_count_letters) = true)
    (a_check_letters : PySem.W.nsIn K mainGlobals "check_letters" = some (some (.ref f_check_letters)))
    (l_check_letters : K.lookup f_check_letters = some ⟨oc_check_letters, od_check_letters, .func (PySem.W.fnOf "check_letters" "check_letters" (defArgs s_check_letters) (defBody s_check_letters) (defScope s_check_letters) .none kV_check_letters dc_check_letters pm_check_letters an_check_letters cd_check_letters ct_check_letters), sl_check_letters⟩)
    (c_check_letters : PySem.W.codeIn K cd_check_letters "check_letters" = true)
    (k_check_letters : PySem.W.keepIn K (.ref f_check_letters) = true)
    (a_found_hands : PySem.W.nsIn K mainGlobals "found_hands" = some (some (.ref f_found_hands)))
    (l_found_hands : K.lookup f_found_hands = some ⟨oc_found_hands, od_found_hands, .func (PySem.W.fnOf "found_hands" "found_hands" (defArgs s_found_hands) (defBody s_found_hands) (defScope s_found_hands) .none kV_found_hands dc_found_hands pm_found_hands an_found_hands cd_found_hands ct_found_hands), sl_found_hands⟩)
    (c_found_hands : PySem.W.codeIn K cd_found_hands "found_hands" = true)
    (k_found_hands : PySem.W.keepIn K (.ref f_found_hands) = true)
    (a_found_clocks : PySem.W.nsIn K mainGlobals "found_clocks" = some (some (.ref f_found_clocks)))
    (l_found_clocks : K.lookup f_found_clocks = some ⟨oc_found_clocks, od_found_clocks, .func (PySem.W.fnOf "found_clocks" "found_clocks" (defArgs s_found_clocks) (defBody s_found_clocks) (defScope s_found_clocks) .none kV_found_clocks dc_found_clocks pm_found_clocks an_found_clocks cd_found_clocks ct_found_clocks), sl_found_clocks⟩)
    (c_found_clocks : PySem.W.codeIn K cd_found_clocks "found_clocks" = true)
    (k_found_clocks : PySem.W.keepIn K (.ref f_found_clocks) = true)
    (a_row_clocks : PySem.W.nsIn K mainGlobals "row_clocks" = some (some (.ref f_row_clocks)))
    (l_row_clocks : K.lookup f_row_clocks = some ⟨oc_row_clocks, od_row_clocks, .func (PySem.W.fnOf "row_clocks" "row_clocks" (defArgs s_row_clocks) (defBody s_row_clocks) (defScope s_row_clocks) .none kV_row_clocks dc_row_clocks pm_row_clocks an_row_clocks cd_row_clocks ct_row_clocks), sl_row_clocks⟩)
    (c_row_clocks : PySem.W.codeIn K cd_row_clocks "row_clocks" = true)
    (k_row_clocks : PySem.W.keepIn K (.ref f_row_clocks) = true)
    (a_law_mixed : PySem.W.nsIn K mainGlobals "_law_mixed" = some (some (.ref f_law_mixed)))
    (l_law_mixed : K.lookup f_law_mixed = some ⟨oc_law_mixed, od_law_mixed, .func (PySem.W.fnOf "_law_mixed" "_law_mixed" (defArgs sMix) (defBody sMix) (defScope sMix) .none kV_law_mixed dc_law_mixed pm_law_mixed an_law_mixed cd_law_mixed ct_law_mixed), sl_law_mixed⟩)
    (c_law_mixed : PySem.W.codeIn K cd_law_mixed "_law_mixed" = true)
    (k_law_mixed : PySem.W.keepIn K (.ref f_law_mixed) = true)
    (a_law_folded : PySem.W.nsIn K mainGlobals "_law_folded" = some (some (.ref f_law_folded)))
    (l_law_folded : K.lookup f_law_folded = some ⟨oc_law_folded, od_law_folded, .func (PySem.W.fnOf "_law_folded" "_law_folded" (defArgs sFol) (defBody sFol) (defScope sFol) .none kV_law_folded dc_law_folded pm_law_folded an_law_folded cd_law_folded ct_law_folded), sl_law_folded⟩)
    (c_law_folded : PySem.W.codeIn K cd_law_folded "_law_folded" = true)
    (k_law_folded : PySem.W.keepIn K (.ref f_law_folded) = true)
    (a_law_draw : PySem.W.nsIn K mainGlobals "_law_draw" = some (some (.ref f_law_draw)))
    (l_law_draw : K.lookup f_law_draw = some ⟨oc_law_draw, od_law_draw, .func (PySem.W.fnOf "_law_draw" "_law_draw" (defArgs sDrw) (defBody sDrw) (defScope sDrw) .none kV_law_draw dc_law_draw pm_law_draw an_law_draw cd_law_draw ct_law_draw), sl_law_draw⟩)
    (c_law_draw : PySem.W.codeIn K cd_law_draw "_law_draw" = true)
    (k_law_draw : PySem.W.keepIn K (.ref f_law_draw) = true)
    (a_law_begun : PySem.W.nsIn K mainGlobals "_law_begun" = some (some (.ref f_law_begun)))
    (l_law_begun : K.lookup f_law_begun = some ⟨oc_law_begun, od_law_begun, .func (PySem.W.fnOf "_law_begun" "_law_begun" (defArgs sBeg) (defBody sBeg) (defScope sBeg) .none kV_law_begun dc_law_begun pm_law_begun an_law_begun cd_law_begun ct_law_begun), sl_law_begun⟩)
    (c_law_begun : PySem.W.codeIn K cd_law_begun "_law_begun" = true)
    (k_law_begun : PySem.W.keepIn K (.ref f_law_begun) = true)
    (cn : PySem.W.specialIn K (.builtin "object.__class__") "__get__" = some (some (.builtin "getset_descriptor.__get__")))
    (ct : PySem.W.takesIn K (.builtin "object.__class__") = some true)
    (aT : PySem.W.nsIn K mainGlobals "Talk" = some (some (.ref CT)))
    (pgT : PySem.W.plainGet K CT Str.empty = true)
    (hdT : PySem.W.hasDictIn K CT = true)
    (poT : PySem.W.plainOver K CT = true)
    (saT : PySem.W.findIn K (.ref CT) "__setattr__" = some (some (.builtin "object.__setattr__")))
    (msT : PySem.W.makesIn K CT = true)
    (kcT : PySem.W.keepIn K (.ref CT) = true)
    (caT : PySem.W.findIn K (.ref CT) "__class__" = some (some (.builtin "object.__class__")))
    (cmT : PySem.W.mroIn K CT (.type "object") = some true)
    (neT : PySem.W.findIn K (.ref CT) "__ne__" = some (some (.builtin "object.__ne__")))
    (icT : PySem.W.isClsIn K CT = true)
    (tyT : PySem.W.typeIn K (.ref CT) = some (.type "type"))
    (sfT : PySem.W.subIn K (.ref CT) (.ref CT) = some true)
    (a1T : PySem.W.findIn K (.ref CT) "__init__" = some (some (.ref fTI)))
    (i1T : PySem.W.isFn K (.ref fTI) = true)
    (a2T : PySem.W.findIn K (.ref CT) "__eq__" = some (some (.ref fTE)))
    (i2T : PySem.W.isFn K (.ref fTE) = true)
    (n_rows : PySem.W.findIn K (.ref CT) "rows" = some none)
    (n_places : PySem.W.findIn K (.ref CT) "places" = some none)
    (n_many : PySem.W.findIn K (.ref CT) "many" = some none)
    (n_senders : PySem.W.findIn K (.ref CT) "senders" = some none)
    (n_getters : PySem.W.findIn K (.ref CT) "getters" = some none)
    (n_clocks : PySem.W.findIn K (.ref CT) "clocks" = some none)
    (lTI : K.lookup fTI = some ⟨ocTI, odTI, .func (PySem.W.fnOf "__init__" "Talk.__init__" (defArgs s_tinit) (defBody s_tinit) (defScope s_tinit) .none kVTI dcTI pmTI anTI cdTI ctTI), slTI⟩)
    (cTI : PySem.W.codeIn K cdTI "Talk.__init__" = true)
    (kTI : PySem.W.keepIn K (.ref fTI) = true)
    (lTE : K.lookup fTE = some ⟨ocTE, odTE, .func (PySem.W.fnOf "__eq__" "Talk.__eq__" (defArgs s_teq) (defBody s_teq) (defScope s_teq) .none kVTE dcTE pmTE anTE cdTE ctTE), slTE⟩)
    (cTE : PySem.W.codeIn K cdTE "Talk.__eq__" = true)
    (kTE : PySem.W.keepIn K (.ref fTE) = true)
    (a_read_row : PySem.W.nsIn K mainGlobals "read_row" = some (some (.ref f_read_row)))
    (l_read_row : K.lookup f_read_row = some ⟨oc_read_row, od_read_row, .func (PySem.W.fnOf "read_row" "read_row" (defArgs st_read_row) (defBody st_read_row) (defScope st_read_row) .none kV_read_row dc_read_row pm_read_row an_read_row cd_read_row ct_read_row), sl_read_row⟩)
    (c_read_row : PySem.W.codeIn K cd_read_row "read_row" = true)
    (k_read_row : PySem.W.keepIn K (.ref f_read_row) = true)
    (a_next_step : PySem.W.nsIn K mainGlobals "next_step" = some (some (.ref f_next_step)))
    (l_next_step : K.lookup f_next_step = some ⟨oc_next_step, od_next_step, .func (PySem.W.fnOf "next_step" "next_step" (defArgs st_next_step) (defBody st_next_step) (defScope st_next_step) .none kV_next_step dc_next_step pm_next_step an_next_step cd_next_step ct_next_step), sl_next_step⟩)
    (c_next_step : PySem.W.codeIn K cd_next_step "next_step" = true)
    (k_next_step : PySem.W.keepIn K (.ref f_next_step) = true)
    (a_check_text : PySem.W.nsIn K mainGlobals "check_text" = some (some (.ref f_check_text)))
    (l_check_text : K.lookup f_check_text = some ⟨oc_check_text, od_check_text, .func (PySem.W.fnOf "check_text" "check_text" (defArgs st_check_text) (defBody st_check_text) (defScope st_check_text) .none kV_check_text dc_check_text pm_check_text an_check_text cd_check_text ct_check_text), sl_check_text⟩)
    (c_check_text : PySem.W.codeIn K cd_check_text "check_text" = true)
    (k_check_text : PySem.W.keepIn K (.ref f_check_text) = true)
    (a_read_talk : PySem.W.nsIn K mainGlobals "read_talk" = some (some (.ref f_read_talk)))
    (l_read_talk : K.lookup f_read_talk = some ⟨oc_read_talk, od_read_talk, .func (PySem.W.fnOf "read_talk" "read_talk" (defArgs st_read_talk) (defBody st_read_talk) (defScope st_read_talk) .none kV_read_talk dc_read_talk pm_read_talk an_read_talk cd_read_talk ct_read_talk), sl_read_talk⟩)
    (c_read_talk : PySem.W.codeIn K cd_read_talk "read_talk" = true)
    (k_read_talk : PySem.W.keepIn K (.ref f_read_talk) = true)
    (a_row_text : PySem.W.nsIn K mainGlobals "row_text" = some (some (.ref f_row_text)))
    (l_row_text : K.lookup f_row_text = some ⟨oc_row_text, od_row_text, .func (PySem.W.fnOf "row_text" "row_text" (defArgs st_row_text) (defBody st_row_text) (defScope st_row_text) .none kV_row_text dc_row_text pm_row_text an_row_text cd_row_text ct_row_text), sl_row_text⟩)
    (c_row_text : PySem.W.codeIn K cd_row_text "row_text" = true)
    (k_row_text : PySem.W.keepIn K (.ref f_row_text) = true)
    (a_talk_text : PySem.W.nsIn K mainGlobals "talk_text" = some (some (.ref f_talk_text)))
    (l_talk_text : K.lookup f_talk_text = some ⟨oc_talk_text, od_talk_text, .func (PySem.W.fnOf "talk_text" "talk_text" (defArgs st_talk_text) (defBody st_talk_text) (defScope st_talk_text) .none kV_talk_text dc_talk_text pm_talk_text an_talk_text cd_talk_text ct_talk_text), sl_talk_text⟩)
    (c_talk_text : PySem.W.codeIn K cd_talk_text "talk_text" = true)
    (k_talk_text : PySem.W.keepIn K (.ref f_talk_text) = true)
    (a_law_text : PySem.W.nsIn K mainGlobals "_law_text" = some (some (.ref f_law_text)))
    (l_law_text : K.lookup f_law_text = some ⟨oc_law_text, od_law_text, .func (PySem.W.fnOf "_law_text" "_law_text" (defArgs st__law_text) (defBody st__law_text) (defScope st__law_text) .none kV_law_text dc_law_text pm_law_text an_law_text cd_law_text ct_law_text), sl_law_text⟩)
    (c_law_text : PySem.W.codeIn K cd_law_text "_law_text" = true)
    (k_law_text : PySem.W.keepIn K (.ref f_law_text) = true)
    (a_law_order : PySem.W.nsIn K mainGlobals "_law_order" = some (some (.ref f_law_order)))
    (l_law_order : K.lookup f_law_order = some ⟨oc_law_order, od_law_order, .func (PySem.W.fnOf "_law_order" "_law_order" (defArgs s_order) (defBody s_order) (defScope s_order) .none kV_law_order dc_law_order pm_law_order an_law_order cd_law_order ct_law_order), sl_law_order⟩)
    (c_law_order : PySem.W.codeIn K cd_law_order "_law_order" = true)
    (k_law_order : PySem.W.keepIn K (.ref f_law_order) = true)
    (a_law_rows : PySem.W.nsIn K mainGlobals "_law_rows" = some (some (.ref f_law_rows)))
    (l_law_rows : K.lookup f_law_rows = some ⟨oc_law_rows, od_law_rows, .func (PySem.W.fnOf "_law_rows" "_law_rows" (defArgs st__law_rows) (defBody st__law_rows) (defScope st__law_rows) .none kV_law_rows dc_law_rows pm_law_rows an_law_rows cd_law_rows ct_law_rows), sl_law_rows⟩)
    (c_law_rows : PySem.W.codeIn K cd_law_rows "_law_rows" = true)
    (k_law_rows : PySem.W.keepIn K (.ref f_law_rows) = true)
    (a_law : PySem.W.nsIn K mainGlobals "law" = some (some (.ref f_law)))
    (l_law : K.lookup f_law = some ⟨oc_law, od_law, .func (PySem.W.fnOf "law" "law" (defArgs st_law) (defBody st_law) (defScope st_law) .none kV_law dc_law pm_law an_law cd_law ct_law), sl_law⟩)
    (c_law : PySem.W.codeIn K cd_law "law" = true)
    (k_law : PySem.W.keepIn K (.ref f_law) = true)
    (mWo : PySem.W.nsIn K mainGlobals "WORDS" = some (some (.ref aW)))
    (mNx : PySem.W.nsIn K mainGlobals "NEXTS" = some (some (.ref aN)))
    (mEn : PySem.W.nsIn K mainGlobals "ENDS" = some (some (.ref aE)))
    (lWo : K.lookup aW = some ⟨.type "dict", none, .dict esW nW, #[]⟩)
    (kyW : PySem.W.KeysLit w.params esW.toList)
    (lNx : K.lookup aN = some ⟨.type "dict", none, .dict esN nN, #[]⟩)
    (kyN : PySem.W.KeysLit w.params esN.toList)
    (vW0 : PySem.W.nsIn K aW "s" = some (some (.str "send" tw0)))
    (vW1 : PySem.W.nsIn K aW "g" = some (some (.str "get" tw1)))
    (lEn : K.lookup aE = some ⟨.type "tuple", dE, .seq #[.str "figure" te0, .str "number" te1, .str "empty" te2] nE, slE⟩)
    (vN0 : PySem.W.nsIn K aN "row" = some (some (.ref aN0)))
    (lN0 : K.lookup aN0 = some ⟨.type "tuple", dN0, .seq #[.ref b00, .ref b01] nN0, slN0⟩)
    (lb00 : K.lookup b00 = some ⟨.type "tuple", db00, .seq #[.str "sg" ta00, .str "letter" tb00] nb00, slb00⟩)
    (lb01 : K.lookup b01 = some ⟨.type "tuple", db01, .seq #[.str "-" ta01, .str "empty" tb01] nb01, slb01⟩)
    (vN1 : PySem.W.nsIn K aN "letter" = some (some (.ref aN1)))
    (lN1 : K.lookup aN1 = some ⟨.type "tuple", dN1, .seq #[.ref b10, .ref b11] nN1, slN1⟩)
    (lb10 : K.lookup b10 = some ⟨.type "tuple", db10, .seq #[.str "0" ta10, .str "number" tb10] nb10, slb10⟩)
    (lb11 : K.lookup b11 = some ⟨.type "tuple", db11, .seq #[.str "123456789" ta11, .str "figure" tb11] nb11, slb11⟩)
    (vN2 : PySem.W.nsIn K aN "figure" = some (some (.ref aN2)))
    (lN2 : K.lookup aN2 = some ⟨.type "tuple", dN2, .seq #[.ref b20, .ref b21] nN2, slN2⟩)
    (lb20 : K.lookup b20 = some ⟨.type "tuple", db20, .seq #[.str "0123456789" ta20, .str "number" tb20] nb20, slb20⟩)
    (lb21 : K.lookup b21 = some ⟨.type "tuple", db21, .seq #[.str " " ta21, .str "blank" tb21] nb21, slb21⟩)
    (vN3 : PySem.W.nsIn K aN "number" = some (some (.ref aN3)))
    (lN3 : K.lookup aN3 = some ⟨.type "tuple", dN3, .seq #[.ref b30] nN3, slN3⟩)
    (lb30 : K.lookup b30 = some ⟨.type "tuple", db30, .seq #[.str " " ta30, .str "blank" tb30] nb30, slb30⟩)
    (vN4 : PySem.W.nsIn K aN "blank" = some (some (.ref aN4)))
    (lN4 : K.lookup aN4 = some ⟨.type "tuple", dN4, .seq #[.ref b40, .ref b41] nN4, slN4⟩)
    (lb40 : K.lookup b40 = some ⟨.type "tuple", db40, .seq #[.str "sg" ta40, .str "letter" tb40] nb40, slb40⟩)
    (lb41 : K.lookup b41 = some ⟨.type "tuple", db41, .seq #[.str "/" ta41, .str "stroke" tb41] nb41, slb41⟩)
    (vN5 : PySem.W.nsIn K aN "empty" = some (some (.ref aN5)))
    (lN5 : K.lookup aN5 = some ⟨.type "tuple", dN5, .seq #[.ref b50] nN5, slN5⟩)
    (lb50 : K.lookup b50 = some ⟨.type "tuple", db50, .seq #[.str " " ta50, .str "gap" tb50] nb50, slb50⟩)
    (vN6 : PySem.W.nsIn K aN "gap" = some (some (.ref aN6)))
    (lN6 : K.lookup aN6 = some ⟨.type "tuple", dN6, .seq #[.ref b60] nN6, slN6⟩)
    (lb60 : K.lookup b60 = some ⟨.type "tuple", db60, .seq #[.str "/" ta60, .str "stroke" tb60] nb60, slb60⟩)
    (vN7 : PySem.W.nsIn K aN "stroke" = some (some (.ref aN7)))
    (lN7 : K.lookup aN7 = some ⟨.type "tuple", dN7, .seq #[.ref b70] nN7, slN7⟩)
    (lb70 : K.lookup b70 = some ⟨.type "tuple", db70, .seq #[.str " " ta70, .str "row" tb70] nb70, slb70⟩) :
    ∃ fd : FuncData, (∀ (s : Shared) (v : Value), BindsTo s fd ⟨[v], []⟩ [("script", v)]) ∧ ∀ base : Heap, K.In base → base.Ns mainGlobals mg → FnG P w K mg base CX0 9 fa fd ["script"] (spLaw K) := by
  have e := hfa.symm.trans (PySem.W.mg_of X G a_law)
  cases e
  have F_is_whole := fun_mk (st := s_is_whole) l_is_whole c_is_whole k_is_whole
  have b_is_whole := F_is_whole.binds (ps := ["value"]) fun _ _ _ _ _ _ us hl => match us, hl with | [_], _ => rfl
  have F_is_index := fun_mk (st := s_is_index) l_is_index c_is_index k_is_index
  have b_is_index := F_is_index.binds (ps := ["value", "many"]) fun _ _ _ _ _ _ us hl => match us, hl with | [_, _], _ => rfl
  have F_is_listing := fun_mk (st := s_is_listing) l_is_listing c_is_listing k_is_listing
  have b_is_listing := F_is_listing.binds (ps := ["value", "most"]) fun _ _ _ _ _ _ us hl => match us, hl with | [_, _], _ => rfl
  have F_is_couple := fun_mk (st := s_is_couple) l_is_couple c_is_couple k_is_couple
  have b_is_couple := F_is_couple.binds (ps := ["value"]) fun _ _ _ _ _ _ us hl => match us, hl with | [_], _ => rfl
  have F_is_doing := fun_mk (st := s_is_doing) l_is_doing c_is_doing k_is_doing
  have b_is_doing := F_is_doing.binds (ps := ["value", "many"]) fun _ _ _ _ _ _ us hl => match us, hl with | [_, _], _ => rfl
  have F_copied_rows := fun_mk (st := s_copied_rows) l_copied_rows c_copied_rows k_copied_rows
  have b_copied_rows := F_copied_rows.binds (ps := ["rows"]) fun _ _ _ _ _ _ us hl => match us, hl with | [_], _ => rfl
  have F_found_places := fun_mk (st := s_found_places) l_found_places c_found_places k_found_places
  have b_found_places := F_found_places.binds (ps := ["rows"]) fun _ _ _ _ _ _ us hl => match us, hl with | [_], _ => rfl
  have F_count_letters := fun_mk (st := s_count_letters) l_count_letters c_count_letters k_count_letters
  have b_count_letters := F_count_letters.binds (ps := ["places"]) fun _ _ _ _ _ _ us hl => match us, hl with | [_], _ => rfl
  have F_check_letters := fun_mk (st := s_check_letters) l_check_letters c_check_letters k_check_letters
  have b_check_letters := F_check_letters.binds (ps := ["places", "many"]) fun _ _ _ _ _ _ us hl => match us, hl with | [_, _], _ => rfl
  have F_found_hands := fun_mk (st := s_found_hands) l_found_hands c_found_hands k_found_hands
  have b_found_hands := F_found_hands.binds (ps := ["places", "word", "many"]) fun _ _ _ _ _ _ us hl => match us, hl with | [_, _, _], _ => rfl
  have F_found_clocks := fun_mk (st := s_found_clocks) l_found_clocks c_found_clocks k_found_clocks
  have b_found_clocks := F_found_clocks.binds (ps := ["rows"]) fun _ _ _ _ _ _ us hl => match us, hl with | [_], _ => rfl
  have F_row_clocks := fun_mk (st := s_row_clocks) l_row_clocks c_row_clocks k_row_clocks
  have b_row_clocks := F_row_clocks.binds (ps := ["hand", "row", "hands", "clocks"]) fun _ _ _ _ _ _ us hl => match us, hl with | [_, _, _, _], _ => rfl
  have F_law_mixed := fun_mk (st := sMix) l_law_mixed c_law_mixed k_law_mixed
  have b_law_mixed := F_law_mixed.binds (ps := ["cell", "n"]) fun _ _ _ _ _ _ us hl => match us, hl with | [_, _], _ => rfl
  have F_law_folded := fun_mk (st := sFol) l_law_folded c_law_folded k_law_folded
  have b_law_folded := F_law_folded.binds (ps := ["script"]) fun _ _ _ _ _ _ us hl => match us, hl with | [_], _ => rfl
  have F_law_draw := fun_mk (st := sDrw) l_law_draw c_law_draw k_law_draw
  have b_law_draw := F_law_draw.binds (ps := ["m", "limit"]) fun _ _ _ _ _ _ us hl => match us, hl with | [_, _], _ => rfl
  have F_law_begun := fun_mk (st := sBeg) l_law_begun c_law_begun k_law_begun
  have b_law_begun := F_law_begun.binds (ps := ["script"]) fun _ _ _ _ _ _ us hl => match us, hl with | [_], _ => rfl
  have FTI := fun_mk (st := s_tinit) lTI cTI kTI
  have bTI := FTI.binds (ps := ["self", "rows"]) fun _ _ _ _ _ _ us hl => match us, hl with | [_, _], _ => rfl
  have FTE := fun_mk (st := s_teq) lTE cTE kTE
  have bTE := FTE.binds (ps := ["self", "other"]) fun _ _ _ _ _ _ us hl => match us, hl with | [_, _], _ => rfl
  have F_read_row := fun_mk (st := st_read_row) l_read_row c_read_row k_read_row
  have b_read_row := F_read_row.binds (ps := ["text"]) fun _ _ _ _ _ _ us hl => match us, hl with | [_], _ => rfl
  have F_next_step := fun_mk (st := st_next_step) l_next_step c_next_step k_next_step
  have b_next_step := F_next_step.binds (ps := ["step", "character"]) fun _ _ _ _ _ _ us hl => match us, hl with | [_, _], _ => rfl
  have F_check_text := fun_mk (st := st_check_text) l_check_text c_check_text k_check_text
  have b_check_text := F_check_text.binds (ps := ["text"]) fun _ _ _ _ _ _ us hl => match us, hl with | [_], _ => rfl
  have F_read_talk := fun_mk (st := st_read_talk) l_read_talk c_read_talk k_read_talk
  have b_read_talk := F_read_talk.binds (ps := ["text"]) fun _ _ _ _ _ _ us hl => match us, hl with | [_], _ => rfl
  have F_row_text := fun_mk (st := st_row_text) l_row_text c_row_text k_row_text
  have b_row_text := F_row_text.binds (ps := ["row"]) fun _ _ _ _ _ _ us hl => match us, hl with | [_], _ => rfl
  have F_talk_text := fun_mk (st := st_talk_text) l_talk_text c_talk_text k_talk_text
  have b_talk_text := F_talk_text.binds (ps := ["talk"]) fun _ _ _ _ _ _ us hl => match us, hl with | [_], _ => rfl
  have F_law_text := fun_mk (st := st__law_text) l_law_text c_law_text k_law_text
  have b_law_text := F_law_text.binds (ps := ["rows"]) fun _ _ _ _ _ _ us hl => match us, hl with | [_], _ => rfl
  have F_law_order := fun_mk (st := s_order) l_law_order c_law_order k_law_order
  have b_law_order := F_law_order.binds (ps := ["m", "many"]) fun _ _ _ _ _ _ us hl => match us, hl with | [_, _], _ => rfl
  have F_law_rows := fun_mk (st := st__law_rows) l_law_rows c_law_rows k_law_rows
  have b_law_rows := F_law_rows.binds (ps := ["m", "most", "hands_so"]) fun _ _ _ _ _ _ us hl => match us, hl with | [_, _, _], _ => rfl
  have F_law := fun_mk (st := st_law) l_law c_law k_law
  have b_law := F_law.binds (ps := ["script"]) fun _ _ _ _ _ _ us hl => match us, hl with | [_], _ => rfl
  have kE : EndsK K aE := ⟨_, _, _, lEn, rfl, rfl, (show 3 ≤ sizeLine by decide), .cons ⟨_, rfl⟩ (.cons ⟨_, rfl⟩ (.cons ⟨_, rfl⟩ .nil))⟩
  have kW : WordsK K w aW := fun p hp => by
    rcases List.mem_cons.mp hp with rfl | hp
    · exact ⟨esW, nW, _, lWo, kyW, vW0, ⟨_, rfl⟩⟩
    · cases List.mem_singleton.mp hp
      exact ⟨esW, nW, _, lWo, kyW, vW1, ⟨_, rfl⟩⟩
  have kb00 : KTup K b00 [.str "sg", .str "letter"] := ⟨_, _, _, lb00, rfl, rfl, (show 2 ≤ sizeLine by decide), .cons ⟨_, rfl⟩ (.cons ⟨_, rfl⟩ .nil)⟩
  have kb01 : KTup K b01 [.str "-", .str "empty"] := ⟨_, _, _, lb01, rfl, rfl, (show 2 ≤ sizeLine by decide), .cons ⟨_, rfl⟩ (.cons ⟨_, rfl⟩ .nil)⟩
  have kN0 : ∃ (a : Addr) (bs : List Addr), KDct K w aN "row" (.ref a) ∧ KTup K a (bs.map .ref) ∧ bs.length = 2 ∧ ∀ (i : Nat) (b : Addr) (r : Str × Str), bs[i]? = some b → ([("sg", "letter"), ("-", "empty")] : List (Str × Str))[i]? = some r → KTup K b [.str r.1, .str r.2] := ⟨aN0, [b00, b01], ⟨esN, nN, _, lNx, kyN, vN0, rfl⟩, ⟨_, _, _, lN0, rfl, rfl, (show 2 ≤ sizeLine by decide), .cons rfl (.cons rfl .nil)⟩, rfl, fun | 0, _, _, rfl, rfl => kb00 | 1, _, _, rfl, rfl => kb01 | _ + 2, _, _, e, _ => nomatch e⟩
  have kb10 : KTup K b10 [.str "0", .str "number"] := ⟨_, _, _, lb10, rfl, rfl, (show 2 ≤ sizeLine by decide), .cons ⟨_, rfl⟩ (.cons ⟨_, rfl⟩ .nil)⟩
  have kb11 : KTup K b11 [.str "123456789", .str "figure"] := ⟨_, _, _, lb11, rfl, rfl, (show 2 ≤ sizeLine by decide), .cons ⟨_, rfl⟩ (.cons ⟨_, rfl⟩ .nil)⟩
  have kN1 : ∃ (a : Addr) (bs : List Addr), KDct K w aN "letter" (.ref a) ∧ KTup K a (bs.map .ref) ∧ bs.length = 2 ∧ ∀ (i : Nat) (b : Addr) (r : Str × Str), bs[i]? = some b → ([("0", "number"), ("123456789", "figure")] : List (Str × Str))[i]? = some r → KTup K b [.str r.1, .str r.2] := ⟨aN1, [b10, b11], ⟨esN, nN, _, lNx, kyN, vN1, rfl⟩, ⟨_, _, _, lN1, rfl, rfl, (show 2 ≤ sizeLine by decide), .cons rfl (.cons rfl .nil)⟩, rfl, fun | 0, _, _, rfl, rfl => kb10 | 1, _, _, rfl, rfl => kb11 | _ + 2, _, _, e, _ => nomatch e⟩
  have kb20 : KTup K b20 [.str "0123456789", .str "number"] := ⟨_, _, _, lb20, rfl, rfl, (show 2 ≤ sizeLine by decide), .cons ⟨_, rfl⟩ (.cons ⟨_, rfl⟩ .nil)⟩
  have kb21 : KTup K b21 [.str " ", .str "blank"] := ⟨_, _, _, lb21, rfl, rfl, (show 2 ≤ sizeLine by decide), .cons ⟨_, rfl⟩ (.cons ⟨_, rfl⟩ .nil)⟩
  have kN2 : ∃ (a : Addr) (bs : List Addr), KDct K w aN "figure" (.ref a) ∧ KTup K a (bs.map .ref) ∧ bs.length = 2 ∧ ∀ (i : Nat) (b : Addr) (r : Str × Str), bs[i]? = some b → ([("0123456789", "number"), (" ", "blank")] : List (Str × Str))[i]? = some r → KTup K b [.str r.1, .str r.2] := ⟨aN2, [b20, b21], ⟨esN, nN, _, lNx, kyN, vN2, rfl⟩, ⟨_, _, _, lN2, rfl, rfl, (show 2 ≤ sizeLine by decide), .cons rfl (.cons rfl .nil)⟩, rfl, fun | 0, _, _, rfl, rfl => kb20 | 1, _, _, rfl, rfl => kb21 | _ + 2, _, _, e, _ => nomatch e⟩
  have kb30 : KTup K b30 [.str " ", .str "blank"] := ⟨_, _, _, lb30, rfl, rfl, (show 2 ≤ sizeLine by decide), .cons ⟨_, rfl⟩ (.cons ⟨_, rfl⟩ .nil)⟩
  have kN3 : ∃ (a : Addr) (bs : List Addr), KDct K w aN "number" (.ref a) ∧ KTup K a (bs.map .ref) ∧ bs.length = 1 ∧ ∀ (i : Nat) (b : Addr) (r : Str × Str), bs[i]? = some b → ([(" ", "blank")] : List (Str × Str))[i]? = some r → KTup K b [.str r.1, .str r.2] := ⟨aN3, [b30], ⟨esN, nN, _, lNx, kyN, vN3, rfl⟩, ⟨_, _, _, lN3, rfl, rfl, (show 1 ≤ sizeLine by decide), .cons rfl .nil⟩, rfl, fun | 0, _, _, rfl, rfl => kb30 | _ + 1, _, _, e, _ => nomatch e⟩
  have kb40 : KTup K b40 [.str "sg", .str "letter"] := ⟨_, _, _, lb40, rfl, rfl, (show 2 ≤ sizeLine by decide), .cons ⟨_, rfl⟩ (.cons ⟨_, rfl⟩ .nil)⟩
  have kb41 : KTup K b41 [.str "/", .str "stroke"] := ⟨_, _, _, lb41, rfl, rfl, (show 2 ≤ sizeLine by decide), .cons ⟨_, rfl⟩ (.cons ⟨_, rfl⟩ .nil)⟩
  have kN4 : ∃ (a : Addr) (bs : List Addr), KDct K w aN "blank" (.ref a) ∧ KTup K a (bs.map .ref) ∧ bs.length = 2 ∧ ∀ (i : Nat) (b : Addr) (r : Str × Str), bs[i]? = some b → ([("sg", "letter"), ("/", "stroke")] : List (Str × Str))[i]? = some r → KTup K b [.str r.1, .str r.2] := ⟨aN4, [b40, b41], ⟨esN, nN, _, lNx, kyN, vN4, rfl⟩, ⟨_, _, _, lN4, rfl, rfl, (show 2 ≤ sizeLine by decide), .cons rfl (.cons rfl .nil)⟩, rfl, fun | 0, _, _, rfl, rfl => kb40 | 1, _, _, rfl, rfl => kb41 | _ + 2, _, _, e, _ => nomatch e⟩
  have kb50 : KTup K b50 [.str " ", .str "gap"] := ⟨_, _, _, lb50, rfl, rfl, (show 2 ≤ sizeLine by decide), .cons ⟨_, rfl⟩ (.cons ⟨_, rfl⟩ .nil)⟩
  have kN5 : ∃ (a : Addr) (bs : List Addr), KDct K w aN "empty" (.ref a) ∧ KTup K a (bs.map .ref) ∧ bs.length = 1 ∧ ∀ (i : Nat) (b : Addr) (r : Str × Str), bs[i]? = some b → ([(" ", "gap")] : List (Str × Str))[i]? = some r → KTup K b [.str r.1, .str r.2] := ⟨aN5, [b50], ⟨esN, nN, _, lNx, kyN, vN5, rfl⟩, ⟨_, _, _, lN5, rfl, rfl, (show 1 ≤ sizeLine by decide), .cons rfl .nil⟩, rfl, fun | 0, _, _, rfl, rfl => kb50 | _ + 1, _, _, e, _ => nomatch e⟩
  have kb60 : KTup K b60 [.str "/", .str "stroke"] := ⟨_, _, _, lb60, rfl, rfl, (show 2 ≤ sizeLine by decide), .cons ⟨_, rfl⟩ (.cons ⟨_, rfl⟩ .nil)⟩
  have kN6 : ∃ (a : Addr) (bs : List Addr), KDct K w aN "gap" (.ref a) ∧ KTup K a (bs.map .ref) ∧ bs.length = 1 ∧ ∀ (i : Nat) (b : Addr) (r : Str × Str), bs[i]? = some b → ([("/", "stroke")] : List (Str × Str))[i]? = some r → KTup K b [.str r.1, .str r.2] := ⟨aN6, [b60], ⟨esN, nN, _, lNx, kyN, vN6, rfl⟩, ⟨_, _, _, lN6, rfl, rfl, (show 1 ≤ sizeLine by decide), .cons rfl .nil⟩, rfl, fun | 0, _, _, rfl, rfl => kb60 | _ + 1, _, _, e, _ => nomatch e⟩
  have kb70 : KTup K b70 [.str " ", .str "row"] := ⟨_, _, _, lb70, rfl, rfl, (show 2 ≤ sizeLine by decide), .cons ⟨_, rfl⟩ (.cons ⟨_, rfl⟩ .nil)⟩
  have kN7 : ∃ (a : Addr) (bs : List Addr), KDct K w aN "stroke" (.ref a) ∧ KTup K a (bs.map .ref) ∧ bs.length = 1 ∧ ∀ (i : Nat) (b : Addr) (r : Str × Str), bs[i]? = some b → ([(" ", "row")] : List (Str × Str))[i]? = some r → KTup K b [.str r.1, .str r.2] := ⟨aN7, [b70], ⟨esN, nN, _, lNx, kyN, vN7, rfl⟩, ⟨_, _, _, lN7, rfl, rfl, (show 1 ≤ sizeLine by decide), .cons rfl .nil⟩, rfl, fun | 0, _, _, rfl, rfl => kb70 | _ + 1, _, _, e, _ => nomatch e⟩
  have kN : NextsK K w aN := fun p hp => by
    simp only [nextsT, List.mem_cons, List.not_mem_nil, or_false] at hp
    rcases hp with rfl | rfl | rfl | rfl | rfl | rfl | rfl | rfl
    · exact kN0
    · exact kN1
    · exact kN2
    · exact kN3
    · exact kN4
    · exact kN5
    · exact kN6
    · exact kN7
  have TB : TxtB mg := ⟨(PySem.W.mg_none_of X G z_int), (PySem.W.mg_none_of X G z_len), (PySem.W.mg_none_of X G z_range), (PySem.W.mg_none_of X G z_enumerate)⟩
  have TC : TxtC mg := ⟨TB, (PySem.W.mg_none_of X G z_isinstance), (PySem.W.mg_none_of X G z_bool), (PySem.W.mg_none_of X G z_str), (PySem.W.mg_none_of X G z_list), (PySem.W.mg_none_of X G z_tuple)⟩
  have TM : TxtM mg := ⟨TC, (PySem.W.mg_none_of X G z_max)⟩
  have TZ : TxtZ mg := ⟨TM, (PySem.W.mg_none_of X G z_zip)⟩
  have TT : TxtT K mg CT f_copied_rows f_found_places f_count_letters f_check_letters f_found_hands f_found_clocks := ⟨TZ, ⟨pgT, hdT, poT, saT⟩, n_rows, n_places, n_many, n_senders, n_getters, n_clocks, (PySem.W.mg_of X G aT), (PySem.W.mg_of X G a_copied_rows), (PySem.W.mg_of X G a_found_places), (PySem.W.mg_of X G a_count_letters), (PySem.W.mg_of X G a_check_letters), (PySem.W.mg_of X G a_found_hands), (PySem.W.mg_of X G a_found_clocks)⟩
  have JT : IsTalk K CT := ⟨caT, cn, ct, cmT, kit_sub sfT icT tyT sfT⟩
  have TQ : TalkQ K CT fTE := ⟨JT, a2T, i2T, neT⟩
  have TV : TxtV K mg ⟨fun _ => CT, w, []⟩ := ⟨TZ, (PySem.W.mg_none_of X G z_min), (PySem.W.mg_none_of X G z_set), (PySem.W.mg_none_of X G z_sorted), (PySem.W.mg_none_of X G z_sum), ⟨pgT, hdT, poT, saT⟩, n_rows, n_places, n_many, n_senders, n_getters, n_clocks⟩
  refine ⟨PySem.W.fnOf "law" "law" (defArgs st_law) (defBody st_law) (defScope st_law) .none kV_law dc_law pm_law an_law cd_law ct_law, fun st u => .of_eq rfl, fun base KB GB0 => ?_⟩
  have GB : FnOk P w K mg base CX0 2 f_law_begun _ ["script"] (spBeg K) := ok_beg F_law_begun ⟨TB, (PySem.W.mg_of X G a_law_folded)⟩ F_law_folded b_law_folded
  have GD : FnOk P w K mg base CX0 2 f_law_draw _ ["m", "limit"] spDrw := ok_drw F_law_draw ⟨TB, (PySem.W.mg_of X G a_law_mixed)⟩ F_law_mixed b_law_mixed
  have GI : FnOk P w K mg base CX0 2 f_is_index _ ["value", "many"] spIndex := ok_index F_is_index ⟨TC, (PySem.W.mg_of X G a_is_whole)⟩ F_is_whole b_is_whole
  have GO : FnOk P w K mg base CX0 3 f_is_doing _ ["value", "many"] spDoing := ok_doing F_is_doing ⟨TC, (PySem.W.mg_of X G a_is_couple), (PySem.W.mg_of X G a_is_index)⟩ F_is_couple b_is_couple F_is_index b_is_index GI
  have GP : FnOk P w K mg base CX0 4 f_found_places _ ["rows"] spPlaces := ok_places F_found_places ⟨TC, (PySem.W.mg_of X G a_is_doing), tL, (PySem.W.mg_of X G mL)⟩ F_is_doing b_is_doing GO
  have GC : FnOk P w K mg base CX0 2 f_copied_rows _ ["rows"] spCopy := ok_copy F_copied_rows ⟨TC, (PySem.W.mg_of X G a_is_listing), tH, (PySem.W.mg_of X G mH)⟩ F_is_listing b_is_listing
  have GK : ∀ Ck, FnOk P w K mg base CX0 4 f_found_clocks _ ["rows"] (spClocks Sl0 Ck) := fun Ck => (ok_clocks F_found_clocks ⟨TZ, (PySem.W.mg_of X G a_row_clocks)⟩ F_row_clocks b_row_clocks).mono (by decide)
  have GT : ∀ Ck, FnOk P w K mg base CX0 5 fTI _ ["self", "rows"] (spTInit CT Sl0 Ck) := fun Ck => ok_tinit FTI TT F_copied_rows b_copied_rows GC F_found_places b_found_places GP F_count_letters b_count_letters F_check_letters b_check_letters F_found_hands b_found_hands k_found_clocks b_found_clocks (GK Ck)
  have GQ : FnR P w K mg base CX0 1 fTE (spTEq K CT) := ((ok_teq FTE TT JT).raw bTE .nil).imp fun vs H Q E h => by rw [List.append_nil]; exact h
  have MT : Mk K CT fTI := ⟨msT, a1T, i1T, kcT⟩
  have d_read_row := df_read_row (P := P) (w := w) (base := base) (cm := ⟨fun _ => CT, w, []⟩) ⟨F_read_row, (PySem.W.mg_of X G a_read_row), b_read_row⟩ TV (PySem.W.mg_of X G mWo) kW
  have d_next_step := df_next_step (P := P) (w := w) (base := base) (cm := ⟨fun _ => CT, w, []⟩) ⟨F_next_step, (PySem.W.mg_of X G a_next_step), b_next_step⟩ TV (PySem.W.mg_of X G mNx) kN
  have d_check_text := df_check_text (P := P) (w := w) (base := base) (cm := ⟨fun _ => CT, w, []⟩) ⟨F_check_text, (PySem.W.mg_of X G a_check_text), b_check_text⟩ TV d_next_step (PySem.W.mg_of X G mEn) kE
  have d_read_talk := df_read_talk (P := P) (w := w) (base := base) (cm := ⟨fun _ => CT, w, []⟩) ⟨F_read_talk, (PySem.W.mg_of X G a_read_talk), b_read_talk⟩ TV d_read_row d_check_text rfl MT GT bTI (PySem.W.mg_of X G aT)
  have d_row_text := df_row_text (P := P) (w := w) (base := base) (cm := ⟨fun _ => CT, w, []⟩) ⟨F_row_text, (PySem.W.mg_of X G a_row_text), b_row_text⟩ TV 
  have d_talk_text := df_talk_text (P := P) (w := w) (base := base) (cm := ⟨fun _ => CT, w, []⟩) ⟨F_talk_text, (PySem.W.mg_of X G a_talk_text), b_talk_text⟩ TV d_row_text
  have d__law_text := df__law_text (P := P) (w := w) (base := base) (cm := ⟨fun _ => CT, w, []⟩) ⟨F_law_text, (PySem.W.mg_of X G a_law_text), b_law_text⟩ TV 
  have GOR : FnOk P w K mg base CX0 3 f_law_order _ ["m", "many"] spOrder := ok_order F_law_order ⟨⟨TB, (PySem.W.mg_of X G a_law_draw)⟩, (PySem.W.mg_none_of X G z_list)⟩ F_law_draw b_law_draw GD
  have dd__law_draw := ddr_draw (cm := ⟨fun _ => CT, w, []⟩) (PySem.W.mg_of X G a_law_draw) F_law_draw b_law_draw GD
  have dd__law_order := ddr_order (cm := ⟨fun _ => CT, w, []⟩) (PySem.W.mg_of X G a_law_order) F_law_order b_law_order GOR
  have dd__law_rows := ddr__law_rows (P := P) (w := w) (base := base) (cm := ⟨fun _ => CT, w, []⟩) ⟨F_law_rows, (PySem.W.mg_of X G a_law_rows), b_law_rows⟩ TV dd__law_draw dd__law_order
  exact ok_law wp60 F_law TV rfl d_read_talk d_talk_text d__law_text dd__law_rows rfl MT GT bTI (PySem.W.mg_of X G aT) JT (PySem.W.mg_none_of X G z_repr) (PySem.W.mg_of X G a_law_begun) F_law_begun b_law_begun GB
end Up

open PySem PySem.W PyProof.Rows
set_option maxRecDepth 100000 in
set_option maxHeartbeats 0 in
theorem PySem.Challenge.cw_uprightletters_k60_whole_texts_of_talks_holds : PySem.Challenge.rw_uprightletters_k60_whole_texts_of_talks.Holds := by
  w_on; o_law; k_head; (case hw => w_witness2)
  k_fill
  refine Up.walk_ofG (l := PySem.Challenge.rw_uprightletters_k60_whole_texts_of_talks) (n := 63) (k := 9) (x := "script") (sp := fun K => Up.spLaw K) rfl (by decide) rfl ⟨rfl, by decide, by decide⟩ (fun w h Y => PySem.W.kIn_of Y) ?F (fun K H a ns hl hS => ⟨a, ns, rfl, hS, hl, fun _ => rfl⟩)
  case F =>
    intro w mg fa h KX G hmg
    refine' Up.all_mk KX G hmg ?z_int ?z_len ?z_range ?z_enumerate ?z_isinstance ?z_bool ?z_str ?z_list ?z_tuple ?z_max ?z_zip ?z_min ?z_set ?z_sorted ?z_sum ?z_repr ?mH ?mL ?a_is_whole ?l_is_whole ?c_is_whole ?k_is_whole ?a_is_index ?l_is_index ?c_is_index ?k_is_index ?a_is_listing ?l_is_listing ?c_is_listing ?k_is_listing ?a_is_couple ?l_is_couple ?c_is_couple ?k_is_couple ?a_is_doing ?l_is_doing ?c_is_doing ?k_is_doing ?a_copied_rows ?l_copied_rows ?c_copied_rows ?k_copied_rows ?a_found_places ?l_found_places ?c_found_places ?k_found_places ?a_count_letters ?l_count_letters ?c_count_letters ?k_count_letters ?a_check_letters ?l_check_letters ?c_check_letters ?k_check_letters ?a_found_hands ?l_found_hands ?c_found_hands ?k_found_hands ?a_found_clocks ?l_found_clocks ?c_found_clocks ?k_found_clocks ?a_row_clocks ?l_row_clocks ?c_row_clocks ?k_row_clocks ?a_law_mixed ?l_law_mixed ?c_law_mixed ?k_law_mixed ?a_law_folded ?l_law_folded ?c_law_folded ?k_law_folded ?a_law_draw ?l_law_draw ?c_law_draw ?k_law_draw ?a_law_begun ?l_law_begun ?c_law_begun ?k_law_begun ?cn ?ct ?aT ?pgT ?hdT ?poT ?saT ?msT ?kcT ?caT ?cmT ?neT ?icT ?tyT ?sfT ?a1T ?i1T ?a2T ?i2T ?n_rows ?n_places ?n_many ?n_senders ?n_getters ?n_clocks ?lTI ?cTI ?kTI ?lTE ?cTE ?kTE ?a_read_row ?l_read_row ?c_read_row ?k_read_row ?a_next_step ?l_next_step ?c_next_step ?k_next_step ?a_check_text ?l_check_text ?c_check_text ?k_check_text ?a_read_talk ?l_read_talk ?c_read_talk ?k_read_talk ?a_row_text ?l_row_text ?c_row_text ?k_row_text ?a_talk_text ?l_talk_text ?c_talk_text ?k_talk_text ?a_law_text ?l_law_text ?c_law_text ?k_law_text ?a_law_order ?l_law_order ?c_law_order ?k_law_order ?a_law_rows ?l_law_rows ?c_law_rows ?k_law_rows ?a_law ?l_law ?c_law ?k_law ?mWo ?mNx ?mEn ?lWo ?kyW ?lNx ?kyN ?vW0 ?vW1 ?lEn ?vN0 ?lN0 ?lb00 ?lb01 ?vN1 ?lN1 ?lb10 ?lb11 ?vN2 ?lN2 ?lb20 ?lb21 ?vN3 ?lN3 ?lb30 ?vN4 ?lN4 ?lb40 ?lb41 ?vN5 ?lN5 ?lb50 ?vN6 ?lN6 ?lb60 ?vN7 ?lN7 ?lb70
    (case z_int => k_is)
    (case z_len => k_is)
    (case z_range => k_is)
    (case z_enumerate => k_is)
    (case z_isinstance => k_is)
    (case z_bool => k_is)
    (case z_str => k_is)
    (case z_list => k_is)
    (case z_tuple => k_is)
    (case z_max => k_is)
    (case z_zip => k_is)
    (case z_min => k_is)
    (case z_set => k_is)
    (case z_sorted => k_is)
    (case z_sum => k_is)
    (case z_repr => k_is)
    (case mH => k_is)
    (case mL => k_is)
    (case a_is_whole => k_is)
    (case l_is_whole => k_is)
    (case c_is_whole => k_is)
    (case k_is_whole => k_is)
    (case a_is_index => k_is)
    (case l_is_index => k_is)
    (case c_is_index => k_is)
    (case k_is_index => k_is)
    (case a_is_listing => k_is)
    (case l_is_listing => k_is)
    (case c_is_listing => k_is)
    (case k_is_listing => k_is)
    (case a_is_couple => k_is)
    (case l_is_couple => k_is)
    (case c_is_couple => k_is)
    (case k_is_couple => k_is)
    (case a_is_doing => k_is)
    (case l_is_doing => k_is)
    (case c_is_doing => k_is)
    (case k_is_doing => k_is)
    (case a_copied_rows => k_is)
    (case l_copied_rows => k_is)
    (case c_copied_rows => k_is)
    (case k_copied_rows => k_is)
    (case a_found_places => k_is)
    (case l_found_places => k_is)
    (case c_found_places => k_is)
    (case k_found_places => k_is)
    (case a_count_letters => k_is)
    (case l_count_letters => k_is)
    (case c_count_letters => k_is)
    (case k_count_letters => k_is)
    (case a_check_letters => k_is)
    (case l_check_letters => k_is)
    (case c_check_letters => k_is)
    (case k_check_letters => k_is)
    (case a_found_hands => k_is)
    (case l_found_hands => k_is)
    (case c_found_hands => k_is)
    (case k_found_hands => k_is)
    (case a_found_clocks => k_is)
    (case l_found_clocks => k_is)
    (case c_found_clocks => k_is)
    (case k_found_clocks => k_is)
    (case a_row_clocks => k_is)
    (case l_row_clocks => k_is)
    (case c_row_clocks => k_is)
    (case k_row_clocks => k_is)
    (case a_law_mixed => k_is)
    (case l_law_mixed => k_is)
    (case c_law_mixed => k_is)
    (case k_law_mixed => k_is)
    (case a_law_folded => k_is)
    (case l_law_folded => k_is)
    (case c_law_folded => k_is)
    (case k_law_folded => k_is)
    (case a_law_draw => k_is)
    (case l_law_draw => k_is)
    (case c_law_draw => k_is)
    (case k_law_draw => k_is)
    (case a_law_begun => k_is)
    (case l_law_begun => k_is)
    (case c_law_begun => k_is)
    (case k_law_begun => k_is)
    (case cn => k_is)
    (case ct => k_is)
    (case aT => k_is)
    (case pgT => k_is)
    (case hdT => k_is)
    (case poT => k_is)
    (case saT => k_is)
    (case msT => k_is)
    (case kcT => k_is)
    (case caT => k_is)
    (case cmT => k_is)
    (case neT => k_is)
    (case icT => k_is)
    (case tyT => k_is)
    (case sfT => k_is)
    (case a1T => k_is)
    (case i1T => k_is)
    (case a2T => k_is)
    (case i2T => k_is)
    (case n_rows => k_is)
    (case n_places => k_is)
    (case n_many => k_is)
    (case n_senders => k_is)
    (case n_getters => k_is)
    (case n_clocks => k_is)
    (case lTI => k_is)
    (case cTI => k_is)
    (case kTI => k_is)
    (case lTE => k_is)
    (case cTE => k_is)
    (case kTE => k_is)
    (case a_read_row => k_is)
    (case l_read_row => k_is)
    (case c_read_row => k_is)
    (case k_read_row => k_is)
    (case a_next_step => k_is)
    (case l_next_step => k_is)
    (case c_next_step => k_is)
    (case k_next_step => k_is)
    (case a_check_text => k_is)
    (case l_check_text => k_is)
    (case c_check_text => k_is)
    (case k_check_text => k_is)
    (case a_read_talk => k_is)
    (case l_read_talk => k_is)
    (case c_read_talk => k_is)
    (case k_read_talk => k_is)
    (case a_row_text => k_is)
    (case l_row_text => k_is)
    (case c_row_text => k_is)
    (case k_row_text => k_is)
    (case a_talk_text => k_is)
    (case l_talk_text => k_is)
    (case c_talk_text => k_is)
    (case k_talk_text => k_is)
    (case a_law_text => k_is)
    (case l_law_text => k_is)
    (case c_law_text => k_is)
    (case k_law_text => k_is)
    (case a_law_order => k_is)
    (case l_law_order => k_is)
    (case c_law_order => k_is)
    (case k_law_order => k_is)
    (case a_law_rows => k_is)
    (case l_law_rows => k_is)
    (case c_law_rows => k_is)
    (case k_law_rows => k_is)
    (case a_law => k_is)
    (case l_law => k_is)
    (case c_law => k_is)
    (case k_law => k_is)
    (case mWo => k_is)
    (case mNx => k_is)
    (case mEn => k_is)
    (case lWo => k_is)
    (case kyW => k_keys)
    (case lNx => k_is)
    (case kyN => k_keys)
    (case vW0 => k_is)
    (case vW1 => k_is)
    (case lEn => k_is)
    (case vN0 => k_is)
    (case lN0 => k_is)
    (case lb00 => k_is)
    (case lb01 => k_is)
    (case vN1 => k_is)
    (case lN1 => k_is)
    (case lb10 => k_is)
    (case lb11 => k_is)
    (case vN2 => k_is)
    (case lN2 => k_is)
    (case lb20 => k_is)
    (case lb21 => k_is)
    (case vN3 => k_is)
    (case lN3 => k_is)
    (case lb30 => k_is)
    (case vN4 => k_is)
    (case lN4 => k_is)
    (case lb40 => k_is)
    (case lb41 => k_is)
    (case vN5 => k_is)
    (case lN5 => k_is)
    (case lb50 => k_is)
    (case vN6 => k_is)
    (case lN6 => k_is)
    (case lb60 => k_is)
    (case vN7 => k_is)
    (case lN7 => k_is)
    (case lb70 => k_is)
#print axioms PySem.Challenge.cw_uprightletters_k60_whole_texts_of_talks_holds
