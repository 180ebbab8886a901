import PyProof.Rows.All
import Wide.All
import OpenK.AllK
import Wide.FinOn
import HandS.ForMost
import HandS.AnyAll
import HandS.GenList
import PyProof.ConsumeS
import PyProof.Rows.SeqGen
import HandS.TupSets
import KE.KeyNested
import HandS.SortInts
import KE.KSortTupAny
import HandS.Strs
import HandS.SetBool
import HandS.Comp
import HandS.SetFor
import PyProof.Draws
import PyProof.EnumMake
import HandS.Iter
import HandS.Deep
import HandS.CallLocal
import HandS.Defaults
import HandS.TupAny
import HandS.Conv
import HandS.IsInst
import HandS.ForExc
import HandS.Star
import HandS.ExcInit
import KE.KDictDisplayH
import KE.KDictKeyed
import KE.KDictWalk
import KE.KDictCopyH
import PyProof.Rows.TupTab
import PyProof.NeKinds
import PyProof.EqAt
import PyProof.WalksMore
import PyProof.Rows.SumAny
import HandS.List
import HandS.HeadHook1
import HandS.More
import HandS.Property
import HandS.Style
import HandS.HeadNt
import HandS.HeadHook2
import HandS.HeadHook3
import HandS.HeadHook4
import HandS.Head0
import HandS.Head1
import HandS.Head2
import HandS.HeadEnd
import HandS.HeadWalk
import PySem.Challenge.RW_nobodystays_k08_whole_seats
set_option Elab.async false
set_option linter.all false
set_option maxRecDepth 100000
namespace ZS
end ZS
section
namespace NS
open PySem PySem.Spec PyProof.Rows L2
abbrev PR : Program := PySem.Challenge.pw_nobodystays_k08_whole_seats
def top (i : Nat) : Stmt := PR.main.body.getD i (.Pass ⟨0, 0, 0, 0⟩)
abbrev sStill : Stmt := top 15
abbrev sThen : Stmt := top 16
abbrev sUndone : Stmt := top 17
abbrev sNumber : Stmt := top 8
abbrev sIsTurn : Stmt := top 9
abbrev sAreTurns : Stmt := top 10
abbrev sFault : Stmt := top 11
abbrev sCheckHouse : Stmt := top 12
def oexB (K : PySem.W.Frag) (C : Addr) : Bool := (match K.lookup C with
  | some ⟨.type "type", _, .cls cd, sl⟩ => (match cd.mro, sl.toList with
    | .ref C' :: bm, [_, _, _, _, some (.builtin n), _] => C' == C && n == "ValueError.__new__" && !cd.hasDel && cd.hasDict && PySem.HandSPX.refsVE bm
    | _, _ => false)
  | _ => false) && decide (PySem.W.findIn K (.ref C) "__setattr__" = some (some (.builtin "object.__setattr__"))) && decide (PySem.W.subIn K (.ref C) (.type "BaseException") = some true) && decide (PySem.W.typeIn K (.ref C) = some (.type "type")) && PySem.W.keepIn K (.ref C)
/-- a part of a class's text -/
def clsIt : Stmt → Nat → Stmt
  | .ClassDef _ _ _ body .., i => body.getD i (.Pass ⟨0, 0, 0, 0⟩)
  | _, _ => .Pass ⟨0, 0, 0, 0⟩
abbrev sBadInit : Stmt := clsIt (top 2) 0
abbrev sKept : Stmt := top 19
abbrev sTaken : Stmt := top 23
abbrev sPick : Stmt := top 24
abbrev sLTurn : Stmt := top 26
abbrev sLStayers : Stmt := top 32
abbrev sLThen : Stmt := top 33
abbrev sLCircle : Stmt := top 27
abbrev sLKnown : Stmt := top 28
abbrev sLMixed : Stmt := top 29
abbrev sLWhole : Stmt := top 30
abbrev sLHouse : Stmt := top 31
abbrev sAlike : Stmt := top 25
abbrev sChkNum : Stmt := top 13
abbrev sSeatsInit : Stmt := clsIt (top 21) 0
abbrev sDo : Stmt := clsIt (top 21) 1
abbrev sUndo : Stmt := clsIt (top 21) 2
abbrev sSStay : Stmt := clsIt (top 21) 3
abbrev sSRow : Stmt := clsIt (top 21) 4
abbrev sSWhere : Stmt := clsIt (top 21) 5
abbrev sLaw : Stmt := top 34
abbrev GetD : Type := List He5.DefA
def exY (ex : PySem.W.Frag → Bool) (fp : GetD) (K : PySem.W.Frag) : Bool := ex K && fp.all fun d => d.ok K
def obsY (n : Nat) (fa : List He.Fa) (fn : List He.DefD) (fp : GetD) (tf : List He.Defn) (ex : PySem.W.Frag → Bool) (g : Addr → Option Obj) : He.AlX × List He.FnW :=
  (He.obsX n fa fn [] tf (exY ex fp) g, fp.map fun d => He5.fnA (He.frT g (He.asD g n)) (d.at_ (He.frT g (He.asD g n))))
def valY (fn : List He.DefD) (fp : GetD) (w : World) : He.AlX × List He.FnW := (He.valX fn [] w, fp.map He5.DefA.val)
def hookY (n : Nat) (fa : List He.Fa) (fn : List He.DefD) (fp : GetD) (tf : List He.Defn) (ex : PySem.W.Frag → Bool) : PySem.W.Hook where
  α := He.AlX × List He.FnW
  obs := fun s => obsY n fa fn fp tf ex s.heap.get?
  val := fun w => valY fn fp w
  says := fun w h => ∃ K : PySem.W.Frag, K.In h ∧ He.SaysX fa fn [] tf (exY ex fp) w h K ∧ fp.map (fun d => He5.fnA K (d.at_ K)) = fp.map He5.DefA.val
  of := fun _ _ e => ⟨_, He.frT_in, He.saysX_of (congrArg (fun z : He.AlX × List He.FnW => z.1) e), congrArg (fun z : He.AlX × List He.FnW => z.2) e⟩
  keeps := fun _ _ _ ⟨K, hK, c, e⟩ k => ⟨K, PySem.W.Frag.In.keeps hK k, ⟨c.t, c.more, c.hd, c.out, fun p hp => k _ _ (c.empty p hp)⟩, e⟩
theorem obsY_eq {n : Nat} {fa : List He.Fa} {fn : List He.DefD} {fp : GetD} {tf : List He.Defn} {ex : PySem.W.Frag → Bool} {g : Addr → Option Obj} {s : Shared} (h : ∀ a, g a = s.heap.get? a) : obsY n fa fn fp tf ex g = (hookY n fa fn fp tf ex).obs s := by
  have e : g = s.heap.get? := funext h
  rw [e] <;> rfl
/-- the getter of a property of the class x -/
def gAt (x m : Str) (K : PySem.W.Frag) : Addr := match PySem.W.recIn K (He.ma K (He.ga K x) m) "property" with
  | some (.ref g :: _) => g
  | _ => 0
def propB (K : PySem.W.Frag) (x m : Str) : Bool := He.eqO (PySem.W.findIn K (.ref (He.ga K x)) m) (some (some (.ref (He.ma K (He.ga K x) m)))) && (He.eqO (PySem.W.specialIn K (.ref (He.ma K (He.ga K x) m)) "__get__") (some (some (.builtin "property.__get__"))) &&
  (decide (PySem.W.takesIn K (.ref (He.ma K (He.ga K x) m)) = some true) && match PySem.W.recIn K (He.ma K (He.ga K x) m) "property" with
    | some (.ref _ :: _) => true
    | _ => false))
def gd (x m qual : Str) (st : Stmt) : He5.DefA := ⟨gAt x m, m, qual, defArgs st, defBody st, defScope st, [], []⟩
def md (x m qual : Str) (st : Stmt) : He.DefD := ⟨(x, some m), m, qual, defArgs st, defBody st, defScope st, [], []⟩
end NS
end
section
set_option maxHeartbeats 0
/-! HD: the head -/
namespace NS
open PySem PySem.Spec PyProof.Rows L2 ZS
def dd (x : Str) (st : Stmt) (df : List He.Dv) : He.DefD := ⟨(x, none), x, x, defArgs st, defBody st, defScope st, df, []⟩
def fn : List He.DefD := [dd "is_number" sNumber [], dd "is_turn" sIsTurn [], dd "are_turns" sAreTurns [], dd "house_fault" sFault [], dd "check_house" sCheckHouse [], dd "check_number" sChkNum [], dd "still" sStill [], dd "then" sThen [], dd "undone" sUndone [], dd "halls_kept" sKept [], dd "_law_taken" sTaken [], dd "_law_pick" sPick [], dd "_law_alike" sAlike [], dd "_law_turn" sLTurn [], dd "_law_circle" sLCircle [], dd "_law_known_groups" sLKnown [], dd "_law_mixed" sLMixed [], dd "_law_whole" sLWhole [], dd "_law_house" sLHouse [], dd "_law_stayers" sLStayers [], dd "_law_then" sLThen [], dd "law" sLaw [], md "BadHouse" "__init__" "BadHouse.__init__" sBadInit, md "Seats" "__init__" "Seats.__init__" sSeatsInit, md "Seats" "do" "Seats.do" sDo, md "Seats" "undo" "Seats.undo" sUndo, md "Seats" "stayers" "Seats.stayers" sSStay]
def fp : GetD := [gd "Seats" "row" "Seats.row" sSRow, gd "Seats" "where" "Seats.where" sSWhere]
def fa1 : List He.Fa := [.glo "is_number", .glo "is_turn", .glo "are_turns", .glo "house_fault", .glo "check_house", .glo "check_number", .glo "still", .glo "then", .glo "undone", .glo "halls_kept", .glo "_law_taken", .glo "_law_pick", .glo "_law_alike", .glo "_law_turn", .glo "_law_circle", .glo "_law_known_groups", .glo "_law_mixed", .glo "_law_whole", .glo "_law_house", .glo "_law_stayers", .glo "_law_then", .glo "law"]
def fa2 : List He.Fa := [.free "tuple", .free "list", .free "len", .free "range", .free "isinstance", .free "set", .free "sorted", .free "all", .free "sum", .free "enumerate", .free "int", .free "bool", .free "str", .free "any", .free "min", .int "MOST_HALLS" 8, .int "MOST_TURNS" 6]
def fa3 : List He.Fa := [.glo "BadNumber", .exc "BadNumber", .exm "BadNumber" "BadNumber" true, .glo "BadStep", .exc "BadStep", .exm "BadStep" "BadStep" true]
def fa4 : List He.Fa := [.glo "Seats", .cls "Seats", .noat "Seats" "_turns", .noat "Seats" "_row", .noat "Seats" "_where", .mkr "Seats", .meth "Seats" "do", .meth "Seats" "undo", .meth "Seats" "stayers", .glo "BadHouse", .meth "BadHouse" "__init__", .noat "BadHouse" "part", .exm "BadHouse" "BadHouse" true]
def fa : List He.Fa := fa1 ++ fa2 ++ fa3 ++ fa4
def tf : List He.Defn := [("is_turn", none), ("are_turns", none)]
def exB (K : PySem.W.Frag) : Bool := oexB K (He.ga K "BadHouse") && propB K "Seats" "row" && propB K "Seats" "where"
def names1 : List PySem.Str := ["TurnError", "BadHouse", "BadNumber", "BadStep", "Seats", "MOST_HALLS", "MOST_TURNS", "is_number", "is_turn", "are_turns", "house_fault", "check_house", "check_number", "still", "then", "undone", "halls_kept", "_law_taken", "_law_pick", "_law_alike"]
def names2 : List PySem.Str := ["_law_turn", "_law_circle", "_law_known_groups", "_law_mixed", "_law_whole", "_law_house", "_law_stayers", "_law_then"]
def names : List PySem.Str := names1 ++ names2
abbrev RR : PySem.W.OpenRow := PySem.W.OpenLaw.row PySem.Challenge.rw_nobodystays_k08_whole_seats
abbrev hk : PySem.W.Hook := hookY 5 fa fn fp tf exB
def ob (s : PySem.W.SharedT) : He.AlX × List He.FnW := obsY 5 fa fn fp tf exB (HandSHeadRun.getT s)
theorem ob_eq (s : PySem.W.SharedT) : ob s = hk.obs s.abs := obsY_eq (HandSHeadRun.getT_eq s)
theorem run (w : World) : HandSHeadRun.RunEq RR (PySem.W.view RR.prog [34]) hk ob 4000 names w := by
  intro os
  kernel_rfl
end NS
end
section
set_option maxHeartbeats 4000000
/-! GAll: all(test for x in a tuple), the test any expression of the frame (calls of own defs within) -/
namespace GA
open PySem PySem.Spec PyProof.Rows L2 GenW
/-- a generator expression's frame, as a context -/
def gx (X : Cx) (N : List Str) (env : Env) (A : Around) (s : Shared) (H : Hp) (ex : List Addr) : Cx :=
  { prog := X.prog, w := X.w, K := X.K, mg := X.mg, base := X.base, A := A, N := N, s_0 := s, H_0 := H, env := env,
    outer := X.stack, stack := env :: X.stack, ex := ex, fn := fun _ => false, calm := true, pn := [], xe := fun _ _ => False }
structure Wk (s s' : Shared) : Prop where
  os : s'.os = s.os
  bare : AllBare s'.gens
  heap : s'.heap = s.heap
theorem Wk.inv {X : Cx} {pins : List (Addr × Obj)} {σ : L2.St} {H : Hp} {s s' : Shared} (k : Wk s s') (I : Inv X pins σ H s) : Inv X pins σ H s' :=
  I.call' (ch := []) k.os (by rw [k.heap]; exact Un.refl) (by rw [k.heap]; exact I.hok) k.bare (fun b z => absurd z (by simp))
section
variable {X : Cx} {pins : List (Addr × Obj)} {it : Addr} {vs : List (Option V)} {fp : List Addr} {tn : Nat → Heap → Prop} {W : Nat → Hp → Prop} {Qf : Hp → Prop} {pb : Nat → Bool} {n0 : Nat} {ag : Addr} {g : Nat}
def Top (X : Cx) (pins : List (Addr × Obj)) (it : Addr) (vs : List (Option V)) (fp : List Addr) (tn : Nat → Heap → Prop) (W : Nat → Hp → Prop) (i : Nat) (s : Shared) : Prop :=
  ∃ y H, Inv X pins (some (.ref it) :: y :: vs) H s ∧ tn i s.heap ∧ (∀ b ∈ fp, FpOk X pins H b) ∧ W i H
def Here (X : Cx) (pins : List (Addr × Obj)) (it : Addr) (vs : List (Option V)) (R : Hp → Prop) (s : Shared) : Prop :=
  ∃ y H, Inv X pins (some (.ref it) :: y :: vs) H s ∧ R H
/-- handed out: the truth of the test; it goes on only behind a true one -/
def Yp (X : Cx) (pins : List (Addr × Obj)) (it : Addr) (vs : List (Option V)) (Qf : Hp → Prop) (pb : Nat → Bool) (n0 : Nat) : Protocol := fun m _ v s kap =>
  ∃ i, (m + i = n0 ∧ i < n0) ∧ v = .bool (pb i) ∧ Here X pins it vs (fun H => pb i = false → Qf H) s ∧ (pb i = true → ∀ s', Wk s s' → kap (.send .none) s')
abbrev Rp (X : Cx) (pins : List (Addr × Obj)) (it : Addr) (vs : List (Option V)) (W : Nat → Hp → Prop) (n0 : Nat) : GenEnd := fun n _ r s₁ => r = .ok .next ∧ (n = 1 ∧ Here X pins it vs (W n0) s₁)
theorem Top.wake {i : Nat} {s s' : Shared} (k : Wk s s') (h : Top X pins it vs fp tn W i s) : Top X pins it vs fp tn W i s' := by
  obtain ⟨y, H, I, t, f, w⟩ := h
  exact ⟨y, H, k.inv I, by rw [k.heap]; exact t, f, w⟩
/-- the generator's own loop -/
theorem seg_loop {A : Around} {elt iter : Expr} {x : Str} {px pos : Pos} {scope : Scope} {xs : List V} {a : Addr} {te : TE}
    (hA : A.over (.compLoop (.GeneratorExp elt [⟨.Name x px, iter, [], 0⟩] scope pos) 0 (.ref it) .none X.env) [] = X.A) (hc : X.calm = true) (hco : X.env.scope.isCoroutine = false) (hxe : X.xe = fun _ _ => False)
    (T : Turn X.prog X.w X.K (.Name x px) (Itt X.K a) fp it tn) (hg : PG X (.Name x px) (gName 1)) (hel : PE X elt te) (hl : xs.length = n0)
    (hxs : ∀ i H, W i H → SqT X.K H a xs)
    (step : ∀ i v H, xs[i]? = some v → W i H → te (some (.ref it) :: some v :: vs) H fun b H3 => b = .bl (pb i) ∧ (pb i = true → W (i + 1) H3) ∧ (pb i = false → Qf H3)) :
    ∀ (k i : Nat) (s₀ s : Shared), n0 - i = k → i ≤ n0 → Top X pins it vs fp tn W i s →
      Seg (model X.prog X.w) A (Rp X pins it vs W n0) (Yp X pins it vs Qf pb n0) (k + 1) s₀ (.compLoop (.GeneratorExp elt [⟨.Name x px, iter, [], 0⟩] scope pos) 0 (.ref it) .none X.env)
        ((model X.prog X.w).den (.compLoop (.GeneratorExp elt [⟨.Name x px, iter, [], 0⟩] scope pos) 0 (.ref it) .none X.env)) [] s := by
  intro k
  induction k with
  | zero =>
    intro i s₀ s hk hi ⟨y, H, I, t, f, w⟩
    have ei : i = n0 := by omega
    subst ei
    show Seg _ A _ _ _ s₀ _ ((compTurn (.GeneratorExp elt [⟨.Name x px, iter, [], 0⟩] scope pos) 0 (.ref it) .none X.env).onRaise (leaving X.env)) [] s
    rw [compTurn_gen, Sem.onRaise_eq_wrap]
    refine seg_bind_wrap (wpAny_standAt (seg_bind_wrap ?_))
    rw [hA]
    refine thn (T.done X rfl rfl rfl hc i pins s _ H _ I f t ⟨xs, hxs _ _ w, by omega⟩) fun r s1 ⟨hr, I1⟩ => ?_
    subst hr
    exact seg_end (.ok .next) ⟨rfl, rfl, y, H, I1, w⟩
  | succ k ih =>
    intro i s₀ s hk hi ⟨y, H, I, t, f, w⟩
    have hlt : i < xs.length := by omega
    obtain ⟨v, hv⟩ : ∃ v, xs[i]? = some v := ⟨xs[i], List.getElem?_eq_getElem hlt⟩
    show Seg _ A _ _ _ s₀ _ ((compTurn (.GeneratorExp elt [⟨.Name x px, iter, [], 0⟩] scope pos) 0 (.ref it) .none X.env).onRaise (leaving X.env)) [] s
    rw [compTurn_gen, Sem.onRaise_eq_wrap]
    refine seg_bind_wrap (wpAny_standAt (seg_bind_wrap ?_))
    rw [hA]
    refine thn (T.item X rfl rfl rfl hc i pins s _ H _ I f t ⟨xs, v, hxs _ _ w, hv⟩) fun r s1 ⟨u, hr, h1⟩ => ?_
    subst hr
    refine seg_bind_wrap ?_
    rw [hA]
    refine thn h1 fun _ s2 ⟨x2, H2, I2, r2, y2, t2, f2⟩ => ?_
    obtain ⟨eH, ex⟩ := y2
    subst eH
    have ev : x2 = v := Option.some.inj ((ex xs (hxs _ _ w)).symm.trans hv)
    subst ev
    have J2 := I2.pinned f (T.obj _ _ t2)
    refine seg_bind_wrap ?_
    rw [hA]
    refine wpAny_mono (hg.run _ s2 _ _ x2 u (fun σ' H' => σ' = some (.ref it) :: some x2 :: vs ∧ H' = H2) J2 r2 ⟨rfl, rfl⟩) (fun _ s3 h3 => ?_) fun e s3 z => (by rw [hxe] at z; exact z.elim)
    obtain ⟨σ3, H3, I3, e3, eH3⟩ := h3
    subst e3 eH3
    simp only [List.forIn_nil]
    refine seg_bind_wrap (wpAny_pure ?_)
    simp only [if_true]
    have hy : ∀ z, yieldOut X.env z = yieldValue z := fun z => by unfold yieldOut; simp only [hco, Bool.false_eq_true, if_false]
    simp only [hy]
    rw [Sem.bind_eq_wrap', Sem.bind_eq_wrap', Sem.wrap_wrap, Sem.wrap_wrap]
    refine seg_wrap ?_
    rw [hA]
    refine wpAny_mono (hel.run _ s3 _ _ _ I3 (step i x2 H3 hv w)) (fun z s4 h4 => ?_) fun e s4 z => (by rw [hxe] at z; exact z.elim)
    obtain ⟨b, H4, I4, r4, eb, q1, q2⟩ := h4
    subst eb
    have ez : z = Value.bool (pb i) := r4
    subst ez
    have t4 : tn (i + 1) s4.heap := T.keep _ _ _ t2 fun b hb o e => (I4.pin (b, o) (List.mem_append_right _ (List.mem_append_right _ (mem_pinsAt hb e)))).1
    have f4 : ∀ b ∈ fp, FpOk X pins H4 b := fun b hb => by
      obtain ⟨o, e, d⟩ := T.obj _ _ t2 b hb
      exact ⟨(I4.pin (b, o) (List.mem_append_right _ (List.mem_append_right _ (mem_pinsAt hb e)))).2.1, (f b hb).2⟩
    refine seg_at (seg_yield rfl rfl rfl ⟨i, ⟨by omega, by omega⟩, rfl, ⟨some x2, H4, I4.unpinned, q2⟩, fun hp s'' hw => ?_⟩)
    exact seg_again rfl (ih (i + 1) s'' s'' (by omega) (by omega) (Top.wake hw ⟨some x2, H4, I4.unpinned, t4, f4, q1 hp⟩))
theorem seg_begin {A : Around} {elt iter : Expr} {x : Str} {px pos : Pos} {scope : Scope} {xs : List V} {a : Addr} {te : TE}
    (hA : A.over (.compLoop (.GeneratorExp elt [⟨.Name x px, iter, [], 0⟩] scope pos) 0 (.ref it) .none X.env) [] = X.A) (hc : X.calm = true) (hco : X.env.scope.isCoroutine = false) (hxe : X.xe = fun _ _ => False)
    (T : Turn X.prog X.w X.K (.Name x px) (Itt X.K a) fp it tn) (hg : PG X (.Name x px) (gName 1)) (hel : PE X elt te) (hl : xs.length = n0)
    (hxs : ∀ i H, W i H → SqT X.K H a xs)
    (step : ∀ i v H, xs[i]? = some v → W i H → te (some (.ref it) :: some v :: vs) H fun b H3 => b = .bl (pb i) ∧ (pb i = true → W (i + 1) H3) ∧ (pb i = false → Qf H3))
    (s₀ s : Shared) (h : Top X pins it vs fp tn W 0 s) :
      Seg (model X.prog X.w) A (Rp X pins it vs W n0) (Yp X pins it vs Qf pb n0) (n0 + 1) s₀ (.compStart (.GeneratorExp elt [⟨.Name x px, iter, [], 0⟩] scope pos) 0 (.ref it) .none X.env)
        ((model X.prog X.w).den (.compStart (.GeneratorExp elt [⟨.Name x px, iter, [], 0⟩] scope pos) 0 (.ref it) .none X.env)) [] s := by
  have loop := seg_loop (A := A) (elt := elt) (iter := iter) (px := px) (scope := scope) (pos := pos) hA hc hco hxe T hg hel hl hxs step n0 0 s₀ s (Nat.sub_zero _) (Nat.zero_le _) h
  obtain ⟨y, H, I, t, f, w⟩ := h
  show Seg _ A _ _ _ s₀ _ ((compStart (.GeneratorExp elt [⟨.Name x px, iter, [], 0⟩] scope pos) 0 (.ref it) .none X.env).onRaise (leaving X.env)) [] s
  unfold compStart
  rw [Sem.onRaise_eq_wrap]
  show Seg _ A _ _ _ s₀ _ ((ask >>= _).wrap _ _ _ _) [] s
  refine seg_bind_wrap (wpAny_askSetting ?_)
  split
  · exact seg_again rfl loop
  · refine seg_bind_wrap (wpAny_rule ?_)
    show Seg _ A _ _ _ s₀ _ ((standAt iter.pos >>= _).wrap _ _ _ _) [] s
    exact seg_bind_wrap (wpAny_standAt (seg_bind_wrap (T.self _ 0 s _ _ t (seg_again rfl loop))))
/-- what the consumer knows between two turns -/
def Con (X : Cx) (pins : List (Addr × Obj)) (it : Addr) (vs : List (Option V)) (W : Nat → Hp → Prop) (Qf : Hp → Prop) (pb : Nat → Bool) (n0 : Nat) (ag : Addr) (g : Nat) (A : Around) (i : Nat) (s : Shared) : Prop :=
  s.heap.IsGen ag g ∧ s.heap.NoLimit ∧ AllBare s.gens ∧ ∃ gs, s.gens[g]? = some gs ∧ ∀ s', Wk s s' → gs.Goes (model X.prog X.w) A (Rp X pins it vs W n0) (Yp X pins it vs Qf pb n0) (n0 - i + 1) (.send .none) s'
theorem all_loop {prog : Program} {w : World} (ep : X.prog = prog) (ew : X.w = w) {A : Around} {R : Result → Shared → Prop} (hh : A.handled = none) (hd : A.depth < recursionLimit) (hpin : ∀ s, (∃ σ H, Inv X pins σ H s) → s.heap.IsGen ag g)
    (hT : ∀ s s', Here X pins it vs (W n0) s → s'.os = s.os → AllBare s'.gens → (∀ b o, s.heap.get? b = some o → s'.heap.get? b = some o) → R (.ok (.ret (.bool true))) s')
    (hF : ∀ s s', Here X pins it vs Qf s → Wk s s' → R (.ok (.ret (.bool false))) s') :
    ∀ (k i : Nat) (s : Shared), n0 - i = k → i ≤ n0 → Con X pins it vs W Qf pb n0 ag g A.in1.in1 i s → codeAny (model prog w) A (.builtin "all.loop" ⟨[.ref ag], []⟩) R s := by
  subst ep ew
  intro k
  induction k with
  | zero =>
    intro i s hk hi ⟨hg, hl, hb, gs, hgs, hgo⟩
    refine codeAny_builtin F.entry_all_loop ?_
    rw [Around.under_plainId F.plain_all_loop _]
    show wpAny _ A.in1 (pyNext (.ref ag) >>= _) _ _ s
    have go0 := hgo (s.setGen g .running) ⟨rfl, allBare_setGen hb rfl, rfl⟩
    rw [hk] at go0
    refine wpAny_bind (wpAny_pyNext_genexpQ (A := A.in1) (P := fun n _ s₁ => n = 1 ∧ Here X pins it vs (W n0) s₁) hh hl hd hg hgs go0 (fun v s₁ gs' hbare hv => ?_) (fun s₁ hp h' hk' => ?_))
    · obtain ⟨j, e, _⟩ := hv
      omega
    · obtain ⟨_, hp⟩ := hp
      refine wpAny_bind (wpAny_rule (wpAny_pure ?_))
      obtain ⟨y, H, I, _⟩ := id hp
      exact hT s₁ _ hp rfl (allBare_setGen I.bare rfl) hk'
  | succ k ih =>
    intro i s hk hi ⟨hg, hl, hb, gs, hgs, hgo⟩
    have hgl : g < s.gens.size := (Array.getElem?_eq_some_iff.mp hgs).1
    refine codeAny_builtin F.entry_all_loop ?_
    rw [Around.under_plainId F.plain_all_loop _]
    show wpAny _ A.in1 (pyNext (.ref ag) >>= _) _ _ s
    have go0 := hgo (s.setGen g .running) ⟨rfl, allBare_setGen hb rfl, rfl⟩
    rw [hk] at go0
    refine wpAny_bind (wpAny_gsz (n := g + 1) hgl (wpAny_pyNext_genexpQ (A := A.in1) (P := fun n _ s₁ => n = 1 ∧ Here X pins it vs (W n0) s₁) hh hl hd hg hgs go0 (fun v s₁ gs' hbare hv hsz => ?_) (fun s₁ hp h' hk' => ?_)))
    · obtain ⟨j, e, ev, hH, hgo'⟩ := hv
      have ej : j = i := by omega
      subst ej
      subst ev
      obtain ⟨y, H, I, q⟩ := hH
      have hsz1 : g < s₁.gens.size := by
        have z : g + 1 ≤ (s₁.setGen g gs').gens.size := hsz
        rw [setGen_size] at z
        omega
      refine wpAny_bind (wpAny_holding (wpAny_truthy_bool ?_))
      refine wpAny_bind (wpAny_letGo ?_)
      cases hb' : pb j with
      | true =>
        simp only [if_true]
        refine wpAny_pure ⟨plainId_quiet F.plain_all_loop _, ih (j + 1) _ (by omega) (by omega) ?_⟩
        refine ⟨show s₁.heap.IsGen ag g from hpin s₁ ⟨_, _, I⟩, show s₁.heap.NoLimit from I.nolimit, allBare_setGen I.bare hbare, gs', setGen_at hsz1, fun s' hw => ?_⟩
        have ek : n0 - (j + 1) + 1 = k + 1 := by omega
        rw [ek]
        exact hgo' hb' s' ⟨hw.os, hw.bare, hw.heap⟩
      | false =>
        simp only [Bool.false_eq_true, if_false]
        refine wpAny_bind (wpAny_rule (wpAny_pure ?_))
        exact hF s₁ _ ⟨y, H, I, q hb'⟩ ⟨rfl, allBare_setGen I.bare hbare, rfl⟩
    · intro _
      have z := hp.1
      omega
end
end GA
namespace GA
open PySem PySem.Spec PyProof.Rows L2 GenW
section
variable {env : Env} {scope : Scope} {x : Str}
theorem clo_at (S : GxR.GenS env scope x) {y : Str} {c : Addr} (h : (cloFrom env.cells scope.names []).lookup y = some c) : env.cells.lookup y = some c := by
  rcases cloFrom_mem (PySem.mem_of_lookup h) with z | ⟨h1, h2⟩
  · cases z
  · obtain ⟨c', e⟩ := S.free _ h1 rfl
    rw [h2, e]
    rfl
theorem clo_has (S : GxR.GenS env scope x) {y : Str} (h : scope.names.lookup y = some .free) : ∃ c, (cloFrom env.cells scope.names []).lookup y = some c ∧ env.cells.lookup y = some c := by
  obtain ⟨c, e⟩ := mem_lookup (cloFrom_has (cells := env.cells) (acc := []) (PySem.mem_of_lookup h))
  exact ⟨c, e, clo_at S e⟩
end
/-- the table at P has at most one place more, of the line gl -/
def Grew (P : Addr) (gl : Nat) (H H' : Hp) : Prop := GxR.Tabbed P H H' ∧ ∀ ps, H P = some (.tbl ps) → ∃ more : Array Value, H' P = some (.tbl (ps ++ more)) ∧ (more = #[] ∨ ∃ (col : Nat) (c : Value), more = #[rawInt gl, rawInt col, c])
/-- all(test for x in e), e a tuple xs; W: what holds ahead of the i-th test; fr: the captured names' slots -/
def tAllG (K : PySem.W.Frag) (P : Addr) (gl : Nat) (fr : List Nat) (te elr : TE) : TE := fun σ H Q => te σ H fun v H1 => ∃ (a : Addr) (xs : List V), v = .ref a ∧ SqT K H1 a xs ∧ GxR.TabG H1 P ∧ ∃ (pb : Nat → Bool) (W : Nat → Hp → Prop),
  (∀ H2, Grew P gl H1 H2 → W 0 H2) ∧ (∀ i H2, W i H2 → SqT K H2 a xs) ∧
  (∀ i v H2 it, xs[i]? = some v → W i H2 → elr (some (.ref it) :: some v :: fr.map fun j => σ.getD j none) H2 fun b H3 => b = .bl (pb i) ∧ (pb i = true → W (i + 1) H3) ∧ (pb i = false → Q (.bl false) H3)) ∧
  ∀ H2, W xs.length H2 → Q (.bl true) H2
section
variable {X : Cx}
theorem inv_gen {pins : List (Addr × Obj)} {σ : L2.St} {H : Hp} {s : Shared} {scope : Scope} {x : Str} {code : Value} {A : Around} {it : Addr} {fr : List (Str × Nat)} {h' : Heap} {G : Array GenState} {tk : Nat}
    (S : GxR.GenS X.env scope x) (I : Inv X pins σ H s) (hA : A.handled = none) (hfr : A.frames = some (genEnv scope (cloFrom X.env.cells scope.names []) s.heap.objs.size code builtinsNs X.env :: X.stack))
    (hit : it < s.heap.objs.size) (hitB : X.base.objs.size ≤ it) (hitS : it ∉ frs X.stack) (hitC : ∀ y c, X.env.cells.lookup y = some c → c ≠ it)
    (hN : ∀ p ∈ fr, X.N[p.2]? = some p.1 ∧ scope.names.lookup p.1 = some .free ∧ (X.env.kindOf p.1 = some .cell ∨ X.env.kindOf p.1 = some .free))
    (hn : h'.Ns s.heap.objs.size fun y => if y = ".0" then some (.ref it) else none) (hk : ∀ b o, s.heap.get? b = some o → h'.get? b = some o) (hG : AllBare G) :
    Inv (gx X (".0" :: x :: fr.map (·.1)) (genEnv scope (cloFrom X.env.cells scope.names []) s.heap.objs.size code builtinsNs X.env) A s H [it]) [] (some (.ref it) :: none :: fr.map fun p => σ.getD p.2 none) H { s with heap := h', gens := G, toks := tk } := by
  have e0 := I.env0
  have cellOf : ∀ {y c}, (cloFrom X.env.cells scope.names []).lookup y = some c → X.env.cells.lookup y = some c := fun h => clo_at S h
  refine ⟨⟨I.ok.mod, S.kind, I.ok.glob, rfl, Nat.le_refl _, fun y z c h1 h2 => I.ok.inj y z c (cellOf h1) (cellOf h2), fun y hy => ?_, fun y c z => absurd z (by simp [gx]), fun _ => hA, hfr, .inr ⟨rfl, rfl⟩, fun b hb => ?_, e0.bs, e0.bsz, fun b o e hb => ?_, fun b hb => ?_, e0.funs, e0.frf⟩,
    rfl, hG, Un.kept hk, ⟨_, hn, fun i y v h1 h2 h3 => ?_⟩, fun y c h => ?_, I.hok.fresh (Nat.le_refl _), fun y c h => I.freeC y c (cellOf h), fun p hp => absurd (show p ∈ ([] : List (Addr × Obj)) from hp) (by simp), I.hok.kept hk, ?_⟩
  · rcases hy with hy | hy
    · exact absurd rfl (S.cell _ (PySem.mem_of_lookup hy))
    · obtain ⟨c, e, _⟩ := clo_has S hy
      exact ⟨c, e⟩
  · obtain rfl : b = it := by simpa [gx] using hb
    exact ⟨Nat.ne_of_lt hit, fun y c e => hitC y c (cellOf e)⟩
  · obtain rfl : b = it := by simpa [gx] using hb
    exact absurd (Nat.lt_of_lt_of_le (Heap.lt_size e) hitB) (Nat.lt_irrefl _)
  · obtain rfl : b = it := by simpa [gx] using hb
    exact hitS
  · match i, h1, h2 with
    | 0, h1, h2 =>
      have ey : ".0" = y := Option.some.inj h1
      have ev : V.ref it = v := Option.some.inj (Option.some.inj h2)
      subst ey ev
      exact ⟨.ref it, rfl, .inl ⟨S.dot, by simp⟩⟩
    | 1, h1, h2 => exact absurd (show (none : Option V) = some v from Option.some.inj h2) (fun z => nomatch z)
    | j + 2, h1, h2 =>
      have h1' : (fr.map (·.1))[j]? = some y := h1
      have h2' : (fr.map fun p => σ.getD p.2 none)[j]? = some (some v) := h2
      rw [List.getElem?_map] at h1' h2'
      cases q : fr[j]? with
      | none => rw [q] at h1'; cases h1'
      | some p =>
        rw [q] at h1' h2'
        have ey : p.1 = y := Option.some.inj h1'
        have ev : σ.getD p.2 none = some v := Option.some.inj h2'
        obtain ⟨a1, a2, a3⟩ := hN p (List.mem_of_getElem? q)
        subst ey
        have ev' : σ[p.2]? = some (some v) := by
          rw [List.getD_eq_getElem?_getD] at ev
          cases z : σ[p.2]? with
          | none => rw [z] at ev; cases ev
          | some w => rw [z] at ev; exact congrArg some ev
        obtain ⟨m, _, hl⟩ := I.loc
        obtain ⟨u, ru, lk⟩ := hl p.2 p.1 v a1 ev' (by
          rcases a3 with z | z
          · exact .inr (.inl z)
          · exact .inr (.inr z))
        obtain ⟨c, ec, ec'⟩ := clo_has S a2
        rcases lk with ⟨z, _⟩ | ⟨_, c', e1, e2⟩
        · rcases a3 with w | w
          · rw [w] at z; cases z
          · rw [w] at z; cases z
        · rw [ec'] at e1
          cases e1
          obtain ⟨o, ho, hd⟩ := e2
          exact ⟨u, ru, .inr ⟨.inr a2, c, ec, o, hk _ _ ho, hd⟩⟩
  · obtain ⟨v, o, ho, hd⟩ := I.cell y c (cellOf h)
    exact ⟨v, o, hk _ _ ho, hd⟩
  · simp [gx]
end
end GA
namespace GA
open PySem PySem.Spec PyProof.Rows L2 GenW
section
variable {X : Cx}
theorem gen_around {A : Around} {elt iter : Expr} {x : Str} {px pos : Pos} {scope : Scope} {env : Env} {it : Addr} {st : List Env} (hf : A.frames = some st) :
    (A.over (.compLoop (.GeneratorExp elt [⟨.Name x px, iter, [], 0⟩] scope pos) 0 (.ref it) .none env) []).frames = some (env :: st) := by
  show pushEnvs [env] (pushEnvs [] A.frames) = _
  rw [hf]
  rfl
theorem gen_room {k : Nat} {A : Around} {elt iter : Expr} {x : Str} {px pos : Pos} {scope : Scope} {env : Env} {it : Addr} (r : Room (k + 1) A) :
    Room k (A.in1.in1.over (.compLoop (.GeneratorExp elt [⟨.Name x px, iter, [], 0⟩] scope pos) 0 (.ref it) .none env) []) := by
  have h1 := r.dp
  have h2 := r.un
  refine ⟨r.hd, ?_, ?_⟩
  · show A.depth + 0 + 1 + 3 * k + 5 < _
    omega
  · show A.units + 1 + 1 + 0 + 3 + 16 * k + 200 < _
    omega
theorem pe_allG {c P : Addr} {elt iter : Expr} {x : Str} {px p pos gpos : Pos} {scope : Scope} {te elr : TE} {k : Nat} (fr : List (Str × Nat))
    (hr : Room (k + 1) X.A) (hcalm : X.calm = true) (hg : Gl X "all") (hm : X.mg "all" = none) (TB : GxR.TabB X.base X.mg c P) (hcode : X.env.code = .ref c) (S : GxR.GenS X.env scope x) (hnd : ((".0" : Str) :: x :: fr.map (·.1)).Nodup)
    (hN : ∀ p ∈ fr, X.N[p.2]? = some p.1 ∧ scope.names.lookup p.1 = some .free ∧ (X.env.kindOf p.1 = some .cell ∨ X.env.kindOf p.1 = some .free))
    (hi : PE X iter te)
    (hel : ∀ (C : Addr) (code : Value) (A : Around) (s : Shared) (H : Hp) (ex : List Addr), Room k A →
      PE (gx X (".0" :: x :: fr.map (·.1)) (genEnv scope (cloFrom X.env.cells scope.names []) C code builtinsNs X.env) A s H ex) elt elr)
    (hs : ∀ v, genFold iter X.env v = pure v := by intro _; rfl)
    (he : starEach [.GeneratorExp elt [⟨.Name x px, iter, [], 0⟩] scope gpos] X.env = (false, eval (.GeneratorExp elt [⟨.Name x px, iter, [], 0⟩] scope gpos) X.env) :: starEach [] X.env := by rfl) :
    PE X (.Call (.Name "all" p) [.GeneratorExp elt [⟨.Name x px, iter, [], 0⟩] scope gpos] [] pos) (tAllG X.K P gpos.line (fr.map (·.2)) te elr) := by
  refine ⟨fun pins s σ H Q I h => wpAny_Call_Name_kw (ld_blt I hg hm boot_all (PyProof.Rows.callWith_builtin1 ?_ he (by rfl)))⟩
  rw [he]
  have hdp := hr.dp
  show wpAny (model X.prog X.w) X.A (spliced ((false, eval (.GeneratorExp elt [⟨.Name x px, iter, [], 0⟩] scope gpos) X.env) :: backTo pos (starEach [] X.env))) _ _ s
  refine Calls.spliced_cons (wpAny_GeneratorExp_make S.co (closure_ok S.free) S.cell S.dot S.kind (by omega) ?_ hs)
  refine thn (hi.run pins s σ H _ I h) fun xv s1 ⟨v, H1, I1, r1, q1⟩ => ?_
  obtain ⟨a, xs, rfl, hT, ⟨ps, hP, ht⟩, pb, W, w0, wT, step, fin⟩ := q1
  obtain rfl : xv = Value.ref a := r1
  obtain ⟨its, rv, pT, hz⟩ := I1.tuple hT
  refine wpAny_pyIter_tuple (show s1.heap.IsTuple a its.toArray from pT) ⟨I1.nolimit.push _, ?_⟩
  generalize ho : ({ cls := .type "tuple_iterator", data := .fields #[.ref a, .int 0 0] } : Obj) = o
  have hpush : ∀ b u, s1.heap.get? b = some u → (s1.heap.push o).get? b = some u := fun b u e => Heap.get?_push_of_some _ e
  have hsz2 : (s1.heap.push o).objs.size = s1.heap.objs.size + 1 := Heap.size_push ..
  have hit2 : (s1.heap.push o).IsTupleIter s1.heap.objs.size a 0 := by
    subst ho
    exact ⟨_, Heap.get?_push_size _ rfl, rfl, rfl⟩
  have fpo := I1.fpOk (b := s1.heap.objs.size) (Nat.le_refl _) (I1.hok.fresh (Nat.le_refl _))
  have hPs : s1.heap.get? P = some { cls := .none, data := .fields ps } := I1.hok P _ hP
  have hPlt : P < s1.heap.objs.size := Heap.lt_size hPs
  have hP2 := hpush P _ hPs
  have cd : PySem.W.CodeHd (s1.heap.push o) c P := TB.code.keeps fun b u e => hpush b u (I1.bk b u e)
  have main : ∀ (code : Value) (h3 : Heap) (tk : Nat) (more : Array Value), Heap.ExtBut P (s1.heap.push o) h3 → (s1.heap.push o).objs.size ≤ h3.objs.size → h3.get? P = some { cls := .none, data := .fields (ps ++ more) } → TriplesOk (ps ++ more).toList → (more = #[] ∨ ∃ (col : Nat) (c : Value), more = #[rawInt gpos.line, rawInt col, c]) →
      wpAny (model X.prog X.w) X.A (builtinsFor X.env.globals X.env.builtins) (fun bi s₄ =>
        ∀ h', h'.Ns s₄.heap.objs.size (fun y => if y = ".0" then some (.ref s1.heap.objs.size) else none) → Heap.SameBut s₄.heap.objs.size (s₄.heap.push { cls := .type "frame", data := .dict #[] }) h' →
          wpAny (model X.prog X.w) X.A (spliced (backTo pos (starEach [] X.env))) (fun us s' => wpAny (model X.prog X.w) X.A (call (.builtin "all") (.ref h'.objs.size :: us)) (EP X pins σ Q) X.xe s') X.xe { s₄ with
            gens := s₄.gens.push (.fresh (.compStart (.GeneratorExp elt [⟨.Name x px, iter, [], 0⟩] scope gpos) 0 (.ref s1.heap.objs.size) .none (genEnv scope (cloFrom X.env.cells scope.names []) s₄.heap.objs.size code bi X.env))),
            toks := s₄.toks + 1 + 1 + 1,
            heap := h'.push { cls := .type "generator", data := .fields #[.int s₄.gens.size 0, .str "<genexpr>" (s₄.toks + 1), .str (X.env.qual ++ "<genexpr>") (s₄.toks + 1 + 1)] } }) X.xe { s1 with heap := h3, toks := tk } := by
    intro code h3 tk more hx hge hP3 ht3 hmo
    have kb : ∀ b u, b ≠ P → s1.heap.get? b = some u → h3.get? b = some u := fun b u hb e => hx b u hb (hpush b u e)
    have I3 : Inv X pins σ (upd H1 P (.tbl (ps ++ more))) { s1 with heap := h3, gens := s1.gens, drawn := s1.drawn, toks := tk } :=
      GxR.inv_tab I1 hP kb hP3 I1.bare
    obtain ⟨bm, ob, e1, e2, e3, e4, e5, e6, e7, e8⟩ := TB.bm
    refine wpAny_builtinsFor (m := X.mg) (by rw [I1.ok.glob]; exact I3.mod.glob.keeps I3.bk) e1 e2 (I3.bk _ _ e5) e6 e7 e8 ?_
    intro h' hn hsb
    have lt1 : s1.heap.objs.size < h3.objs.size := by omega
    have hsz' : h'.objs.size = h3.objs.size + 1 := by rw [hsb.1, Heap.size_push]
    have k' : ∀ b u, h3.get? b = some u → h'.get? b = some u := fun b u e => hsb.extBut b u (Nat.ne_of_lt (Heap.lt_size e)) (Heap.get?_push_of_some _ e)
    generalize hgo : ({ cls := .type "generator", data := .fields #[.int s1.gens.size 0, .str "<genexpr>" (tk + 1), .str (X.env.qual ++ "<genexpr>") (tk + 1 + 1)] } : Obj) = go
    have k5 : ∀ b u, h3.get? b = some u → (h'.push go).get? b = some u := fun b u e => Heap.get?_push_of_some _ (k' b u e)
    have hgo5 : (h'.push go).get? h'.objs.size = some go := by subst hgo; exact Heap.get?_push_size _ rfl
    have gend : ∀ v, go.data ≠ .cell v := fun v z => by subst hgo; cases z
    have isg : ∀ h : Heap, h.get? h'.objs.size = some go → h.IsGen h'.objs.size s1.gens.size := fun h e => by
      subst hgo
      exact ⟨_, _, _, e, rfl, rfl, rfl⟩
    -- the iterator is none of what stands
    have itS : s1.heap.objs.size ∉ frs X.stack := fun hb => by
      obtain ⟨_, u, hu, _⟩ := I1.env0.funs.mem hb
      exact absurd (Heap.lt_size hu) (Nat.lt_irrefl _)
    obtain ⟨f0, f1, f2, f3, f4, f5⟩ := fpo
    obtain ⟨Ag, hAg⟩ : ∃ Ag, Ag = X.A.in1.in1.over (.compLoop (.GeneratorExp elt [⟨.Name x px, iter, [], 0⟩] scope gpos) 0 (.ref s1.heap.objs.size) .none (genEnv scope (cloFrom X.env.cells scope.names []) h3.objs.size code builtinsNs X.env)) [] := ⟨_, rfl⟩
    have rg : Room k Ag := by rw [hAg]; exact gen_room hr
    have frg : Ag.frames = some (genEnv scope (cloFrom X.env.cells scope.names []) h3.objs.size code builtinsNs X.env :: X.stack) := by
      rw [hAg]
      exact gen_around (A := X.A.in1.in1) I1.ok.frames
    have J0 := inv_gen (x := x) (fr := fr) (code := code) (A := Ag) (it := s1.heap.objs.size) (h' := h'.push go) (G := s1.gens.push (.fresh (.compStart (.GeneratorExp elt [⟨.Name x px, iter, [], 0⟩] scope gpos) 0 (.ref s1.heap.objs.size) .none (genEnv scope (cloFrom X.env.cells scope.names []) h3.objs.size code builtinsNs X.env)))) (tk := tk + 1 + 1 + 1) S I3 rg.hd frg lt1 (Nat.le_trans I1.ok.bsz I1.sz) itS f4 hN (hn.push go) k5 (I1.bare.push rfl)
    generalize hXg : gx X (".0" :: x :: fr.map (·.1)) (genEnv scope (cloFrom X.env.cells scope.names []) h3.objs.size code builtinsNs X.env) Ag { s1 with heap := h3, gens := s1.gens, drawn := s1.drawn, toks := tk } (upd H1 P (.tbl (ps ++ more))) [s1.heap.objs.size] = Xg at J0
    have J : Inv Xg [(h'.objs.size, go)] (some (.ref s1.heap.objs.size) :: none :: fr.map fun p => σ.getD p.2 none) (upd H1 P (.tbl (ps ++ more))) { s1 with heap := h'.push go, gens := s1.gens.push (.fresh (.compStart (.GeneratorExp elt [⟨.Name x px, iter, [], 0⟩] scope gpos) 0 (.ref s1.heap.objs.size) .none (genEnv scope (cloFrom X.env.cells scope.names []) h3.objs.size code builtinsNs X.env))), toks := tk + 1 + 1 + 1 } := by
      refine J0.pins_of fun q hq => ?_
      rw [List.mem_singleton.mp hq]
      refine ⟨hgo5, I3.hok.fresh (by show h3.objs.size ≤ h'.objs.size; omega), ?_, fun hb => ?_, gend⟩
      · subst hXg
        show h'.objs.size ≠ h3.objs.size
        omega
      · subst hXg
        obtain ⟨_, u, hu, _⟩ := I3.env0.funs.mem hb
        have z : h'.objs.size < h3.objs.size := Heap.lt_size hu
        omega
    have back : ∀ (b : Bool) (R : Hp → Prop) (s9 s' : Shared), (∀ H9, R H9 → Q (.bl b) H9) → Here Xg [(h'.objs.size, go)] s1.heap.objs.size (fr.map fun p => σ.getD p.2 none) R s9 → s'.os = s9.os → AllBare s'.gens → (∀ b o, s9.heap.get? b = some o → s'.heap.get? b = some o) → EP X pins σ Q (.bool b) s' := by
      intro b R s9 s' hR hH hos hb hk
      obtain ⟨y, H9, I9, q9⟩ := hH
      have hbase := I9.base
      have hos9 := I9.os
      have hok9 := I9.hok
      subst hXg
      refine ⟨.bl b, H9, I3.call' (ch := [s1.heap.objs.size]) (hos.trans hos9) ((show Un (frs X.stack) [s1.heap.objs.size] (upd H1 P (.tbl (ps ++ more))) H9 h3 s9.heap from hbase).trans (Un.kept hk)) (HOk.kept (show HOk X.prog X.w H9 s9.heap from hok9) hk) hb fun d hd => ?_, rfl, hR H9 q9⟩
      rw [List.mem_singleton.mp hd]
      exact ⟨f3, f1, f4, f5⟩
    refine Calls.spliced_nil (call_function_tree F.kind_all F.plain_all F.entry_all (F.args_all1 _) ?_)
    unfold Builtin.«all»
    refine wpAny_bind (m := oneArg "all" _) (wpAny_pure (wpAny_bind (wpAny_pyIter_gen (isg _ hgo5) (wpAny_pure ⟨plainId_quiet F.plain_all_loop _, ?_⟩))))
    have T : Turn X.prog X.w X.K (.Name x px) (Itt X.K a) [s1.heap.objs.size] s1.heap.objs.size (fun i h => h.IsTupleIter s1.heap.objs.size a i) := turn_tuple a _
    refine all_loop (X := Xg) (by subst hXg; rfl) (by subst hXg; rfl) (pins := [(h'.objs.size, go)]) (it := s1.heap.objs.size) (vs := fr.map fun p => σ.getD p.2 none) (W := W) (Qf := fun H9 => Q (.bl false) H9) (pb := pb) (n0 := xs.length) (ag := h'.objs.size) (g := s1.gens.size) hr.hd hr.depth (fun s9 h9 => ?_) (fun s9 s' h9 h1 h2 h3' => ?_) (fun s9 s' h9 hw => ?_) xs.length 0 _ (Nat.sub_zero _) (Nat.zero_le _) ?_
    · obtain ⟨σ9, H9, I9⟩ := h9
      exact isg _ (I9.pin (h'.objs.size, go) (List.mem_append_right _ (List.mem_singleton.mpr rfl))).1
    · exact back true _ s9 s' (fun H9 q => fin H9 q) h9 h1 h2 h3'
    · exact back false _ s9 s' (fun H9 q => q) h9 hw.os hw.bare fun b u e => by rw [hw.heap]; exact e
    · refine ⟨isg _ hgo5, J.nolimit, J.bare, _, Array.getElem?_push_size .., fun s' hw => ⟨rfl, ?_⟩⟩
      have hTop : Top Xg [(h'.objs.size, go)] s1.heap.objs.size (fr.map fun p => σ.getD p.2 none) [s1.heap.objs.size] (fun i h => h.IsTupleIter s1.heap.objs.size a i) W 0 s' := by
        refine Top.wake hw ⟨none, _, J, ?_, fun b hb => ?_, w0 _ ⟨⟨⟨ps ++ more, upd_same, ht3⟩, fun b hb => upd_ne hb⟩, fun qs e => by rw [hP] at e; cases e; exact ⟨more, upd_same, hmo⟩⟩⟩
        · exact (hit2.at fun u e => k5 _ u (hx _ u (Nat.ne_of_gt hPlt) e))
        · obtain rfl : b = s1.heap.objs.size := List.mem_singleton.mp hb
          subst hXg
          refine ⟨by rw [upd_ne (Nat.ne_of_gt hPlt)]; exact f0, Nat.ne_of_lt lt1, itS, .inl (List.mem_singleton.mpr rfl), fun y c e => f4 y c (clo_at S e), fun q hq => ?_⟩
          rw [List.mem_singleton.mp hq]
          show h'.objs.size ≠ s1.heap.objs.size
          omega
      have hel' := hel h3.objs.size code Ag { s1 with heap := h3, gens := s1.gens, drawn := s1.drawn, toks := tk } (upd H1 P (.tbl (ps ++ more))) [s1.heap.objs.size] rg
      rw [hXg] at hel'
      have hgn : PG Xg (.Name x px) (gName 1) := by
        subst hXg
        exact pg_name hnd rfl (.inl S.loc) (.inr S.loc)
      have e1 : Xg.prog = X.prog := by subst hXg; rfl
      have e2 : Xg.w = X.w := by subst hXg; rfl
      have e3' : Xg.K = X.K := by subst hXg; rfl
      have e4' : Xg.env = genEnv scope (cloFrom X.env.cells scope.names []) h3.objs.size code builtinsNs X.env := by subst hXg; rfl
      have e5' : Xg.A = Ag := by subst hXg; rfl
      have e6' : Xg.calm = true := by subst hXg; rfl
      have e7' : Xg.xe = fun _ _ => False := by subst hXg; rfl
      have hB := seg_begin (X := Xg) (pins := [(h'.objs.size, go)]) (it := s1.heap.objs.size) (vs := fr.map fun p => σ.getD p.2 none) (fp := [s1.heap.objs.size]) (tn := fun i h => h.IsTupleIter s1.heap.objs.size a i) (W := W) (Qf := fun H9 => Q (.bl false) H9) (pb := pb) (n0 := xs.length)
        (A := X.A.in1.in1) (elt := elt) (iter := iter) (x := x) (px := px) (pos := gpos) (scope := scope) (xs := xs) (a := a) (te := elr)
        (by rw [e4', e5', hAg]) e6' (by rw [e4']; exact S.co) e7' (by rw [e1, e2, e3']; exact T) hgn hel' rfl (fun i H9 w => by rw [e3']; exact wT i H9 w) (fun i v H9 hv w => by
          have z := step i v H9 s1.heap.objs.size hv w
          rw [List.map_map] at z
          exact z) s' s' hTop
      rw [e4'] at hB
      rw [Nat.sub_zero]
      exact hB
  cases hf : codeAmong gpos ps.toList with
  | none =>
    refine wpAny_genexprCodeX hcode (cd.code hP2 ht) (cd.tab hP2) hf fun c' h' tk hx hge hlt hco' _ htab' _ => ?_
    obtain ⟨o1, vs, f1, tf, fl, tg, inF, tx, tt, op, _, _, _, _, _, _, _, _, _, htr, _⟩ := hco'
    exact main _ h' tk _ hx (Nat.le_trans hge (Nat.le_of_lt hlt)) htab'.2 htr (.inr ⟨_, _, rfl⟩)
  | some cv =>
    refine wpAny_genexprCode_hit hcode (cd.code hP2 ht) hf ?_
    exact main cv (s1.heap.push o) s1.toks #[] (Heap.ExtBut.refl _ _) (Nat.le_refl _) (by simpa using hP2) (by simpa using ht) (.inl rfl)
end
end GA
end
section
set_option maxHeartbeats 4000000
/-! sets of tuples of ints, of any size that a program of ours reaches: the table's round -/
namespace ZS
open PySem PySem.Spec PyProof.Rows L2
/-! ### i -> 5 i + 1 by powers of two -/
def seq5 : Nat → Nat
  | 0 => 0
  | n + 1 => seq5 n * 5 + 1
theorem seq5_add (m : Nat) : ∀ n, seq5 (n + m) = 5 ^ n * seq5 m + seq5 n
  | 0 => by rw [Nat.zero_add, Nat.pow_zero, Nat.one_mul]; rfl
  | n + 1 => by
    have h := seq5_add m n
    have e : n + 1 + m = (n + m) + 1 := by omega
    rw [e]
    show seq5 (n + m) * 5 + 1 = 5 ^ (n + 1) * seq5 m + (seq5 n * 5 + 1)
    have e2 : 5 ^ (n + 1) * seq5 m = 5 ^ n * seq5 m * 5 := by
      rw [Nat.pow_succ, Nat.mul_right_comm]
    omega
theorem pow5 : ∀ n, ∃ r, 5 ^ n = 4 * r + 1
  | 0 => ⟨0, rfl⟩
  | n + 1 => by
    obtain ⟨r, h⟩ := pow5 n
    exact ⟨5 * r + 1, by rw [Nat.pow_succ]; omega⟩
theorem odd_mul (a b : Nat) : (2 * a + 1) * (2 * b + 1) = 2 * (2 * (a * b) + a + b) + 1 := by
  have h1 : (2 * a + 1) * (2 * b + 1) = 2 * a * (2 * b) + 2 * a + (2 * b) + 1 := by
    rw [Nat.add_mul, Nat.mul_add, Nat.one_mul, Nat.mul_one]
    omega
  have h2 : 2 * a * (2 * b) = 4 * (a * b) := by
    rw [Nat.mul_mul_mul_comm]
  omega
/-- the 2^e-th is 2^e times an odd number -/
theorem seq5_pow : ∀ e, ∃ q, seq5 (2 ^ e) = 2 ^ e * (2 * q + 1)
  | 0 => ⟨0, rfl⟩
  | e + 1 => by
    obtain ⟨q, h⟩ := seq5_pow e
    obtain ⟨r, hr⟩ := pow5 (2 ^ e)
    have e1 : 2 ^ (e + 1) = 2 ^ e + 2 ^ e := by rw [Nat.pow_succ]; omega
    refine ⟨2 * (r * q) + r + q, ?_⟩
    rw [e1, seq5_add, h, hr]
    have h1 : (4 * r + 1) * (2 ^ e * (2 * q + 1)) + 2 ^ e * (2 * q + 1) = 2 ^ e * (((4 * r + 1) + 1) * (2 * q + 1)) := by
      generalize 4 * r + 1 = A
      generalize 2 * q + 1 = B
      rw [Nat.mul_left_comm, ← Nat.mul_add, Nat.add_mul, Nat.one_mul]
    rw [h1]
    have h2 : ((4 * r + 1) + 1) * (2 * q + 1) = 2 * ((2 * r + 1) * (2 * q + 1)) := by
      rw [← Nat.mul_assoc]
      congr 1
      omega
    rw [h2, odd_mul, ← Nat.two_mul, Nat.mul_assoc, Nat.mul_left_comm]
theorem seq5_all : ∀ e j, ∃ b, b < 2 ^ e ∧ seq5 b % 2 ^ e = j % 2 ^ e
  | 0, j => ⟨0, by decide, by rw [Nat.pow_zero, Nat.mod_one, Nat.mod_one]⟩
  | e + 1, j => by
    obtain ⟨b, hb, h⟩ := seq5_all e j
    have e1 : 2 ^ (e + 1) = 2 * 2 ^ e := by rw [Nat.pow_succ]; omega
    have hp : 0 < 2 ^ e := Nat.pow_pos (by decide)
    by_cases c : seq5 b % 2 ^ (e + 1) = j % 2 ^ (e + 1)
    · exact ⟨b, by omega, c⟩
    · refine ⟨b + 2 ^ e, by omega, ?_⟩
      obtain ⟨q, hq⟩ := seq5_pow e
      obtain ⟨r, hr⟩ := pow5 b
      have h5 : 5 ^ b = 2 * (2 * r) + 1 := by omega
      rw [seq5_add, hq, h5]
      have h1 : (2 * (2 * r) + 1) * (2 ^ e * (2 * q + 1)) = 2 ^ e * (2 * (2 * (2 * r * q) + 2 * r + q) + 1) := by
        rw [Nat.mul_left_comm, odd_mul]
      rw [h1]
      generalize 2 * (2 * r * q) + 2 * r + q = t
      have h2 : 2 ^ e * (2 * t + 1) + seq5 b = (2 ^ e + seq5 b) + 2 * 2 ^ e * t := by
        rw [Nat.mul_add, Nat.mul_one, Nat.mul_left_comm, Nat.mul_assoc]
        omega
      rw [h2, e1, Nat.add_mul_mod_self_left]
      rw [e1] at c
      -- both by 2 * 2 ^ e
      generalize 2 ^ e = M at hp h c
      generalize seq5 b = u at h c
      have d1 := Nat.div_add_mod u (2 * M)
      have d2 := Nat.div_add_mod j (2 * M)
      have l1 := Nat.mod_lt u (show 0 < 2 * M by omega)
      have l2 := Nat.mod_lt j (show 0 < 2 * M by omega)
      have m1 : u % (2 * M) % M = u % M := Nat.mod_mul_left_mod u 2 M
      have m2 : j % (2 * M) % M = j % M := Nat.mod_mul_left_mod j 2 M
      have m3 : (M + u) % (2 * M) = (M + u % (2 * M)) % (2 * M) := by rw [Nat.add_mod_mod]
      rw [m3]
      generalize u % (2 * M) = x at c l1 m1
      generalize j % (2 * M) = y at c l2 m2
      have hxy : x % M = y % M := by rw [m1, m2, h]
      have modM : ∀ z, z < 2 * M → z % M = if z < M then z else z - M := fun z hz => by
        split
        · exact Nat.mod_eq_of_lt (by assumption)
        · rw [Nat.mod_eq_sub_mod (by omega), Nat.mod_eq_of_lt (by omega)]
      rw [modM x l1, modM y l2] at hxy
      by_cases hx : x < M
      · rw [if_pos hx] at hxy
        by_cases hy : y < M
        · rw [if_pos hy] at hxy; exact absurd hxy c
        · rw [if_neg hy] at hxy
          rw [Nat.mod_eq_of_lt (by omega)]
          omega
      · rw [if_neg hx] at hxy
        by_cases hy : y < M
        · rw [if_pos hy] at hxy
          rw [Nat.mod_eq_sub_mod (by omega), Nat.mod_eq_of_lt (by omega)]
          omega
        · rw [if_neg hy] at hxy
          exact absurd (by omega) c
theorem lcgN_seq (m : Nat) : ∀ k, lcgN m k = seq5 k % (m + 1)
  | 0 => (Nat.zero_mod _).symm
  | k + 1 => by
    show (lcgN m k * 5 + 1) % (m + 1) = (seq5 k * 5 + 1) % (m + 1)
    rw [lcgN_seq m k, Nat.add_mod, Nat.mod_mul_mod, ← Nat.add_mod]
/-- the masks that come: one less than a power of two -/
def Msk (m : Nat) : Prop := ∃ e, 3 ≤ e ∧ e ≤ 16 ∧ m + 1 = 2 ^ e
theorem Msk.odd {m : Nat} (h : Msk m) : m % 2 = 1 := by
  obtain ⟨e, h1, h2, h3⟩ := h
  obtain ⟨d, rfl⟩ : ∃ d, e = d + 1 := ⟨e - 1, by omega⟩
  rw [Nat.pow_succ] at h3
  omega
theorem round_all {m : Nat} (hm : Msk m) {i j : Nat} (hi : i ≤ m) (hj : j ≤ m) : ∃ k, k ≤ m ∧ lcgI m i k = j := by
  obtain ⟨e, _, _, he⟩ := hm
  have pe : ∀ n, lcgN m (2 ^ e + n) = lcgN m n := fun n => by
    obtain ⟨q, hq⟩ := seq5_pow e
    rw [lcgN_seq, lcgN_seq, he, Nat.add_comm, seq5_add, hq, Nat.mul_left_comm, Nat.add_comm, Nat.add_mul_mod_self_left]
  obtain ⟨a, ha, ea⟩ := seq5_all e i
  obtain ⟨b, hb, eb⟩ := seq5_all e j
  have ea' : lcgN m a = i := by rw [lcgN_seq, he, ea]; exact Nat.mod_eq_of_lt (by omega)
  have eb' : lcgN m b = j := by rw [lcgN_seq, he, eb]; exact Nat.mod_eq_of_lt (by omega)
  rw [← ea']
  by_cases c : a ≤ b
  · refine ⟨b - a, by omega, ?_⟩
    rw [lcgN_add, show a + (b - a) = b by omega, eb']
  · refine ⟨2 ^ e + b - a, by omega, ?_⟩
    rw [lcgN_add, show a + (2 ^ e + b - a) = 2 ^ e + b by omega, pe, eb']
/-- within a round no slot comes twice -/
theorem round_dif {m : Nat} (hm : Msk m) {i : Nat} (hi : i ≤ m) : ((List.range (m + 1)).map (lcgI m i)).Nodup := by
  have h := perm_range (m + 1) ((List.range (m + 1)).map (lcgI m i)) (by simp) fun j hj => by
    obtain ⟨k, hk, e⟩ := round_all hm hi (Nat.le_of_lt_succ hj)
    exact List.mem_map.mpr ⟨k, List.mem_range.mpr (Nat.lt_succ_of_le hk), e⟩
  exact h.nodup_iff.mpr List.nodup_range
/-- among the first runs one begins at a slot that is not in a short list -/
theorem run_out {m : Nat} (hm : Msk m) (h : Int) (D : List Nat) (hD : D.length ≤ m) : ∃ n, n ≤ D.length + 12 ∧ runI m (SetTable.bits h) n ∉ D := by
  have dif := round_dif hm (runI_le m (SetTable.bits h) 12)
  have sub : ((List.range (D.length + 1)).map (lcgI m (runI m (SetTable.bits h) 12))).Nodup := by
    refine List.Sublist.nodup (List.Sublist.map _ ?_) dif
    exact List.range_sublist.mpr (by omega)
  refine Classical.byContradiction fun no => ?_
  have all : ∀ z ∈ (List.range (D.length + 1)).map (lcgI m (runI m (SetTable.bits h) 12)), z ∈ D := fun z hz => by
    obtain ⟨k, hk, e⟩ := List.mem_map.mp hz
    have hk' := List.mem_range.mp hk
    refine Classical.byContradiction fun w => no ⟨12 + k, by omega, ?_⟩
    rw [runI_tail (bits_lt h), e]
    exact w
  have := nat_nodup_len _ D sub all
  rw [List.length_map, List.length_range] at this
  omega
/-- every slot is the start of one of the first runs -/
theorem run_to {m : Nat} (hm : Msk m) (h : Int) {j : Nat} (hj : j ≤ m) : ∃ n, n ≤ m + 12 ∧ runI m (SetTable.bits h) n = j := by
  obtain ⟨k, hk, e⟩ := round_all hm (runI_le m (SetTable.bits h) 12) hj
  refine ⟨12 + k, by omega, ?_⟩
  rw [runI_tail (bits_lt h), e]
theorem way_out {m : Nat} (hm : Msk m) (h : Int) (D : List Nat) (hD : D.length ≤ m) : ∃ k, k ≤ 10 * (D.length + 12) ∧ way m h k ∉ D := by
  obtain ⟨n, hn, e⟩ := run_out hm h D hD
  obtain ⟨k, hk, e2⟩ := run_nth m (SetTable.bits h) n
  refine ⟨k, by omega, ?_⟩
  show (nth m (runAt m (SetTable.bits h % (m + 1)) (SetTable.bits h)) k).j ∉ D
  rw [e2]
  exact e
theorem way_in {m : Nat} (h : Int) (k : Nat) : way m h k ≤ m := by
  have h0 : SetTable.bits h % (m + 1) ≤ m := Nat.le_of_lt_succ (Nat.mod_lt _ (Nat.succ_pos _))
  obtain ⟨r1, r2, _⟩ := runEnd_bd h0
  have q := nth_in k (runAt m (SetTable.bits h % (m + 1)) (SetTable.bits h)) (m := m) (by
    show SetTable.bits h % (m + 1) + (SetTable.runEnd m (SetTable.bits h % (m + 1)) - SetTable.bits h % (m + 1)) ≤ m
    omega)
  exact Nat.le_trans (Nat.le_add_right _ _) q
end ZS
end
section
set_option maxHeartbeats 4000000
namespace ZS
open PySem PySem.Spec PyProof.Rows L2
/-- a table without dummies in which each hash's own way leads to its slot over full slots -/
structure Tab (t : SetTable) (hs : List Int) : Prop where
  up : Ris t.place.toList
  nod : t.dummies = #[]
  len : t.place.size = hs.length
  msk : Msk t.mask
  low : ∀ z ∈ t.place.toList, z ≤ t.mask
  found : ∀ (i : Nat) (h : Int) (j : Nat), hs[i]? = some h → t.place.toList[i]? = some j → ∃ k, way t.mask h k = j ∧ ∀ n, n < k → way t.mask h n ∈ t.place.toList
section
variable {t : SetTable} {hs : List Int}
theorem Tab.gap (T : Tab t hs) (room : hs.length ≤ t.mask) (h : Int) : ∃ N, N ≤ 10 * (hs.length + 12) ∧ way t.mask h N ∉ t.place.toList ∧ ∀ n, n < N → way t.mask h n ∈ t.place.toList := by
  have full : t.place.toList.length = hs.length := by rw [Array.length_toList]; exact T.len
  obtain ⟨k, hk, free⟩ := way_out T.msk h t.place.toList (by omega)
  obtain ⟨N, a, b, c⟩ := st_least (p := fun n => way t.mask h n ∉ t.place.toList) k free
  exact ⟨N, by omega, b, fun n hn => Classical.byContradiction fun z => c n hn z⟩
theorem Tab.ahead (T : Tab t hs) {h : Int} {N i j : Nat} (hN : way t.mask h N ∉ t.place.toList) (hi : hs[i]? = some h) (hj : t.place.toList[i]? = some j) : ∃ n, n < N ∧ way t.mask h n = j := by
  obtain ⟨k, ek, full⟩ := T.found i h j hi hj
  refine ⟨k, Nat.lt_of_not_le fun z => ?_, ek⟩
  rcases Nat.lt_or_eq_of_le z with z | z
  · exact hN (full N z)
  · rw [z, ek] at hN
    exact hN (List.mem_of_getElem? hj)
/-- a new hash is put into the first gap of its way -/
structure Put (t : SetTable) (hs : List Int) (h : Int) (j p : Nat) : Prop where
  at_ : (t.put j).2 = p
  le : p ≤ hs.length
  tab : Tab (t.put j).1 (hs.take p ++ h :: hs.drop p)
  mask : (t.put j).1.mask = t.mask
  led : (t.put j).1.led = t.led
  plain : (t.put j).1.plain = t.plain
  fill : (t.put j).1.fill = hs.length + 1
theorem Tab.put (T : Tab t hs) {h : Int} {N : Nat} (hN : way t.mask h N ∉ t.place.toList) (full : ∀ n, n < N → way t.mask h n ∈ t.place.toList) :
    Put t hs h (way t.mask h N) (SetTable.below t.place (way t.mask h N)) := by
  have hle := way_in (m := t.mask) h N
  generalize hj : way t.mask h N = j at hN hle ⊢
  obtain ⟨cut, _, _⟩ := below_cut T.up j
  have hnew : t.place[SetTable.below t.place j]? ≠ some j := fun e => hN (List.mem_of_getElem? (by rw [Array.getElem?_toList]; exact e))
  have hP := put_place t j
  have h2 : (t.put j).2 = SetTable.below t.place j := rfl
  have up' := ris_insert T.up hnew
  have nod' := put_dm T.nod j
  have len := T.len
  have hlist : t.place.toList.length = hs.length := by rw [Array.length_toList]; exact len
  generalize SetTable.below t.place j = p at cut hP up' h2 ⊢
  have hp : p ≤ hs.length := by omega
  have hp' : p ≤ t.place.toList.length := by omega
  have hcount : (t.put j).1.place.size = hs.length + 1 := by
    have := len_ins t.place.toList hp' j
    rw [← hP, Array.length_toList] at this
    omega
  have more : ∀ z, z ∈ t.place.toList → z ∈ (t.put j).1.place.toList := fun z hz => by rw [hP]; exact mem_ins.2 (.inr hz)
  have lift : ∀ {h' : Int} {j' : Nat}, (∃ k, way t.mask h' k = j' ∧ ∀ n, n < k → way t.mask h' n ∈ t.place.toList) → ∃ k, way t.mask h' k = j' ∧ ∀ n, n < k → way t.mask h' n ∈ (t.put j).1.place.toList :=
    fun ⟨k, a, b⟩ => ⟨k, a, fun n hn => more _ (b n hn)⟩
  refine ⟨?_, hp, ⟨by rw [hP]; rw [SetTable.toList_insertAt] at up'; exact up', nod', ?_, T.msk, fun z hz => ?_, fun i h' j' a b => ?_⟩, rfl, rfl, rfl, ?_⟩
  · exact h2
  · rw [len_ins hs hp h]; exact hcount
  · rw [hP] at hz
    rcases mem_ins.1 hz with e | e
    · rw [e]; exact hle
    · exact T.low z e
  · rw [tins_get hs hp] at a
    rw [hP, tins_get _ hp'] at b
    show ∃ k, way t.mask h' k = j' ∧ ∀ n, n < k → way t.mask h' n ∈ (t.put j).1.place.toList
    by_cases c : i < p
    · rw [if_pos c] at a b
      exact lift (T.found i h' j' a b)
    · rw [if_neg c] at a b
      by_cases d : i = p
      · rw [if_pos d] at a b
        obtain rfl : h = h' := Option.some.inj a
        obtain rfl : j = j' := Option.some.inj b
        exact lift ⟨N, hj, full⟩
      · rw [if_neg d] at a b
        exact lift (T.found (i - 1) h' j' a b)
  · show (t.put j).1.place.size + (t.put j).1.dummies.size = _
    rw [hcount, nod']
    rfl
end
/-! ### all laid anew -/
theorem spot {m : Nat} (hm : Msk m) (owner : Array (Option Nat)) (h : Int) {j : Nat} (hj : j ≤ m) (hf : oAt owner j = none) :
    ∃ N, SetTable.layClean.free m owner (SetTable.turns m) (SetTable.bits h % (m + 1)) (SetTable.bits h) = some (way m h N) ∧ oAt owner (way m h N) = none ∧ ∀ n, n < N → oAt owner (way m h n) ≠ none := by
  obtain ⟨n, hn, en⟩ := run_to hm h hj
  have at_ : way m h (off m (SetTable.bits h % (m + 1)) (SetTable.bits h) n) = j := by
    show (nth m (runAt m (SetTable.bits h % (m + 1)) (SetTable.bits h)) _).j = j
    rw [nth_off, itL_run, ← en]
    rfl
  obtain ⟨N, a, b, c⟩ := st_least (p := fun n => oAt owner (way m h n) = none) _ (show oAt owner (way m h (off m (SetTable.bits h % (m + 1)) (SetTable.bits h) n)) = none by rw [at_]; exact hf)
  have ht : SetTable.turns m = m + 15 := rfl
  refine ⟨N, free_spec m owner (SetTable.turns m) n _ _ N (by omega) a (fun k hk => ?_) ?_, b, c⟩
  · have z := c k hk
    exact Option.isNone_eq_false_iff.mpr (Option.ne_none_iff_isSome.mp z)
  · exact Option.isNone_iff_eq_none.mpr b
theorem own_next {m : Nat} (hm : Msk m) {done : List Int} {owner : Array (Option Nat)} (W : Own m done owner) (room : done.length ≤ m) (h : Int) :
    ∃ j, SetTable.layClean.free m owner (SetTable.turns m) (SetTable.bits h % (m + 1)) (SetTable.bits h) = some j ∧ Own m (done ++ [h]) (owner.setIfInBounds j (some done.length)) := by
  obtain ⟨ps, lps, hps⟩ := W.ps
  obtain ⟨f, hf, nf⟩ := st_missing ps (m + 1) (by omega)
  have empty : oAt owner f = none := Classical.byContradiction fun z => nf (hps f (Nat.le_of_lt_succ hf) z)
  obtain ⟨N, fnd, isn, full⟩ := spot hm owner h (Nat.le_of_lt_succ hf) empty
  have hw := way_in (m := m) h N
  generalize hj : way m h N = j at fnd isn hw
  have inb : j < owner.size := by have := W.sz; omega
  have here := oAt_set_self (some done.length) inb
  have there : ∀ i, i ≠ j → oAt (owner.setIfInBounds j (some done.length)) i = oAt owner i := fun i hi => oAt_set_ne _ hi
  have stay : ∀ i, oAt owner i ≠ none → oAt (owner.setIfInBounds j (some done.length)) i ≠ none := fun i hi => by
    by_cases c : i = j
    · rw [c, here]; exact Option.some_ne_none _
    · rw [there i c]; exact hi
  have llen : (done ++ [h]).length = done.length + 1 := by simp
  refine ⟨j, fnd, ?_⟩
  constructor
  · rw [Array.size_setIfInBounds]; exact W.sz
  · intro i k hi e
    by_cases c : i = j
    · rw [c, here] at e
      obtain rfl : done.length = k := Option.some.inj e
      exact ⟨h, N, by simp, by rw [hj, c], fun n hn => stay _ (full n hn)⟩
    · rw [there i c] at e
      obtain ⟨h', K, a1, a2, a3⟩ := W.at_ i k hi e
      have hk : k < done.length := (List.getElem?_eq_some_iff.mp a1).1
      exact ⟨h', K, by rw [List.getElem?_append_left hk]; exact a1, a2, fun n hn => stay _ (a3 n hn)⟩
  · intro k hk
    rw [llen] at hk
    by_cases c : k = done.length
    · exact ⟨j, hw, by rw [c]; exact here⟩
    · obtain ⟨i, hi, e⟩ := W.all k (by omega)
      refine ⟨i, hi, ?_⟩
      rw [there i fun z => by rw [z, isn] at e; cases e]
      exact e
  · refine ⟨j :: ps, by rw [llen, List.length_cons, lps], fun i hi e => ?_⟩
    by_cases c : i = j
    · rw [c]; exact List.mem_cons_self
    · rw [there i c] at e
      exact List.mem_cons_of_mem _ (hps i hi e)
theorem own_all {m : Nat} (hm : Msk m) : ∀ (rest done : List Int) (owner : Array (Option Nat)), Own m done owner → done.length + rest.length ≤ m →
    ∃ o, rest.foldl (stepF m) (some (owner, done.length)) = some (o, (done ++ rest).length) ∧ Own m (done ++ rest) o
  | [], done, owner, W, _ => ⟨owner, by simp, by rw [List.append_nil]; exact W⟩
  | h :: rest, done, owner, W, hl => by
    rw [List.length_cons] at hl
    obtain ⟨j, e, V⟩ := own_next hm W (by omega) h
    obtain ⟨o, f, U⟩ := own_all hm rest (done ++ [h]) _ V (by simp; omega)
    have ea : done ++ [h] ++ rest = done ++ h :: rest := by simp
    have el : (done ++ [h]).length = done.length + 1 := by simp
    rw [ea] at f U
    rw [el] at f
    refine ⟨o, ?_, U⟩
    rw [List.foldl_cons, stepF_some e]
    exact f
theorem laid_own {m : Nat} (hm : Msk m) {hs : Array Int} (room : hs.size ≤ m) : ∃ o, SetTable.layClean m hs = some o ∧ Own m hs.toList o := by
  obtain ⟨o, f, W⟩ := own_all hm hs.toList [] _ (Own.init m) (by simpa using room)
  refine ⟨o, ?_, W⟩
  have f2 : hs.toList.foldl (stepF m) (some (Array.replicate (m + 1) none, 0)) = some (o, hs.toList.length) := f
  rw [layClean_eq, f2]
  rfl
/-- the table anew: all hashes, in another order -/
theorem anew (t : SetTable) {hs : Array Int} {wanted M : Nat} (hw : SetTable.sizeAbove wanted - 1 = M) (hM : Msk M) (room : hs.size ≤ M) :
    ∃ t' order, t.relaid hs wanted = some (t', order) ∧ order.toList.Perm (List.range hs.size) ∧ Tab t' (order.toList.map fun i => hs.getD i 0) ∧ t'.mask = M ∧ t'.led = t.led ∧ t'.plain = t.plain := by
  obtain ⟨o, e, W⟩ := laid_own hM room
  have hr : t.relaid hs wanted = some (tabOf t M o, ((liveOf M o).map (·.2)).toArray) := by
    rw [relaid_eq, hw, e]
    rfl
  obtain ⟨up, low⟩ := ris_live (fun j => o.getD j none) (List.range (M + 1)) List.pairwise_lt_range
  have up1 : Ris ((liveOf M o).map (·.1)) := up
  have low1 : ∀ z ∈ (liveOf M o).map (·.1), z ∈ List.range (M + 1) := low
  have count : (liveOf M o).length = hs.size := by
    obtain ⟨ps, p1, p2⟩ := W.ps
    have nd1 : ((liveOf M o).map (·.1)).Nodup := (List.Pairwise.imp (fun z => Nat.ne_of_lt z) (show List.Pairwise (· < ·) ((liveOf M o).map (·.1)) from up1))
    have le1 := nat_nodup_len ((liveOf M o).map (·.1)) ps nd1 fun z hz => by
      obtain ⟨⟨y, k⟩, hq, rfl⟩ := List.mem_map.mp hz
      obtain ⟨b1, b2⟩ := (mem_live W.sz).1 hq
      exact p2 y b1 (by rw [b2]; exact Option.some_ne_none _)
    have le2 := nat_nodup_len (List.range hs.size) ((liveOf M o).map (·.2)) List.nodup_range fun k hk => by
      obtain ⟨j, b1, b2⟩ := W.all k (by simpa using hk)
      exact List.mem_map.mpr ⟨(j, k), (mem_live W.sz).2 ⟨b1, b2⟩, rfl⟩
    have : hs.toList.length = hs.size := rfl
    rw [List.length_map] at le1 le2
    rw [List.length_range] at le2
    omega
  refine ⟨_, _, hr, ?_, ⟨up1, rfl, ?_, hM, fun z hz => ?_, fun i h j a b => ?_⟩, rfl, rfl, rfl⟩
  · refine perm_range hs.size _ (by simpa using count) fun k hk => ?_
    obtain ⟨j, b1, b2⟩ := W.all k (by simpa using hk)
    exact List.mem_map.mpr ⟨(j, k), (mem_live W.sz).2 ⟨b1, b2⟩, rfl⟩
  · show ((liveOf M o).map (·.1)).toArray.size = _
    simp
  · exact Nat.le_of_lt_succ (List.mem_range.mp (low1 z hz))
  · have a' : (((liveOf M o).map (·.2)).map fun i => hs.getD i 0)[i]? = some h := a
    have b' : ((liveOf M o).map (·.1))[i]? = some j := b
    rw [List.getElem?_map, List.getElem?_map] at a'
    rw [List.getElem?_map] at b'
    cases hq : (liveOf M o)[i]? with
    | none => rw [hq] at b'; cases b'
    | some q =>
      obtain ⟨y, k⟩ := q
      rw [hq] at a' b'
      obtain rfl : y = j := Option.some.inj b'
      have eh : hs.getD k 0 = h := Option.some.inj a'
      obtain ⟨b1, b2⟩ := (mem_live W.sz).1 (List.mem_of_getElem? hq)
      obtain ⟨h0, K, a1, a2, a3⟩ := W.at_ y k b1 b2
      have e0 : h0 = h := by
        rw [← eh, Array.getD_eq_getD_getElem?, ← Array.getElem?_toList, a1]
        rfl
      subst e0
      refine ⟨K, a2, fun n hn => ?_⟩
      show way M h0 n ∈ (liveOf M o).map (·.1)
      obtain ⟨k2, z⟩ := Option.ne_none_iff_exists'.mp (a3 n hn)
      exact List.mem_map.mpr ⟨(way M h0 n, k2), (mem_live W.sz).2 ⟨way_in h0 n, z⟩, rfl⟩
end ZS
end
section
set_option maxHeartbeats 4000000
namespace ZS
open PySem PySem.Spec PyProof.Rows L2
/-- what a set may hold at addresses: keys whose search tells nothing -/
structure ZK (P : Program) (w : World) (K : Type) [DecidableEq K] where
  is : Heap → K → Addr → Prop
  hash : K → Int
  toks : K → Nat
  room : Around → Prop
  inj : ∀ {h : Heap} {a : Addr} {x y : K}, is h x a → is h y a → x = y
  keep : ∀ {h h' : Heap} {k : K} {b : Addr}, is h k b → (∀ c o vs n, h.get? c = some o → o.data = .seq vs n → h'.get? c = some o) → is h' k b
  ask : ∀ {A : Around} {E : Value → Shared → Prop} {s : Shared} {k : K} {a : Addr} {Q : Int → Shared → Prop}, room A → is s.heap k a → Q (hash k) { s with toks := s.toks + toks k } → wpAny (model P w) A (pyHash (.ref a)) Q E s
  eqB : ∀ {A : Around} {E : Value → Shared → Prop} {s : Shared} {x y : K} {a b : Addr} {Q : Bool → Shared → Prop}, room A → is s.heap x a → is s.heap y b → Q (decide (x = y)) s → wpAny (model P w) A (eqBool (.ref a) (.ref b)) Q E s
  quiet : ∀ {A : Around} {E : Value → Shared → Prop} {s : Shared} {k : K} {a : Addr} {Q : Bool → Shared → Prop}, is s.heap k a → Q true s → wpAny (model P w) A (eqIsQuiet 8 (.ref a)) Q E s
  noCls : ∀ {A : Around} {E : Value → Shared → Prop} {s : Shared} {k : K} {a : Addr} {Q : Bool → Shared → Prop}, is s.heap k a → Q false s → wpAny (model P w) A (ofAClassStatement 8 (.ref a)) Q E s
  byV : ∀ {A : Around} {E : Value → Shared → Prop} {s : Shared} {k : K} {a : Addr} {Q : Bool → Shared → Prop}, is s.heap k a → Q true s → wpAny (model P w) A (hashByValue 8 (.ref a)) Q E s
/-! ### tuples of ints, and of such -/
mutual
def nums : NestedKey → Bool
  | .none => false
  | .num _ => true
  | .text _ => false
  | .tup ks => numsAll ks
def numsAll : List NestedKey → Bool
  | [] => true
  | k :: ks => nums k && numsAll ks
end
section
variable {P : Program} {w : World}
mutual
theorem cls_key : ∀ (k : NestedKey) (v : Value) (n : Nat) (s : Shared), NestedIs s.heap k v → k.depth ≤ n → ∀ (A : Around) (E : Value → Shared → Prop) (Q : Bool → Shared → Prop), Q false s → wpAny (model P w) A (ofAClassStatement n v) Q E s
  | k, v, n, s, h, hd, A, E, Q, q => by
    cases h with
    | none => cases n <;> exact wpAny_pure q
    | bool _ => cases n <;> exact wpAny_pure q
    | int _ _ => cases n <;> exact wpAny_pure q
    | text _ _ => cases n <;> exact wpAny_pure q
    | @tup a o vs m ks ho hc hdt hall =>
      have hdk : NestedKey.depthAll ks + 1 ≤ n := by rw [NestedKey.depth] at hd; exact hd
      obtain ⟨n', rfl⟩ : ∃ n', n = n' + 1 := ⟨n - 1, by omega⟩
      unfold ofAClassStatement
      refine wpAny_bind (wpAny_typeOf (T := "tuple") ⟨o, ho, hc⟩ ?_)
      dsimp only
      simp only [show (("tuple" : String) == "tuple") = true from by decide, if_true, Bool.not_true, Bool.false_eq_true, if_false]
      try refine wpAny_bind (wpAny_pure ?_)
      try simp only [Bool.not_true, Bool.false_eq_true, if_false]
      show wpAny _ _ (seqItems? (.ref a) >>= _) _ _ s
      refine wpAny_bind (wpAny_seqItems ho hdt ?_)
      dsimp only
      refine wpAny_bind ?_
      show wpAny _ _ (forIn vs _ _) _ _ s
      rw [← Array.forIn_toList]
      refine wpAny_forIn_list _ (fun rest r s' => r.1 = none ∧ s' = s ∧ ∀ v ∈ rest, v ∈ vs.toList) _ ?_ ?_ _ _ ⟨rfl, rfl, fun _ z => z⟩
      · rintro v rest r s' ⟨hr, rfl, hm⟩
        refine wpAny_bind (cls_keys ks vs.toList n' s' hall (by omega) v (hm v List.mem_cons_self) _ _ _ ?_)
        simp only [Bool.false_eq_true, if_false]
        exact wpAny_pure ⟨rfl, rfl, fun u hu => hm u (List.mem_cons_of_mem _ hu)⟩
      · rintro ⟨r1, r2⟩ s' ⟨hr, rfl, _⟩
        simp only at hr
        subst hr
        exact wpAny_pure q
theorem cls_keys : ∀ (ks : List NestedKey) (vs : List Value) (n : Nat) (s : Shared), NestedAll s.heap ks vs → NestedKey.depthAll ks ≤ n → ∀ v ∈ vs, ∀ (A : Around) (E : Value → Shared → Prop) (Q : Bool → Shared → Prop), Q false s → wpAny (model P w) A (ofAClassStatement n v) Q E s
  | [], [], _, _, _, _, _, hv => by cases hv
  | k :: ks, v :: vs, n, s, h, hd, u, hu => by
    rw [NestedKey.depthAll] at hd
    cases h with
    | cons h1 h2 =>
      intro A E Q q
      rcases List.mem_cons.mp hu with e | e
      · rw [e]; exact cls_key k v n s h1 (by omega) A E Q q
      · exact cls_keys ks vs n s h2 (by omega) u e A E Q q
end
mutual
theorem byv_key : ∀ (k : NestedKey) (v : Value) (n : Nat) (s : Shared), NestedIs s.heap k v → k.depth ≤ n → nums k = true → ∀ (A : Around) (E : Value → Shared → Prop) (Q : Bool → Shared → Prop), Q true s → wpAny (model P w) A (hashByValue n v) Q E s
  | k, v, n, s, h, hd, hn, A, E, Q, q => by
    cases h with
    | none => exact absurd hn (by decide)
    | bool _ => cases n <;> exact wpAny_pure q
    | int _ _ => cases n <;> exact wpAny_pure q
    | text _ _ => exact absurd hn (by simp [nums])
    | @tup a o vs m ks ho hc hdt hall =>
      have hdk : NestedKey.depthAll ks + 1 ≤ n := by rw [NestedKey.depth] at hd; exact hd
      obtain ⟨n', rfl⟩ : ∃ n', n = n' + 1 := ⟨n - 1, by omega⟩
      rw [nums] at hn
      unfold hashByValue
      refine wpAny_bind (wpAny_specialOf (T := "tuple") ⟨o, ho, hc⟩ F.slot_tuple_hash.lookup ?_)
      show wpAny _ _ (seqItems? (.ref a) >>= _) _ _ s
      refine wpAny_bind (wpAny_seqItems ho hdt (wpAny_bind ?_))
      show wpAny _ _ (forIn vs _ _) _ _ s
      rw [← Array.forIn_toList]
      refine wpAny_forIn_list _ (fun rest r s' => r.1 = none ∧ s' = s ∧ ∀ v ∈ rest, v ∈ vs.toList) _ ?_ ?_ _ _ ⟨rfl, rfl, fun _ z => z⟩
      · rintro v rest r s' ⟨hr, rfl, hm⟩
        refine wpAny_bind (byv_keys ks vs.toList n' s' hall (by omega) hn v (hm v List.mem_cons_self) _ _ _ ?_)
        simp only [Bool.not_true, Bool.false_eq_true, if_false]
        exact wpAny_pure ⟨rfl, rfl, fun u hu => hm u (List.mem_cons_of_mem _ hu)⟩
      · rintro ⟨r1, r2⟩ s' ⟨hr, rfl, _⟩
        simp only at hr
        subst hr
        exact wpAny_pure q
theorem byv_keys : ∀ (ks : List NestedKey) (vs : List Value) (n : Nat) (s : Shared), NestedAll s.heap ks vs → NestedKey.depthAll ks ≤ n → numsAll ks = true → ∀ v ∈ vs, ∀ (A : Around) (E : Value → Shared → Prop) (Q : Bool → Shared → Prop), Q true s → wpAny (model P w) A (hashByValue n v) Q E s
  | [], [], _, _, _, _, _, _, hv => by cases hv
  | k :: ks, v :: vs, n, s, h, hd, hn, u, hu => by
    rw [NestedKey.depthAll] at hd
    rw [numsAll, Bool.and_eq_true] at hn
    cases h with
    | cons h1 h2 =>
      intro A E Q q
      rcases List.mem_cons.mp hu with e | e
      · rw [e]; exact byv_key k v n s h1 (by omega) hn.1 A E Q q
      · exact byv_keys ks vs n s h2 (by omega) hn.2 u e A E Q q
end
/-- the kind -/
def zk (P : Program) (w : World) : ZK P w NestedKey where
  is := fun h k a => NestedIs h k (.ref a) ∧ k.depth ≤ 8 ∧ nums k = true
  hash := fun k => k.hash w
  toks := fun k => k.draws
  room := fun A => A.units + 8 < cLine
  inj := fun hx hy => NestedIs.inj _ _ _ hx.1 hy.1
  keep := fun hx k => ⟨NestedIs.at k _ _ hx.1, hx.2⟩
  ask := fun hr hx q => pyHash_key _ _ _ _ _ hx.1 (Nat.lt_of_le_of_lt (Nat.add_le_add_left hx.2.1 _) hr) q
  eqB := fun hr hx hy q => (nestedKind P w).eqBool hr ⟨hx.1, hx.2.1⟩ ⟨hy.1, hy.2.1⟩ q
  quiet := fun hx q => (nestedKind P w).quiet ⟨hx.1, hx.2.1⟩ q
  noCls := fun hx q => cls_key _ _ 8 _ hx.1 hx.2.1 _ _ _ q
  byV := fun hx q => byv_key _ _ 8 _ hx.1 hx.2.1 hx.2.2 _ _ _ q
end
end ZS
end
section
set_option maxHeartbeats 4000000
namespace ZS
open PySem PySem.Spec PyProof.Rows L2
def zBound : Nat := 9000
def zrows {P : Program} {w : World} {K : Type} [DecidableEq K] (Z : ZK P w K) (L : List (Addr × K)) : List (Int × Value) := L.map fun p => (Z.hash p.2, Value.ref p.1)
/-- a set of such keys: its rows in the table's order -/
structure SetZ {P : Program} {w : World} {K : Type} [DecidableEq K] (Z : ZK P w K) (h : Heap) (a : Addr) (L : List (Addr × K)) (es : Array (Int × Value)) (ep : Nat) (t : SetTable) : Prop where
  obj : ∃ o, h.get? a = some o ∧ o.ExactSet ∧ o.data = .set es ep t
  row : es.toList = zrows Z L
  tab : Tab t (L.map fun p => Z.hash p.2)
  dif : (L.map (·.2)).Nodup
  tup : ∀ p ∈ L, Z.is h p.2 p.1
  pln : t.plain = true
  led : w.params.followText "set-order" = true ∨ t.led = true
  room : L.length * 5 < t.mask * 3
  few : L.length < zBound
section
variable {P : Program} {w : World} {K : Type} [DecidableEq K] {Z : ZK P w K} {A : Around} {E : Value → Shared → Prop} {s : Shared} {a : Addr} {L : List (Addr × K)} {es : Array (Int × Value)} {ep : Nat} {t : SetTable}
theorem zseen (Z : ZK P w K) {k : K} {b : Addr} {Q : Bool → Shared → Prop} (hk : Z.is s.heap k b) {ys : List Value} (hy : ∀ y ∈ ys, ∃ k' c, y = Value.ref c ∧ Z.is s.heap k' c) (h : Q false s) :
    wpAny (model P w) A (searchCouldBeSeen (.ref b) ys) Q E s := by
  unfold searchCouldBeSeen
  refine wpAny_bind (wpAny_forIn_list _ (fun rest r s' => r.1 = none ∧ s' = s ∧ ∀ y ∈ rest, ∃ k' c, y = Value.ref c ∧ Z.is s.heap k' c) _ ?_ ?_ _ _ ⟨rfl, rfl, hy⟩)
  · rintro v rest r s' ⟨hr, rfl, hall⟩
    obtain ⟨k', c, rfl, hc⟩ := hall v List.mem_cons_self
    have left := fun u hu => hall u (List.mem_cons_of_mem _ hu)
    dsimp only
    by_cases hv : (b == c || (carriedByValue (.ref b) && carriedByValue (.ref c))) = true
    · refine wp_if_pos hv ?_
      exact wpAny_pure ⟨rfl, rfl, left⟩
    · refine wp_if_neg hv (wpAny_bind (Z.quiet hk ?_))
      simp only [Bool.not_true, Bool.false_eq_true, if_false]
      refine wpAny_bind (Z.quiet hc ?_)
      simp only [Bool.not_true, Bool.false_eq_true, if_false]
      refine wpAny_bind (Z.noCls hk ?_)
      simp only [Bool.false_eq_true, if_false]
      refine wpAny_bind (Z.noCls hc ?_)
      simp only [Bool.false_eq_true, if_false]
      exact wpAny_pure ⟨rfl, rfl, left⟩
  · rintro ⟨r1, r2⟩ s' ⟨hr, rfl, _⟩
    simp only at hr
    subst hr
    exact wpAny_pure h
theorem zsame {h h' : Heap} {k : K} {a b : Addr} {o : Obj} {es : Array (Int × Value)} {ep : Nat} {t : SetTable} (hb : Z.is h k b) (ho : h.get? a = some o) (hd : o.data = .set es ep t) (hs : Heap.SameBut a h h') : Z.is h' k b :=
  Z.keep hb fun c oc vs n hc hdc => by
    have hne : c ≠ a := fun z => by
      rw [z, ho] at hc
      cases hc
      rw [hd] at hdc
      cases hdc
    exact (hs.2 c hne).trans hc
theorem zrows_len {es : Array (Int × Value)} (h : es.toList = zrows Z L) : es.size = L.length := by
  rw [← Array.length_toList, h]
  exact List.length_map _
theorem SetZ.size (R : SetZ Z s.heap a L es ep t) : es.size = L.length := zrows_len R.row
theorem fits_of {n : Nat} (h1 : t.place.size = n) (h2 : t.dummies = #[]) (h3 : n ≤ t.mask) : t.fits n = true := by
  unfold SetTable.fits SetTable.fill
  rw [h2, h1]
  simp [h3]
theorem SetZ.fits (R : SetZ Z s.heap a L es ep t) : t.fits es.size = true := by
  have h1 := R.tab.len
  have h2 := R.room
  rw [List.length_map] at h1
  exact fits_of (by rw [h1, R.size]) R.tab.nod (by rw [R.size]; omega)
theorem SetZ.entry (R : SetZ Z s.heap a L es ep t) {i : Nat} {p : Addr × K} (h : L[i]? = some p) : es[i]? = some (Z.hash p.2, Value.ref p.1) := by
  rw [← Array.getElem?_toList, R.row]
  show (L.map _)[i]? = _
  rw [List.getElem?_map, h]
  rfl
theorem SetZ.steady (R : SetZ Z s.heap a L es ep t) : ¬ t.gaveWay = true := by
  unfold SetTable.gaveWay
  rw [R.tab.msk.odd]
  decide
theorem nth_dummy (m : Nat) : ∀ (n : Nat) (p : SetTable.Probe), p.dummy = none → (nth m p n).dummy = none
  | 0, _, h => h
  | n + 1, p, h => nth_dummy m n (adv m p) (by unfold adv; split <;> exact h)
/-- from the c-th step on -/
theorem hunt (R : SetZ Z s.heap a L es ep t) {x : Addr} {k : K} (hx : Z.is s.heap k x) (hu : Z.room A) {add : Bool} {N : Nat} (hN : N < 10 * SetTable.turns t.mask)
    (gap : way t.mask (Z.hash k) N ∉ t.place.toList) (full : ∀ n, n < N → way t.mask (Z.hash k) n ∈ t.place.toList) {Q : SetFound → Shared → Prop}
    (yes : k ∈ L.map (·.2) → ∀ r : Option Nat, r.isSome = !add → Q (.there r) s) (no : k ∉ L.map (·.2) → Q (.free (way t.mask (Z.hash k) N) false) s) :
    ∀ (f c : Nat) (stand : Option SetTable.Probe), stand.getD (t.probeStart (Z.hash k)) = nth t.mask (runAt t.mask (SetTable.bits (Z.hash k) % (t.mask + 1)) (SetTable.bits (Z.hash k))) c → c ≤ N → N - c < f →
      (∀ (i : Nat) p, L[i]? = some p → p.2 = k → ∃ d, c ≤ d ∧ d < N ∧ t.place.toList[i]? = some (way t.mask (Z.hash k) d)) →
      wpAny (model P w) A (setSearchFrom a (.ref x) (Z.hash k) add f stand) Q E s
  | 0, c, stand, _, _, hf, _ => absurd hf (Nat.not_lt_zero _)
  | f + 1, c, stand, hst, hc, hf, left => by
    obtain ⟨o, ho, hex, hd⟩ := R.obj
    generalize hp0 : runAt t.mask (SetTable.bits (Z.hash k) % (t.mask + 1)) (SetTable.bits (Z.hash k)) = p0 at hst
    have wayE : ∀ n, way t.mask (Z.hash k) n = (nth t.mask p0 n).j := fun n => by rw [← hp0]
    have later : ∀ q, nth t.mask (nth t.mask p0 c) q = nth t.mask p0 (c + q) := fun q => (nth_add t.mask c p0 q).symm
    have wayL : ∀ q, (nth t.mask (nth t.mask p0 c) q).j = way t.mask (Z.hash k) (c + q) := fun q => by rw [later, wayE]
    have nd : (nth t.mask p0 c).dummy = none := nth_dummy _ c p0 (by rw [← hp0]; rfl)
    have eN : c + (N - c) = N := by omega
    have spec := go_spec t R.tab.up R.tab.nod (fun i => (es[i]?.map (fun e : Int × Value => e.1)).getD 0) (Z.hash k) (10 * SetTable.turns t.mask) (N - c) _ nd (by omega) (fun q hq => by rw [wayL]; exact full _ (by omega)) (by rw [wayL, eN]; exact gap)
    have hashAt : ∀ (i : Nat) p, L[i]? = some p → (es[i]?.map (fun e : Int × Value => e.1)).getD 0 = Z.hash p.2 := fun i p hp => by rw [R.entry hp]; rfl
    have skip : ∀ {q : Nat} (hno : ∀ k' i', k' < q → t.place.toList[i']? = some (nth t.mask (nth t.mask p0 c) k').j → (fun i => (es[i]?.map (fun e : Int × Value => e.1)).getD 0) i' ≠ Z.hash k) {i : Nat} {p : Addr × K} {d : Nat},
        L[i]? = some p → p.2 = k → c ≤ d → t.place.toList[i]? = some (way t.mask (Z.hash k) d) → c + q ≤ d := fun {q} hno {i p d} hi hk hcd hpl => by
      rcases Nat.lt_or_ge d (c + q) with z | z
      · refine absurd ?_ (hno (d - c) i (by omega) (by rw [wayL, show c + (d - c) = d by omega]; exact hpl))
        show (es[i]?.map (fun e : Int × Value => e.1)).getD 0 = _
        rw [hashAt i p hi, hk]
      · exact z
    rw [setSearchFrom_succ]
    refine wpAny_bind (wpAny_setState_of ho hd R.fits ?_)
    dsimp only
    refine wp_if_neg R.steady ?_
    try refine wpAny_bind (wpAny_pure ?_)
    have probeE : t.probe (fun i => (es[i]?.map (fun e : Int × Value => e.1)).getD 0) (Z.hash k) (stand.getD (t.probeStart (Z.hash k))) = SetTable.probe.go t (fun i => (es[i]?.map (fun e : Int × Value => e.1)).getD 0) (Z.hash k) (10 * SetTable.turns t.mask) (nth t.mask p0 c) := by rw [hst]; rfl
    rw [probeE]
    rcases spec with ⟨q, i, hq, hi, hh, hno, hpr⟩ | ⟨hno, hpr⟩
    · rw [hpr]
      dsimp only
      rw [wayL] at hi ⊢
      have hil : i < L.length := by
        have h1 := (List.getElem?_eq_some_iff.mp hi).1
        have h2 := R.tab.len
        rw [List.length_map] at h2
        rw [Array.length_toList] at h1
        omega
      obtain ⟨p, hp⟩ : ∃ p, L[i]? = some p := ⟨L[i], List.getElem?_eq_getElem hil⟩
      have hmem : p ∈ L := List.mem_of_getElem? hp
      have hsl : t.slot (way t.mask (Z.hash k) (c + q)) = .live i := slot_live R.tab.up hi
      have rest : wpAny (model P w) A (searchRest a (.ref x) (Z.hash k) add f es t (way t.mask (Z.hash k) (c + q)) i (nth t.mask (nth t.mask p0 c) (q + 1))) Q E s := by
        unfold searchRest
        rw [R.entry hp]
        dsimp only
        refine wpAny_bind (wpAny_holding (Z.eqB hu (R.tup p hmem) hx ?_))
        refine wpAny_bind (wpAny_setState_of ho hd R.fits ?_)
        dsimp only
        have tail : p.2 ≠ k ∨ add = false → wpAny (model P w) A (do
            let some same := t.sameMemory t.moves t.mask | unsupported "set.changed-during-lookup:is-the-new-block-at-the-old-address"
            let still ← match (if same then t.slot (way t.mask (Z.hash k) (c + q)) else .empty) with
              | .live i' => match es[i']? with
                | some (_, y') => do pure (if ← isSame y' (.ref p.1) then some i' else none)
                | none => pure none
              | _ => pure none
            match still with
            | none => rule "set.search.anew"; setSearchFrom a (.ref x) (Z.hash k) add f none
            | some i' => if decide (p.2 = k) then return .there (some i') else setSearchFrom a (.ref x) (Z.hash k) add f (some (nth t.mask (nth t.mask p0 c) (q + 1)))) Q E s := fun hor => by
          rw [sameMem]
          dsimp only
          simp only [if_true, hsl, R.entry hp]
          refine wpAny_bind (wpAny_isSame_ref_self (wpAny_bind (wpAny_pure ?_)))
          simp only [if_true]
          by_cases hk : p.2 = k
          · refine wp_if_pos (by simp [hk]) (wpAny_pure (yes (List.mem_map.mpr ⟨p, hmem, hk⟩) _ ?_))
            rcases hor with z | z
            · exact absurd hk z
            · rw [z]; rfl
          · refine wp_if_neg (by simp [hk]) ?_
            refine hunt R hx hu hN gap full yes no f (c + (q + 1)) _ (by show nth t.mask (nth t.mask p0 c) (q + 1) = _; rw [later, hp0]) (by omega) (by omega) fun i0 p1 h1 hk1 => ?_
            obtain ⟨d, d1, d2, d3⟩ := left i0 p1 h1 hk1
            have d4 := skip hno h1 hk1 d1 d3
            refine ⟨d, ?_, d2, d3⟩
            rcases Nat.lt_or_eq_of_le d4 with z | z
            · omega
            · exfalso
              rw [← z] at d3
              have s0 := slot_live R.tab.up d3
              rw [hsl] at s0
              injection s0 with s0
              rw [← s0, hp] at h1
              exact hk ((congrArg Prod.snd (Option.some.inj h1)).trans hk1)
        cases hadd : add with
        | true =>
          by_cases hk : p.2 = k
          · refine wp_if_pos (by simp [hk]) (wpAny_pure (yes (List.mem_map.mpr ⟨p, hmem, hk⟩) none (by rw [hadd]; rfl)))
          · refine wp_if_neg (by simp [hk]) ?_
            try refine wpAny_bind (wpAny_pure ?_)
            have z := tail (.inl hk)
            rw [hadd] at z
            exact z
        | false =>
          refine wp_if_neg (by simp) ?_
          try refine wpAny_bind (wpAny_pure ?_)
          have z := tail (.inr hadd)
          rw [hadd] at z
          exact z
      by_cases hl : t.led = true
      · refine wp_if_neg (by simp [hl]) ?_
        try refine wpAny_bind (wpAny_pure ?_)
        exact rest
      · refine wp_if_pos (by simp [hl]) (wpAny_bind (zseen Z hx (fun y hy => ?_) ?_))
        · obtain ⟨e, he, ee⟩ := List.mem_map.mp hy
          have he1 : e ∈ es.toList := by
            have : e ∈ es ∧ e.1 = Z.hash k := by simpa using he
            simpa using this.1
          rw [R.row] at he1
          obtain ⟨p2, hp2, e2⟩ := List.mem_map.mp he1
          exact ⟨p2.2, p2.1, by rw [← ee, ← e2], R.tup p2 hp2⟩
        · refine wp_if_neg (by decide) ?_
          try refine wpAny_bind (wpAny_pure ?_)
          exact rest
    · rw [hpr]
      dsimp only
      rw [wayL, eN]
      refine wpAny_pure (no fun hm => ?_)
      obtain ⟨p1, h1, hk1⟩ := List.mem_map.mp hm
      obtain ⟨i0, hi0⟩ := List.mem_iff_getElem?.mp h1
      obtain ⟨d, d1, d2, d3⟩ := left i0 p1 hi0 hk1
      have d4 := skip hno hi0 hk1 d1 d3
      omega
theorem search (R : SetZ Z s.heap a L es ep t) {x : Addr} {k : K} (hx : Z.is s.heap k x) (hu : Z.room A) {add : Bool} {Q : SetFound → Shared → Prop}
    (yes : k ∈ L.map (·.2) → ∀ r : Option Nat, r.isSome = !add → Q (.there r) s)
    (no : ∀ N, k ∉ L.map (·.2) → way t.mask (Z.hash k) N ∉ t.place.toList → (∀ n, n < N → way t.mask (Z.hash k) n ∈ t.place.toList) → Q (.free (way t.mask (Z.hash k) N) false) s) :
    wpAny (model P w) A (setSearch a (.ref x) (Z.hash k) add) Q E s := by
  have room := R.room
  have few := R.few
  have hz : zBound = 9000 := rfl
  obtain ⟨N, hN, gap, full⟩ := R.tab.gap (by rw [List.length_map]; omega) (Z.hash k)
  rw [List.length_map] at hN
  have ht : SetTable.turns t.mask = t.mask + 15 := rfl
  unfold setSearch
  refine hunt R hx hu (by omega) gap full yes (fun hm => no N hm gap full) 100000 0 none rfl (Nat.zero_le _) (by omega) fun i p hp hk => ?_
  have hi : (L.map fun p => Z.hash p.2)[i]? = some (Z.hash k) := by rw [List.getElem?_map, hp, ← hk]; rfl
  have hil : i < t.place.toList.length := by
    have h1 := (List.getElem?_eq_some_iff.mp hp).1
    have h2 := R.tab.len
    rw [List.length_map] at h2
    rw [Array.length_toList]
    omega
  obtain ⟨n, hn, e⟩ := R.tab.ahead gap hi (List.getElem?_eq_getElem hil)
  exact ⟨n, Nat.zero_le _, hn, by rw [e]; exact List.getElem?_eq_getElem hil⟩
end
end ZS
end
section
set_option maxHeartbeats 4000000
namespace ZS
open PySem PySem.Spec PyProof.Rows L2
section
variable {P : Program} {w : World} {K : Type} [DecidableEq K] {Z : ZK P w K} {A : Around} {E : Value → Shared → Prop} {s : Shared} {a : Addr} {L : List (Addr × K)} {es : Array (Int × Value)} {ep : Nat} {t : SetTable}
end
end ZS
end
section
set_option maxHeartbeats 4000000
namespace ZS
open PySem PySem.Spec PyProof.Rows L2
/-- the tuples' order -/
def lexI : List Int → List Int → Bool
  | _, [] => false
  | [], _ :: _ => true
  | x :: r, y :: t => if x = y then lexI r t else decide (x < y)
section
variable {prog : Program} {w : World} {A : Around} {s : Shared}
end
end ZS
end
section
set_option maxHeartbeats 4000000
namespace ZS
open PySem PySem.Spec PyProof.Rows L2
abbrev NK := NestedKey
abbrev tk (k : List Int) : NK := .tup (k.map .num)
abbrev ttk (kk : List (List Int)) : NK := .tup (kk.map tk)
/-- v is a tuple of the ints k -/
def TI (K : PySem.W.Frag) (H : Hp) (v : V) (k : List Int) : Prop := ∃ a, v = .ref a ∧ SqT K H a (k.map V.int)
/-- v is a tuple of tuples of ints -/
def TTI (K : PySem.W.Frag) (H : Hp) (v : V) (kk : List (List Int)) : Prop := ∃ a xs, v = .ref a ∧ SqT K H a xs ∧ Paired (TI K H) xs kk
/-- at b stands the key k -/
def ElK (K : PySem.W.Frag) (H : Hp) (b : Addr) (k : NK) : Prop := (∃ ns, k = tk ns ∧ TI K H (.ref b) ns) ∨ (∃ kk, k = ttk kk ∧ TTI K H (.ref b) kk)
/-- tuples and what is locked stay -/
structure Tup (H H' : Hp) : Prop where
  t : ∀ b xs, H b = some (.tup xs) → H' b = some (.tup xs)
  f : ∀ b o u, H b = some (.frz o u) → H' b = some (.frz o u)
theorem Tup.refl (H : Hp) : Tup H H := ⟨fun _ _ h => h, fun _ _ _ h => h⟩
theorem Tup.trans {H H1 H2 : Hp} (a : Tup H H1) (b : Tup H1 H2) : Tup H H2 := ⟨fun c xs h => b.t c xs (a.t c xs h), fun c o u h => b.f c o u (a.f c o u h)⟩
theorem Tup.new {H : Hp} {p : Addr} {o : HO} (h : H p = none) : Tup H (upd H p o) :=
  ⟨fun b xs e => by rw [upd_ne (ne_of_none e h)]; exact e, fun b x u e => by rw [upd_ne (ne_of_none e h)]; exact e⟩
theorem Tup.put {H : Hp} {p : Addr} {o : HO} (h : Mut (H p)) : Tup H (upd H p o) := by
  refine ⟨fun b xs e => ?_, fun b x u e => ?_⟩
  · rw [upd_ne fun z => by rw [z] at e; rw [e] at h; exact h]; exact e
  · rw [upd_ne fun z => by rw [z] at e; rw [e] at h; exact h]; exact e
theorem Tup.same {H H' : Hp} (h : Same H H') : Tup H H' := ⟨fun _ _ e => h _ _ e, fun _ _ _ e => h _ _ e⟩
section
variable {K : PySem.W.Frag} {H H' : Hp}
theorem Tup.sq (z : Tup H H') {a : Addr} {xs : List V} (h : SqT K H a xs) : SqT K H' a xs := by
  rcases h with (h | ⟨o, h⟩) | h
  · exact .inl (.inl (z.t _ _ h))
  · exact .inl (.inr ⟨o, z.f _ _ _ h⟩)
  · exact .inr h
theorem Tup.ti (z : Tup H H') {v : V} {k : List Int} (h : TI K H v k) : TI K H' v k := let ⟨a, e, s⟩ := h; ⟨a, e, z.sq s⟩
theorem Tup.tti (z : Tup H H') {v : V} {kk : List (List Int)} (h : TTI K H v kk) : TTI K H' v kk := let ⟨a, xs, e, s, p⟩ := h; ⟨a, xs, e, z.sq s, Paired.mapP p fun _ _ q => z.ti q⟩
theorem Tup.el (z : Tup H H') {b : Addr} {k : NK} (h : ElK K H b k) : ElK K H' b k := by
  rcases h with ⟨ns, e, q⟩ | ⟨kk, e, q⟩
  · exact .inl ⟨ns, e, z.ti q⟩
  · exact .inr ⟨kk, e, z.tti q⟩
end
section
variable {P : Program} {w : World}
theorem depth_ints : ∀ k : List Int, NestedKey.depthAll (k.map .num) = 0
  | [] => rfl
  | n :: k => by
    show max (NestedKey.depth (.num n)) (NestedKey.depthAll (k.map .num)) = 0
    rw [depth_ints k]
    rfl
theorem depth_tk (k : List Int) : (tk k).depth = 1 := by
  show NestedKey.depthAll (k.map .num) + 1 = 1
  rw [depth_ints]
end
section
variable {X : Cx} {pins : List (Addr × Obj)} {σ : L2.St} {H : Hp} {s : Shared}
end
/-! ### as a tracked thing -/
structure SetZ0 (P : Program) (w : World) (h : Heap) (a : Addr) (L : List (Addr × NK)) : Prop where
  ex : ∃ (es : Array (Int × Value)) (ep : Nat) (t : SetTable), (∃ o, h.get? a = some o ∧ o.ExactSet ∧ o.data = .set es ep t) ∧ es.toList = zrows (zk P w) L ∧ Tab t (L.map fun p => (zk P w).hash p.2) ∧ (L.map (·.2)).Nodup ∧ t.plain = true ∧
    (w.params.followText "set-order" = true ∨ t.led = true) ∧ L.length * 5 < t.mask * 3 ∧ L.length < zBound
def ZSet (P : Program) (w : World) (a : Addr) (L : List (Addr × NK)) : HO := .ext fun h => SetZ0 P w h a L
section
variable {P : Program} {w : World} {h h' : Heap} {a : Addr} {L : List (Addr × NK)} {es : Array (Int × Value)} {ep : Nat} {t : SetTable}
theorem SetZ.low (R : SetZ (zk P w) h a L es ep t) : SetZ0 P w h a L := ⟨es, ep, t, R.obj, R.row, R.tab, R.dif, R.pln, R.led, R.room, R.few⟩
theorem SetZ0.full (R : SetZ0 P w h a L) (ht : ∀ p ∈ L, (zk P w).is h p.2 p.1) : ∃ es ep t, SetZ (zk P w) h a L es ep t := by
  obtain ⟨es, ep, t, h1, h2, h3, h4, h5, h6, h7, h8⟩ := R.ex
  exact ⟨es, ep, t, h1, h2, h3, h4, ht, h5, h6, h7, h8⟩
theorem SetZ0.laid (R : SetZ0 P w h a L) (H : Hp) : ObjOk P w H h a (ZSet P w a L) := by
  have ⟨es, ep, t, ⟨o, ho, _⟩, _⟩ := R.ex
  refine ⟨R, ⟨o, ho⟩, fun h1 h2 p k => ?_⟩
  have ⟨es', ep', t', ⟨o', ho', r'⟩, q'⟩ := SetZ0.ex p
  exact ⟨es', ep', t', ⟨o', k o' ho', r'⟩, q'⟩
theorem SetZ0.nil (w : World) (ho : h.get? a = some { cls := .type "set", dict := none, data := .set #[] 0 (.fresh 0 0 (!w.params.followText "set-order")) }) : SetZ0 P w h a [] := by
  refine ⟨#[], 0, _, ⟨_, ho, ⟨rfl, rfl, rfl⟩, rfl⟩, rfl, ⟨List.Pairwise.nil, rfl, rfl, ⟨3, by decide, by decide, rfl⟩, fun z hz => (by cases hz), fun i h j hi => (by simp at hi)⟩, List.nodup_nil, rfl, ?_, (by show 0 * 5 < 7 * 3; decide), (by show 0 < 9000; decide)⟩
  show _ ∨ (!w.params.followText "set-order") = true
  cases w.params.followText "set-order"
  · exact .inr rfl
  · exact .inl rfl
end
section
variable {X : Cx} {pins : List (Addr × Obj)} {σ : L2.St} {H : Hp} {s : Shared} {a b : Addr} {k : NK} {L : List (Addr × NK)}
/-- x.add(k) of such a set -/
def rZAdd (K : PySem.W.Frag) (P : Program) (w : World) : V → List V → Hp → VK → Prop := fun x xs H Q => ∃ (a b : Addr) (k : NK) (L : List (Addr × NK)), x = .ref a ∧ xs = [.ref b] ∧ H a = some (ZSet P w a L) ∧ (∀ p ∈ L, ElK K H p.1 p.2) ∧ ElK K H b k ∧ L.length + 1 < zBound ∧
  ∀ L', (k ∈ L.map (·.2) → L' = L) → (k ∉ L.map (·.2) → L'.Perm ((b, k) :: L)) → Q .non (upd H a (ZSet P w a L'))
variable {o e : Expr} {es : List Expr} {to : TE} {t : TA} {apos cpos : Pos}
/-- k in x, k not in x -/
def rZIn (K : PySem.W.Frag) (P : Program) (w : World) (neg : Bool) : V → V → Hp → VK → Prop := fun x y H Q => ∃ (a b : Addr) (k : NK) (L : List (Addr × NK)), x = .ref b ∧ y = .ref a ∧ H a = some (ZSet P w a L) ∧ (∀ p ∈ L, ElK K H p.1 p.2) ∧ ElK K H b k ∧
  Q (.bl (if neg then !decide (k ∈ L.map (·.2)) else decide (k ∈ L.map (·.2)))) H
end
end ZS
end
section
set_option maxHeartbeats 4000000
namespace ZS
open PySem PySem.Spec PyProof.Rows L2
abbrev setO0 (w : World) : Obj := { cls := .type "set", dict := none, data := .set #[] 0 (.fresh 0 0 (!w.params.followText "set-order")) }
section
variable {P : Program} {w : World} {A : Around} {E : Value → Shared → Prop} {s : Shared}
end
section
variable {X : Cx} {pins : List (Addr × Obj)} {σ : L2.St} {H : Hp} {s : Shared}
/-- len of such a set -/
def rZLen (K : PySem.W.Frag) (P : Program) (w : World) : List V → Hp → VK → Prop := fun vs H Q => ∃ (a : Addr) (L : List (Addr × NK)), vs = [.ref a] ∧ H a = some (ZSet P w a L) ∧ Q (.int L.length) H
/-- sorted of a set of tuples of ints, none of them empty -/
def rZSort (K : PySem.W.Frag) (P : Program) (w : World) : List V → Hp → VK → Prop := fun vs H Q => ∃ (a : Addr) (L : List (Addr × List Int)), vs = [.ref a] ∧ H a = some (ZSet P w a (L.map fun p => (p.1, tk p.2))) ∧ (∀ p ∈ L, TI K H (.ref p.1) p.2 ∧ p.2 ≠ []) ∧ L.length < scanBound ∧
  ∀ (L' : List (Addr × List Int)) (p : Addr), L'.Perm L → L'.Pairwise (fun q r => lexI q.2 r.2 = true) → H p = none → Q (.ref p) (upd H p (.lst (L'.map fun q => V.ref q.1)))
theorem tk_inj {a b : List Int} (h : tk a = tk b) : a = b := by
  have e : a.map NestedKey.num = b.map NestedKey.num := by injection h
  exact List.map_inj_right (fun x y e => by injection e) |>.mp e
end
end ZS
end
section
set_option maxHeartbeats 4000000
namespace ZS
open PySem PySem.Spec PyProof.Rows L2 PpSet
section
variable {X : Cx}
end
end ZS
end
section
set_option maxHeartbeats 4000000
namespace ZS
open PySem PySem.Spec PyProof.Rows L2 PpSet
section
variable {P : Program} {w : World} {A : Around} {E : Value → Shared → Prop} {s : Shared}
/-- set(l), l a list: the loop over the new set is what the caller knows -/
theorem set_of_list {l : Addr} {items : Array Value} {Rz : Shared → Prop} {Q : Value → Shared → Prop} (hl : s.heap.IsList l items)
    (loop : codeAny (model P w) A.in1.in1 (.builtin "set.update.loop" ⟨[.ref s.heap.objs.size, .ref (s.heap.push (setO0 w)).objs.size], []⟩) (fun r s' => r = .ok (.ret .none) ∧ Rz s')
      { s with heap := (s.heap.push (setO0 w)).push { cls := .type "list_iterator", data := .fields #[.ref l, .int 0 0] } })
    (h : ∀ s', Rz s' → Q (.ref s.heap.objs.size) s') : wpAny (model P w) A (call (.type "set") [.ref l]) Q E s := by
  obtain ⟨cl0, tl0, hmro⟩ := F.called_set.mro
  have hm1 := F.called_set.made
  have hs1 := F.called_set.sub
  refine wpAny_call (codeAny_of_tree ?_)
  show wpAny _ _ (callAny (.type "set") _) _ _ _
  refine wpAny_pure ⟨Code.quiet_builtin _ (by decide +kernel), codeAny_builtin F.entry_type_call ?_⟩
  rw [Around.under_plain (weight_type_call_type "set" [.ref l] []) rfl]
  have hn1 := F.called_set.notType
  have hn2 := F.called_set.canCreate
  have hn3 := F.typeCall_set_1 (.ref l)
  repeat (any_goals (first | assumption | wp_step))
  refine codeAny_mono (code_set_led1 (.ref l) (E := E) (Q₁ := fun z s₁ => z = .ref s.heap.objs.size ∧ s₁ = { s with heap := s.heap.push (setO0 w) }) ⟨rfl, rfl⟩) fun r s₁ hr => ?_
  match r, hr with
  | .error e, hr => exact hr
  | .ok (.ret z), hr =>
    obtain ⟨rfl, rfl⟩ := hr
    have hS : (s.heap.push (setO0 w)).get? s.heap.objs.size = some (setO0 w) := Heap.get?_push_size _ rfl
    have hT : Shared.TypeIs { s with heap := s.heap.push (setO0 w) } (.ref s.heap.objs.size) "set" := ⟨_, hS, rfl⟩
    have hi1 := F.called_set.init.lookup
    have hi2 := F.called_set.init.bind (.ref s.heap.objs.size)
    repeat (any_goals (first | assumption | wp_step))
    refine codeAny_mono (codeAny_call_builtin (R := wants (fun z s₂ => z = .none ∧ Rz s₂) E) F.called_set.init.plain F.entry_set_init (check_set_init_1 hT ?_)) fun r₂ s₂ hr₂ => ?_
    · obtain ⟨⟨ocls, odict, odata, oslots⟩, hol, hcl, nl, hdl⟩ := hl
      simp only at hcl hdl
      subst hcl
      subst hdl
      have hol' : (s.heap.push (setO0 w)).get? l = some { cls := .type "list", dict := odict, data := .seq items nl, slots := oslots } := Heap.get?_push_of_some _ hol
      have k1 := F.sub_list_set
      have k2 := F.sub_list_frozenset
      have k3 : (Value.type "list" == Value.type "dict") = false := by decide
      unfold Builtin.«set.__init__» noKeywords Builtin.Frozenset.updateFrom
      generalize hPI : pyIter = PI
      wp_walk
      subst hPI
      refine wpAny_pyIter_list ⟨_, hol', rfl, nl, rfl⟩ (wpAny_bind (wpAny_runValue (codeAny_mono loop fun r s' hr => ?_)))
      obtain ⟨rfl, hz⟩ := hr
      show wpAny _ _ _ _ _ _
      refine wpAny_pure ?_
      show wpAny _ _ (ret Value.none) _ _ _
      exact wpAny_pure ⟨rfl, hz⟩
    · match r₂, hr₂ with
      | .error e, hr₂ => exact hr₂
      | .ok (.ret z), hr₂ =>
        obtain ⟨rfl, hz⟩ := hr₂
        repeat (any_goals (first | assumption | wp_step))
        exact h _ hz
      | .ok .next, hr₂ => exact hr₂.elim
      | .ok .brk, hr₂ => exact hr₂.elim
      | .ok .cont, hr₂ => exact hr₂.elim
  | .ok .next, hr => exact hr.elim
  | .ok .brk, hr => exact hr.elim
  | .ok .cont, hr => exact hr.elim
end
/-- what came from the first i items -/
structure Came (ks : List (Addr × NK)) (i : Nat) (L : List (Addr × NK)) : Prop where
  from_ : ∀ p ∈ L, p ∈ ks.take i
  in_ : ∀ p ∈ ks.take i, p.2 ∈ L.map (·.2)
  few : L.length ≤ i
theorem Came.none (ks : List (Addr × NK)) : Came ks 0 [] := ⟨fun p h => (by cases h), fun p h => (by simp at h), Nat.le_refl _⟩
theorem Came.next {ks L L' : List (Addr × NK)} {i : Nat} {x : Addr × NK} (g : Came ks i L) (h : ks[i]? = some x) (c1 : x.2 ∈ L.map (·.2) → L' = L) (c2 : x.2 ∉ L.map (·.2) → L'.Perm (x :: L)) : Came ks (i + 1) L' := by
  have e : ks.take (i + 1) = ks.take i ++ [x] := by rw [List.take_add_one, h]; rfl
  by_cases c : x.2 ∈ L.map (·.2)
  · rw [c1 c]
    refine ⟨fun p hp => by rw [e]; exact List.mem_append_left _ (g.from_ p hp), fun p hp => ?_, Nat.le_succ_of_le g.few⟩
    rw [e] at hp
    rcases List.mem_append.mp hp with z | z
    · exact g.in_ p z
    · rw [List.mem_singleton.mp z]; exact c
  · have pm := c2 c
    refine ⟨fun p hp => ?_, fun p hp => ?_, by rw [pm.length_eq, List.length_cons]; exact Nat.succ_le_succ g.few⟩
    · rw [e]
      rcases List.mem_cons.mp (pm.mem_iff.mp hp) with z | z
      · rw [z]; exact List.mem_append_right _ (List.mem_singleton.mpr rfl)
      · exact List.mem_append_left _ (g.from_ p z)
    · rw [(pm.map (·.2)).mem_iff, List.map_cons]
      rw [e] at hp
      rcases List.mem_append.mp hp with z | z
      · exact List.mem_cons_of_mem _ (g.in_ p z)
      · rw [List.mem_singleton.mp z]; exact List.mem_cons_self
section
variable {X : Cx} {pins : List (Addr × Obj)} {σ : L2.St} {H : Hp}
/-- set(xs), xs a list or a tuple of ints -/
def rISetOf (K : PySem.W.Frag) (w : World) : List V → Hp → VK → Prop := fun xs H Q => ∃ (l : Addr) (ns : List Int), xs = [V.ref l] ∧ (SqL K H l (ns.map V.int) ∨ SqT K H l (ns.map V.int)) ∧ ns.length + 1 < scanBound ∧
  ∀ a n, H a = none → n ≤ ns.length → Q (.ref a) (upd H a (SetO w a (fun j => decide (j ∈ ns)) n))
theorem cr_isetOf (hc : X.calm = true) : CallR X (.type "set") (rISetOf X.K X.w) := by
  intro pins s σ H xs us Q I r h
  obtain ⟨l, ns, rfl, hl, few, q⟩ := h
  rw [Vals.ref1 r]
  have hn : H s.heap.objs.size = none := I.hok.fresh (Nat.le_refl _)
  rcases hl with hl | hl
  · obtain ⟨its, rv, pl, hz⟩ := I.list hl
    have ii := rv.ints
    have hsz : its.toArray.size = ns.length := by rw [List.size_toArray, ← rv.length, List.length_map]
    have hob := pl.isList
    have k1 : ∀ b u, s.heap.get? b = some u → (s.heap.push (setO0 X.w)).get? b = some u := fun b u e => Heap.get?_push_of_some _ e
    have szS : (s.heap.push (setO0 X.w)).objs.size = s.heap.objs.size + 1 := Heap.size_push ..
    have hlt : l < s.heap.objs.size := by obtain ⟨o, e, _⟩ := id hob; exact Heap.lt_size e
    have hneI : l ≠ (s.heap.push (setO0 X.w)).objs.size := by rw [szS]; exact Nat.ne_of_lt (Nat.lt_succ_of_lt hlt)
    have hl1 : (s.heap.push (setO0 X.w)).IsList l its.toArray := by obtain ⟨o, e, r⟩ := id hob; exact ⟨o, k1 _ _ e, r⟩
    have hval : ∀ (i : Nat) (v : Value), its.toArray[i]? = some v → ∃ k t, ns[i]? = some k ∧ v = .int k t := fun i v hv => by
      have hi : i < ns.length := by rw [← hsz]; exact (Array.getElem?_eq_some_iff.mp hv).1
      obtain ⟨u, hu, ru⟩ := rv.get (i := i) (x := .int ns[i]) (by rw [List.getElem?_map, List.getElem?_eq_getElem hi]; rfl)
      have hv' : its[i]? = some v := by simpa using hv
      rw [hu] at hv'
      cases hv'
      obtain ⟨t, e⟩ := ru
      exact ⟨_, t, List.getElem?_eq_getElem hi, e⟩
    refine set_of_list hob (Rz := fun s' => ∃ c, c ≤ ns.length ∧ Moved (s.heap.objs.size :: [(s.heap.push (setO0 X.w)).objs.size]) (fun a b => b = a) { s with heap := (s.heap.push (setO0 X.w)).push { cls := .type "list_iterator", data := .fields #[.ref l, .int 0 0] } } s' ∧ SetR X.w s'.heap s.heap.objs.size (fun j => decide (j ∈ ns)) c) ?_ fun s' hz' => ?_
    · have W := (Walks.list (prog := X.prog) (w := X.w) (A := X.A.in1.in1.in1) (show X.A.in1.in1.in1.handled = none from I.ok.hd hc) _ l hneI its.toArray).toS
      refine set_update_ints (A := X.A.in1.in1) W s.heap.objs.size (by rw [szS]; simp only [List.mem_cons, List.mem_singleton, List.not_mem_nil, or_false, not_or]; exact ⟨Nat.ne_of_lt (Nat.lt_succ_self _), Nat.ne_of_gt hlt⟩) ns hsz few hval ns.length 0 _ (by omega) (Nat.zero_le _) ⟨⟨_, Heap.get?_push_size _ rfl, rfl, rfl⟩, hl1.push _⟩
        ⟨0, Nat.le_refl _, setR_new_at (Heap.get?_push_of_some _ (Heap.get?_push_size _ rfl))⟩ fun s' c hm hc' hS => ⟨rfl, c, by omega, hm, hS⟩
    · obtain ⟨c, hc', hm, hS⟩ := hz'
      have kk : ∀ b u, s.heap.get? b = some u → s'.heap.get? b = some u := fun b u e => by
        have hb := Heap.lt_size e
        refine hm.heap b u (by rw [szS]; simp only [List.mem_cons, List.mem_singleton, List.not_mem_nil, or_false, not_or]; exact ⟨Nat.ne_of_lt hb, Nat.ne_of_lt (Nat.lt_succ_of_lt hb)⟩) (Heap.get?_push_of_some _ (k1 b u e))
      refine ⟨.ref _, upd H s.heap.objs.size (SetO X.w s.heap.objs.size (fun j => decide (j ∈ ns)) c), ?_, rfl, q _ c hn hc'⟩
      exact I.call' (ch := []) hm.os (Un.laid kk (Nat.le_refl _) hn) (I.hok.laid kk (Nat.le_refl _) (setO_new hS)) (by rw [hm.gens]; exact I.bare) (fun _ z => nomatch z)
  · obtain ⟨its, rv, pl, hz⟩ := I.tuple hl
    refine call_set_tupI ns (I.ok.hd hc) (show s.heap.IsTuple l its.toArray from pl) (by simpa using rv.ints) few fun h' tk c hS hc' kk => ?_
    exact ⟨.ref _, upd H s.heap.objs.size (SetO X.w s.heap.objs.size (fun j => decide (j ∈ ns)) c), I.laid kk (Nat.le_refl _) (setO_new hS), rfl, q _ c hn hc'⟩
end
end ZS
end
section
set_option maxHeartbeats 4000000
namespace ZS
open PySem PySem.Spec PyProof.Rows L2
/-! ### enumerate(tuple) -/
section
variable {prog : Program} {w : World} {A : Around} {E : Value → Shared → Prop} {s : Shared}
theorem tup_meets_enum (l : Addr) (items : Array Value) (n : Nat) (dct : Option Addr) (sl : Array (Option Value)) :
    Meets (Builtin.«enumerate.__new__» ⟨[.type "enumerate", .ref l], []⟩) (fun _ R s => s.heap.get? l = some { cls := .type "tuple", dict := dct, data := .seq items n, slots := sl } ∧
      R (.ok (.ret (.ref (s.heap.push { cls := .type "tuple_iterator", data := .fields #[.ref l, .int 0 0] }).objs.size)))
        { s with heap := (s.heap.push { cls := .type "tuple_iterator", data := .fields #[.ref l, .int 0 0] }).push { cls := .type "enumerate", data := .fields #[.none, .bool false, .ref s.heap.objs.size, rawInt 0, .none, .none] } }) :=
  .of_wp fun prog w A R s h => by
    obtain ⟨hp, g, d, tk, os⟩ := s
    obtain ⟨hl, h⟩ := h
    have hsub := sub_enumerate
    have hT : Heap.IsTuple (Shared.heap ⟨hp, g, d, tk, os⟩) l items := ⟨_, hl, rfl, n, rfl⟩
    wp_walk using AutoSeq1.wpAny_loadPart' hl
    refine wpAny_stack_any fun st => wpAny_pure ?_
    split
    · rename_i c _ _ _ _ _
      cases (c == Value.type "enumerate") <;> (wp_walk using AutoSeq1.wpAny_loadPart' hl, wpAny_pyIter_tuple hT; exact ⟨_, rfl, h⟩)
    · wp_walk using AutoSeq1.wpAny_loadPart' hl, wpAny_pyIter_tuple hT
      exact ⟨_, rfl, h⟩
theorem tup_enum {l : Addr} {items : Array Value} {Q : Value → Shared → Prop} (hT : s.heap.IsTuple l items)
    (h : ∀ h', IsEnum h' (s.heap.objs.size + 1) s.heap.objs.size 0 .none → h'.IsTupleIter s.heap.objs.size l 0 → h'.objs.size = s.heap.objs.size + 2 → (∀ b o, s.heap.get? b = some o → h'.get? b = some o) → Q (.ref (s.heap.objs.size + 1)) { s with heap := h' }) :
    wpAny (model prog w) A (call (.type "enumerate") [.ref l]) Q E s := by
  obtain ⟨⟨c, dct, dt, sl⟩, hl, hc, n, hd⟩ := hT
  obtain rfl : c = .type "tuple" := hc
  obtain rfl : dt = .seq items n := hd
  refine callType_new F.called_enumerate (by decide) (F.typeCall_enumerate_1 _) (F.newCall_enumerate_1 _) (fun obj => F.args_object_init_2 obj _) F.entry_enumerate_new (tup_meets_enum l items n dct sl) ⟨hl, ?_⟩
  have sz : (s.heap.push { cls := .type "tuple_iterator", data := .fields #[.ref l, .int 0 0] }).objs.size = s.heap.objs.size + 1 := Heap.size_push ..
  show _ ∧ _
  rw [sz]
  have en : IsEnum ((s.heap.push { cls := .type "tuple_iterator", data := .fields #[.ref l, .int 0 0] }).push { cls := .type "enumerate", data := .fields #[.none, .bool false, .ref s.heap.objs.size, rawInt 0, .none, .none] }) (s.heap.objs.size + 1) s.heap.objs.size 0 .none := by
    have q := Heap.get?_push_size (s.heap.push { cls := .type "tuple_iterator", data := .fields #[.ref l, .int 0 0] }) (o := { cls := .type "enumerate", data := .fields #[.none, .bool false, .ref s.heap.objs.size, rawInt 0, .none, .none] }) rfl
    rw [sz] at q
    exact q
  exact ⟨⟨_, en, rfl⟩, h _ en ⟨_, Heap.get?_push_of_some _ (Heap.get?_push_size _ rfl), rfl, rfl⟩ (by rw [Heap.size_push, sz]) fun b o x => Heap.get?_push_of_some _ (Heap.get?_push_of_some _ x)⟩
theorem tup_next {it l : Addr} {i : Nat} {items : Array Value} {x : Value} {Q : Value → Shared → Prop} (hit : s.heap.IsTupleIter it l i) (hl : s.heap.IsTuple l items) (hx : items[i]? = some x)
    (hQ : ∀ h', h'.IsTupleIter it l (i + 1) → Heap.SameBut it s.heap h' → Q x { s with heap := h' }) : wpAny (model prog w) A (Builtin.SmallTypes.nextOf (.ref it)) Q E s := by
  obtain ⟨o, ho, hc, hd⟩ := id hit
  obtain ⟨ol, hol, _, nl, hdl⟩ := hl
  unfold Builtin.SmallTypes.nextOf
  refine wpAny_bind (wpAny_callSpecial?_slot (name := Str.ofString "__next__") ⟨o, ho, hc⟩ F.slot_tuple_iterator_next (wpAny_call_entry F.slot_tuple_iterator_next ⟨o, ho, hc⟩ F.entry_tuple_iterator_next ?_ (F.args_tuple_iterator_next_1 _)))
  show wpAny _ _ (field (.ref it) 0 >>= _) _ _ s
  refine wpAny_bind (wpAny_field ho hd (x := .ref l) rfl ?_)
  show wpAny _ _ (if (Value.ref l == Value.none) = true then _ else _) _ _ s
  rw [if_neg (show ¬ ((Value.ref l == Value.none) = true) from Bool.false_ne_true)]
  show wpAny _ _ (field (.ref it) 1 >>= _) _ _ s
  refine wpAny_bind (wpAny_field ho hd (x := .int i 0) rfl ?_)
  show wpAny _ _ (seqItems? (.ref l) >>= _) _ _ s
  refine wpAny_bind (wpAny_seqItems hol hdl ?_)
  simp only [Int.toNat_natCast, hx]
  refine wpAny_bind (wpAny_setField ho hd (by simp) (wpAny_pure ⟨x, rfl, wpAny_pure (hQ _ ⟨_, Heap.get?_update_self _ ho (Obj.isFreed_of_fields (Obj.data_mapFields hd _)), (Obj.cls_mapFields ..).trans hc, ?_⟩ (Heap.SameBut.update ..))⟩))
  rw [Obj.data_mapFields hd]
  simp [rawInt]
theorem tup_last {it l : Addr} {i : Nat} {items : Array Value} {Q : Value → Shared → Prop} (hh : A.handled = none) (hit : s.heap.IsTupleIter it l i) (hl : s.heap.IsTuple l items) (hx : items[i]? = none)
    (hE : ∀ h' e, Heap.ExtBut it s.heap h' → (∃ o, h'.get? e = some o ∧ o.cls = .type "StopIteration") → E (.ref e) { s with heap := h' }) : wpAny (model prog w) A (Builtin.SmallTypes.nextOf (.ref it)) Q E s := by
  obtain ⟨o, ho, hc, hd⟩ := id hit
  obtain ⟨ol, hol, _, nl, hdl⟩ := hl
  unfold Builtin.SmallTypes.nextOf
  refine wpAny_bind (wpAny_callSpecial?_slot (name := Str.ofString "__next__") ⟨o, ho, hc⟩ F.slot_tuple_iterator_next (wpAny_call_entry F.slot_tuple_iterator_next ⟨o, ho, hc⟩ F.entry_tuple_iterator_next ?_ (F.args_tuple_iterator_next_1 _)))
  show wpAny _ _ (field (.ref it) 0 >>= _) _ _ s
  refine wpAny_bind (wpAny_field ho hd (x := .ref l) rfl ?_)
  show wpAny _ _ (if (Value.ref l == Value.none) = true then _ else _) _ _ s
  rw [if_neg (show ¬ ((Value.ref l == Value.none) = true) from Bool.false_ne_true)]
  show wpAny _ _ (field (.ref it) 1 >>= _) _ _ s
  refine wpAny_bind (wpAny_field ho hd (x := .int i 0) rfl ?_)
  show wpAny _ _ (seqItems? (.ref l) >>= _) _ _ s
  refine wpAny_bind (wpAny_seqItems hol hdl ?_)
  simp only [Int.toNat_natCast, hx]
  refine wpAny_bind (wpAny_rule (wpAny_bind (wpAny_setField ho hd (by simp) ?_)))
  show wpAny _ _ (newExc (.type "StopIteration") [] >>= _) _ _ _
  refine wpAny_bind ?_
  simp only [newExc, newTuple]
  refine wpAny_bind (wpAny_newObj_type ?_ (by size_fits))
  refine wpAny_bind (m := firstArgMember _ _) (wpAny_of_eq (a := Value.none) (by first | rfl | (simp only [firstArgMember]; rfl)) ?_)
  refine wpAny_newObj_type ?_ (by size_fits)
  simp only [raiseNew]
  refine wpAny_bind (wpAny_handled ?_)
  first | rw [show A.in1.handled = none from hh] | rw [hh]
  refine wpAny_bind (wpAny_pure (wpAny_throw (hE _ _ (((Heap.SameBut.update ..).extBut.push _).push _) ⟨_, Heap.get?_push_size _ rfl, rfl⟩)))
theorem enum_stop {e it l : Addr} {i : Nat} {items : Array Value} {old : Value} {c : Int} {Q : Option Value → Shared → Prop} (hh : A.handled = none) (he : IsEnum s.heap e it c old) (hit : s.heap.IsTupleIter it l i) (hl : s.heap.IsTuple l items) (hx : items[i]? = none)
    (hQ : ∀ h', Heap.ExtBut it s.heap h' → Q none { s with heap := h' }) : wpAny (model prog w) A (pyNext (.ref e)) Q E s :=
  wpAny_pyNext_enum_endD (n := 0) (P := fun _ _ => False) (fp := [it, l]) (St := fun _ h => h.IsTupleIter it l i ∧ h.IsTuple l items)
    { live := fun _ h st => let ⟨o, ho, _⟩ := st.1; ⟨o, ho⟩
      frame := fun _ _ _ st hk => ⟨st.1.at fun o e => hk it (by simp) o e, let ⟨o, e, r⟩ := st.2; ⟨o, hk l (by simp) o e, r⟩⟩
      item := fun i s' Q E hi _ _ => absurd hi (Nat.not_lt_zero _)
      done := fun s' Q E st hE => tup_last (A := A.in1) hh st.1 st.2 hx hE } he ⟨hit, hl⟩ hQ
theorem Draws.tup (hh : A.handled = none) (it l : Addr) (hne : l ≠ it) (items : Array Value) : Draws prog w A it [it, l] items.size (fun i v => items[i]? = some v) (fun i h => h.IsTupleIter it l i ∧ h.IsTuple l items) where
  live := fun _ _ st => let ⟨o, ho, _⟩ := st.1; ⟨o, ho⟩
  frame := fun _ _ _ st hk => ⟨st.1.at fun o e => hk it (by simp) o e, let ⟨o, e, r⟩ := st.2; ⟨o, hk l (by simp) o e, r⟩⟩
  item := fun i s Q E hi st hQ => tup_next st.1 st.2 (x := items[i]) (by simp [hi]) fun h' hit' hs' => hQ _ h' s.toks (by simp [hi]) ⟨hit', let ⟨o, e, r⟩ := st.2; ⟨o, hs'.extBut l o hne e, r⟩⟩ hs'
  done := fun s Q E st hE => tup_last hh st.1 st.2 (by simp) hE
end
/-- the tuple at a, in pairs with its places -/
def IteT (K : PySem.W.Frag) (a : Addr) : It :=
  ⟨fun i H => ∃ (xs : List V) (x : V), SqT K H a xs ∧ xs[i]? = some x, fun i H v H' => ∃ T x, v = .ref T ∧ H T = none ∧ H' = upd H T (.tup [.int (i : Nat), x]) ∧ ∀ xs, SqT K H a xs → xs[i]? = some x, fun i H => ∃ xs : List V, SqT K H a xs ∧ xs.length ≤ i⟩
theorem turn_enumT {P : Program} {w : World} {K : PySem.W.Frag} {elts : List Expr} {kk : Nat} {tpos : Pos} (a e it : Addr) (hai : a ≠ it) (hae : a ≠ e) :
    Turn P w K (.Tuple elts kk tpos) (IteT K a) [e, it] e (fun i h => (∃ old, IsEnum h e it ((i : Nat) : Int) old) ∧ h.IsTupleIter it a i ∧ e ≠ it) where
  mem := List.mem_cons_self
  obj := fun i h st b hb => by
    obtain ⟨⟨old, he⟩, ⟨o, ho, _, hd⟩, _⟩ := st
    rcases List.mem_cons.mp hb with z | z
    · rw [z]
      exact ⟨_, he, fun v q => nomatch q⟩
    · rw [List.mem_singleton.mp z]
      exact ⟨o, ho, fun v q => by rw [hd] at q; cases q⟩
  keep := fun i h h' st k => let ⟨⟨old, he⟩, hi, hne⟩ := st; ⟨⟨old, k e (by simp) _ he⟩, hi.at fun o q => k it (by simp) o q, hne⟩
  item := by
    intro X hP hw hK hc i pins s σ H E I hf st hg
    subst hP hw hK
    obtain ⟨⟨old, he⟩, hit, hne⟩ := st
    obtain ⟨xs, x, hq, hx⟩ := hg
    obtain ⟨its, rv, p, hz⟩ := I.tuple hq
    obtain ⟨u, hu, ru⟩ := rv.get hx
    have lte : e < s.heap.objs.size := Heap.lt_size he
    have lti : it < s.heap.objs.size := by obtain ⟨_, q, _⟩ := hit; exact Heap.lt_size q
    have hiz : i < its.toArray.size := by
      have := (List.getElem?_eq_some_iff.mp hu).1
      simpa using this
    refine wpAny_pyNext_enum_itemD (Draws.tup (prog := X.prog) (w := X.w) (A := X.A.in1) (show X.A.in1.handled = none from I.ok.hd hc) it a hai its.toArray) he ⟨hit, p⟩ hiz hne (by simp only [List.mem_cons, List.mem_singleton, List.not_mem_nil, or_false, not_or]; exact ⟨hne, Ne.symm hae⟩) fun y h' tk hy ho hst hT hsz hk => ?_
    have ey : y = u := by
      have hy' : its[i]? = some y := by simpa using hy
      rw [hu] at hy'
      exact (Option.some.inj hy').symm
    subst ey
    refine ⟨_, rfl, wpAny_letOwnedTupleGo_enum (s := { s with heap := h', toks := tk + 1 }) ho fun h'' he' sb => ?_⟩
    have hT2 : h''.get? s.heap.objs.size = some { cls := .type "tuple", data := .seq #[.int i tk, y] } := (sb.2 _ (Nat.ne_of_gt lte)).trans hT
    have new : ObjOk X.prog X.w (upd H s.heap.objs.size (.tup [.int (i : Nat), x])) h'' s.heap.objs.size (.tup [.int (i : Nat), x]) :=
      ⟨(by show 2 ≤ sizeLine; decide), [.int i tk, y], .cons ⟨_, rfl⟩ (.cons ru .nil), ⟨_, hT2, rfl, _, rfl⟩⟩
    have J : Inv X pins σ (upd H s.heap.objs.size (.tup [.int (i : Nat), x])) { s with heap := h'', toks := tk + 1 } :=
      I.turnedNew (ch := [e, it]) (fun b ob hb q => by
        have n1 : b ≠ e := fun z => hb (by simp [z])
        have n2 : b ≠ it := fun z => hb (by simp [z])
        exact (sb.2 b n1).trans (hk b ob n1 n2 q)) hf (Nat.le_refl _) new
    refine ⟨.ref s.heap.objs.size, _, J, rfl, ⟨_, x, rfl, I.hok.fresh (Nat.le_refl _), rfl, fun ys hy => by rw [I.tuple_inj hy hq]; exact hx⟩, ⟨⟨y, ?_⟩, hst.1.at fun o q => (sb.2 it (Ne.symm hne)).trans q, hne⟩, fun b hb => ?_⟩
    · rw [show ((i + 1 : Nat) : Int) = (i : Int) + 1 by omega]
      exact he'
    · have hb' : b < s.heap.objs.size := by
        rcases List.mem_cons.mp hb with z | z
        · rw [z]; exact lte
        · rw [List.mem_singleton.mp z]; exact lti
      rw [upd_ne (Nat.ne_of_lt hb')]
      exact (hf b hb).1
  done := by
    intro X hP hw hK hc i pins s σ H E I hf st hg
    subst hP hw hK
    obtain ⟨⟨old, he⟩, hit, hne⟩ := st
    obtain ⟨xs, hq, hx⟩ := hg
    obtain ⟨its, rv, p, hz⟩ := I.tuple hq
    obtain ⟨f0, f1, f2, f3, f4, f5⟩ := hf it (by simp)
    have hl := rv.length
    have hin : i = its.toArray.size ∨ its.toArray.size < i := by
      have : its.toArray.size ≤ i := by simp; omega
      omega
    exact enum_stop (I.ok.hd hc) he hit p (by simp; omega) fun h' eb => ⟨rfl, I.turned (t' := s.toks) (fun b o hb q => eb b o hb q) f0 f1 f3 f4 f5⟩
  self := fun A i s Q E st h => let ⟨⟨_, he⟩, _⟩ := st; wpAny_pyIter_enum he h
def iEnumT (K : PySem.W.Frag) (ta : TA) : L2.TI := fun σ H R => ta σ H fun vs H1 => ∃ a xs, vs = [.ref a] ∧ SqT K H1 a xs ∧ R (IteT K a) H1
theorem pi_enumT {X : Cx} {e : Expr} {ta : TA} {p pos tpos : Pos} {elts : List Expr} {kk : Nat} (hg : Gl X "enumerate") (hm : X.mg "enumerate" = none) (ha : PA X [e] ta) (hs : starEach [e] X.env = [(false, eval e X.env)] := by rfl) :
    PI X (.Tuple elts kk tpos) (.Call (.Name "enumerate" p) [e] [] pos) (iEnumT X.K ta) := by
  refine ⟨fun pins s σ H R I h => Call_ (ld_blt I hg hm boot_enumerate (PyProof.Rows.callWith_type1 (thn (ha.run pos pins s σ H _ I h) fun us s1 ⟨vs, H1, I1, r1, q1⟩ => ?_) hs rfl))⟩
  obtain ⟨a, xs, rfl, hq, q⟩ := q1
  rw [Vals.ref1 r1]
  obtain ⟨its, rv, p', hz⟩ := I1.tuple hq
  have hlt : a < s1.heap.objs.size := by obtain ⟨o, e, _⟩ := id p'; exact Heap.lt_size e
  refine tup_enum (show s1.heap.IsTuple a its.toArray from p') fun h' he hit hsz hk => wpAny_pyIter_enum he ?_
  have I2 : Inv X pins σ H1 { s1 with heap := h' } := I1.kept (t' := s1.toks) hk
  refine ⟨s1.heap.objs.size + 1, [s1.heap.objs.size + 1, s1.heap.objs.size], _, _, H1, rfl, I2, turn_enumT a (s1.heap.objs.size + 1) s1.heap.objs.size (Nat.ne_of_lt hlt) (Nat.ne_of_lt (Nat.lt_succ_of_lt hlt)), ⟨⟨.none, he⟩, hit, Nat.succ_ne_self _⟩, fun b hb => ?_, q⟩
  have hle : s1.heap.objs.size ≤ b := by
    rcases List.mem_cons.mp hb with z | z
    · rw [z]; exact Nat.le_add_right _ _
    · rw [List.mem_singleton.mp z]; exact Nat.le_refl _
  exact I1.fpOk hle (I1.hok.fresh hle)
end ZS
end
section
set_option maxHeartbeats 4000000
namespace ZS
open PySem PySem.Spec PyProof.Rows L2
section
variable {X : Cx} {pins : List (Addr × Obj)} {σ : L2.St} {H : Hp} {s : Shared}
/-- t.index(k), t a tuple of ints: the first place -/
theorem mt_tindex : MtR X "tuple.index" (fun x xs H Q => ∃ (p : Addr) (ns : List Int) (k : Int) (j : Nat), x = .ref p ∧ xs = [.int k] ∧ SqT X.K H p (ns.map V.int) ∧ ns[j]? = some k ∧ (∀ m, m < j → ns[m]? ≠ some k) ∧ Q (.int (j : Nat)) H) := by
  intro pins s σ H x xs v us Q I rx rs h
  obtain ⟨p, ns, k, j, rfl, rfl, hq, hy, hno, q⟩ := h
  obtain rfl : v = Value.ref p := rx
  obtain ⟨u, rfl, t, rfl⟩ := vals1 rs
  obtain ⟨its, r, ⟨⟨cls, dd, dt, sl⟩, ho, hc, n, hd⟩, hz⟩ := I.tuple hq
  obtain rfl : cls = .type "tuple" := hc
  obtain rfl : dt = .seq its.toArray n := hd
  have hl : its.toArray.size = ns.length := by rw [List.size_toArray, ← r.length, List.length_map]
  have hj : j < its.toArray.size := by rw [hl]; exact (List.getElem?_eq_some_iff.mp hy).1
  have nth : ∀ (m : Nat) (hm : m < its.toArray.size), ∃ y t', ns[m]? = some y ∧ its.toArray[m] = Value.int y t' := fun m hm => by
    have hm' : m < ns.length := by rw [← hl]; exact hm
    obtain ⟨z, hz', t', e'⟩ := r.get (i := m) (x := .int ns[m]) (by rw [List.getElem?_map, List.getElem?_eq_getElem hm']; rfl)
    refine ⟨ns[m], t', List.getElem?_eq_getElem hm', ?_⟩
    rw [← e', ← (List.getElem?_eq_some_iff.mp hz').2]
    simp
  have flat : ∀ l : List Int, (l.map V.int).all flatV = true := fun l => by induction l with
    | nil => rfl
    | cons a l ih => rw [List.map_cons, List.all_cons, ih]; rfl
  refine call_meets PySem.F.slot_tuple_index ⟨_, ho, rfl⟩ PySem.F.entry_tuple_index (PySem.F.args_tuple_index_2 _ _) (_root_.TI.tuple_indexAt p its.toArray n dd sl (.int k t) (eqU (.int k)) j hj ?_ ?_)
    ⟨ho, fun w hw => mem_eqAt (x := .int k) ⟨t, rfl⟩ rfl r (flat ns) w (by simpa using hw), ⟨.int (j : Nat), H, I.tok _, ⟨_, rfl⟩, q⟩⟩
  · obtain ⟨y, t', h1, h2⟩ := nth j hj
    rw [hy] at h1
    cases h1
    rw [h2]
    show (k == k) = true
    exact beq_self_eq_true k
  · intro m hm hmj
    obtain ⟨y, t', h1, h2⟩ := nth m hm
    rw [h2]
    show (y == k) = false
    exact beq_eq_false_iff_ne.mpr fun e => hno m hmj (e ▸ h1)
end
end ZS
end
section
set_option maxHeartbeats 4000000
/-! D0: the program's defs as they stand; what a call leaves -/
namespace NS
open PySem PySem.Spec PyProof.Rows L2 ZS
abbrev FnP (K : PySem.W.Frag) (x : Str) (st : Stmt) (f : Addr) (fd : FuncData) : Prop := FunD K x x (defArgs st) (defBody st) (defScope st) [] [] f fd
/-- the built-in names that the program reads are no globals -/
structure Bl (mg : Str → Option Value) : Prop where
  tuple : mg "tuple" = none
  list : mg "list" = none
  len : mg "len" = none
  range : mg "range" = none
  isinstance : mg "isinstance" = none
  set : mg "set" = none
  sorted : mg "sorted" = none
  all : mg "all" = none
  sum : mg "sum" = none
  enumerate : mg "enumerate" = none
  int : mg "int" = none
  bool : mg "bool" = none
  str : mg "str" = none
  any : mg "any" = none
  min : mg "min" = none
/-- a code table has grown: the places of the lines behind 150 are as they were -/
def TabUp (ps ps' : Array Value) : Prop := (TriplesOk ps.toList → TriplesOk ps'.toList) ∧ (TriplesOk ps.toList → ∀ p : Pos, 150 < p.line → codeAmong p ps'.toList = codeAmong p ps.toList)
theorem TabUp.refl (ps : Array Value) : TabUp ps ps := ⟨id, fun _ _ _ => rfl⟩
theorem TabUp.trans {a b c : Array Value} (h : TabUp a b) (h' : TabUp b c) : TabUp a c := ⟨fun z => h'.1 (h.1 z), fun z p hp => (h'.2 (h.1 z) p hp).trans (h.2 z p hp)⟩
theorem among_else {p : Pos} {gl col : Nat} {c : Value} (hp : gl ≠ p.line) : ∀ l : List Value, TriplesOk l → codeAmong p (l ++ [rawInt gl, rawInt col, c]) = codeAmong p l := by
  intro l h
  fun_induction TriplesOk l with
  | case1 =>
    simp only [List.nil_append, rawInt, codeAmong]
    rw [if_neg (by simp; omega)]
  | case2 a t b u x rest ih =>
    simp only [List.cons_append, codeAmong]
    split
    · rfl
    · exact ih h
  | case3 l h1 h2 => exact h.elim
theorem TabUp.grew {gl : Nat} (hg : gl ≤ 150) {ps more : Array Value} (ht : TriplesOk (ps ++ more).toList) (h : more = #[] ∨ ∃ (col : Nat) (c : Value), more = #[rawInt gl, rawInt col, c]) : TabUp ps (ps ++ more) := by
  refine ⟨fun _ => ht, fun z p hp => ?_⟩
  rcases h with rfl | ⟨col, c, rfl⟩
  · simp
  · rw [show (ps ++ #[rawInt gl, rawInt col, c]).toList = ps.toList ++ [rawInt gl, rawInt col, c] by simp]
    exact among_else (by omega) _ z
/-- what stood still stands, tables grow -/
structure Kp (H H' : Hp) : Prop where
  k : ∀ b o, H b = some o → (∀ ps, o ≠ .tbl ps) → H' b = some o
  t : ∀ b ps, H b = some (.tbl ps) → ∃ ps' : Array Value, H' b = some (.tbl ps') ∧ TabUp ps ps'
theorem Kp.refl (H : Hp) : Kp H H := ⟨fun _ _ h _ => h, fun _ ps h => ⟨ps, h, .refl ps⟩⟩
theorem Kp.trans {H H1 H2 : Hp} (a : Kp H H1) (b : Kp H1 H2) : Kp H H2 := ⟨fun c o h n => b.k c o (a.k c o h n) n, fun c ps h => by
  obtain ⟨p1, h1, t1⟩ := a.t c ps h
  obtain ⟨p2, h2, t2⟩ := b.t c p1 h1
  exact ⟨p2, h2, t1.trans t2⟩⟩
theorem Kp.same {H H' : Hp} (h : Same H H') : Kp H H' := ⟨fun _ _ e _ => h _ _ e, fun _ ps e => ⟨ps, h _ _ e, .refl ps⟩⟩
theorem Kp.none {H H' : Hp} (z : Kp H H') {p : Addr} (h : H' p = none) : H p = none := by
  cases e : H p with
  | none => rfl
  | some o =>
    by_cases q : ∃ ps, o = .tbl ps
    · obtain ⟨ps, rfl⟩ := q
      obtain ⟨ps', h', _⟩ := z.t p ps e
      rw [h] at h'
      cases h'
    · have := z.k p o e (fun ps w => q ⟨ps, w⟩)
      rw [h] at this
      cases this
theorem Kp.put {H0 H : Hp} (z : Kp H0 H) {p : Addr} (n : H0 p = Option.none) {o : HO} : Kp H0 (upd H p o) := by
  have ne : ∀ b u, H0 b = some u → b ≠ p := fun b u e q => by rw [q, n] at e; cases e
  exact ⟨fun b u e q => by rw [upd_ne (ne b u e)]; exact z.k b u e q, fun b ps e => by rw [upd_ne (ne b _ e)]; exact z.t b ps e⟩
theorem Kp.new {H0 H : Hp} (z : Kp H0 H) {p : Addr} (n : H p = Option.none) {o : HO} : Kp H0 (upd H p o) := z.put (z.none n)
theorem Kp.tab {H H' : Hp} {P : Addr} (g : GxR.TabG H P) {gl : Nat} (hg : gl ≤ 150) (z : GA.Grew P gl H H') : Kp H H' := by
  obtain ⟨ps, hP, hT⟩ := g
  obtain ⟨⟨⟨ps', hP', hT'⟩, ho⟩, hm⟩ := z
  obtain ⟨more, hP2, hmo⟩ := hm ps hP
  rw [hP'] at hP2
  cases hP2
  refine ⟨fun b u e q => ?_, fun b qs e => ?_⟩
  · have nb : b ≠ P := fun w => by rw [w, hP] at e; exact q ps (Option.some.inj e).symm
    rw [ho b nb]
    exact e
  · by_cases nb : b = P
    · subst nb
      rw [hP] at e
      cases e
      exact ⟨_, hP', .grew hg hT' hmo⟩
    · exact ⟨qs, by rw [ho b nb]; exact e, .refl qs⟩
theorem Kp.tabG {H H' : Hp} (z : Kp H H') {P : Addr} (g : GxR.TabG H P) : GxR.TabG H' P := by
  obtain ⟨ps, hP, hT⟩ := g
  obtain ⟨ps', h', t⟩ := z.t P ps hP
  exact ⟨ps', h', t.1 hT⟩
theorem Kp.tup {H H' : Hp} (z : Kp H H') : Tup H H' := ⟨fun c xs h => z.k c _ h (fun _ q => by cases q), fun c o u h => z.k c _ h (fun _ q => by cases q)⟩
theorem Kp.lst {H H' : Hp} (z : Kp H H') {a : Addr} {xs : List V} (h : H a = some (.lst xs)) : H' a = some (.lst xs) := z.k a _ h (fun _ q => by cases q)
theorem Kp.sqT {K : PySem.W.Frag} {H H' : Hp} (z : Kp H H') {a : Addr} {xs : List V} (h : SqT K H a xs) : SqT K H' a xs := z.tup.sq h
theorem Kp.sqL {K : PySem.W.Frag} {H H' : Hp} (z : Kp H H') {a : Addr} {xs : List V} (h : SqL K H a xs) : SqL K H' a xs := by
  rcases h with (h | ⟨o, h⟩) | h
  · exact .inl (.inl (z.lst h))
  · exact .inl (.inr ⟨o, z.k _ _ h (fun _ q => by cases q)⟩)
  · exact .inr h
theorem Kp.ti {K : PySem.W.Frag} {H H' : Hp} (z : Kp H H') {v : V} {k : List Int} (h : TI K H v k) : TI K H' v k := z.tup.ti h
theorem Kp.tti {K : PySem.W.Frag} {H H' : Hp} (z : Kp H H') {v : V} {k : List (List Int)} (h : TTI K H v k) : TTI K H' v k := z.tup.tti h
/-- a def at the module's name x keeps a promise: dvs the defaults that fill up -/
structure Has (P : Program) (w : World) (K : PySem.W.Frag) (mg : Str → Option Value) (base : Heap) (x : Str) (k : Nat) (dvs : List V) (sp : Sp) : Prop where
  ex : ∃ (f : Addr) (fd : FuncData) (ps : List Str) (ds : List Value), mg x = some (.ref f) ∧ PySem.W.keepIn K (.ref f) = true ∧ Binds K fd ps ds ∧ Vals dvs ds ∧ FnOk P w K mg base CX0 k f fd ps sp
section
variable {X : Cx} {k j : Nat} {sp : Sp} {dvs : List V} {x : Str} {p pos : Pos} {e : Expr} {es : List Expr} {t : TA}
theorem pe_has (h : Has X.prog X.w X.K X.mg X.base x j dvs sp) (hr : Room k X.A) (hk : j ≤ k) (ha : PA X (e :: es) t) (hg : Gl X x := by rfl)
    (hdb : (x == ("__debug__" : Str)) = false := by decide) (he : starEach (e :: es) X.env = (false, eval e X.env) :: starEach es X.env := by rfl) (hpl : (backTo pos (starEach es X.env)).any (·.1) = false := by rfl) :
    PE X (.Call (.Name x p) (e :: es) [] pos) (tCall sp dvs E0 t) := by
  obtain ⟨f, fd, ps, ds, h1, h2, h3, h4, h5⟩ := h.ex
  exact pe_call h5 (hr.mono hk) hg h1 h2 h3 h4 pass0 ha hdb he hpl
theorem pe_has0 (h : Has X.prog X.w X.K X.mg X.base x j dvs sp) (hr : Room k X.A) (hk : j ≤ k) (hg : Gl X x := by rfl)
    (hdb : (x == ("__debug__" : Str)) = false := by decide) :
    PE X (.Call (.Name x p) [] [] pos) (tCall sp dvs E0 tNil) := by
  obtain ⟨f, fd, ps, ds, h1, h2, h3, h4, h5⟩ := h.ex
  exact pe_call0 h5 (hr.mono hk) hg h1 h2 h3 h4 pass0 hdb
end
section
variable {P : Program} {w : World} {K : PySem.W.Frag} {mg : Str → Option Value} {base : Heap} {x : Str} {k : Nat} {sp : Sp}
theorem Has.held {f : Addr} (h : Has P w K mg base x k [] sp) (e : mg x = some (.ref f)) : Held P w K mg base k f sp := by
  obtain ⟨g, fd, ps, ds, h1, h2, h3, h4, h5⟩ := h.ex
  cases h4
  rw [e] at h1
  cases h1
  exact ⟨fd, ps, h5, h2, h3⟩
theorem Has.imp {sp' : Sp} {dvs : List V} (h : Has P w K mg base x k dvs sp) (q : ∀ vs H Q E, sp' vs H Q E → sp vs H Q E) : Has P w K mg base x k dvs sp' := by
  obtain ⟨g, fd, ps, ds, h1, h2, h3, h4, h5⟩ := h.ex
  exact ⟨g, fd, ps, ds, h1, h2, h3, h4, h5.imp q⟩
/-- the rule for a def; cdv is the def's own code -/
theorem ok_code {qual : Str} {params : Arguments} {body : List Stmt} {scope : Scope} {dvs : List V} {kws : List (Str × V)} {f : Addr} {fd : FuncData} {CX : CXT} {N ps : List Str} (F : FunD K x qual params body scope dvs kws f fd) (S : FnScope N ps scope) (len : ∀ vs H Q E, sp vs H Q E → vs.length = ps.length)
    (hbody : ∀ (cdv : Value) (A : Around) (outer : List Env) (s : Shared) (H : Hp) (vs : List V) (Q : VK) (E : XK), cdv = fd.code → Room k (A.deeper (envOfC qual scope s.heap.objs.size f cdv)) → sp vs H Q E →
      ∃ t, PSs (cxOf CX P w K mg base N qual scope f cdv A outer s H E) body t ∧ t { nx := fun _ H' => Q .non H', rt := Q } (start N vs) H) : FnOk P w K mg base CX (k + 1) f fd ps sp := by
  obtain ⟨oc, od, dV, kV, doc, pm, an, cdv, ct, osl, rfl, lk, hcd, _, _⟩ := F.ex
  exact fn_of lk hcd S len fun A outer s H vs Q E hr hsp => hbody cdv A outer s H vs Q E rfl hr hsp
end
end NS
end
section
/-! P1: turns as lists of whole numbers -/
namespace NS
/-- the second turn behind the first -/
def comp (a b : List Int) : List Int := a.map fun x => b.getD x.toNat 0
def idt (n : Nat) : List Int := (List.range n).map fun (i : Nat) => (i : Int)
def inv (a : List Int) : List Int := (List.range a.length).map fun (i : Nat) => ((a.idxOf (i : Int) : Nat) : Int)
/-- the items are places below n -/
def Low (n : Nat) (a : List Int) : Prop := ∀ x ∈ a, 0 ≤ x ∧ x < n
structure IsT (n : Nat) (a : List Int) : Prop where
  len : a.length = n
  low : Low n a
  nd : a.Nodup
/-- the hall to which hall i is led -/
def at' (a : List Int) (i : Nat) : Nat := (a.getD i 0).toNat
theorem getD_of {α : Type} {l : List α} {i : Nat} {x d : α} (h : l[i]? = some x) : l.getD i d = x := by rw [List.getD_eq_getElem?_getD, h]; rfl
theorem map_some {α β : Type} {f : α → β} {l : List α} {i : Nat} {y : β} (h : (l.map f)[i]? = some y) : ∃ x, l[i]? = some x ∧ y = f x := by
  rw [List.getElem?_map] at h
  cases e : l[i]? with
  | none => rw [e] at h; cases h
  | some x => rw [e] at h; exact ⟨x, rfl, (Option.some.inj h).symm⟩
theorem map_range_getD {α : Type} (xs : List α) (d : α) : (List.range xs.length).map (fun i => xs.getD i d) = xs := by
  refine List.ext_getElem (by simp) fun i h1 h2 => ?_
  simp [List.getD_eq_getElem?_getD, List.getElem?_eq_getElem h2]
/-- two lists with the same items at all places -/
theorem ext_at {α : Type} {d : α} {a b : List α} (hl : a.length = b.length) (h : ∀ i, i < a.length → a.getD i d = b.getD i d) : a = b := by
  rw [← map_range_getD a d, ← map_range_getD b d, hl]
  exact List.map_congr_left fun i hi => h i (by rw [hl]; exact List.mem_range.mp hi)
theorem erase_len {α : Type} [BEq α] [LawfulBEq α] {x : α} {b : List α} (h : x ∈ b) : (b.erase x).length + 1 = b.length := by
  have := List.length_erase_of_mem h
  have := List.length_pos_of_mem h
  omega
theorem nd_le {α : Type} [BEq α] [LawfulBEq α] : ∀ {a b : List α}, a.Nodup → (∀ x ∈ a, x ∈ b) → a.length ≤ b.length
  | [], _, _, _ => Nat.zero_le _
  | x :: a, b, nd, sub => by
    obtain ⟨h1, h2⟩ := List.nodup_cons.mp nd
    have hx := sub x (List.mem_cons_self ..)
    have := nd_le (a := a) (b := b.erase x) h2 fun y hy => (List.mem_erase_of_ne (fun e => h1 (by rw [← e]; exact hy))).mpr (sub y (List.mem_cons_of_mem _ hy))
    have := erase_len hx
    simp only [List.length_cons]
    omega
/-- as many different items as there may be: all of them -/
theorem nd_all {α : Type} [BEq α] [LawfulBEq α] {a b : List α} (nd : a.Nodup) (sub : ∀ x ∈ a, x ∈ b) (hl : b.length ≤ a.length) : ∀ x ∈ b, x ∈ a := fun x hx => by
  by_cases h : x ∈ a
  · exact h
  · have := nd_le (a := x :: a) (b := b) (List.nodup_cons.mpr ⟨h, nd⟩) fun y hy => by
      rcases List.mem_cons.mp hy with e | e
      · rw [e]; exact hx
      · exact sub y e
    simp only [List.length_cons] at this
    omega
theorem nodup_map {α β : Type} {f : α → β} : ∀ {l : List α}, l.Nodup → (∀ x ∈ l, ∀ y ∈ l, f x = f y → x = y) → (l.map f).Nodup
  | [], _, _ => List.nodup_nil
  | a :: l, nd, inj => by
    obtain ⟨h1, h2⟩ := List.nodup_cons.mp nd
    rw [List.map_cons, List.nodup_cons]
    refine ⟨fun hm => ?_, nodup_map h2 fun x hx y hy => inj x (List.mem_cons_of_mem _ hx) y (List.mem_cons_of_mem _ hy)⟩
    obtain ⟨y, hy, e⟩ := List.mem_map.mp hm
    have := inj y (List.mem_cons_of_mem _ hy) a (List.mem_cons_self ..) e
    rw [this] at hy
    exact h1 hy
theorem idt_len (n : Nat) : (idt n).length = n := by unfold idt; simp
theorem idt_at {n i : Nat} (h : i < n) : (idt n).getD i 0 = (i : Int) := by
  refine getD_of ?_
  unfold idt
  rw [List.getElem?_map, List.getElem?_range h]
  rfl
theorem mem_idt {n : Nat} {x : Int} : x ∈ idt n ↔ 0 ≤ x ∧ x < n := by
  unfold idt
  rw [List.mem_map]
  constructor
  · rintro ⟨i, hi, rfl⟩
    have := List.mem_range.mp hi
    omega
  · rintro ⟨h0, h1⟩
    exact ⟨x.toNat, List.mem_range.mpr (by omega), by omega⟩
theorem idt_isT (n : Nat) : IsT n (idt n) := ⟨idt_len n, fun x hx => mem_idt.mp hx, nodup_map List.nodup_range fun x _ y _ e => by omega⟩
theorem comp_len (a b : List Int) : (comp a b).length = a.length := List.length_map ..
theorem inv_len (a : List Int) : (inv a).length = a.length := by unfold inv; simp
theorem comp_at {a b : List Int} {i : Nat} {k : Int} (h : a[i]? = some k) : (comp a b).getD i 0 = b.getD k.toNat 0 := by
  refine getD_of ?_
  unfold comp
  rw [List.getElem?_map, h]
  rfl
theorem inv_at {a : List Int} {i : Nat} (h : i < a.length) : (inv a).getD i 0 = ((a.idxOf (i : Int) : Nat) : Int) := by
  refine getD_of ?_
  unfold inv
  rw [List.getElem?_map, List.getElem?_range h]
  rfl
theorem get_some {α : Type} {l : List α} {i : Nat} (h : i < l.length) (d : α) : l[i]? = some (l.getD i d) := by
  rw [List.getD_eq_getElem?_getD, List.getElem?_eq_getElem h]
  rfl
theorem mem_getD {α : Type} {l : List α} {i : Nat} (h : i < l.length) (d : α) : l.getD i d ∈ l := List.mem_of_getElem? (get_some h d)
theorem comp_getD {a : List Int} (b : List Int) {i : Nat} (h : i < a.length) : (comp a b).getD i 0 = b.getD (at' a i) 0 := comp_at (get_some h 0)
section
variable {n : Nat} {a b c : List Int}
theorem IsT.getD (h : IsT n a) {i : Nat} (hi : i < n) : a.getD i 0 = (at' a i : Int) ∧ at' a i < n := by
  have := h.low _ (mem_getD (l := a) (i := i) (by rw [h.len]; exact hi) 0)
  unfold at'
  omega
theorem IsT.lt (h : IsT n a) {i : Nat} (hi : i < n) : at' a i < n := (h.getD hi).2
theorem IsT.mem (h : IsT n a) {i : Nat} (hi : i < n) : (i : Int) ∈ a :=
  nd_all (b := idt n) h.nd (fun x hx => mem_idt.mpr (h.low x hx)) (by rw [idt_len, h.len]; exact Nat.le_refl _) _ (mem_idt.mpr (by omega))
theorem IsT.ext (ha : IsT n a) (hb : IsT n b) (h : ∀ i, i < n → at' a i = at' b i) : a = b :=
  ext_at (d := 0) (by rw [ha.len, hb.len]) fun i hi => by
    have hi' : i < n := by rw [← ha.len]; exact hi
    rw [(ha.getD hi').1, (hb.getD hi').1, h i hi']
theorem IsT.inj (h : IsT n a) {i j : Nat} (hi : i < n) (hj : j < n) (e : at' a i = at' a j) : i = j := by
  have e' : a.getD i 0 = a.getD j 0 := by rw [(h.getD hi).1, (h.getD hj).1, e]
  have hi' : i < a.length := by rw [h.len]; exact hi
  have hj' : j < a.length := by rw [h.len]; exact hj
  have e2 : a[i] = a[j] := by
    have e3 := e'
    rw [List.getD_eq_getElem?_getD, List.getD_eq_getElem?_getD, List.getElem?_eq_getElem hi', List.getElem?_eq_getElem hj'] at e3
    exact e3
  have pw := List.pairwise_iff_getElem.mp h.nd
  rcases Nat.lt_trichotomy i j with q | q | q
  · exact absurd e2 (pw i j hi' hj' q)
  · exact q
  · exact absurd e2.symm (pw j i hj' hi' q)
theorem at_idt {i : Nat} (h : i < n) : at' (idt n) i = i := by unfold at'; rw [idt_at h]; rfl
theorem at_comp (h : IsT n a) (b : List Int) {i : Nat} (hi : i < n) : at' (comp a b) i = at' b (at' a i) := by
  unfold at'
  rw [comp_getD b (by rw [h.len]; exact hi)]
  rfl
theorem isT_of (hl : a.length = n) (f : Nat → Nat) (hf : ∀ i, i < n → a.getD i 0 = (f i : Int)) (lt : ∀ i, i < n → f i < n) (inj : ∀ i, i < n → ∀ j, j < n → f i = f j → i = j) : IsT n a := by
  have e : a = (List.range n).map fun i => (f i : Int) := by
    refine ext_at (d := 0) (by simp [hl]) fun i hi => ?_
    rw [hl] at hi
    rw [hf i hi]
    refine (getD_of ?_).symm
    rw [List.getElem?_map, List.getElem?_range hi]
    rfl
  refine ⟨hl, fun x hx => ?_, ?_⟩
  · rw [e] at hx
    obtain ⟨i, hi, rfl⟩ := List.mem_map.mp hx
    have := lt i (List.mem_range.mp hi)
    omega
  · rw [e]
    exact nodup_map List.nodup_range fun x hx y hy q => inj x (List.mem_range.mp hx) y (List.mem_range.mp hy) (by omega)
theorem IsT.comp (ha : IsT n a) (hb : IsT n b) : IsT n (comp a b) :=
  isT_of (by rw [comp_len, ha.len]) (fun i => at' b (at' a i)) (fun i hi => by rw [comp_getD b (by rw [ha.len]; exact hi), (hb.getD (ha.lt hi)).1]) (fun i hi => hb.lt (ha.lt hi))
    fun i hi j hj e => ha.inj hi hj (hb.inj (ha.lt hi) (ha.lt hj) e)
theorem idx_of (ha : IsT n a) {i : Nat} (hi : i < n) : a.idxOf (i : Int) < n ∧ at' a (a.idxOf (i : Int)) = i := by
  have hm := ha.mem hi
  have hlt : a.idxOf (i : Int) < a.length := List.idxOf_lt_length_of_mem hm
  refine ⟨by rw [← ha.len]; exact hlt, ?_⟩
  unfold at'
  have e : a.getD (a.idxOf (i : Int)) 0 = (i : Int) := by
    refine getD_of ?_
    rw [List.getElem?_eq_getElem hlt, List.getElem_idxOf]
  rw [e]
  rfl
theorem at_inv (ha : IsT n a) {i : Nat} (hi : i < n) : at' (inv a) i = a.idxOf (i : Int) := by
  unfold at'
  rw [inv_at (by rw [ha.len]; exact hi)]
  rfl
theorem IsT.inv (ha : IsT n a) : IsT n (inv a) :=
  isT_of (by rw [inv_len, ha.len]) (fun i => a.idxOf (i : Int)) (fun i hi => inv_at (by rw [ha.len]; exact hi)) (fun i hi => (idx_of ha hi).1)
    fun i hi j hj e => by rw [← (idx_of ha hi).2, ← (idx_of ha hj).2, e]
theorem inv_comp (ha : IsT n a) : NS.comp (NS.inv a) a = idt n :=
  (ha.inv.comp ha).ext (idt_isT n) fun i hi => by rw [at_comp ha.inv a hi, at_inv ha hi, at_idt hi]; exact (idx_of ha hi).2
theorem comp_inv (ha : IsT n a) : NS.comp a (NS.inv a) = idt n :=
  (ha.comp ha.inv).ext (idt_isT n) fun i hi => by
    rw [at_comp ha _ hi, at_inv ha (ha.lt hi), at_idt hi]
    exact ha.inj (idx_of ha (ha.lt hi)).1 hi (idx_of ha (ha.lt hi)).2
theorem comp_assoc (ha : IsT n a) (hb : IsT n b) (c : List Int) : NS.comp (NS.comp a b) c = NS.comp a (NS.comp b c) :=
  ext_at (d := 0) (by simp only [comp_len]) fun i hi => by
    rw [comp_len, comp_len, ha.len] at hi
    rw [comp_getD c (by rw [comp_len, ha.len]; exact hi), at_comp ha b hi, comp_getD _ (by rw [ha.len]; exact hi), comp_getD c (by rw [hb.len]; exact ha.lt hi)]
theorem idt_comp (ha : IsT n a) : NS.comp (idt n) a = a := ((idt_isT n).comp ha).ext ha fun i hi => by rw [at_comp (idt_isT n) a hi, at_idt hi]
theorem comp_idt (ha : IsT n a) : NS.comp a (idt n) = a := (ha.comp (idt_isT n)).ext ha fun i hi => by rw [at_comp ha _ hi, at_idt (ha.lt hi)]
end
end NS
end
section
set_option maxHeartbeats 4000000
/-! D1: comprehensions whose items stay -/
namespace NS
open PySem PySem.Spec PyProof.Rows L2 ZS
theorem filter_succ (pb : Nat → Bool) (i : Nat) : (List.range (i + 1)).filter pb = (List.range i).filter pb ++ (if pb i = true then [i] else []) := by
  rw [List.range_succ, List.filter_append]
  congr 1
  cases e : pb i <;> simp [List.filter, e]
theorem filter_le (pb : Nat → Bool) (i : Nat) : ((List.range i).filter pb).length ≤ i := by
  have := List.length_filter_le pb (List.range i)
  simpa using this
/-- a walk that yields Y i at turn i, n in all, as long as what stood stands -/
structure Wlk (J : It) (H : Hp) (n : Nat) (Y : Nat → V → Hp → Prop) : Prop where
  go : ∀ i H', Kp H H' → i < n → J.go i H'
  stop : ∀ H', Kp H H' → J.stop n H'
  yld : ∀ i H1 x H2, Kp H H1 → i < n → J.yld i H1 x H2 → Kp H1 H2 ∧ Y i x H2
theorem Wlk.tup {K : PySem.W.Frag} {H : Hp} {a : Addr} {xs : List V} (h : SqT K H a xs) : Wlk (Itt K a) H xs.length (fun i x _ => xs[i]? = some x) where
  go := fun i H' z hi => ⟨xs, xs[i], z.sqT h, by simp [hi]⟩
  stop := fun H' z => ⟨xs, z.sqT h, Nat.le_refl _⟩
  yld := fun i H1 x H2 z hi y => by
    obtain ⟨e, y⟩ := y
    subst e
    exact ⟨Kp.refl _, y xs (z.sqT h)⟩
theorem Wlk.lst {K : PySem.W.Frag} {H : Hp} {a : Addr} {xs : List V} (h : SqL K H a xs) : Wlk (Itl K a) H xs.length (fun i x _ => xs[i]? = some x) where
  go := fun i H' z hi => ⟨xs, xs[i], z.sqL h, by simp [hi]⟩
  stop := fun H' z => ⟨xs, z.sqL h, Nat.le_refl _⟩
  yld := fun i H1 x H2 z hi y => by
    obtain ⟨e, y⟩ := y
    subst e
    exact ⟨Kp.refl _, y xs (z.sqL h)⟩
theorem Wlk.rng {H : Hp} (lo : Int) (n : Nat) : Wlk (Itr lo n) H n (fun i x _ => x = .int (lo + i)) where
  go := fun i H' z hi => hi
  stop := fun H' z => Nat.le_refl _
  yld := fun i H1 x H2 z hi y => by
    obtain ⟨e, y⟩ := y
    subst e
    exact ⟨Kp.refl _, y⟩
theorem lcG {J : It} {g : TG} {tt : TT} {te : TE} {vs : List Nat} {σ : L2.St} {H : Hp} {D : Addr} {Qd : Hp → Prop} {n : Nat} {Y : Nat → V → Hp → Prop} (wk : Wlk J H n Y) (hD : H D = none) (hz : n < sizeLine)
    (pb : Nat → Bool) (R : Nat → V → Hp → Prop) (st : ∀ i y H1 H2, Tup H1 H2 → R i y H1 → R i y H2)
    (el : ∀ i x H' (Q1 : V → Hp → Prop) (Q0 : Hp → Prop), i < n → Kp H H' → Y i x H' → (∀ y H4, pb i = true → Kp H' H4 → R i y H4 → Q1 y H4) → (∀ H3, pb i = false → Kp H' H3 → Q0 H3) →
      g x (wipe σ vs) H' fun σ2 H2 => wipe σ2 vs = wipe σ vs ∧ tt σ2 H2 fun b H3 => if b = true then te σ2 H3 Q1 else Q0 H3)
    (fin : ∀ ys H', Kp H H' → H' D = some (.lst ys) → Paired (fun i y => R i y H') ((List.range n).filter pb) ys → Qd H') :
    ∃ W : Nat → Nat → Hp → Prop, (∃ m, W 0 m (upd H D (.lst []))) ∧ ∀ i m H, W i m H →
      (J.stop i H ∧ Qd H) ∨ (J.go i H ∧ ∃ Nx : Hp → Prop, (∀ H', Nx H' → ∃ m', m' < m ∧ W (i + 1) m' H') ∧ ∀ x H', J.yld i H x H' → g x (wipe σ vs) H' fun σ2 H2 => wipe σ2 vs = wipe σ vs ∧ tt σ2 H2 fun b H3 =>
        if b = true then te σ2 H3 fun y H4 => ∃ acc, H4 D = some (.lst acc) ∧ acc.length < sizeLine ∧ Nx (upd H4 D (.lst (acc ++ [y]))) else Nx H3) := by
  refine ⟨fun i m H' => m = n - i ∧ i ≤ n ∧ Kp H H' ∧ ∃ ys, H' D = some (.lst ys) ∧ Paired (fun i y => R i y H') ((List.range i).filter pb) ys, ⟨n, by simp, Nat.zero_le _, (Kp.refl H).new hD, [], upd_same, .nil⟩, ?_⟩
  rintro i m H1 ⟨rfl, hi, z, ys, hy, hp⟩
  by_cases hlt : i < n
  · refine .inr ⟨wk.go i H1 z hlt, fun H' => Kp H H' ∧ ∃ ys, H' D = some (.lst ys) ∧ Paired (fun i y => R i y H') ((List.range (i + 1)).filter pb) ys, fun H' ⟨p1, p2⟩ => ⟨n - (i + 1), by omega, rfl, hlt, p1, p2⟩, fun x H' y => ?_⟩
    obtain ⟨zy, yy⟩ := wk.yld i H1 x H' z hlt y
    have hl : ys.length < sizeLine := by
      have := filter_le pb i
      rw [hp.length] at this
      omega
    refine el i x H' _ _ hlt (z.trans zy) yy (fun v H4 hb z4 r4 => ?_) (fun H3 hb z3 => ?_)
    · have z14 := zy.trans z4
      have hD4 := z14.lst hy
      refine ⟨ys, hD4, hl, (z.trans z14).put hD, _, upd_same, ?_⟩
      have tz : Tup H4 (upd H4 D (.lst (ys ++ [v]))) := Tup.put (by rw [hD4]; trivial)
      rw [filter_succ, if_pos hb]
      exact Paired.snoc (hp.mono (fun a b q => st _ _ _ _ (z14.tup.trans tz) q)) (st _ _ _ _ tz r4)
    · have z13 := zy.trans z3
      refine ⟨z.trans z13, ys, z13.lst hy, ?_⟩
      rw [filter_succ, if_neg (by rw [hb]; exact Bool.false_ne_true), List.append_nil]
      exact hp.mono (fun a b q => st _ _ _ _ z13.tup q)
  · have e : i = n := by omega
    subst e
    exact .inl ⟨wk.stop H1 z, fin ys H1 z hy hp⟩
/-- no test -/
theorem lcF {J : It} {g : TG} {te : TE} {vs : List Nat} {σ : L2.St} {H : Hp} {D : Addr} {Qd : Hp → Prop} {n : Nat} {Y : Nat → V → Hp → Prop} (wk : Wlk J H n Y) (hD : H D = none) (hz : n < sizeLine)
    (R : Nat → V → Hp → Prop) (st : ∀ i y H1 H2, Tup H1 H2 → R i y H1 → R i y H2)
    (el : ∀ i x H' (Q1 : V → Hp → Prop), i < n → Kp H H' → Y i x H' → (∀ y H4, Kp H' H4 → R i y H4 → Q1 y H4) →
      g x (wipe σ vs) H' fun σ2 H2 => wipe σ2 vs = wipe σ vs ∧ te σ2 H2 Q1)
    (mono : ∀ x H' (Q Q' : L2.St → Hp → Prop), (∀ s h, Q s h → Q' s h) → g x (wipe σ vs) H' Q → g x (wipe σ vs) H' Q')
    (fin : ∀ ys H', Kp H H' → H' D = some (.lst ys) → Paired (fun i y => R i y H') (List.range n) ys → Qd H') :
    ∃ W : Nat → Nat → Hp → Prop, (∃ m, W 0 m (upd H D (.lst []))) ∧ ∀ i m H, W i m H →
      (J.stop i H ∧ Qd H) ∨ (J.go i H ∧ ∃ Nx : Hp → Prop, (∀ H', Nx H' → ∃ m', m' < m ∧ W (i + 1) m' H') ∧ ∀ x H', J.yld i H x H' → g x (wipe σ vs) H' fun σ2 H2 => wipe σ2 vs = wipe σ vs ∧ tYes σ2 H2 fun b H3 =>
        if b = true then te σ2 H3 fun y H4 => ∃ acc, H4 D = some (.lst acc) ∧ acc.length < sizeLine ∧ Nx (upd H4 D (.lst (acc ++ [y]))) else Nx H3) :=
  lcG wk hD hz (fun _ => true) R st (fun i x H' Q1 Q0 hi z y q1 _ => mono x H' _ _ (fun s h q => ⟨q.1, iteT (B := Q0 h) q.2⟩) (el i x H' Q1 hi z y fun y H4 z4 r4 => q1 y H4 rfl z4 r4)) fun ys H' z hy hp => fin ys H' z hy (by
    have e : (List.range n).filter (fun _ => true) = List.range n := List.filter_eq_self.mpr fun _ _ => rfl
    rwa [e] at hp)
/-- for, over a walk -/
theorem forG {J : It} {g : TG} {tb : TS} {D : Ends} {σ : L2.St} {H0 H : Hp} {n : Nat} {Y : Nat → V → Hp → Prop} (wk : Wlk J H0 n Y) (Pv : Nat → L2.St → Hp → Prop) (h0 : Pv 0 σ H) (kp : ∀ i σ H', i ≤ n → Pv i σ H' → Kp H0 H')
    (hs : ∀ i x σ H1 H2, i < n → Pv i σ H1 → Kp H1 H2 → Y i x H2 → g x σ H2 fun σ2 H3 => tb { D with nx := Pv (i + 1), ct := Pv (i + 1), bk := D.nx } σ2 H3) (hd : ∀ σ H', Pv n σ H' → D.nx σ H') :
    ∃ W : Nat → Nat → L2.St → Hp → Prop, (∃ m, W 0 m σ H) ∧ ∀ i m σ H, W i m σ H →
      (J.stop i H ∧ D.nx σ H) ∨ (J.go i H ∧ ∃ N : L2.St → Hp → Prop, (∀ σ' H', N σ' H' → ∃ m', m' < m ∧ W (i + 1) m' σ' H') ∧ ∀ x H', J.yld i H x H' → g x σ H' fun σ2 H2 => tb { D with nx := N, ct := N, bk := D.nx } σ2 H2) := by
  refine ⟨fun i m σ H => m = n - i ∧ i ≤ n ∧ Pv i σ H, ⟨n, by simp, Nat.zero_le _, h0⟩, ?_⟩
  rintro i m σ H ⟨rfl, hi, p⟩
  have z := kp i σ H hi p
  by_cases hlt : i < n
  · refine .inr ⟨wk.go i H z hlt, Pv (i + 1), fun σ' H' p' => ⟨n - (i + 1), by omega, rfl, hlt, p'⟩, fun x H' y => ?_⟩
    obtain ⟨zy, yy⟩ := wk.yld i H x H' z hlt y
    exact hs i x σ H H' hlt p zy yy
  · have e : i = n := by omega
    subst e
    exact .inl ⟨wk.stop H z, hd σ H p⟩
theorem Wlk.enum {K : PySem.W.Frag} {H : Hp} {a : Addr} {xs : List V} (h : SqT K H a xs) : Wlk (IteT K a) H xs.length (fun i x H2 => ∃ T v, x = .ref T ∧ H2 T = some (.tup [.int (i : Nat), v]) ∧ xs[i]? = some v) where
  go := fun i H' z hi => ⟨xs, xs[i], z.sqT h, by simp [hi]⟩
  stop := fun H' z => ⟨xs, z.sqT h, Nat.le_refl _⟩
  yld := fun i H1 x H2 z hi y => by
    obtain ⟨T, v, e, hn, eh, y⟩ := y
    subst eh
    exact ⟨(Kp.refl _).new hn, T, v, e, upd_same, y xs (z.sqT h)⟩
theorem pr_get {α β : Type} {F : α → β → Prop} : ∀ {xs : List α} {ys : List β}, Paired F xs ys → ∀ {i : Nat} {x : α}, xs[i]? = some x → ∃ y, ys[i]? = some y ∧ F x y
  | _, _, .nil, i, x, e => by simp at e
  | _, _, .cons p t, 0, x, e => by
    cases e
    exact ⟨_, rfl, p⟩
  | _, _, .cons p t, i + 1, x, e => pr_get t (i := i) (x := x) e
theorem paired_map {α β : Type} {F : α → β → Prop} {f : α → β} (h : ∀ a b, F a b → b = f a) : ∀ {l : List α} {m : List β}, Paired F l m → m = l.map f
  | _, _, .nil => rfl
  | _, _, .cons p t => by rw [List.map_cons, h _ _ p, paired_map h t]
theorem at_ints {ys : List Int} {x : Int} (h0 : 0 ≤ x) (h1 : x < ys.length) : atI (ys.map V.int) x = some (.int (ys.getD x.toNat 0)) := by
  obtain ⟨j, rfl⟩ := Int.eq_ofNat_of_zero_le h0
  have hj : j < ys.length := by omega
  refine atI_nat ?_
  rw [List.getElem?_map, List.getElem?_eq_getElem hj]
  simp [List.getD_eq_getElem?_getD, List.getElem?_eq_getElem hj]
theorem paired_ints {l : List Int} {n : Nat} {ys : List V} (hl : l.length = n) (h : Paired (fun i y => y = V.int (l.getD i 0)) (List.range n) ys) : ys = l.map V.int := by
  rw [paired_map (f := fun i => V.int (l.getD i 0)) (fun _ _ e => e) h, ← hl]
  conv => rhs; rw [← map_range_getD l 0, List.map_map]
  rfl
theorem ifF {c : Bool} {A B : Prop} (h : c = false) (b : B) : if c = true then A else B := by rw [h, if_neg Bool.false_ne_true]; exact b
theorem ifT {c : Bool} {A B : Prop} (h : c = true) (a : A) : if c = true then A else B := by rw [if_pos h]; exact a
end NS
end
section
set_option maxHeartbeats 4000000
/-! T0: new tuples that have no dict of their own; t.index -/
namespace NS
open PySem PySem.Spec PyProof.Rows L2 ZS
/-- v is a tuple of the ints k, made plainly -/
def PT (H : Hp) (v : V) (k : List Int) : Prop := ∃ a o, v = .ref a ∧ H a = some (.frz o (.tup (k.map V.int))) ∧ o.dict = none
theorem PT.ti {K : PySem.W.Frag} {H : Hp} {v : V} {k : List Int} (h : PT H v k) : TI K H v k := let ⟨a, o, e, x, _⟩ := h; ⟨a, e, .inl (.inr ⟨o, x⟩)⟩
theorem Kp.pt {H H' : Hp} (z : Kp H H') {v : V} {k : List Int} (h : PT H v k) : PT H' v k := let ⟨a, o, e, x, d⟩ := h; ⟨a, o, e, z.k _ _ x (fun _ q => by cases q), d⟩
theorem Tup.pt {H H' : Hp} (z : Tup H H') {v : V} {k : List Int} (h : PT H v k) : PT H' v k := let ⟨a, o, e, x, d⟩ := h; ⟨a, o, e, z.f _ _ _ x, d⟩
theorem PT.of {H : Hp} {a : Addr} {o : Obj} {k : List Int} (h : H a = some (.frz o (.tup (k.map V.int)))) (d : o.dict = none) : PT H (.ref a) k := ⟨a, o, rfl, h, d⟩
section
variable {X : Cx}
theorem Inv.newT {pins : List (Addr × Obj)} {σ : L2.St} {H : Hp} {s : Shared} {t' : Nat} {xs : List V} {its : List Value} (I : Inv X pins σ H s) (hz : xs.length ≤ sizeLine) (r : Vals xs its) :
    Inv X pins σ (upd H s.heap.objs.size (.frz { cls := .type "tuple", data := .seq its.toArray } (.tup xs))) { s with heap := s.heap.push { cls := .type "tuple", data := .seq its.toArray }, toks := t' } :=
  I.laid (fun b o e => Heap.get?_push_of_some _ e) (Nat.le_refl _) ⟨Heap.get?_push_size _ rfl, hz, its, r, IsTup.new _ _⟩
/-- tuple(xs), xs a list -/
theorem cr_tupP : CallR X (.type "tuple") (fun xs H Q => ∃ p ys, xs = [.ref p] ∧ SqL X.K H p ys ∧ ∀ l o, H l = none → o.dict = none → Q (.ref l) (upd H l (.frz o (.tup ys)))) := by
  intro pins s σ H xs us Q I r h
  obtain ⟨p, ys, rfl, hq, q⟩ := h
  obtain ⟨u, rfl, rx⟩ := vals1 r
  cases rx
  obtain ⟨its, r', pl, hz⟩ := I.list hq
  have hlen := r'.length
  refine call_tuple_list pl.isList (fun h' kp => ?_) (by simp only [List.size_toArray] <;> omega)
  have I1 : Inv X pins σ H { s with heap := h' } := I.kept (t' := s.toks) kp
  exact ⟨.ref h'.objs.size, _, NS.Inv.newT (s := { s with heap := h' }) (t' := s.toks) I1 hz r', rfl, q _ _ (I1.hok.fresh (Nat.le_refl _)) rfl⟩
/-- (a, b) -/
def tTupP (t : TA) : TE := fun σ H Q => t σ H fun xs H1 => xs.length ≤ sizeLine ∧ ∀ p o, H1 p = none → o.dict = none → Q (.ref p) (upd H1 p (.frz o (.tup xs)))
theorem pe_tupP {x1} {es : List Expr} {t : TA} {pos : Pos} (h : PA X es t) : PE X (.Tuple es x1 pos) (tTupP t) := by
  refine ⟨fun pins s σ H Q I hq => ?_⟩
  refine wpAny_Tuple_spliced (thn (h.run pos pins s σ H _ I hq) fun us s1 ⟨xs, H1, I1, r, z, q⟩ => ⟨by rw [← r.length]; exact z, ?_⟩)
  have hf : H1 s1.heap.objs.size = none := I1.hok.fresh (Nat.le_refl _)
  exact ⟨.ref s1.heap.objs.size, _, NS.Inv.newT (t' := s1.toks) I1 z r, rfl, q _ _ hf rfl⟩
/-- tuple(range(..)) -/
def tTupRgP (te : L2.St → Hp → (Int → Int → Hp → Prop) → Prop) : TE := fun σ H Q => te σ H fun a b H1 => RgOk a b ∧ ∀ q o, H1 q = none → o.dict = none → Q (.ref q) (upd H1 q (.frz o (.tup (rgV a b))))
theorem pe_tupRgP {e : Expr} {te : L2.St → Hp → (Int → Int → Hp → Prop) → Prop} {p pos : Pos} (hc : X.calm = true) (hg : Gl X "tuple") (hm : X.mg "tuple" = none) (he : PRg X e te) (na : starEach [e] X.env = (false, eval e X.env) :: starEach [] X.env := by rfl) : PE X (.Call (.Name "tuple" p) [e] [] pos) (tTupRgP te) := by
  refine ⟨fun pins s σ H Q I h => ?_⟩
  refine Call_ (ld_blt I hg hm PyProof.Rows.boot_tuple (PyProof.Rows.callWith_type1 (args_cons (thn (he pins s σ H _ I h) fun x s1 ⟨r, a, b, t, u, v, H1, ex, hr, I1, ok, q⟩ => args_nil ?_) na) na))
  subst ex
  obtain ⟨b1, b2, b3, b4, b5⟩ := ok
  refine call_tuple_range (n := (b - a).toNat) (I1.ok.hd hc) hr (small_one b1 b2 b3 b4) (rangeSize_nat a b) b5 fun h' tk acc hk hi => ?_
  have I2 : Inv X pins σ H1 { s1 with heap := h', toks := tk } := I1.kept hk
  have hz : (rgV a b).length ≤ sizeLine := by rw [rgV_length, sizeLine_eq]; omega
  have I3 := NS.Inv.newT (s := { s1 with heap := h', toks := tk }) (t' := tk) I2 hz (vals_rg hi)
  rw [Array.toArray_toList] at I3
  exact ⟨.ref h'.objs.size, _, I3, rfl, q _ _ (I2.hok.fresh (Nat.le_refl _)) rfl⟩
/-- t + u, u not empty -/
def rCatP (K : PySem.W.Frag) : R2 := fun x y H Q => ∃ a b xs ys, x = .ref a ∧ y = .ref b ∧ SqT K H a xs ∧ SqT K H b ys ∧ xs.length + ys.length ≤ sizeLine ∧ ys ≠ [] ∧
  (xs = [] → Q (.ref b) H) ∧ (xs ≠ [] → ∀ p o, H p = none → o.dict = none → Q (.ref p) (upd H p (.frz o (.tup (xs ++ ys)))))
theorem op_catP : OpR X (binaryOp .Add) (rCatP X.K) := by
  intro pins s σ H x y v u Q I rx ry h
  obtain ⟨a, b, xs, ys, rfl, rfl, ha, hb, hz, hy, q0, q2⟩ := h
  by_cases hx : xs = []
  · subst hx
    exact op_catA pins s σ H _ _ v u Q I rx ry ⟨a, b, [], ys, rfl, rfl, ha, hb, hz, fun _ => q0 rfl, fun z => absurd rfl z, fun z => absurd rfl z⟩
  · cases rx
    cases ry
    obtain ⟨its, r1, p1, _⟩ := I.tuple ha
    obtain ⟨its2, r2, p2, _⟩ := I.tuple hb
    refine HT.cat_tup p1 p2 (fun z => hx (r1.nil_iff.mp z)) (fun z => absurd (r2.nil_iff.mp z) hy) (fun z => ?_) (by rw [← r1.length, ← r2.length]; exact hz)
    exact ⟨.ref s.heap.objs.size, _, NS.Inv.newT (t' := s.toks) I (by rw [List.length_append]; exact hz) (r1.append r2), rfl, q2 hx _ _ (I.hok.fresh (Nat.le_refl _)) rfl⟩
/-- o.index(e), o a plain tuple of ints -/
def tTix (to : TE) (t : TA) : TE := fun σ H Q => to σ H fun x H1 => ∃ ns, PT H1 x ns ∧ t σ H1 fun xs H2 => ∃ (k : Int) (j : Nat), xs = [.int k] ∧ PT H2 x ns ∧ ns[j]? = some k ∧ (∀ m, m < j → ns[m]? ≠ some k) ∧ Q (.int (j : Nat)) H2
variable {o e : Expr} {es : List Expr} {to : TE} {t : TA} {apos cpos : Pos}
theorem pe_tindex (ho : PE X o to) (ha : PA X (e :: es) t)
    (hbase : attributeBase o "index" X.env (eval o X.env) = eval o X.env := by rfl)
    (hfew : ((backTo cpos (starEach (e :: es) X.env)).all (fun x => !x.1) && (backToKw cpos (keywordEach [] X.env)).all (fun x => x.1.isSome) && decide ((e :: es).length + ([] : List Keyword).length + (if ([] : List Keyword).isEmpty then 0 else 1) < 30)) = true := by rfl)
    (hline : (apos.endLine == cpos.line) = true := by rfl) (hs : starEach (e :: es) X.env = (false, eval e X.env) :: starEach es X.env := by rfl) (hplain : (backTo cpos (starEach es X.env)).any (·.1) = false := by rfl) :
    PE X (.Call (.Attribute o "index" apos) (e :: es) [] cpos) (tTix to t) := by
  refine ⟨fun pins s σ H Q I h => wpAny_Call_method_late hbase hfew hline rfl (thn (ho.run pins s σ H _ I h) fun v s1 ⟨x, H1, I1, r1, ns, ⟨a, o, ex, ho, hd⟩, q⟩ => ?_)⟩
  subst ex
  obtain rfl : v = Value.ref a := r1
  obtain ⟨e1, _, its, rv, ⟨o', e2, hc, _⟩⟩ := (show ObjOk X.prog X.w H1 s1.heap a (.frz o (.tup (ns.map V.int))) from I1.hok a _ ho)
  obtain rfl : o' = o := Option.some.inj (e2.symm.trans e1)
  refine ⟨"tuple", "tuple.index", PySem.F.plainAttrs_tuple, PySem.F.slot_tuple_index, PySem.F.type_tuple_index, ⟨o', e1, hc⟩, fun b e => (by injection e with e; subst e; exact ⟨o', e1, hd⟩), ?_⟩
  have hA := ha.run cpos pins s1 σ H1 _ I1 q
  rw [hs] at hA ⊢
  refine Calls.callWith_builtin (by show (false || (backTo cpos (starEach es X.env)).any (·.1)) = false; rw [hplain]; rfl) (Calls.evalArgs_plain (thn hA fun us s2 ⟨vs, H2, I2, r2, k, j, ev, h2, hj, hno, q2⟩ => ?_))
  obtain ⟨a2, o2, ex2, hx2, _⟩ := h2
  cases ex2
  exact mt_tindex pins s2 σ H2 (.ref a) vs (.ref a) us Q I2 rfl r2 ⟨a, ns, k, j, rfl, ev, .inl (.inr ⟨o2, hx2⟩), hj, hno, q2⟩
/-- len of a set of ints -/
def rSLen (w : World) : List V → Hp → VK → Prop := fun vs H Q => ∃ (a : Addr) (S : Int → Bool) (n : Nat) (ns : List Int), vs = [.ref a] ∧ H a = some (SetO w a S n) ∧ ns.Nodup ∧ (∀ k, S k = true ↔ k ∈ ns) ∧ Q (.int ns.length) H
theorem cr_slen : CallR X (.builtin "len") (rSLen X.w) := by
  intro pins s σ H vs us Q I r h
  obtain ⟨a, S, n, ns, rfl, ha, nd, mem, q⟩ := h
  rw [Vals.ref1 r]
  obtain ⟨ob, es, ep, t, ho, hex, hd, _, nd2, m2, hb, hf, hn, _⟩ := setO_get I ha
  have e : (es.toList.map L2.keyOf).length = ns.length := Nat.le_antisymm (nd_le nd2 fun x hx => (mem x).mp ((m2 x).mpr hx)) (nd_le nd fun x hx => (m2 x).mp ((mem x).mpr hx))
  rw [List.length_map, Array.length_toList] at e
  have hz : scanBound = 4096 := rfl
  exact call_len_set ho hex hd hf (by omega) ⟨.int ns.length, H, I.tok _, ⟨_, by rw [e]⟩, q⟩
theorem tyx_T {K : PySem.W.Frag} {H : Hp} {a : Addr} {xs : List V} (h : SqT K H a xs) : TyX K H (.ref a) (.type "tuple") := by
  rcases h with (h | ⟨o, h⟩) | ⟨o, _, _, h1, h2, _⟩
  · exact .base (.tup h)
  · exact .fTuple h
  · exact .kTuple h1 h2
end
end NS
end
section
set_option maxHeartbeats 4000000
/-! G1: still, then, undone, hall_led, pair_led, like -/
namespace NS
open PySem PySem.Spec PyProof.Rows L2 ZS
theorem scStill : FnScope ["halls"] ["halls"] (defScope sStill) := ⟨rfl, rfl, rfl, by decide +kernel, rfl, by decide +kernel, by decide +kernel⟩
theorem scThen : FnScope ["first", "second", "hall"] ["first", "second"] (defScope sThen) := ⟨rfl, rfl, rfl, by decide +kernel, rfl, by decide +kernel, by decide +kernel⟩
theorem scUndone : FnScope ["turn", "hall"] ["turn"] (defScope sUndone) := ⟨rfl, rfl, rfl, by decide +kernel, rfl, by decide +kernel, by decide +kernel⟩
theorem big : (1000000 : Nat) < sizeLine := by rw [sizeLine_eq]; decide
theorem TI.of {K : PySem.W.Frag} {H : Hp} {a : Addr} {k : List Int} (h : H a = some (.tup (k.map V.int))) : TI K H (.ref a) k := ⟨a, rfl, SqT.of h⟩
theorem rgV_idt (n : Nat) : rgV 0 n = (idt n).map V.int := by
  unfold rgV idt
  rw [List.map_map]
  have e : ((n : Int) - 0).toNat = n := by omega
  rw [e]
  refine List.map_congr_left fun i _ => ?_
  show V.int (0 + (i : Int)) = V.int (i : Int)
  rw [Int.zero_add]
def spStill : Sp := fun vs H Q _ => ∃ n : Nat, vs = [.int n] ∧ n ≤ 1000 ∧ ∀ v H', Kp H H' → PT H' v (idt n) → Q v H'
def spThen (K : PySem.W.Frag) : Sp := fun vs H Q _ => ∃ (u v : V) (a b : List Int), vs = [u, v] ∧ TI K H u a ∧ TI K H v b ∧ Low b.length a ∧ a.length ≤ 1000 ∧ ∀ r H', Kp H H' → PT H' r (comp a b) → Q r H'
def spUndone : Sp := fun vs H Q _ => ∃ (u : V) (a : List Int) (n : Nat), vs = [u] ∧ PT H u a ∧ IsT n a ∧ n ≤ 1000 ∧ ∀ r H', Kp H H' → PT H' r (inv a) → Q r H'
section
variable {P : Program} {w : World} {K : PySem.W.Frag} {mg : Str → Option Value} {base : Heap} {f : Addr} {fd : FuncData}
theorem has_then (F : FnP K "then" sThen f fd) (m : mg "then" = some (.ref f)) (B : Bl mg) : Has P w K mg base "then" 1 [] (spThen K) := by
  refine ⟨f, fd, ["first", "second"], [], m, F.kp, F.bindsN (fun _ _ _ _ _ _ us hl => match us, hl with | [_, _], _ => rfl), .nil, ?_⟩
  refine F.ok scThen (fun vs H Q E h => ?_) (fun cdv A outer s H vs Q E hr h => ⟨_, PSs.nox (pss_one (ps_ret (pe_callTy cr_tupP rfl B.tuple PyProof.Rows.boot_tuple (pa_cons
    (pe_lc (own := [("hall", 2)]) (g := gName 2) (tt := tYes) rfl scThen.nd (pi_tup (pv 0)) (blkOk_by (N := ["first", "second", "hall"]) (sc := defScope sThen) (by decide +kernel))
      (fun _ _ _ _ _ => pg_name (i := 2) scThen.nd rfl (Or.inl rfl)) (fun _ _ _ _ _ => pts_nil) (fun _ _ _ _ _ => pe_ix (r := rIxT K) ix_tup (pv 1) (pv 2) (fun _ _ => rfl))) pa_nil)))), ?_⟩)
  · obtain ⟨u, v, a, b, rfl, _⟩ := h
    rfl
  · obtain ⟨u, v, a, b, rfl, ⟨pa, rfl, ha⟩, ⟨pb, rfl, hb⟩, lo, hz, q⟩ := h
    refine ⟨_, rfl, pa, rfl, ⟨_, ha⟩, fun D hD => ?_⟩
    refine lcF (Wlk.tup ha) hD (by rw [List.length_map]; have := big; omega) (fun i y _ => y = .int ((comp a b).getD i 0)) (fun _ _ _ _ _ h => h) (fun i x H' Q1 hi z hx q1 => ?_) (fun x H' Q Q' h q => h _ _ q) (fun ys H' z hD' hp => ?_)
    · obtain ⟨k, e, rfl⟩ := map_some hx
      obtain ⟨h0, h1⟩ := lo k (List.mem_of_getElem? e)
      refine ⟨rfl, _, rfl, _, rfl, pb, _, k, _, rfl, rfl, z.sqT hb, at_ints h0 h1, q1 _ _ (Kp.refl _) ?_⟩
      rw [comp_at e]
    · rw [List.length_map] at hp
      refine ⟨D, _, rfl, SqL.of hD', fun l o hl ho => ?_⟩
      rw [paired_ints (comp_len a b) hp]
      exact q _ _ (z.new hl) (.of upd_same ho)
theorem has_still (F : FnP K "still" sStill f fd) (m : mg "still" = some (.ref f)) (B : Bl mg) : Has P w K mg base "still" 1 [] spStill := by
  refine ⟨f, fd, ["halls"], [], m, F.kp, F.bindsN (fun _ _ _ _ _ _ us hl => match us, hl with | [_], _ => rfl), .nil, ?_⟩
  refine F.ok scStill (fun vs H Q E h => ?_) (fun cdv A outer s H vs Q E hr h => ⟨_, PSs.nox (pss_one (ps_ret (pe_tupRgP rfl rfl B.tuple (prg_1 rfl B.range (pv 0))))), ?_⟩)
  · obtain ⟨n, rfl, _⟩ := h
    rfl
  · obtain ⟨n, rfl, hn, q⟩ := h
    refine ⟨_, rfl, _, rfl, RgOk.of_le (by decide) (by omega) (by decide) (by omega), fun p o hp ho => q _ _ ((Kp.refl _).new hp) (.of ?_ ho)⟩
    rw [upd_same, rgV_idt]
theorem has_undone (F : FnP K "undone" sUndone f fd) (m : mg "undone" = some (.ref f)) (B : Bl mg) : Has P w K mg base "undone" 1 [] spUndone := by
  refine ⟨f, fd, ["turn"], [], m, F.kp, F.bindsN (fun _ _ _ _ _ _ us hl => match us, hl with | [_], _ => rfl), .nil, ?_⟩
  refine F.ok scUndone (fun vs H Q E h => ?_) (fun cdv A outer s H vs Q E hr h => ⟨_, PSs.nox (pss_one (ps_ret (pe_callTy cr_tupP rfl B.tuple PyProof.Rows.boot_tuple (pa_cons
    (pe_lc (own := [("hall", 1)]) (g := gName 1) (tt := tYes) rfl scUndone.nd (pi_range1 rfl B.range (pa_cons (pe_callB call_len_seq rfl B.len PySem.boot_len (pa_cons (pv 0) pa_nil)) pa_nil))
      (blkOk_by (N := ["turn", "hall"]) (sc := defScope sUndone) (by decide +kernel))
      (fun _ _ _ _ _ => pg_name (i := 1) scUndone.nd rfl (Or.inl rfl)) (fun _ _ _ _ _ => pts_nil) (fun _ _ _ _ _ => pe_tindex (pv 0) (pa_cons (pv 1) pa_nil))) pa_nil)))), ?_⟩)
  · obtain ⟨u, a, n, rfl, _⟩ := h
    rfl
  · obtain ⟨u, a, n, rfl, hp, ht, hn, q⟩ := h
    obtain ⟨pa, o, rfl, ha, hd⟩ := id hp
    have hl : (a.map V.int).length = n := by rw [List.length_map, ht.len]
    have hT : SqT K H pa (a.map V.int) := .inl (.inr ⟨o, ha⟩)
    refine ⟨_, rfl, pa, _, rfl, .inr hT, ((a.map V.int).length : Nat), rfl, by omega, by omega, fun D hD => ?_⟩
    rw [hl]
    show ∃ W, _
    refine lcF (J := Itr 0 n) (Wlk.rng 0 n) hD (by have := big; omega) (fun i y _ => y = .int ((inv a).getD i 0)) (fun _ _ _ _ _ h => h) (fun i x H' Q1 hi z hx q1 => ?_) (fun x H' Q Q' h q => h _ _ q) (fun ys H' z hD' hp => ?_)
    · subst hx
      refine ⟨rfl, _, rfl, a, z.pt hp, _, rfl, (i : Int), a.idxOf (i : Int), ?_, z.pt hp, ?_, ?_, q1 _ _ (Kp.refl _) ?_⟩
      · rw [Int.zero_add]
      · obtain ⟨h1, h2⟩ := idx_of ht hi
        rw [get_some (by rw [ht.len]; exact h1) 0, (ht.getD h1).1, h2]
      · intro m hm e
        obtain ⟨h1, h2⟩ := idx_of ht hi
        have e2 := getD_of (d := 0) e
        have hm' : m < n := by omega
        have := ht.inj hm' h1 (by rw [h2]; unfold at'; rw [e2]; rfl)
        omega
      · rw [inv_at (by rw [ht.len]; exact hi)]
    · refine ⟨D, _, rfl, SqL.of hD', fun l o hl ho => ?_⟩
      rw [paired_ints (by rw [inv_len, ht.len]) hp]
      exact q _ _ (z.new hl) (.of upd_same ho)
end
end NS
end
section
set_option maxHeartbeats 4000000
/-! C1: checks, where all is as it should be -/
namespace NS
open PySem PySem.Spec PyProof.Rows L2 ZS
theorem scNumber : FnScope ["value", "least", "most"] ["value", "least", "most"] (defScope sNumber) := ⟨rfl, rfl, rfl, by decide +kernel, rfl, by decide +kernel, by decide +kernel⟩
theorem scIsTurn : FnScope ["halls", "value"] ["halls", "value"] (defScope sIsTurn) := ⟨rfl, rfl, rfl, by decide +kernel, rfl, by decide +kernel, by decide +kernel⟩
theorem scAreTurns : FnScope ["halls", "value"] ["halls", "value"] (defScope sAreTurns) := ⟨rfl, rfl, rfl, by decide +kernel, rfl, by decide +kernel, by decide +kernel⟩
theorem scFault : FnScope ["value", "halls", "turns"] ["value"] (defScope sFault) := ⟨rfl, rfl, rfl, by decide +kernel, rfl, by decide +kernel, by decide +kernel⟩
theorem scCheckHouse : FnScope ["house", "fault"] ["house"] (defScope sCheckHouse) := ⟨rfl, rfl, rfl, by decide +kernel, rfl, by decide +kernel, by decide +kernel⟩
/-- v is a tuple of plain tuples -/
def PTS (K : PySem.W.Frag) (H : Hp) (v : V) (ts : List (List Int)) : Prop := ∃ b xs, v = .ref b ∧ SqT K H b xs ∧ Paired (PT H) xs ts
/-- v is a house of n halls and these turns -/
def HouseAt (K : PySem.W.Frag) (H : Hp) (v : V) (n : Nat) (ts : List (List Int)) : Prop := ∃ a tv, v = .ref a ∧ SqT K H a [.int n, tv] ∧ PTS K H tv ts
structure IsH (n : Nat) (ts : List (List Int)) : Prop where
  n1 : 1 ≤ n
  n8 : n ≤ 8
  t1 : 1 ≤ ts.length
  t6 : ts.length ≤ 6
  is : ∀ t ∈ ts, IsT n t
theorem Kp.pts {K : PySem.W.Frag} {H H' : Hp} (z : Kp H H') {v : V} {ts : List (List Int)} (h : PTS K H v ts) : PTS K H' v ts := let ⟨b, xs, e, s, p⟩ := h; ⟨b, xs, e, z.sqT s, p.mono fun _ _ q => z.pt q⟩
theorem Kp.house {K : PySem.W.Frag} {H H' : Hp} (z : Kp H H') {v : V} {n : Nat} {ts : List (List Int)} (h : HouseAt K H v n ts) : HouseAt K H' v n ts := let ⟨a, tv, e, s, p⟩ := h; ⟨a, tv, e, z.sqT s, z.pts p⟩
theorem free1 {names : List (Str × NameKind)} {cells : List (Str × Addr)} {x : Str} {c : Addr} (h : (names.all fun y => decide (y.2 = .free → y.1 = x)) = true) (hc : cells.lookup x = some c) : ∀ y ∈ names, y.2 = .free → ∃ c, cells.lookup y.1 = some c := fun y hy e => by
  have := of_decide_eq_true (List.all_eq_true.mp h y hy) e
  exact ⟨c, by rw [this]; exact hc⟩
theorem cap1 {N : List Str} {names : List (Str × NameKind)} {kd : Str → Option NameKind} {x : Str} {i : Nat} (h1 : N[i]? = some x) (h2 : names.lookup x = some .free) (h3 : kd x = some .cell ∨ kd x = some .free) :
    ∀ p ∈ [(x, i)], N[p.2]? = some p.1 ∧ names.lookup p.1 = some .free ∧ (kd p.1 = some .cell ∨ kd p.1 = some .free) := fun p hp => by
  rw [List.mem_singleton.mp hp]
  exact ⟨h1, h2, h3⟩
section
variable {P : Program} {w : World} {K : PySem.W.Frag} {mg : Str → Option Value} {base : Heap} {f : Addr} {fd : FuncData}
end
end NS
end
section
set_option maxHeartbeats 4000000
/-! X0: defs that may raise -/
namespace NS
open PySem PySem.Spec PyProof.Rows L2 ZS
/-- a def that may raise -/
structure HasX (P : Program) (w : World) (K : PySem.W.Frag) (mg : Str → Option Value) (base : Heap) (x : Str) (k : Nat) (sp : Sp) : Prop where
  ex : ∃ (f : Addr) (fd : FuncData) (ps : List Str), mg x = some (.ref f) ∧ PySem.W.keepIn K (.ref f) = true ∧ Binds K fd ps [] ∧ FnOk P w K mg base (L2.CX P w) k f fd ps sp
section
variable {X : Cx} {k j : Nat} {sp : Sp} {x : Str} {p pos : Pos} {e : Expr} {es : List Expr} {t : TA} {W : WX}
theorem pe_hasX (h : HasX X.prog X.w X.K X.mg X.base x j sp) (hr : Room k X.A) (hk : j ≤ k) (tk : Takes X W) (ha : PA X (e :: es) t) (hg : Gl X x := by rfl)
    (hdb : (x == ("__debug__" : Str)) = false := by decide) (he : starEach (e :: es) X.env = (false, eval e X.env) :: starEach es X.env := by rfl) (hpl : (backTo pos (starEach es X.env)).any (·.1) = false := by rfl) :
    PE X (.Call (.Name x p) (e :: es) [] pos) (tCallS sp (WE W) t) := by
  obtain ⟨f, fd, ps, h1, h2, h3, h5⟩ := h.ex
  exact pe_callS h5 (hr.mono hk) hg h1 h2 h3 (fun σ => passAt tk σ) ha hdb he hpl
end
section
variable {P : Program} {w : World} {K : PySem.W.Frag} {mg : Str → Option Value} {base : Heap} {x : Str} {k : Nat} {sp : Sp}
/-- where it raises nothing -/
theorem HasX.no (h : HasX P w K mg base x k sp) : Has P w K mg base x k [] (fun vs H Q _ => sp vs H Q fun _ _ _ => False) := by
  obtain ⟨f, fd, ps, h1, h2, h3, h5⟩ := h.ex
  refine ⟨f, fd, ps, [], h1, h2, h3, .nil, ⟨fun vs H Q E => h5.len vs H Q _, fun A outer s H args us vs Q E hr he hb hv hs => ?_⟩⟩
  refine codeAny_mono (h5.run A outer s H args us vs Q (fun _ _ _ => False) hr he hb hv hs) fun r s' hq => ?_
  cases r with
  | ok fl =>
    cases fl with
    | ret u => exact hq
    | next => exact hq
    | brk => exact hq
    | cont => exact hq
  | error e =>
    obtain ⟨a, B, H', cls, d, _, _, _, _, _, _, _, f⟩ := hq
    exact f.elim
theorem HasX.imp {sp' : Sp} (h : HasX P w K mg base x k sp) (q : ∀ vs H Q E, sp' vs H Q E → sp vs H Q E) : HasX P w K mg base x k sp' := by
  obtain ⟨g, fd, ps, h1, h2, h3, h5⟩ := h.ex
  exact ⟨g, fd, ps, h1, h2, h3, h5.imp q⟩
end
def veB : List Value := [.type "ValueError", .type "Exception", .type "BaseException", .type "object"]
/-- a class of errors of the program, without an __init__ of its own -/
structure ExcC (K : PySem.W.Frag) (mg : Str → Option Value) (x : Str) (C : Addr) : Prop where
  g : mg x = some (.ref C)
  x : PySem.W.excIn K C veB "ValueError.__new__" = true
  k : PySem.W.keepIn K (.ref C) = true
  b : PySem.W.subIn K (.ref C) (.type "BaseException") = some true
  t : PySem.W.typeIn K (.ref C) = some (.type "type")
  m : PySem.W.exmOne K (.ref C) (.ref C) = some true
section
variable {X : Cx} {C : Addr} {bmB : List Value} {B newId initId : String} {W : WX} {x : Str} {p pos pos' : Pos}
/-- X() -/
theorem pmk_own0 (F : ExcBaseFacts B newId initId bmB) (q : PySem.W.excIn X.K C bmB newId = true) (gC : X.mg x = some (.ref C)) (kC : PySem.W.keepIn X.K (.ref C) = true) (r : Raises X (.ref C)) (hg : Gl X x)
    (hdb : (x == ("__debug__" : Str)) = false := by decide) : PMk X (.Call (.Name x p) [] [] pos) (fun _ H Q => Q (.ref C) none H) := by
  intro pins s σ H Q I h
  refine wpAny_Call_Name_kw (ld_glob I hg gC ?_ hdb)
  refine PySem.W.callWith_K0 I.kIn kC ?_
  obtain ⟨bm, N, nm, qn, bs, hdct, sn, sub, ab, col, dd, k0, k1, k2, k3, k5, mN, hC, hN, hni, T⟩ := exc_obj I.kIn q
  refine wpAny_call_exc_subT F T hC hN hni (fun h' e hm => ?_) (by show 0 ≤ sizeLine; rw [sizeLine_eq]; omega)
  exact mk_of I hm r h (I.hok.gone hm.new)
theorem ps_raise0 (T : ExcC X.K X.mg x C) (tk : Takes X W) (hc : X.calm = true := by rfl) (hg : Gl X x := by rfl) (hdb : (x == ("__debug__" : Str)) = false := by decide) :
    PS X (.Raise (some (.Call (.Name x p) [] [] pos)) none pos') (fun _ σ H => W (.ref C) none σ H) :=
  ps_raise hc tk (pmk_own0 PySem.F.excBase_ValueError T.x T.g T.k (raises_own T.b T.t) hg hdb)
end
end NS
end
section
set_option maxHeartbeats 4000000
/-! N11: the checks of any value -/
namespace NS
open PySem PySem.Spec PyProof.Rows L2 ZS
theorem ddp : ∀ t : List Int, ∃ D : List Int, D.Nodup ∧ (∀ k, k ∈ D ↔ k ∈ t) ∧ D.length ≤ t.length ∧ (D.length = t.length ↔ t.Nodup)
  | [] => ⟨[], .nil, fun _ => Iff.rfl, Nat.le_refl _, ⟨fun _ => .nil, fun _ => rfl⟩⟩
  | x :: t => by
    obtain ⟨D, nd, mem, le, iff⟩ := ddp t
    by_cases hx : x ∈ D
    · refine ⟨D, nd, fun k => ?_, by rw [List.length_cons]; omega, ⟨fun e => ?_, fun e => ?_⟩⟩
      · rw [mem, List.mem_cons]
        exact ⟨.inr, fun h => h.elim (fun e => by rw [e]; exact (mem x).mp hx) id⟩
      · rw [List.length_cons] at e
        omega
      · exact absurd ((mem x).mp hx) (List.nodup_cons.mp e).1
    · refine ⟨x :: D, List.nodup_cons.mpr ⟨hx, nd⟩, fun k => ?_, by simp only [List.length_cons]; omega, ?_⟩
      · rw [List.mem_cons, List.mem_cons, mem]
      · rw [List.nodup_cons, ← iff]
        simp only [List.length_cons]
        exact ⟨fun e => ⟨fun h => hx ((mem x).mpr h), by omega⟩, fun ⟨_, e⟩ => by omega⟩
/-- x isn't of this class, whatever comes -/
def NotTy (K : PySem.W.Frag) (H : Hp) (x : V) (T : String) : Prop := ∃ t : String, (∀ H', Kp H H' → TyX K H' x (.type t)) ∧ kitB t T = some false
theorem NotTy.kp {K : PySem.W.Frag} {H H' : Hp} (z : Kp H H') {x : V} {T : String} (h : NotTy K H x T) : NotTy K H' x T := let ⟨t, h, k⟩ := h; ⟨t, fun H2 z2 => h H2 (z.trans z2), k⟩
/-- whether x is a number from lo to hi -/
def NumX (K : PySem.W.Frag) (H : Hp) (lo hi : Int) (x : V) (b : Bool) : Prop := (∃ i : Int, x = .int i ∧ b = decide (lo ≤ i ∧ i ≤ hi)) ∨ ((∃ c, x = .bl c) ∨ NotTy K H x "int") ∧ b = false
theorem NumX.kp {K : PySem.W.Frag} {H H' : Hp} (z : Kp H H') {lo hi : Int} {x : V} {b : Bool} (h : NumX K H lo hi x b) : NumX K H' lo hi x b :=
  h.elim .inl fun h => .inr ⟨h.1.elim .inl fun q => .inr (q.kp z), h.2⟩
/-- whether x is a turn of n halls -/
def TurnX (K : PySem.W.Frag) (H : Hp) (n : Nat) (x : V) (b : Bool) : Prop :=
  (NotTy K H x "tuple" ∧ b = false) ∨ (∃ a xs, x = .ref a ∧ SqT K H a xs ∧ xs.length ≠ n ∧ b = false) ∨
  (∃ a xs bs, x = .ref a ∧ SqT K H a xs ∧ xs.length = n ∧ Paired (NumX K H 0 ((n : Int) - 1)) xs bs ∧ false ∈ bs ∧ b = false) ∨
  (∃ (a : Addr) (t : List Int), x = .ref a ∧ SqT K H a (t.map V.int) ∧ t.length = n ∧ n ≤ 1000 ∧ (∀ k ∈ t, 0 ≤ k ∧ k < (n : Int)) ∧ b = decide t.Nodup)
theorem TurnX.kp {K : PySem.W.Frag} {H H' : Hp} (z : Kp H H') {n : Nat} {x : V} {b : Bool} (h : TurnX K H n x b) : TurnX K H' n x b := by
  rcases h with ⟨h, e⟩ | ⟨a, xs, e, h, l⟩ | ⟨a, xs, bs, e, h, l, p, q⟩ | ⟨a, t, e, h, q⟩
  · exact .inl ⟨h.kp z, e⟩
  · exact .inr (.inl ⟨a, xs, e, z.sqT h, l⟩)
  · exact .inr (.inr (.inl ⟨a, xs, bs, e, z.sqT h, l, p.mono fun _ _ q => q.kp z, q⟩))
  · exact .inr (.inr (.inr ⟨a, t, e, z.sqT h, q⟩))
/-- whether x is some turns of n halls -/
def TurnsX (K : PySem.W.Frag) (H : Hp) (n : Nat) (x : V) (b : Bool) : Prop :=
  (NotTy K H x "tuple" ∧ b = false) ∨ (∃ a xs, x = .ref a ∧ SqT K H a xs ∧ (xs.length = 0 ∨ 6 < xs.length) ∧ b = false) ∨
  (∃ a xs bs, x = .ref a ∧ SqT K H a xs ∧ 1 ≤ xs.length ∧ xs.length ≤ 6 ∧ Paired (TurnX K H n) xs bs ∧ b = bs.all id)
theorem TurnsX.kp {K : PySem.W.Frag} {H H' : Hp} (z : Kp H H') {n : Nat} {x : V} {b : Bool} (h : TurnsX K H n x b) : TurnsX K H' n x b := by
  rcases h with ⟨h, e⟩ | ⟨a, xs, e, h, l⟩ | ⟨a, xs, bs, e, h, l, l', p, q⟩
  · exact .inl ⟨h.kp z, e⟩
  · exact .inr (.inl ⟨a, xs, e, z.sqT h, l⟩)
  · exact .inr (.inr ⟨a, xs, bs, e, z.sqT h, l, l', p.mono fun _ _ q => q.kp z, q⟩)
/-- what is wrong with x as a house -/
def FaultX (K : PySem.W.Frag) (H : Hp) (x r : V) : Prop :=
  (NotTy K H x "tuple" ∧ r = .str "whole") ∨ (∃ a xs, x = .ref a ∧ SqT K H a xs ∧ xs.length ≠ 2 ∧ r = .str "whole") ∨
  (∃ a y tv, x = .ref a ∧ SqT K H a [y, tv] ∧ NumX K H 1 8 y false ∧ r = .str "halls") ∨
  (∃ (a : Addr) (n : Nat) (tv : V) (b : Bool), x = .ref a ∧ SqT K H a [.int n, tv] ∧ 1 ≤ n ∧ n ≤ 8 ∧ TurnsX K H n tv b ∧ r = if b then .non else .str "turns")
theorem FaultX.kp {K : PySem.W.Frag} {H H' : Hp} (z : Kp H H') {x r : V} (h : FaultX K H x r) : FaultX K H' x r := by
  rcases h with ⟨h, e⟩ | ⟨a, xs, e, h, l⟩ | ⟨a, y, tv, e, h, l, q⟩ | ⟨a, n, tv, b, e, h, n1, n8, q, er⟩
  · exact .inl ⟨h.kp z, e⟩
  · exact .inr (.inl ⟨a, xs, e, z.sqT h, l⟩)
  · exact .inr (.inr (.inl ⟨a, y, tv, e, z.sqT h, l.kp z, q⟩))
  · exact .inr (.inr (.inr ⟨a, n, tv, b, e, z.sqT h, n1, n8, q.kp z, er⟩))
def spNumX (K : PySem.W.Frag) : Sp := fun vs H Q _ => ∃ (x : V) (lo hi : Int) (b : Bool), vs = [x, .int lo, .int hi] ∧ NumX K H lo hi x b ∧ Q (.bl b) H
def spTurnX (K : PySem.W.Frag) (P : Addr) : Sp := fun vs H Q _ => ∃ (n : Nat) (x : V) (b : Bool), vs = [.int n, x] ∧ TurnX K H n x b ∧ GxR.TabG H P ∧ ∀ H', Kp H H' → Q (.bl b) H'
def spTurnsX (K : PySem.W.Frag) (P P2 : Addr) : Sp := fun vs H Q _ => ∃ (n : Nat) (x : V) (b : Bool), vs = [.int n, x] ∧ TurnsX K H n x b ∧ GxR.TabG H P ∧ GxR.TabG H P2 ∧ ∀ H', Kp H H' → Q (.bl b) H'
def spFaultX (K : PySem.W.Frag) (P P2 : Addr) : Sp := fun vs H Q _ => ∃ x r : V, vs = [x] ∧ FaultX K H x r ∧ GxR.TabG H P ∧ GxR.TabG H P2 ∧ ∀ H', Kp H H' → Q r H'
section
variable {P : Program} {w : World} {K : PySem.W.Frag} {mg : Str → Option Value} {base : Heap} {f : Addr} {fd : FuncData}
theorem has_numX (F : FnP K "is_number" sNumber f fd) (m : mg "is_number" = some (.ref f)) (B : Bl mg) : Has P w K mg base "is_number" 1 [] (spNumX K) := by
  refine ⟨f, fd, ["value", "least", "most"], [], m, F.kp, F.bindsN (fun _ _ _ _ _ _ us hl => match us, hl with | [_, _, _], _ => rfl), .nil, ?_⟩
  refine F.ok scNumber (fun vs H Q E h => ?_) (fun cdv A outer s H vs Q E hr h => ⟨_, PSs.nox (pss_one (ps_ret
    (pe_and (pe_callB call_isi rfl B.isinstance PyProof.Rows.boot_isinstance (pa_cons (pv 0) (pa_cons (pe_bltn (v := .ty "int") rfl B.int PyProof.Rows.boot_int rfl) pa_nil)))
    (pe_and (pe_not (pe_callB call_isi rfl B.isinstance PyProof.Rows.boot_isinstance (pa_cons (pv 0) (pa_cons (pe_bltn (v := .ty "bool") rfl B.bool PyProof.Rows.boot_bool rfl) pa_nil))))
    (pe_one (pe_chain op_le op_le (pv 1) (pv 0) (pv 2))))))), ?_⟩)
  · obtain ⟨x, lo, hi, b, rfl, _⟩ := h
    rfl
  · obtain ⟨x, lo, hi, b, rfl, ⟨i, rfl, rfl⟩ | ⟨⟨c, rfl⟩ | ⟨t, ty, k⟩, rfl⟩, q⟩ := h
    · refine ⟨_, rfl, _, _, _, _, true, rfl, .ty "int", .base (.int i), kit_ty (by decide +kernel), _, rfl, ?_⟩
      refine iteT (B := _) ⟨_, rfl, _, _, _, _, false, rfl, .ty "bool", .base (.int i), kit_ty (by decide +kernel), _, rfl, _, rfl, ?_⟩
      refine iteT (B := _) ⟨_, rfl, _, rfl, _, _, rfl, rfl, _, rfl, ?_⟩
      by_cases h1 : lo ≤ i
      · rw [if_pos (decide_eq_true h1)]
        refine ⟨_, rfl, _, _, rfl, rfl, ?_⟩
        have e : decide (lo ≤ i ∧ i ≤ hi) = decide (i ≤ hi) := by simp [h1]
        rw [e] at q
        exact q
      · rw [if_neg (by simp [h1])]
        have e : decide (lo ≤ i ∧ i ≤ hi) = false := by simp [h1]
        rw [← e]
        exact q
    · refine ⟨_, rfl, _, _, _, _, true, rfl, .ty "int", .base (.bl c), kit_ty (by decide +kernel), _, rfl, ?_⟩
      refine iteT (B := _) ⟨_, rfl, _, _, _, _, true, rfl, .ty "bool", .base (.bl c), kit_ty (by decide +kernel), _, rfl, _, rfl, ?_⟩
      exact iteF (A := _) q
    · refine ⟨_, rfl, _, _, _, _, false, rfl, .ty "int", ty H (Kp.refl H), kit_ty k, _, rfl, ?_⟩
      exact iteF (A := _) q
theorem has_turnX (F : FnP K "is_turn" sIsTurn f fd) (m : mg "is_turn" = some (.ref f)) (B : Bl mg) (hN : Has P w K mg base "is_number" 1 [] (spNumX K)) {c PT : Addr} (ec : fd.code = .ref c) (TB : GxR.TabB base mg c PT) : Has P w K mg base "is_turn" 3 [] (spTurnX K PT) := by
  refine ⟨f, fd, ["halls", "value"], [], m, F.kp, F.bindsN (fun _ _ _ _ _ _ us hl => match us, hl with | [_, _], _ => rfl), .nil, ?_⟩
  refine ok_code F scIsTurn (fun vs H Q E h => ?_) (fun cdv A outer s H vs Q E hcd hr h => ⟨_, PSs.nox (pss_cons (ps_if
      (PW.pt (pw_or (pt_not (pt_val (pe_callB call_isi rfl B.isinstance PyProof.Rows.boot_isinstance (pa_cons (pv 1) (pa_cons (pe_bltn (v := .ty "tuple") rfl B.tuple PyProof.Rows.boot_tuple rfl) pa_nil)))))
        (pw_or1 (pt_cmpR op_ne (pe_callB call_len_seq rfl B.len PySem.boot_len (pa_cons (pv 1) pa_nil)) (pv 0) (nomark _)))))
      (pss_one (ps_ret pe_bl)) pss_nil)
    (pss_one (ps_ret (pe_and (GA.pe_allG [("halls", 0)] hr rfl rfl B.all TB (hcd.trans ec) ⟨rfl, rfl, by decide +kernel, rfl, rfl, ?_⟩ (by decide +kernel) ?_ (pv 1) (fun C code A s H ex hr' => pe_has hN hr' (by decide) (pa_cons (pv 1) (pa_cons pe_int (pa_cons (pe_op op_sub (pv 2) pe_int) pa_nil)))))
      (pe_one (pe_cmpR op_eq (pe_callB cr_slen rfl B.len PySem.boot_len (pa_cons (pe_callTy (cr_isetOf rfl) rfl B.set PyProof.Rows.boot_set (pa_cons (pv 1) pa_nil)) pa_nil)) (pv 0) (nomark _))))))), ?_⟩)
  · obtain ⟨n, x, b, rfl, _⟩ := h
    rfl
  · exact free1 (x := "halls") (by decide +kernel) rfl
  · exact cap1 rfl rfl (.inl rfl)
  · obtain ⟨n, x, b, rfl, h, hG, q⟩ := h
    rcases h with ⟨⟨t, ty, k⟩, rfl⟩ | ⟨a, xs, rfl, hT, hl, rfl⟩ | ⟨a, xs, bs, rfl, hT, hl, hp, hf, rfl⟩ | ⟨a, t, rfl, hT, hl, hn, low, rfl⟩
    · refine ⟨_, rfl, _, _, _, _, false, rfl, .ty "tuple", ty H (Kp.refl H), kit_ty k, _, rfl, ?_⟩
      exact iteT (B := _) (ifT (A := _) (B := _) rfl (q H (Kp.refl H)))
    · refine ⟨_, rfl, _, _, _, _, true, rfl, .ty "tuple", tyx_T hT, kit_ty (by decide +kernel), _, rfl, ?_⟩
      refine iteF (A := _) ⟨_, rfl, a, _, rfl, .inr hT, _, rfl, rfl, _, rfl, ?_⟩
      exact ifT (A := _) (B := _) (by simp; omega) (q H (Kp.refl H))
    · refine ⟨_, rfl, _, _, _, _, true, rfl, .ty "tuple", tyx_T hT, kit_ty (by decide +kernel), _, rfl, ?_⟩
      refine iteF (A := _) ⟨_, rfl, a, _, rfl, .inr hT, _, rfl, rfl, _, rfl, ?_⟩
      rw [hl]
      refine ifF (A := _) (B := _) (by simp) ?_
      refine ⟨_, rfl, a, xs, rfl, hT, hG, fun i => bs.getD i true, fun i H' => Kp H H' ∧ ∀ j, j < i → bs.getD j true = true, fun H2 z => ⟨Kp.tab hG (by decide) z, fun j hj => absurd hj (Nat.not_lt_zero j)⟩, fun i H2 z => z.1.sqT hT, fun i v H2 it hv z => ?_, fun H2 z => ?_⟩
      · obtain ⟨b, hb, nx⟩ := pr_get hp hv
        have eb : bs.getD i true = b := by rw [List.getD_eq_getElem?_getD, hb]; rfl
        refine ⟨_, rfl, _, rfl, _, _, rfl, rfl, v, 0, (n : Int) - 1, b, rfl, nx.kp z.1, by show V.bl b = V.bl (bs.getD i true); rw [eb], fun e => ⟨z.1, fun j hj => ?_⟩, fun e => ⟨false, rfl, iteF (A := _) (q H2 z.1)⟩⟩
        rcases Nat.lt_succ_iff_lt_or_eq.mp hj with h | h
        · exact z.2 j h
        · rw [h]
          exact e
      · obtain ⟨j, hj⟩ := List.getElem?_of_mem hf
        have hj2 := (List.getElem?_eq_some_iff.mp hj).1
        have := z.2 j (by rw [hp.length]; exact hj2)
        rw [List.getD_eq_getElem?_getD, hj] at this
        cases this
    · have hl' : (t.map V.int).length = n := by rw [List.length_map, hl]
      refine ⟨_, rfl, _, _, _, _, true, rfl, .ty "tuple", tyx_T hT, kit_ty (by decide +kernel), _, rfl, ?_⟩
      refine iteF (A := _) ⟨_, rfl, a, _, rfl, .inr hT, _, rfl, rfl, _, rfl, ?_⟩
      rw [hl']
      refine ifF (A := _) (B := _) (by simp) ?_
      refine ⟨_, rfl, a, t.map V.int, rfl, hT, hG, fun _ => true, fun _ H' => Kp H H', fun H2 z => Kp.tab hG (by decide) z, fun i H2 z => z.sqT hT, fun i v H2 it hv z => ?_, fun H2 z => ⟨true, rfl, iteT (B := _) ?_⟩⟩
      · obtain ⟨k, hk, rfl⟩ := map_some hv
        have := low k (List.mem_of_getElem? hk)
        refine ⟨_, rfl, _, rfl, _, _, rfl, rfl, _, 0, (n : Int) - 1, true, rfl, .inl ⟨k, rfl, (decide_eq_true (by omega)).symm⟩, rfl, fun _ => z, fun e => by cases e⟩
      · refine ⟨_, rfl, a, t, rfl, .inr (z.sqT hT), by have : scanBound = 4096 := rfl; omega, fun b m hb hm => ?_⟩
        obtain ⟨D, nd, mem, le, iff⟩ := ddp t
        refine ⟨b, _, m, D, rfl, upd_same, nd, fun k => by simp [mem], _, rfl, rfl, ?_⟩
        have e : decide (V.int (D.length : Int) = V.int (n : Int)) = decide t.Nodup := decide_eq_decide.mpr ⟨fun e => iff.mp (by injection e with e; omega), fun e => by rw [iff.mpr e, hl]⟩
        show Q (.bl (decide (V.int (D.length : Int) = V.int (n : Int)))) _
        rw [e]
        exact q _ (z.new hb)
theorem has_turnsX (F : FnP K "are_turns" sAreTurns f fd) (m : mg "are_turns" = some (.ref f)) (B : Bl mg) (m6 : ∃ t, mg "MOST_TURNS" = some (.int 6 t)) {pT c PA : Addr} (hN : Has P w K mg base "is_turn" 3 [] (spTurnX K pT)) (ec : fd.code = .ref c) (TB : GxR.TabB base mg c PA) : Has P w K mg base "are_turns" 5 [] (spTurnsX K pT PA) := by
  obtain ⟨t6, m6⟩ := m6
  refine ⟨f, fd, ["halls", "value"], [], m, F.kp, F.bindsN (fun _ _ _ _ _ _ us hl => match us, hl with | [_, _], _ => rfl), .nil, ?_⟩
  refine ok_code F scAreTurns (fun vs H Q E h => ?_) (fun cdv A outer s H vs Q E hcd hr h => ⟨_, PSs.nox (pss_cons (ps_if
      (PW.pt (pw_or (pt_not (pt_val (pe_callB call_isi rfl B.isinstance PyProof.Rows.boot_isinstance (pa_cons (pv 1) (pa_cons (pe_bltn (v := .ty "tuple") rfl B.tuple PyProof.Rows.boot_tuple rfl) pa_nil)))))
        (pw_or1 (pt_not (pt_chain op_le op_le pe_int (pe_callB call_len_seq rfl B.len PySem.boot_len (pa_cons (pv 1) pa_nil)) (pe_glob (v := .int 6) rfl m6 ⟨_, rfl⟩))))))
      (pss_one (ps_ret pe_bl)) pss_nil)
    (pss_one (ps_ret (GA.pe_allG [("halls", 0)] hr rfl rfl B.all TB (hcd.trans ec) ⟨rfl, rfl, by decide +kernel, rfl, rfl, ?_⟩ (by decide +kernel) ?_ (pv 1) (fun C code A s H ex hr' => pe_has hN hr' (by decide) (pa_cons (pv 2) (pa_cons (pv 1) pa_nil))))))), ?_⟩)
  · obtain ⟨n, x, b, rfl, _⟩ := h
    rfl
  · exact free1 (x := "halls") (by decide +kernel) rfl
  · exact cap1 rfl rfl (.inl rfl)
  · obtain ⟨n, x, b, rfl, h, gT, gA, q⟩ := h
    rcases h with ⟨⟨t, ty, k⟩, rfl⟩ | ⟨a, xs, rfl, hT, hl, rfl⟩ | ⟨a, xs, bs, rfl, hT, h1, h6, hp, rfl⟩
    · refine ⟨_, rfl, _, _, _, _, false, rfl, .ty "tuple", ty H (Kp.refl H), kit_ty k, _, rfl, ?_⟩
      exact iteT (B := _) (ifT (A := _) (B := _) rfl (q H (Kp.refl H)))
    · refine ⟨_, rfl, _, _, _, _, true, rfl, .ty "tuple", tyx_T hT, kit_ty (by decide +kernel), _, rfl, ?_⟩
      refine iteF (A := _) ⟨_, rfl, a, _, rfl, .inr hT, _, _, rfl, rfl, _, rfl, ?_⟩
      rcases hl with hl | hl
      · refine ifF (A := _) (B := _) (decide_eq_false (by omega)) ?_
        exact ⟨_, rfl, ifT (A := _) (B := _) rfl (q H (Kp.refl H))⟩
      · refine ifT (A := _) (B := _) (decide_eq_true (by omega)) ⟨_, _, rfl, rfl, _, rfl, ?_⟩
        exact ifT (A := _) (B := _) (by rw [decide_eq_false (by omega)]; rfl) (q H (Kp.refl H))
    · refine ⟨_, rfl, _, _, _, _, true, rfl, .ty "tuple", tyx_T hT, kit_ty (by decide +kernel), _, rfl, ?_⟩
      refine iteF (A := _) ⟨_, rfl, a, _, rfl, .inr hT, _, _, rfl, rfl, _, rfl, ifT (A := _) (B := _) (decide_eq_true (by omega)) ⟨_, _, rfl, rfl, _, rfl, ?_⟩⟩
      refine ifF (A := _) (B := _) (by rw [decide_eq_true (by omega)]; rfl) ?_
      refine ⟨_, rfl, a, xs, rfl, hT, gA, fun i => bs.getD i true, fun i H' => Kp H H' ∧ ∀ j, j < i → bs.getD j true = true, fun H2 z => ⟨Kp.tab gA (by decide) z, fun j hj => absurd hj (Nat.not_lt_zero j)⟩, fun i H2 z => z.1.sqT hT, fun i v H2 it hv z => ?_, fun H2 z => ?_⟩
      · obtain ⟨b, hb, nx⟩ := pr_get hp hv
        have eb : bs.getD i true = b := by rw [List.getD_eq_getElem?_getD, hb]; rfl
        refine ⟨_, rfl, _, rfl, n, v, b, rfl, nx.kp z.1, z.1.tabG gT, fun H3 z3 => ⟨by show V.bl b = V.bl (bs.getD i true); rw [eb], fun e => ⟨z.1.trans z3, fun j hj => ?_⟩, fun e => ?_⟩⟩
        · rcases Nat.lt_succ_iff_lt_or_eq.mp hj with h | h
          · exact z.2 j h
          · rw [h]
            exact e
        · have : bs.all id = false := by
            have e : bs.getD i true = false := e
            rw [eb] at e
            subst e
            exact List.all_eq_false.mpr ⟨false, List.mem_of_getElem? hb, by simp⟩
          rw [this] at q
          exact q H3 (z.1.trans z3)
      · have : bs.all id = true := List.all_eq_true.mpr fun b hb => by
          obtain ⟨j, hj⟩ := List.getElem?_of_mem hb
          have hj2 := (List.getElem?_eq_some_iff.mp hj).1
          have := z.2 j (by rw [hp.length]; exact hj2)
          rw [List.getD_eq_getElem?_getD, hj] at this
          exact this
        rw [this] at q
        exact q H2 z.1
theorem has_faultX (F : FnP K "house_fault" sFault f fd) (m : mg "house_fault" = some (.ref f)) (B : Bl mg) (m8 : ∃ t, mg "MOST_HALLS" = some (.int 8 t)) {pT PA : Addr} (hN : Has P w K mg base "is_number" 1 [] (spNumX K)) (hA : Has P w K mg base "are_turns" 5 [] (spTurnsX K pT PA)) :
    Has P w K mg base "house_fault" 6 [] (spFaultX K pT PA) := by
  obtain ⟨t8, m8⟩ := m8
  refine ⟨f, fd, ["value"], [], m, F.kp, F.bindsN (fun _ _ _ _ _ _ us hl => match us, hl with | [_], _ => rfl), .nil, ?_⟩
  refine F.ok scFault (fun vs H Q E h => ?_) (fun cdv A outer s H vs Q E hr h => ⟨_, PSs.nox (pss_cons (ps_if
      (PW.pt (pw_or (pt_not (pt_val (pe_callB call_isi rfl B.isinstance PyProof.Rows.boot_isinstance (pa_cons (pv 0) (pa_cons (pe_bltn (v := .ty "tuple") rfl B.tuple PyProof.Rows.boot_tuple rfl) pa_nil)))))
        (pw_or1 (pt_cmpR op_ne (pe_callB call_len_seq rfl B.len PySem.boot_len (pa_cons (pv 0) pa_nil)) pe_int (nomark _)))))
      (pss_one (ps_ret pe_str)) pss_nil)
    (pss_cons (ps_asg (pv 0) (pg_tup rfl (pgs_cons (pg_name (i := 1) scFault.nd rfl (Or.inl rfl)) (pgs_cons (pg_name (i := 2) scFault.nd rfl (Or.inl rfl)) pgs_nil))))
    (pss_cons (ps_if (pt_not (pt_val (pe_has hN hr (by decide) (pa_cons (pv 1) (pa_cons pe_int (pa_cons (pe_glob (v := .int 8) rfl m8 ⟨_, rfl⟩) pa_nil)))))) (pss_one (ps_ret pe_str)) pss_nil)
    (pss_cons (ps_if (pt_not (pt_val (pe_has hA hr (by decide) (pa_cons (pv 1) (pa_cons (pv 2) pa_nil))))) (pss_one (ps_ret pe_str)) pss_nil)
    (pss_one (ps_ret pe_non)))))), ?_⟩)
  · obtain ⟨x, r, rfl, _⟩ := h
    rfl
  · obtain ⟨x, r, rfl, h, gT, gA, q⟩ := h
    rcases h with ⟨⟨t, ty, k⟩, rfl⟩ | ⟨a, xs, rfl, hT, hl, rfl⟩ | ⟨a, y, tv, rfl, hT, hy, rfl⟩ | ⟨a, n, tv, b, rfl, hT, h1, h8, hp, rfl⟩
    · refine ⟨_, rfl, _, _, _, _, false, rfl, .ty "tuple", ty H (Kp.refl H), kit_ty k, _, rfl, ?_⟩
      exact iteT (B := _) (ifT (A := _) (B := _) rfl (q H (Kp.refl H)))
    · refine ⟨_, rfl, _, _, _, _, true, rfl, .ty "tuple", tyx_T hT, kit_ty (by decide +kernel), _, rfl, ?_⟩
      refine iteF (A := _) ⟨_, rfl, a, _, rfl, .inr hT, rfl, _, rfl, ifT (A := _) (B := _) (by simp; omega) (q H (Kp.refl H))⟩
    · refine ⟨_, rfl, _, _, _, _, true, rfl, .ty "tuple", tyx_T hT, kit_ty (by decide +kernel), _, rfl, ?_⟩
      refine iteF (A := _) ⟨_, rfl, a, _, rfl, .inr hT, rfl, _, rfl, ifF (A := _) (B := _) (by show (!decide (V.int (2 : Int) = V.int 2)) = false; decide +kernel) ?_⟩
      refine ⟨_, rfl, a, _, rfl, hT, rfl, _, _, rfl, _, _, rfl, rfl, ?_⟩
      exact ⟨_, rfl, y, 1, 8, false, rfl, hy, _, rfl, ifT (A := _) (B := _) rfl (q H (Kp.refl H))⟩
    · refine ⟨_, rfl, _, _, _, _, true, rfl, .ty "tuple", tyx_T hT, kit_ty (by decide +kernel), _, rfl, ?_⟩
      refine iteF (A := _) ⟨_, rfl, a, _, rfl, .inr hT, rfl, _, rfl, ifF (A := _) (B := _) (by show (!decide (V.int (2 : Int) = V.int 2)) = false; decide +kernel) ?_⟩
      refine ⟨_, rfl, a, _, rfl, hT, rfl, _, _, rfl, _, _, rfl, rfl, ?_⟩
      refine ⟨_, rfl, .int n, 1, 8, true, rfl, .inl ⟨n, rfl, (decide_eq_true (by omega)).symm⟩, _, rfl, ifF (A := _) (B := _) rfl ?_⟩
      refine ⟨_, rfl, _, rfl, n, tv, b, rfl, hp, gT, gA, fun H' z => ?_⟩
      cases b with
      | true => exact ⟨_, rfl, ifF (A := _) (B := _) rfl (q H' z)⟩
      | false => exact ⟨_, rfl, ifT (A := _) (B := _) rfl (q H' z)⟩
/-- a house has no fault -/
theorem faultX_house {H : Hp} {v : V} {n : Nat} {ts : List (List Int)} (hv : HouseAt K H v n ts) (hi : IsH n ts) : FaultX K H v .non := by
  obtain ⟨a, tv, rfl, hT, b, xs, rfl, hT2, hp⟩ := hv
  have n8 := hi.n8
  refine .inr (.inr (.inr ⟨a, n, _, true, rfl, hT, hi.n1, hi.n8, .inr (.inr ⟨b, xs, ts.map fun _ => true, rfl, hT2, by rw [hp.length]; exact hi.t1, by rw [hp.length]; exact hi.t6, ?_, ?_⟩), rfl⟩))
  · have go : ∀ {xs : List V} {ts : List (List Int)}, Paired (PT H) xs ts → (∀ t ∈ ts, IsT n t) → Paired (TurnX K H n) xs (ts.map fun _ => true) := by
      intro xs ts hp
      induction hp with
      | nil => intro _; exact .nil
      | cons p _ ih =>
        rename_i x t xs ts hh
        intro hi
        have it := hi _ List.mem_cons_self
        obtain ⟨c, o, rfl, hc, _⟩ := p
        exact .cons (.inr (.inr (.inr ⟨c, _, rfl, .inl (.inr ⟨o, hc⟩), it.len, by omega, it.low, (decide_eq_true it.nd).symm⟩))) (ih fun t h => hi t (List.mem_cons_of_mem _ h))
    exact go hp hi.is
  · exact (List.all_eq_true.mpr fun b hb => by
      obtain ⟨_, _, e⟩ := List.mem_map.mp hb
      rw [← e]
      rfl).symm
end
end NS
end
section
set_option maxHeartbeats 4000000
/-! E1: an error class of the program with a field, made by its own __init__ -/
namespace NS
open PySem PySem.Spec PyProof.Rows L2 ZS
theorem oexB_ok {K : PySem.W.Frag} {C : Addr} (q : oexB K C = true) : OexC K C := by
  unfold oexB at q
  simp only [Bool.and_eq_true, decide_eq_true_iff] at q
  obtain ⟨⟨⟨⟨q, sa⟩, ex⟩, ty⟩, kp⟩ := q
  refine ⟨?_, sa, ex, ty, kp⟩
  split at q
  · rename_i dd cd sl ho
    split at q
    · rename_i C' bm k0 k1 k2 k3 n k5 hm hs
      simp only [Bool.and_eq_true, beq_iff_eq, Bool.not_eq_true'] at q
      obtain ⟨⟨⟨⟨rfl, rfl⟩, hdel⟩, hd⟩, ht⟩ := q
      obtain ⟨nm, bs, mro, ns, qn, hd', sn, sub, ab, col, del⟩ := cd
      dsimp only at hm hdel hd
      subst hm hdel hd
      have hsl : sl = #[k0, k1, k2, k3, some (.builtin "ValueError.__new__"), k5] := by
        obtain ⟨l⟩ := sl
        simp only at hs
        rw [hs]
      subst hsl
      exact ⟨nm, qn, ns, bs, bm, sn, sub, ab, col, dd, k0, k1, k2, k3, k5, ho, ht⟩
    · cases q
  · cases q
/-- __init__ keeps one field -/
def spInit1 (f : Str) (C : Addr) : Sp := fun vs H Q _ => ∃ (a : Addr) (v : V), vs = [.ref a, v] ∧ H a = some (exo a C none) ∧ ∀ dx, H dx = none → dx ≠ a → Q .non (upd (upd H dx (exd dx [(f, v)])) a (exo a C (some dx)))
/-- a class of errors of the program that keeps one field -/
structure ErrF (P : Program) (w : World) (K : PySem.W.Frag) (mg : Str → Option Value) (base : Heap) (x f : Str) (C : Addr) : Prop where
  g : mg x = some (.ref C)
  o : OexC K C
  m : PySem.W.exmOne K (.ref C) (.ref C) = some true
  ini : ∃ (fI : Addr) (fd : FuncData) (ps : List Str), PySem.W.findIn K (.ref C) "__init__" = some (some (.ref fI)) ∧ PySem.W.typeIn K (.ref fI) = some (.type "function") ∧ Binds K fd ps [] ∧ FnOk P w K mg base CX0 1 fI fd ps (spInit1 f C)
section
variable {X : Cx} {C : Addr} {W : WX} {x f : Str} {e : Expr} {ta : TA} {p pos pos' : Pos} {k : Nat}
theorem upd_del {H : Hp} {a d : Addr} {u : HO} (ha : H a = none) (hd : d ≠ a) {o1 o2 o3 : HO} : upd (del (upd (upd (upd H a o1) d o2) a o3) a) d u = upd H d u := by
  funext b
  by_cases e1 : b = d
  · subst e1
    rw [upd_same, upd_same]
  · rw [upd_ne e1, upd_ne e1]
    by_cases e2 : b = a
    · subst e2
      rw [del_same, ha]
    · rw [del_ne e2, upd_ne e2, upd_ne e1, upd_ne e2]
theorem pmk_f (T : ErrF X.prog X.w X.K X.mg X.base x f C) (hr : Room (k + 2) X.A) (ha : PA X [e] ta) (hg : Gl X x := by rfl) (hdb : (x == ("__debug__" : Str)) = false := by decide) (he : starEach [e] X.env = (false, eval e X.env) :: starEach [] X.env := by rfl) (hpl : (backTo pos (starEach [] X.env)).any (·.1) = false := by rfl) :
    PMk X (.Call (.Name x p) [e] [] pos) (tMkO C (spInit1 f C) [] ta) := by
  obtain ⟨fI, fd, ps, iC, tI, hb, F1⟩ := T.ini
  exact pmk_oex T.o iC tI F1 (hr.mono (by omega)) hb .nil pass0 hg T.g ha hdb he hpl
/-- raise X(e) -/
theorem ps_raiseF (T : ErrF X.prog X.w X.K X.mg X.base x f C) (hr : Room (k + 2) X.A) (tk : Takes X W) (ha : PA X [e] ta) (hc : X.calm = true := by rfl) (hg : Gl X x := by rfl) (hdb : (x == ("__debug__" : Str)) = false := by decide) (he : starEach [e] X.env = (false, eval e X.env) :: starEach [] X.env := by rfl) (hpl : (backTo pos (starEach [] X.env)).any (·.1) = false := by rfl) :
    PS X (.Raise (some (.Call (.Name x p) [e] [] pos)) none pos') (fun _ σ H => tMkO C (spInit1 f C) [] ta σ H fun cls d H' => W cls d σ H') :=
  ps_raise hc tk (pmk_f T hr ha hg hdb he hpl)
/-- what is asked once the argument stands -/
theorem mkF {H1 : Hp} {v : V} {Q : XK} (q : ∀ d, H1 d = none → Q (.ref C) (some d) (upd H1 d (.xd [(f, v)]))) : [v].length ≤ 1000 ∧ ∀ a, H1 a = none → spInit1 f C (.ref a :: ([v] ++ [])) (upd H1 a (exo a C none))
    (fun u H2 => u = .non ∧ ∃ (d : Addr) (fs : List (Str × V)), H2 a = some (exo a C (some d)) ∧ H2 d = some (exd d fs) ∧ H1 d = none ∧ Q (.ref C) (some d) (upd (del H2 a) d (.xd fs))) (fun _ _ _ => False) := by
  refine ⟨by simp, fun a ha => ⟨a, v, rfl, upd_same, fun dx h1 ne => ⟨rfl, dx, [(f, v)], upd_same, ?_, ?_, ?_⟩⟩⟩
  · rw [upd_ne ne, upd_same]
  · rw [upd_ne ne] at h1
    exact h1
  · rw [upd_del ha ne]
    rw [upd_ne ne] at h1
    exact q dx h1
end
theorem scBadInit : FnScope ["self", "part"] ["self", "part"] (defScope sBadInit) := ⟨rfl, rfl, rfl, by decide +kernel, rfl, by decide +kernel, by decide +kernel⟩
section
variable {P : Program} {w : World} {K : PySem.W.Frag} {mg : Str → Option Value} {base : Heap} {fI C : Addr} {fd : FuncData}
theorem ok_badinit (F : FunD K "__init__" "BadHouse.__init__" (defArgs sBadInit) (defBody sBadInit) (defScope sBadInit) [] [] fI fd) (O : OexC K C) (no : PySem.W.findIn K (.ref C) "part" = some none) : FnOk P w K mg base CX0 1 fI fd ["self", "part"] (spInit1 "part" C) := by
  refine ok_code F scBadInit (fun vs H Q E h => ?_) (fun cdv A outer s H vs Q E hcd hr h => ⟨_, PSs.nox (pss_one (ps_ost (pv 0) (pv 1))), ?_⟩)
  · obtain ⟨a, v, rfl, _⟩ := h
    rfl
  · obtain ⟨a, v, rfl, ha, q⟩ := h
    exact ⟨_, rfl, _, rfl, a, C, rfl, O, no, .inl ⟨ha, fun dx h1 h2 => q dx h1 h2⟩⟩
end
end NS
end
section
set_option maxHeartbeats 4000000
/-! N13: check_house of any value -/
namespace NS
open PySem PySem.Spec PyProof.Rows L2 ZS
def spChkHouseX (K : PySem.W.Frag) (pT pA C : Addr) : Sp := fun vs H Q E => ∃ x r : V, vs = [x] ∧ FaultX K H x r ∧ GxR.TabG H pT ∧ GxR.TabG H pA ∧ (r = .non → ∀ H', Kp H H' → Q .non H') ∧ (r ≠ .non → ∀ d H', Kp H H' → H' d = none → E (.ref C) (some d) (upd H' d (.xd [("part", r)])))
section
variable {P : Program} {w : World} {K : PySem.W.Frag} {mg : Str → Option Value} {base : Heap} {f : Addr} {fd : FuncData} {pT pA C : Addr}
theorem has_chkhouseX (F : FnP K "check_house" sCheckHouse f fd) (m : mg "check_house" = some (.ref f)) (T : ErrF P w K mg base "BadHouse" "part" C) (hF : Has P w K mg base "house_fault" 6 [] (spFaultX K pT pA)) : HasX P w K mg base "check_house" 7 (spChkHouseX K pT pA C) := by
  refine ⟨f, fd, ["house"], m, F.kp, F.bindsN (fun _ _ _ _ _ _ us hl => match us, hl with | [_], _ => rfl), ?_⟩
  refine F.ok scCheckHouse (fun vs H Q E h => ?_) (fun cdv A outer s H vs Q E hr h => ⟨_,
    pss_cons (ps_set (i := 1) scCheckHouse.nd rfl (Or.inl rfl) (pe_has hF hr (by decide) (pa_cons (pv 0) pa_nil)))
    (pss_one (ps_if (pt_cmp (pc_notN (pv 1))) (pss_one (ps_raiseF (k := 4) T hr (takes_of rfl rfl rfl rfl) (pa_cons (pv 1) pa_nil))) pss_nil)), ?_⟩)
  · obtain ⟨x, r, rfl, _⟩ := h
    rfl
  · obtain ⟨x, r, rfl, hx, gT, gA, q, qe⟩ := h
    refine ⟨_, rfl, x, r, rfl, hx, gT, gA, fun H1 z1 => ⟨_, rfl, _, rfl, ?_⟩⟩
    by_cases e : r = .non
    · subst e
      exact ifF (A := _) (B := _) (by decide +kernel) (q rfl H1 z1)
    · refine ifT (A := _) (B := _) (by rw [decide_eq_false e]; rfl) ?_
      exact ⟨_, rfl, mkF fun d hd => qe e d H1 z1 hd⟩
end
end NS
end
section
set_option maxHeartbeats 4000000
/-! R1: sets of ints, and of tuples of ints, in one form -/
namespace NS
open PySem PySem.Spec PyProof.Rows L2 ZS
structure One (K : PySem.W.Frag) (P : Program) (w : World) (v : V) (H : Hp) (Q : VK) : Prop where
  h : (∃ b k, v = .ref b ∧ ElK K H b k ∧ ∀ p, H p = none → Q (.ref p) (upd H p (ZSet P w p [(b, k)]))) ∨ (∃ i, v = .int i ∧ ∀ p, H p = none → Q (.ref p) (upd H p (SetO w p (fun j => decide (j = i)) 1)))
structure Nin (K : PySem.W.Frag) (P : Program) (w : World) (x y : V) (H : Hp) (Q : VK) : Prop where
  h : rZIn K P w true x y H Q ∨ rSNotIn w x y H Q
structure Add (K : PySem.W.Frag) (P : Program) (w : World) (s : Addr) (v : V) (H : Hp) (Q : VK) : Prop where
  h : ((∃ a' L', V.ref s = .ref a' ∧ H a' = some (ZSet P w a' L')) ∧ rZAdd K P w (.ref s) [v] H Q) ∨ ((∃ a' S n, V.ref s = .ref a' ∧ H a' = some (SetO w a' S n)) ∧ rSAdd w (.ref s) [v] H Q)
structure Len (K : PySem.W.Frag) (P : Program) (w : World) (xs : List V) (H : Hp) (Q : VK) : Prop where
  h : rZLen K P w xs H Q ∨ rSLen w xs H Q
structure Sor (K : PySem.W.Frag) (P : Program) (w : World) (xs : List V) (H : Hp) (Q : VK) : Prop where
  h : rZSort K P w xs H Q ∨ rSortedSet w xs H Q
theorem pe_imp {X : Cx} {e : Expr} {t t' : TE} (h : PE X e t) (q : ∀ σ H Q, t' σ H Q → t σ H Q) : PE X e t' := ⟨fun pins s σ H Q I w => h.run pins s σ H Q I (q σ H Q w)⟩
structure Rep (K : PySem.W.Frag) (P : Program) (w : World) (α : Type) where
  El : Hp → V → α → Prop
  St : Hp → Addr → List α → Prop
  lt : α → α → Prop
  lim : Nat
  big : lim ≤ 5000
  el_tup : ∀ {H H' : Hp} {v : V} {a : α}, Tup H H' → El H v a → El H' v a
  st_tup : ∀ {H H' : Hp} {s : Addr} {L : List α}, Tup H H' → H' s = H s → St H s L → St H' s L
  st_some : ∀ {H : Hp} {s : Addr} {L : List α}, St H s L → ∃ o, H s = some o ∧ (∀ ps, o ≠ .tbl ps) ∧ L.Nodup
  one : ∀ {H : Hp} {v : V} {a : α} {Q : VK}, El H v a → (∀ p o, H p = none → St (upd H p o) p [a] → Q (.ref p) (upd H p o)) → One K P w v H Q
  notin : ∀ {H : Hp} {v : V} {a : α} {s : Addr} {L : List α} {Q : VK}, El H v a → St H s L → (∀ b, (b = true ↔ a ∉ L) → Q (.bl b) H) → Nin K P w v (.ref s) H Q
  add : ∀ {H : Hp} {v : V} {a : α} {s : Addr} {L : List α} {Q : VK}, El H v a → St H s L → a ∉ L → L.length + 1 < lim → (∀ o, Tup H (upd H s o) → St (upd H s o) s (a :: L) → Q .non (upd H s o)) → Add K P w s v H Q
  len : ∀ {H : Hp} {s : Addr} {L : List α} {Q : VK}, St H s L → Q (.int L.length) H → Len K P w [.ref s] H Q
  sort : ∀ {H : Hp} {s : Addr} {L : List α} {Q : VK}, St H s L → L.length < lim → (∀ p vs L', L'.Perm L → L'.Pairwise lt → H p = none → Paired (El H) vs L' → Q (.ref p) (upd H p (.lst vs))) → Sor K P w [.ref s] H Q
theorem nd1 {α : Type} (a : α) : [a].Nodup := List.nodup_cons.mpr ⟨List.not_mem_nil, List.nodup_nil⟩
section
variable {K : PySem.W.Frag} {P : Program} {w : World} {H : Hp} {v : V} {s : Addr} {Q : VK}
variable (K P w)
end
section
variable {K : PySem.W.Frag} {P : Program} {w : World} {H : Hp} {v : V} {s : Addr} {Q : VK}
def ElT (K : PySem.W.Frag) (H : Hp) (v : V) (k : List Int) : Prop := TI K H v k ∧ k ≠ [] ∧ PT H v k
abbrev keys (L : List (Addr × List Int)) : List (Addr × NK) := L.map fun p => (p.1, tk p.2)
theorem ElT.el {a : Addr} {k : List Int} (h : ElT K H (.ref a) k) : ElK K H a (tk k) := .inl ⟨k, rfl, h.1⟩
theorem ElT.tup {H' : Hp} {k : List Int} (z : Tup H H') (h : ElT K H v k) : ElT K H' v k := ⟨z.ti h.1, h.2.1, NS.Tup.pt z h.2.2⟩
variable (K P w)
end
section
variable {X : Cx}
end
end NS
end
section
/-! P2: halls called otherwise -/
namespace NS
/-- t with its halls called by m -/
def conj (m t : List Int) : List Int := comp (comp (inv m) t) m
section
variable {n : Nat} {m t : List Int}
theorem IsT.conj (hm : IsT n m) (ht : IsT n t) : IsT n (conj m t) := (hm.inv.comp ht).comp hm
theorem at_conj (hm : IsT n m) (ht : IsT n t) {k : Nat} (hk : k < n) : at' (conj m t) (at' m k) = at' m (at' t k) := by
  unfold NS.conj
  have h := hm.lt hk
  rw [at_comp (hm.inv.comp ht) m h, at_comp hm.inv t h, at_inv hm h]
  have e : m.idxOf (at' m k : Int) = k := by
    obtain ⟨h1, h2⟩ := idx_of hm h
    exact hm.inj h1 hk h2
  rw [e]
theorem conj_eq (hm : IsT n m) (ht : IsT n t) {fl : List Int} (hl : fl.length = n) (h : ∀ k, k < n → fl.getD (at' m k) 0 = m.getD (at' t k) 0) : fl = conj m t := by
  refine ext_at (d := 0) (by rw [hl, (hm.conj ht).len]) fun p hp => ?_
  rw [hl] at hp
  obtain ⟨h1, h2⟩ := idx_of hm hp
  have e := h _ h1
  rw [h2] at e
  rw [e, (hm.getD (ht.lt h1)).1, ((hm.conj ht).getD hp).1]
  have := at_conj hm ht h1
  rw [h2] at this
  rw [this]
end
end NS
end
section
/-! M2: what is reached leads back -/
namespace NS
theorem nd_of {α : Type} [DecidableEq α] : ∀ l : List α, ∃ L : List α, L.Nodup ∧ ∀ x, x ∈ L ↔ x ∈ l
  | [] => ⟨[], List.nodup_nil, fun _ => Iff.rfl⟩
  | a :: l => by
    obtain ⟨L, nd, mem⟩ := nd_of l
    by_cases h : a ∈ L
    · exact ⟨L, nd, fun x => ⟨fun hx => List.mem_cons_of_mem _ ((mem x).mp hx), fun hx => by
        rcases List.mem_cons.mp hx with e | e
        · rw [e]; exact h
        · exact (mem x).mpr e⟩⟩
    · exact ⟨a :: L, List.nodup_cons.mpr ⟨h, nd⟩, fun x => by rw [List.mem_cons, List.mem_cons, mem x]⟩
/-- what the turns make of a start -/
inductive Rch {α : Type} (step : α → List Int → α) (ts : List (List Int)) (a0 : α) : α → Prop
  | base : Rch step ts a0 a0
  | next {a : α} {t : List Int} : Rch step ts a0 a → t ∈ ts → Rch step ts a0 (step a t)
section
variable {α : Type} {step : α → List Int → α} {ts : List (List Int)} {a0 a b : α} {U : List α}
theorem Rch.inU (h0 : a0 ∈ U) (hc : ∀ a ∈ U, ∀ t ∈ ts, step a t ∈ U) (h : Rch step ts a0 a) : a ∈ U := by
  induction h with
  | base => exact h0
  | next _ ht ih => exact hc _ ih _ ht
theorem Rch.trans (h : Rch step ts a0 a) (h' : Rch step ts a b) : Rch step ts a0 b := by
  induction h' with
  | base => exact h
  | next _ ht ih => exact .next ih ht
theorem Rch.back (hc : ∀ a ∈ U, ∀ t ∈ ts, step a t ∈ U) (inj : ∀ t ∈ ts, ∀ a ∈ U, ∀ b ∈ U, step a t = step b t → a = b) (ha : a ∈ U) {t : List Int} (ht : t ∈ ts) : Rch step ts (step a t) a := by
  classical
  -- the list of what the later one reaches
  obtain ⟨L, nd, mem0⟩ := nd_of (U.filter fun y => decide (Rch step ts (step a t) y))
  have mem : ∀ y, y ∈ L ↔ y ∈ U ∧ Rch step ts (step a t) y := fun y => by rw [mem0, List.mem_filter, decide_eq_true_iff]
  have xU := hc a ha t ht
  have nd2 : (L.map fun y => step y t).Nodup := nodup_map nd fun x hx y hy e => inj t ht x ((mem x).mp hx).1 y ((mem y).mp hy).1 e
  have sub : ∀ x ∈ L.map (fun y => step y t), x ∈ L := fun x hx => by
    obtain ⟨y, hy, rfl⟩ := List.mem_map.mp hx
    exact (mem _).mpr ⟨hc y ((mem y).mp hy).1 t ht, .next ((mem y).mp hy).2 ht⟩
  have all := nd_all nd2 sub (by rw [List.length_map]; exact Nat.le_refl _) (step a t) ((mem _).mpr ⟨xU, .base⟩)
  obtain ⟨y, hy, e⟩ := List.mem_map.mp all
  have := inj t ht y ((mem y).mp hy).1 a ha e
  have h2 := ((mem y).mp hy).2
  rw [this] at h2
  exact h2
theorem Rch.symm (hc : ∀ a ∈ U, ∀ t ∈ ts, step a t ∈ U) (inj : ∀ t ∈ ts, ∀ a ∈ U, ∀ b ∈ U, step a t = step b t → a = b) (h0 : a0 ∈ U) (h : Rch step ts a0 a) : Rch step ts a a0 := by
  induction h with
  | base => exact .base
  | next h ht ih => exact (Rch.back hc inj (h.inU h0 hc) ht).trans ih
end
end NS
end
section
set_option maxHeartbeats 4000000
/-! R2: reached -/
namespace NS
open PySem PySem.Spec PyProof.Rows L2 ZS
/-- ahead of each turn of the for -/
def FR {K : PySem.W.Frag} {P : Program} {w : World} {α : Type} (R : Rep K P w α) (step : α → List Int → α) (ts : List (List Int)) (a0 : α) (U : List α) (H : Hp) (start : V) (tb fl : Addr) (most : V) (sa wa : Addr) (v : V) (a : α) (m : Nat) (i : Nat) (σ : L2.St) (H' : Hp) : Prop :=
  ∃ (L : List α) (ws : List V) (as : List α) (y z : Option V), σ = [some start, some (.ref tb), some (.ref fl), some most, some (.ref sa), some (.ref wa), some v, y, z] ∧ Kp H H' ∧ R.El H' v a ∧ a ∈ L ∧ R.St H' sa L ∧ H' wa = some (.lst ws) ∧ Paired (R.El H') ws as ∧
    (∀ a ∈ as, a ∈ L) ∧ (∀ a ∈ L, Rch step ts a0 a) ∧ a0 ∈ L ∧ (∀ b ∈ L, b ∉ as → b ≠ a → ∀ t ∈ ts, step b t ∈ L) ∧ (∀ j, j < i → ∀ t, ts[j]? = some t → step a t ∈ L) ∧ 2 * (U.length - L.length) + as.length < m
theorem FR.kp {K : PySem.W.Frag} {P : Program} {w : World} {α : Type} {R : Rep K P w α} {step : α → List Int → α} {ts : List (List Int)} {a0 : α} {U : List α} {H : Hp} {start : V} {tb fl : Addr} {most : V} {sa wa : Addr} {v : V} {a : α} {m i : Nat} {σ : L2.St} {H' : Hp} (h : FR R step ts a0 U H start tb fl most sa wa v a m i σ H') : Kp H H' := by
  obtain ⟨L, ws, as, y, z, _, zk, _⟩ := h
  exact zk
section
variable {P : Program} {w : World} {K : PySem.W.Frag} {mg : Str → Option Value} {base : Heap} {f : Addr} {fd : FuncData}
end
end NS
end
section
set_option maxHeartbeats 4000000
/-! G2: members, order, is_member, made, likes -/
namespace NS
open PySem PySem.Spec PyProof.Rows L2 ZS
/-- v is a tuple of the things of L -/
def TupEl (H : Hp) (El : V → α → Prop) (v : V) (L : List α) : Prop := ∃ p o vs, v = .ref p ∧ H p = some (.frz o (.tup vs)) ∧ o.dict = none ∧ Paired El vs L
/-- a turn of the group -/
abbrev Grp (n : Nat) (ts : List (List Int)) : List Int → Prop := Rch comp ts (idt n)
def likeS (a t : List Int) : List Int := comp (comp (inv t) a) t
/-- U holds a0 and all that the turns make of what it holds; few turns of n halls -/
structure Room' (n : Nat) (step : List Int → List Int → List Int) (ts : List (List Int)) (a0 : List Int) (U : List (List Int)) : Prop where
  a0 : a0 ∈ U
  cl : ∀ a ∈ U, ∀ t ∈ ts, step a t ∈ U
  is : ∀ a ∈ U, IsT n a
  few : U.length ≤ 4000
/-- the ascending list of what is reached -/
structure Asc {α : Type} (lt : α → α → Prop) (G : α → Prop) (L : List α) : Prop where
  pw : L.Pairwise lt
  nd : L.Nodup
  mem : ∀ a, a ∈ L ↔ G a
theorem ne_len {n : Nat} {a : List Int} (h : IsT n a) (hn : 1 ≤ n) : a ≠ [] := fun e => by
  have := h.len
  rw [e] at this
  simp at this
  omega
section
variable {P : Program} {w : World} {K : PySem.W.Frag} {mg : Str → Option Value} {base : Heap} {f : Addr} {fd : FuncData} {pT pA : Addr} {S : Addr → Option Sp}
end
end NS
end
section
set_option maxHeartbeats 4000000
/-! D2: set comprehensions of keys -/
namespace NS
open PySem PySem.Spec PyProof.Rows L2 ZS
/-- ascending lists of the same things are one -/
theorem asc_unique {α : Type} {lt : α → α → Prop} (irr : ∀ a, ¬ lt a a) (tr : ∀ a b, lt a b → ¬ lt b a) : ∀ {l m : List α}, l.Pairwise lt → m.Pairwise lt → (∀ a, a ∈ l ↔ a ∈ m) → l = m
  | [], [], _, _, _ => rfl
  | [], b :: m, _, _, h => by have := (h b).mpr (List.mem_cons_self ..); cases this
  | a :: l, [], _, _, h => by have := (h a).mp (List.mem_cons_self ..); cases this
  | a :: l, b :: m, hl, hm, h => by
    obtain ⟨l1, l2⟩ := List.pairwise_cons.mp hl
    obtain ⟨m1, m2⟩ := List.pairwise_cons.mp hm
    have e : a = b := by
      rcases List.mem_cons.mp ((h a).mp (List.mem_cons_self ..)) with q | q
      · exact q
      · rcases List.mem_cons.mp ((h b).mpr (List.mem_cons_self ..)) with q2 | q2
        · exact q2.symm
        · exact absurd (l1 b q2) (tr _ _ (m1 a q))
    subst e
    congr 1
    refine asc_unique irr tr l2 m2 fun x => ⟨fun hx => ?_, fun hx => ?_⟩
    · rcases List.mem_cons.mp ((h x).mp (List.mem_cons_of_mem _ hx)) with q | q
      · rw [q] at hx
        exact absurd (l1 a hx) (irr a)
      · exact q
    · rcases List.mem_cons.mp ((h x).mpr (List.mem_cons_of_mem _ hx)) with q | q
      · rw [q] at hx
        exact absurd (m1 a hx) (irr a)
      · exact q
theorem Asc.uniq {α : Type} {lt : α → α → Prop} (irr : ∀ a, ¬ lt a a) (tr : ∀ a b, lt a b → ¬ lt b a) {G : α → Prop} {l m : List α} (hl : Asc lt G l) (hm : Asc lt G m) : l = m := asc_unique irr tr hl.pw hm.pw fun a => (hl.mem a).trans (hm.mem a).symm
/-- the pairs of places, row by row -/
def grid (n m : Nat) : List (Nat × Nat) := (List.range n).flatMap fun i => (List.range m).map fun j => (i, j)
theorem grid_succ (n m : Nat) : grid (n + 1) m = grid n m ++ (List.range m).map fun j => (n, j) := by
  unfold grid
  rw [List.range_succ, List.flatMap_append]
  simp
theorem grid_len (n m : Nat) : (grid n m).length = n * m := by
  induction n with
  | zero => simp [grid]
  | succ n ih => rw [grid_succ, List.length_append, ih, List.length_map, List.length_range, Nat.succ_mul]
end NS
end
section
set_option maxHeartbeats 4000000
/-! G3: parts, is_transitive, rank -/
namespace NS
open PySem PySem.Spec PyProof.Rows L2 ZS
def hallS (a : Int) (t : List Int) : Int := t.getD a.toNat 0
/-- the halls to which hall h is led -/
abbrev Orb (ts : List (List Int)) (h : Int) : Int → Prop := Rch hallS ts h
/-- k is the ascending lot of hall h -/
abbrev Lot (ts : List (List Int)) (h : Int) (k : List Int) : Prop := Asc (· < ·) (Orb ts h) k
/-- all lots of halls -/
abbrev Lots (n : Nat) (ts : List (List Int)) (k : List Int) : Prop := ∃ i : Nat, i < n ∧ Lot ts i k
def pr2 (p : Nat × Nat) : List Int := [(p.1 : Int), (p.2 : Int)]
section
variable {P : Program} {w : World} {K : PySem.W.Frag} {mg : Str → Option Value} {base : Heap} {f : Addr} {fd : FuncData} {pT pA : Addr} {S : Addr → Option Sp}
end
end NS
end
section
set_option maxHeartbeats 4000000
/-! G4: stays -/
namespace NS
open PySem PySem.Spec PyProof.Rows L2 ZS
theorem scKept : FnScope ["turn", "hall", "to"] ["turn"] (defScope sKept) := ⟨rfl, rfl, rfl, by decide +kernel, rfl, by decide +kernel, by decide +kernel⟩
/-- the halls that a turn leaves in place -/
def keptL (t : List Int) : List Int := ((List.range t.length).filter fun i => decide (t.getD i 0 = (i : Int))).map fun (i : Nat) => (i : Int)
theorem kept_len (t : List Int) : (keptL t).length ≤ t.length := by
  unfold keptL
  rw [List.length_map]
  exact filter_le _ _
def spKept (K : PySem.W.Frag) : Sp := fun vs H Q _ => ∃ (v : V) (t : List Int), vs = [v] ∧ TI K H v t ∧ t.length ≤ 1000 ∧ ∀ r H', Kp H H' → PT H' r (keptL t) → Q r H'
theorem take_succ_of {α : Type} {L : List α} {i : Nat} {k : α} (h : L[i]? = some k) : L.take (i + 1) = L.take i ++ [k] := by
  rw [List.take_add_one, h]
  rfl
theorem set_getD {α : Type} {l : List α} {j m : Nat} {v d : α} (hj : j < l.length) : (l.set j v).getD m d = if m = j then v else l.getD m d := by
  rw [List.getD_eq_getElem?_getD, List.getElem?_set]
  by_cases h : j = m
  · subst h
    rw [if_pos rfl, if_pos rfl, if_pos hj]
    rfl
  · rw [if_neg h, if_neg (fun e => h e.symm), List.getD_eq_getElem?_getD]
theorem ixN_nat {n j : Nat} (h : j < n) : ixN n (j : Int) = some j := by
  unfold ixN
  rw [if_pos (by omega), if_pos (by omega)]
  rfl
section
variable {P : Program} {w : World} {K : PySem.W.Frag} {mg : Str → Option Value} {base : Heap} {f : Addr} {fd : FuncData} {pT pA : Addr}
theorem has_kept (F : FnP K "halls_kept" sKept f fd) (m : mg "halls_kept" = some (.ref f)) (B : Bl mg) : Has P w K mg base "halls_kept" 1 [] (spKept K) := by
  refine ⟨f, fd, ["turn"], [], m, F.kp, F.bindsN (fun _ _ _ _ _ _ us hl => match us, hl with | [_], _ => rfl), .nil, ?_⟩
  refine F.ok scKept (fun vs H Q E h => ?_) (fun cdv A outer s H vs Q E hr h => ⟨_, PSs.nox (pss_one (ps_ret (pe_callTy cr_tupP rfl B.tuple PyProof.Rows.boot_tuple (pa_cons
    (pe_lc (own := [("hall", 1), ("to", 2)]) (g := gTup K 2 (gCons (gName 1) (gCons (gName 2) gNil))) (tt := tTest (tOp rEq (tVar 1) (tVar 2))) rfl scKept.nd (pi_enumT rfl B.enumerate (pa_cons (pv 0) pa_nil)) (blkOk_by (N := ["turn", "hall", "to"]) (sc := defScope sKept) (by decide +kernel))
      (fun _ _ _ _ _ => pg_tup rfl (pgs_cons (pg_name (i := 1) scKept.nd rfl (Or.inl rfl)) (pgs_cons (pg_name (i := 2) scKept.nd rfl (Or.inl rfl)) pgs_nil))) (fun _ _ _ _ _ => pts_one (pt_cmpR op_eq (pv 1) (pv 2) (nomark _))) (fun _ _ _ _ _ => pv 1)) pa_nil)))), ?_⟩)
  · obtain ⟨v, t, rfl, _⟩ := h
    rfl
  · obtain ⟨v, t, rfl, ⟨a, rfl, hT⟩, hz, q⟩ := h
    refine ⟨_, rfl, a, _, rfl, hT, fun D hD => ?_⟩
    refine lcG (Wlk.enum hT) hD (by rw [List.length_map]; have := big; omega) (fun i => decide (t.getD i 0 = (i : Int))) (fun i y _ => y = .int (i : Nat)) (fun _ _ _ _ _ h => h) (fun i x H' Q1 Q0 hi z hx q1 q0 => ?_) (fun ys H' z hD' hp => ?_)
    · obtain ⟨T, v, rfl, hT2, hv⟩ := hx
      obtain ⟨k, hk, rfl⟩ := map_some hv
      refine ⟨T, _, rfl, SqT.of hT2, rfl, _, _, rfl, _, _, rfl, rfl, rfl, _, rfl, _, rfl, rfl, _, rfl, ?_⟩
      have e : decide (V.int (i : Int) = V.int k) = decide (t.getD i 0 = (i : Int)) := by
        rw [getD_of hk]
        exact decide_eq_decide.mpr ⟨fun e => by injection e with e; exact e.symm, fun e => by rw [e]⟩
      show if decide (V.int (i : Int) = V.int k) = true then _ else _
      rw [e]
      cases hb : decide (t.getD i 0 = (i : Int)) with
      | true => exact ifT (B := Q0 _) rfl ⟨_, rfl, q1 _ _ hb (Kp.refl _) rfl⟩
      | false => exact ifF (A := tVar 1 _ _ Q1) rfl (q0 _ hb (Kp.refl _))
    · rw [List.length_map] at hp
      refine ⟨D, _, rfl, SqL.of hD', fun l o hl ho => q _ _ (z.new hl) (.of ?_ ho)⟩
      rw [upd_same, paired_map (f := fun i : Nat => V.int (i : Nat)) (fun _ _ e => e) hp]
      unfold keptL
      rw [List.map_map]
      rfl
end
end NS
end
section
set_option maxHeartbeats 4000000
/-! DD: a dict whose keys are tuples of ints, all values True -/
namespace NS
open PySem PySem.Spec PyProof.Rows L2 ZS
abbrev dl (L : List (Addr × List Int)) : List (NK × Addr × Value) := L.map fun p => (tk p.2, p.1, Value.bool true)
structure Dd0 (P : Program) (w : World) (h : Heap) (d : Addr) (L : List (Addr × List Int)) : Prop where
  few : L.length ≤ 100000
  sm : (d == sysModules) = false
  nd : (L.map (·.2)).Nodup
  ex : ∃ o es ep, h.get? d = some o ∧ o.ExactDict ∧ o.data = .dict es ep ∧ es.toList = (dl L).map (entryOfKey (nestedKind P w))
def DDict (P : Program) (w : World) (d : Addr) (L : List (Addr × List Int)) : HO := .ext fun h => Dd0 P w h d L
theorem dl_fst (L : List (Addr × List Int)) : (dl L).map (·.1) = (L.map (·.2)).map tk := by unfold dl; rw [List.map_map, List.map_map]; rfl
theorem nd_tk {l : List (List Int)} (h : l.Nodup) : (l.map tk).Nodup := nodup_map h fun _ _ _ _ e => tk_inj e
section
variable {P : Program} {w : World} {h : Heap} {d : Addr} {L : List (Addr × List Int)}
theorem Dd0.laid (R : Dd0 P w h d L) (H : Hp) : ObjOk P w H h d (DDict P w d L) := by
  obtain ⟨o, es, ep, ho, r⟩ := R.ex
  exact ⟨R, ⟨o, ho⟩, fun h1 h2 p k => ⟨p.few, p.sm, p.nd, let ⟨o, es, ep, ho, r⟩ := p.ex; ⟨o, es, ep, k o ho, r⟩⟩⟩
theorem Dd0.full (R : Dd0 P w h d L) (ht : ∀ p ∈ L, NestedIs h (tk p.2) (.ref p.1)) : h.DictOfH (nestedKind P w) d (dl L) := by
  obtain ⟨o, es, ep, ho, he, hd, hs⟩ := R.ex
  refine ⟨o, es, ep, ho, he, hd, hs, fun x hx => ?_, by rw [dl_fst]; exact nd_tk R.nd⟩
  obtain ⟨p, hp, rfl⟩ := List.mem_map.mp hx
  exact ⟨ht p hp, by rw [show NestedKey.depth (tk p.2) = 1 from depth_tk p.2]; decide⟩
theorem Dd0.of (sm : (d == sysModules) = false) (few : L.length ≤ 100000) (x : h.DictOfH (nestedKind P w) d (dl L)) : Dd0 P w h d L := by
  obtain ⟨o, es, ep, ho, he, hd, hs, _, nd⟩ := x
  rw [dl_fst] at nd
  exact ⟨few, sm, (List.pairwise_map.mp nd).imp fun h e => h (by rw [e]), o, es, ep, ho, he, hd, hs⟩
end
section
variable {X : Cx} {pins : List (Addr × Obj)} {σ : L2.St} {H : Hp} {s : Shared}
end
end NS
end
section
set_option maxHeartbeats 4000000
/-! LT: what the law's own defs want: x != [], a row of draws -/
namespace NS
open PySem PySem.Spec PyProof.Rows L2 ZS
section
variable {X : Cx}
/-- x != [], x == [] of a list -/
def rNilB (K : PySem.W.Frag) (f : Bool → Bool) : R2 := fun x y H Q => ∃ (a b : Addr) (xs : List V), x = .ref a ∧ y = .ref b ∧ SqL K H a xs ∧ SqL K H b [] ∧ Q (.bl (f xs.isEmpty)) H
theorem op_neNil (hu : X.A.units + 64 < cLine) : OpR X (compareOp .NotEq) (rNilB X.K not) := by
  intro pins s σ H x y v u Q I rx ry h
  obtain ⟨a, b, xs, rfl, rfl, ha, hb, q⟩ := h
  cases rx
  cases ry
  obtain ⟨its, r1, p1, _⟩ := I.list ha
  obtain ⟨its2, r2, p2, _⟩ := I.list hb
  cases r2
  cases r1 with
  | nil => exact SeqAt.RcNeAt.lists (e := fun _ => true) p1.isList p2.isList rfl (by omega) (fun j h1 h2 => absurd h1 (Nat.not_lt_zero _)) X.prog X.w _ _ ⟨.bl false, H, I, rfl, q⟩
  | cons r t => exact SeqAt.RcNeAt.lists_lengths p1.isList p2.isList (by simp) (by omega) X.prog X.w _ _ ⟨.bl true, H, I, rfl, q⟩
theorem op_eqNil (hu : X.A.units + 64 < cLine) : OpR X (compareOp .Eq) (rNilB X.K id) := by
  intro pins s σ H x y v u Q I rx ry h
  obtain ⟨a, b, xs, rfl, rfl, ha, hb, q⟩ := h
  cases rx
  cases ry
  obtain ⟨its, r1, p1, _⟩ := I.list ha
  obtain ⟨its2, r2, p2, _⟩ := I.list hb
  cases r2
  cases r1 with
  | nil => exact SeqAt.RcAt.lists (e := fun _ => true) p1.isList p2.isList rfl (by omega) (fun j h1 h2 => absurd h1 (Nat.not_lt_zero _)) X.prog X.w _ _ ⟨.bl true, H, I, rfl, q⟩
  | cons r t => exact SeqAt.RcAt.lists_lengths p1.isList p2.isList (by simp) (by omega) X.prog X.w _ _ ⟨.bl false, H, I, rfl, q⟩
end
/-- all stands but the list at r -/
structure KpB (r : Addr) (H H' : Hp) : Prop where
  k : ∀ b o, H b = some o → (∀ ps, o ≠ .tbl ps) → (∀ xs, o = .lst xs → b ≠ r) → H' b = some o
  t : ∀ b ps, H b = some (.tbl ps) → ∃ ps' : Array Value, H' b = some (.tbl ps') ∧ TabUp ps ps'
  r : ∀ xs, H r = some (.lst xs) → ∃ ys, H' r = some (.lst ys)
section
variable {r : Addr} {H H1 H2 : Hp}
theorem Kp.b (z : Kp H H1) : KpB r H H1 := ⟨fun b o e n _ => z.k b o e n, z.t, fun xs e => ⟨xs, z.lst e⟩⟩
theorem KpB.refl (H : Hp) : KpB r H H := (Kp.refl H).b
theorem KpB.trans (a : KpB r H H1) (b : KpB r H1 H2) : KpB r H H2 where
  k := fun c o e n m => b.k c o (a.k c o e n m) n m
  t := fun c ps e => by
    obtain ⟨p1, h1, t1⟩ := a.t c ps e
    obtain ⟨p2, h2, t2⟩ := b.t c p1 h1
    exact ⟨p2, h2, t1.trans t2⟩
  r := fun xs e => let ⟨ys, e1⟩ := a.r xs e; b.r ys e1
theorem KpB.none (z : KpB r H H1) {p : Addr} (h : H1 p = Option.none) : H p = Option.none := by
  cases e : H p with
  | none => rfl
  | some o =>
    by_cases q : ∃ ps, o = .tbl ps
    · obtain ⟨ps, rfl⟩ := q
      obtain ⟨ps', h', _⟩ := z.t p ps e
      rw [h] at h'
      cases h'
    · by_cases l : ∃ xs, o = .lst xs ∧ p = r
      · obtain ⟨xs, rfl, rfl⟩ := l
        obtain ⟨ys, e2⟩ := z.r xs e
        rw [h] at e2
        cases e2
      · have := z.k p o e (fun ps w => q ⟨ps, w⟩) (fun xs e1 e2 => l ⟨xs, e1, e2⟩)
        rw [h] at this
        cases this
theorem KpB.put (z : KpB r H H1) {p : Addr} (n : H p = Option.none) {o : HO} (hr : p ≠ r) : KpB r H (upd H1 p o) := by
  have ne : ∀ b u, H b = some u → b ≠ p := fun b u e q => by rw [q, n] at e; cases e
  refine ⟨fun b u e q m => by rw [upd_ne (ne b u e)]; exact z.k b u e q m, fun b ps e => by rw [upd_ne (ne b _ e)]; exact z.t b ps e, fun xs e => ?_⟩
  obtain ⟨ys, e2⟩ := z.r xs e
  exact ⟨ys, by rw [upd_ne hr.symm]; exact e2⟩
/-- the row itself changes -/
theorem KpB.row (z : KpB r H H1) {xs : List V} (h : H r = some (.lst xs)) {ys : List V} : KpB r H (upd H1 r (.lst ys)) := by
  refine ⟨fun b u e q m => ?_, fun b ps e => ?_, fun xs e => ⟨ys, upd_same⟩⟩
  · have : b ≠ r := fun w => by
      rw [w, h] at e
      exact m xs (Option.some.inj e).symm w
    rw [upd_ne this]
    exact z.k b u e q m
  · have : b ≠ r := fun w => by rw [w, h] at e; cases e
    rw [upd_ne this]
    exact z.t b ps e
theorem KpB.tup (z : KpB r H H1) : Tup H H1 := ⟨fun c xs h => z.k c _ h (fun _ q => by cases q) (fun _ q => by cases q), fun c o u h => z.k c _ h (fun _ q => by cases q) (fun _ q => by cases q)⟩
theorem KpB.lst (z : KpB r H H1) {a : Addr} {xs : List V} (h : H a = some (.lst xs)) (hr : a ≠ r) : H1 a = some (.lst xs) := z.k a _ h (fun _ q => by cases q) (fun _ _ => hr)
theorem KpB.ext (z : KpB r H H1) {a : Addr} {f : Heap → Prop} (h : H a = some (.ext f)) : H1 a = some (.ext f) := z.k a _ h (fun _ q => by cases q) (fun _ q => by cases q)
theorem KpB.tabG (z : KpB r H H1) {P : Addr} (g : GxR.TabG H P) : GxR.TabG H1 P := by
  obtain ⟨ps, hP, hT⟩ := g
  obtain ⟨ps', h', t⟩ := z.t P ps hP
  exact ⟨ps', h', t.1 hT⟩
theorem KpB.sqL {K : PySem.W.Frag} (z : KpB r H H1) {a : Addr} {xs : List V} (h : SqL K H a xs) (hr : a ≠ r) : SqL K H1 a xs := by
  rcases h with (h | ⟨o, h⟩) | h
  · exact .inl (.inl (z.lst h hr))
  · exact .inl (.inr ⟨o, z.tup.f _ _ _ h⟩)
  · exact .inr h
theorem Tup.pts {K : PySem.W.Frag} (z : Tup H H1) {v : V} {ts : List (List Int)} (h : PTS K H v ts) : PTS K H1 v ts := let ⟨b, xs, e, s, p⟩ := h; ⟨b, xs, e, z.sq s, p.mono fun _ _ q => NS.Tup.pt z q⟩
theorem Tup.house {K : PySem.W.Frag} (z : Tup H H1) {v : V} {n : Nat} {ts : List (List Int)} (h : HouseAt K H v n ts) : HouseAt K H1 v n ts := let ⟨a, tv, e, s, p⟩ := h; ⟨a, tv, e, z.sq s, NS.Tup.pts z p⟩
end
/-- the row of draws at r over the script at sa -/
def RowAt (H : Hp) (r sa : Addr) : Prop := ∃ (i : Nat) (sd rest : Int), H r = some (.lst [.ref sa, .int i, .int sd, .int rest]) ∧ 0 ≤ rest
theorem Kp.rowAt {H H' : Hp} (z : Kp H H') {r sa : Addr} (h : RowAt H r sa) : RowAt H' r sa := let ⟨i, sd, rest, e, p⟩ := h; ⟨i, sd, rest, z.lst e, p⟩
theorem RowAt.lst {H : Hp} {r sa : Addr} (h : RowAt H r sa) : ∃ xs, H r = some (.lst xs) := let ⟨i, sd, rest, e, p⟩ := h; ⟨_, e⟩
theorem RowAt.put {H : Hp} {r sa p : Addr} {o : HO} (h : RowAt H r sa) (n : p ≠ r) : RowAt (upd H p o) r sa := let ⟨i, sd, rest, e, q⟩ := h; ⟨i, sd, rest, by rw [upd_ne n.symm]; exact e, q⟩
/-- a comprehension over a range, whose element may draw -/
theorem lcB {g : TG} {te : TE} {vs : List Nat} {σ : L2.St} {r sa : Addr} {H : Hp} {D : Addr} {Qd : Hp → Prop} {n : Nat} (hr : RowAt H r sa) (hD : H D = none) (hz : n < sizeLine)
    (R : Nat → V → Hp → Prop) (st : ∀ i y H1 H2, Tup H1 H2 → R i y H1 → R i y H2)
    (el : ∀ i H' (Q1 : VK), i < n → KpB r H H' → RowAt H' r sa → (∀ y H4, KpB r H' H4 → RowAt H4 r sa → R i y H4 → Q1 y H4) → g (.int (0 + (i : Nat))) (wipe σ vs) H' fun σ2 H2 => wipe σ2 vs = wipe σ vs ∧ te σ2 H2 Q1)
    (mono : ∀ x H' (Q Q' : L2.St → Hp → Prop), (∀ s h, Q s h → Q' s h) → g x (wipe σ vs) H' Q → g x (wipe σ vs) H' Q')
    (fin : ∀ ys H', KpB r H H' → RowAt H' r sa → H' D = some (.lst ys) → Paired (fun i y => R i y H') (List.range n) ys → Qd H') :
    ∃ W : Nat → Nat → Hp → Prop, (∃ m, W 0 m (upd H D (.lst []))) ∧ ∀ i m H, W i m H →
      ((Itr 0 n).stop i H ∧ Qd H) ∨ ((Itr 0 n).go i H ∧ ∃ Nx : Hp → Prop, (∀ H', Nx H' → ∃ m', m' < m ∧ W (i + 1) m' H') ∧ ∀ x H', (Itr 0 n).yld i H x H' → g x (wipe σ vs) H' fun σ2 H2 => wipe σ2 vs = wipe σ vs ∧ tYes σ2 H2 fun b H3 =>
        if b = true then te σ2 H3 fun y H4 => ∃ acc, H4 D = some (.lst acc) ∧ acc.length < sizeLine ∧ Nx (upd H4 D (.lst (acc ++ [y]))) else Nx H3) := by
  obtain ⟨xr, hxr⟩ := hr.lst
  have nD : D ≠ r := fun e => by rw [e, hxr] at hD; cases hD
  let G : Nat → Hp → Prop := fun i H' => KpB r H H' ∧ RowAt H' r sa ∧ ∃ ys, H' D = some (.lst ys) ∧ Paired (fun i y => R i y H') (List.range i) ys
  refine ⟨fun i m H' => m = n - i ∧ i ≤ n ∧ G i H', ⟨n, by simp, Nat.zero_le _, (KpB.refl H).put hD nD, hr.put nD, [], upd_same, .nil⟩, ?_⟩
  rintro i m H1 ⟨rfl, hi, z, ra, ys, hy, hp⟩
  by_cases hlt : i < n
  · refine .inr ⟨hlt, G (i + 1), fun H' p => ⟨n - (i + 1), by omega, rfl, hlt, p⟩, fun x H' y => ?_⟩
    obtain ⟨e, y⟩ := y
    subst e y
    refine mono _ _ _ _ (fun s h q => ⟨q.1, iteT (B := G (i + 1) h) q.2⟩) (el i _ _ hlt z ra fun v H4 z4 r4 rv => ?_)
    have hD4 := z4.lst hy nD
    have hl := hp.length
    rw [List.length_range] at hl
    have tz : Tup H4 (upd H4 D (.lst (ys ++ [v]))) := Tup.put (by rw [hD4]; trivial)
    refine ⟨ys, hD4, by omega, (z.trans z4).put hD nD, r4.put nD, _, upd_same, ?_⟩
    rw [List.range_succ]
    exact Paired.snoc (hp.mono fun a b q => st _ _ _ _ (z4.tup.trans tz) q) (st _ _ _ _ tz rv)
  · have e : i = n := by omega
    subst e
    exact .inl ⟨Nat.le_refl _, fin ys H1 z ra hy hp⟩
end NS
end
section
set_option maxHeartbeats 4000000
/-! L1: the law's draws and turns -/
namespace NS
open PySem PySem.Spec PyProof.Rows L2 ZS
theorem scTaken : FnScope ["row", "many", "found", "cell"] ["row", "many"] (defScope sTaken) := ⟨rfl, rfl, rfl, by decide +kernel, rfl, by decide +kernel, by decide +kernel⟩
theorem scPick : FnScope ["row", "things"] ["row", "things"] (defScope sPick) := ⟨rfl, rfl, rfl, by decide +kernel, rfl, by decide +kernel, by decide +kernel⟩
theorem scLTurn : FnScope ["row", "halls", "found", "left"] ["row", "halls"] (defScope sLTurn) := ⟨rfl, rfl, rfl, by decide +kernel, rfl, by decide +kernel, by decide +kernel⟩
theorem scLStayers : FnScope ["turn", "hall"] ["turn"] (defScope sLStayers) := ⟨rfl, rfl, rfl, by decide +kernel, rfl, by decide +kernel, by decide +kernel⟩
theorem scLThen : FnScope ["one", "other", "hall"] ["one", "other"] (defScope sLThen) := ⟨rfl, rfl, rfl, by decide +kernel, rfl, by decide +kernel, by decide +kernel⟩
theorem at4_0 {a b c d : V} : atI [a, b, c, d] 0 = some a := rfl
theorem at4_1 {a b c d : V} : atI [a, b, c, d] 1 = some b := rfl
theorem at4_2 {a b c d : V} : atI [a, b, c, d] 2 = some c := rfl
theorem at4_3 {a b c d : V} : atI [a, b, c, d] 3 = some d := rfl
theorem erase_map {α β : Type} (f : α → β) : ∀ (l : List α) (i : Nat), (l.map f).eraseIdx i = (l.eraseIdx i).map f
  | [], _ => rfl
  | _ :: _, 0 => rfl
  | a :: l, i + 1 => by
    show f a :: (l.map f).eraseIdx i = f a :: (l.eraseIdx i).map f
    rw [erase_map f l i]
theorem erase_perm {α : Type} : ∀ (l : List α) (i : Nat) (x : α), l[i]? = some x → (x :: l.eraseIdx i).Perm l
  | [], i, x, h => by simp at h
  | a :: l, 0, x, h => by cases h; exact List.Perm.refl _
  | a :: l, i + 1, x, h => (List.Perm.swap a x _).trans ((erase_perm l i x h).cons a)
theorem low_perm {n : Nat} {fs : List Int} (h : fs.Perm (idt n)) : IsT n fs := ⟨by rw [h.length_eq, idt_len], fun x hx => mem_idt.mp (h.mem_iff.mp hx), h.nodup_iff.mpr (idt_isT n).nd⟩
/-- a list of ints is no row -/
theorem KpB.sqI {K : PySem.W.Frag} {r sa a : Addr} {H H1 : Hp} (z : KpB r H H1) (ra : RowAt H r sa) {ns : List Int} (h : SqL K H a (ns.map V.int)) : SqL K H1 a (ns.map V.int) := by
  rcases h with (h | ⟨o, h⟩) | h
  · refine .inl (.inl (z.lst h fun e => ?_))
    obtain ⟨i, sd, rest, e2, _⟩ := ra
    rw [← e, h] at e2
    have e3 := Option.some.inj e2
    injection e3 with e3
    cases ns with
    | nil => cases e3
    | cons n ns =>
      rw [List.map_cons] at e3
      injection e3 with e4 _
      cases e4
  · exact .inl (.inr ⟨o, z.tup.f _ _ _ h⟩)
  · exact .inr h
/-- r is the row of draws over a script -/
def Draws (K : PySem.W.Frag) (H : Hp) (r sa : Addr) : Prop := RowAt H r sa ∧ ∃ ns : List Int, SqL K H sa (ns.map V.int)
theorem Draws.b {K : PySem.W.Frag} {H H' : Hp} {r sa : Addr} (h : Draws K H r sa) (z : KpB r H H') (ra : RowAt H' r sa) : Draws K H' r sa := let ⟨ro, ns, e⟩ := h; ⟨ra, ns, z.sqI ro e⟩
theorem Draws.k {K : PySem.W.Frag} {H H' : Hp} {r sa : Addr} (h : Draws K H r sa) (z : Kp H H') : Draws K H' r sa := h.b z.b (z.rowAt h.1)
def spTaken (K : PySem.W.Frag) : Sp := fun vs H Q _ => ∃ (r sa : Addr) (m : Int), vs = [.ref r, .int m] ∧ Draws K H r sa ∧ 0 < m ∧ m < 1073741824 ∧ ∀ v H', KpB r H H' → RowAt H' r sa → 0 ≤ v → v < m → Q (.int v) H'
def spPick (K : PySem.W.Frag) : Sp := fun vs H Q _ => ∃ (r sa t : Addr) (xs : List V), vs = [.ref r, .ref t] ∧ Draws K H r sa ∧ t ≠ r ∧ SqL K H t xs ∧ xs ≠ [] ∧ xs.length < 1073741824 ∧ ∀ x H', KpB r H H' → RowAt H' r sa → x ∈ xs → Q x H'
def spLTurn (K : PySem.W.Frag) : Sp := fun vs H Q _ => ∃ (r sa : Addr) (n : Nat), vs = [.ref r, .int n] ∧ Draws K H r sa ∧ 1 ≤ n ∧ n ≤ 1000 ∧ ∀ v H' t, KpB r H H' → RowAt H' r sa → PT H' v t → IsT n t → Q v H'
section
variable {P : Program} {w : World} {K : PySem.W.Frag} {mg : Str → Option Value} {base : Heap} {f : Addr} {fd : FuncData}
theorem has_taken (F : FnP K "_law_taken" sTaken f fd) (m : mg "_law_taken" = some (.ref f)) (B : Bl mg) : Has P w K mg base "_law_taken" 1 [] (spTaken K) := by
  refine ⟨f, fd, ["row", "many"], [], m, F.kp, F.bindsN (fun _ _ _ _ _ _ us hl => match us, hl with | [_, _], _ => rfl), .nil, ?_⟩
  refine F.ok scTaken (fun vs H Q E h => ?_) (fun cdv A outer s H vs Q E hr h => ⟨_, PSs.nox (
    pss_cons (ps_if (pt_cmpR op_gt (pe_ix (r := rIxL K) ix_list (pv 0) pe_int (fun _ _ => rfl)) pe_int (nomark _))
      (pss_cons (ps_set (i := 2) scTaken.nd rfl (Or.inl rfl) (pe_op op_mod (pe_callTy call_int1 rfl B.int PyProof.Rows.boot_int (pa_cons (pe_ix (r := rIxL K) ix_list (pv 0) pe_int (fun _ _ => rfl)) pa_nil)) (pv 1)))
      (pss_cons (ps_asg (pe_op op_fdiv (pe_ix (r := rIxL K) ix_list (pv 0) pe_int (fun _ _ => rfl)) (pv 1)) (pg_sub (pv 0) pe_int set_list))
      (pss_one (ps_ret (pv 2))))) pss_nil)
    (pss_cons (ps_asg (pe_op op_add (pe_ix (r := rIxL K) ix_list (pv 0) pe_int (fun _ _ => rfl)) pe_int) (pg_sub (pv 0) pe_int set_list))
    (pss_cons (ps_if (pt_cmpR op_gt (pe_ix (r := rIxL K) ix_list (pv 0) pe_int (fun _ _ => rfl)) (pe_callB call_len_seq rfl B.len PySem.boot_len (pa_cons (pe_ix (r := rIxL K) ix_list (pv 0) pe_int (fun _ _ => rfl)) pa_nil)) (nomark _))
      (pss_cons (ps_asg (pe_op op_mod (pe_callTy call_int1 rfl B.int PyProof.Rows.boot_int (pa_cons (pe_op op_add (pe_op op_mul (pe_ix (r := rIxL K) ix_list (pv 0) pe_int (fun _ _ => rfl)) pe_int) pe_int) pa_nil)) pe_int) (pg_sub (pv 0) pe_int set_list))
      (pss_one (ps_ret (pe_op op_mod (pe_callTy call_int1 rfl B.int PyProof.Rows.boot_int (pa_cons (pe_op op_fdiv (pe_ix (r := rIxL K) ix_list (pv 0) pe_int (fun _ _ => rfl)) pe_int) pa_nil)) (pv 1))))) pss_nil)
    (pss_cons (ps_set (i := 3) scTaken.nd rfl (Or.inl rfl) (pe_ix (r := rIxL K) ix_list (pe_ix (r := rIxL K) ix_list (pv 0) pe_int (fun _ _ => rfl)) (pe_op op_sub (pe_ix (r := rIxL K) ix_list (pv 0) pe_int (fun _ _ => rfl)) pe_int) (fun _ _ => rfl)))
    (pss_cons (ps_asg (pe_op op_mod (pe_callTy call_int1 rfl B.int PyProof.Rows.boot_int (pa_cons (pe_op op_add (pe_op op_add (pe_op op_mul (pe_ix (r := rIxL K) ix_list (pv 0) pe_int (fun _ _ => rfl)) pe_int) (pv 3)) pe_int) pa_nil)) pe_int) (pg_sub (pv 0) pe_int set_list))
    (pss_cons (ps_if (pt_cmpR op_ge (pv 3) (pe_op op_pow pe_int pe_int) (nomark _)) (pss_one (ps_asg (pe_op op_fdiv (pv 3) (pv 1)) (pg_sub (pv 0) pe_int set_list))) pss_nil)
    (pss_one (ps_ret (pe_op op_mod (pe_callTy call_int1 rfl B.int PyProof.Rows.boot_int (pa_cons (pv 3) pa_nil)) (pv 1)))))))))), ?_⟩)
  · obtain ⟨r, sa, m, rfl, _⟩ := h
    rfl
  · obtain ⟨r, sa, mm, rfl, ⟨⟨i, sd, rest, hrow, hrest⟩, ns, hns⟩, m0, m1, q⟩ := h
    refine ⟨_, rfl, ⟨r, _, _, _, rfl, rfl, SqL.of hrow, at4_3, ⟨_, _, rfl, rfl, _, rfl, ?_⟩⟩⟩
    by_cases hp : 0 < rest
    · refine ifT (A := _) (B := _) (decide_eq_true hp) ?_
      refine ⟨_, rfl, ⟨r, _, _, _, rfl, rfl, SqL.of hrow, at4_3, (.inl ⟨_, rfl, _, rfl, _, _, rfl, rfl, m0, ?_⟩)⟩⟩
      refine ⟨_, rfl, ⟨r, _, _, _, rfl, rfl, SqL.of hrow, at4_3, ⟨_, rfl, _, _, rfl, rfl, ⟨m0, m1⟩, ?_⟩⟩⟩
      refine ⟨_, rfl, r, _, 3, 3, rfl, rfl, hrow, rfl, ?_⟩
      have hm := Int.emod_lt_of_pos rest m0
      have hm0 := Int.emod_nonneg rest (Int.ne_of_gt m0)
      exact ⟨_, rfl, q _ _ ((KpB.refl H).row hrow) ⟨i, sd, rest / mm, upd_same, Int.ediv_nonneg (by omega) (by omega)⟩ hm0 hm⟩
    · refine ifF (A := _) (B := _) (decide_eq_false hp) ?_
      have h0 : rest = 0 := by omega
      subst h0
      refine ⟨_, rfl, ⟨r, _, _, _, rfl, rfl, SqL.of hrow, at4_1, ⟨_, _, rfl, rfl, ?_⟩⟩⟩
      refine ⟨_, rfl, r, _, 1, 1, rfl, rfl, hrow, rfl, ?_⟩
      have z1 : KpB r H (upd H r (.lst [.ref sa, .int ((i : Int) + 1), .int sd, .int 0])) := (KpB.refl H).row hrow
      have hrow1 : (upd H r (.lst [.ref sa, .int ((i : Int) + 1), .int sd, .int 0])) r = some (.lst [.ref sa, .int ((i : Int) + 1), .int sd, .int 0]) := upd_same
      have hns1 := z1.sqI ⟨i, sd, 0, hrow, Int.le_refl _⟩ hns
      refine ⟨_, rfl, ⟨r, _, _, _, rfl, rfl, SqL.of hrow1, at4_1, ⟨_, rfl, ⟨r, _, _, _, rfl, rfl, SqL.of hrow1, at4_0, ⟨sa, _, rfl, .inl hns1, _, _, rfl, rfl, _, rfl, ?_⟩⟩⟩⟩⟩
      rw [List.length_map]
      by_cases hl : (ns.length : Int) < (i : Int) + 1
      · refine ifT (A := _) (B := _) (decide_eq_true hl) ?_
        refine ⟨_, rfl, ⟨r, _, _, _, rfl, rfl, SqL.of hrow1, at4_2, ⟨_, _, rfl, rfl, .inr ⟨by decide, by decide⟩, _, _, rfl, rfl, .inl ⟨_, rfl, _, _, rfl, rfl, (by show (0 : Int) < 2147483647; decide), ?_⟩⟩⟩⟩
        refine ⟨_, rfl, r, _, 2, 2, rfl, rfl, hrow1, rfl, ?_⟩
        rw [upd_upd]
        refine ⟨_, rfl, ⟨r, _, _, _, rfl, rfl, SqL.of upd_same, at4_2, ⟨_, _, rfl, rfl, ⟨by decide, by decide⟩, .inl ⟨_, rfl, _, rfl, _, _, rfl, rfl, m0, ?_⟩⟩⟩⟩
        exact q _ _ ((KpB.refl H).row hrow) ⟨i + 1, _, 0, by rw [upd_same]; rfl, by omega⟩ (Int.emod_nonneg _ (Int.ne_of_gt m0)) (Int.emod_lt_of_pos _ m0)
      · refine ifF (A := _) (B := _) (decide_eq_false hl) ?_
        have hi : i < ns.length := by omega
        refine ⟨_, rfl, ⟨r, _, _, _, rfl, rfl, SqL.of hrow1, at4_0, ⟨_, rfl, ⟨r, _, _, _, rfl, rfl, SqL.of hrow1, at4_1, ⟨_, _, rfl, rfl, sa, _, _, .int (ns.getD i 0), rfl, rfl, hns1, ?_, ?_⟩⟩⟩⟩⟩
        · have e : (i : Int) + 1 - 1 = (i : Int) := by omega
          rw [e]
          exact atI_nat (by rw [List.getElem?_map, get_some hi 0]; rfl)
        generalize ns.getD i 0 = cell
        refine ⟨_, rfl, ⟨r, _, _, _, rfl, rfl, SqL.of hrow1, at4_2, ⟨_, _, rfl, rfl, .inr ⟨by decide, by decide⟩, _, rfl, _, _, rfl, rfl, _, _, rfl, rfl, .inl ⟨_, rfl, _, _, rfl, rfl, (by show (0 : Int) < 2147483647; decide), ?_⟩⟩⟩⟩
        refine ⟨_, rfl, r, _, 2, 2, rfl, rfl, hrow1, rfl, ?_⟩
        rw [upd_upd]
        refine ⟨_, rfl, _, _, rfl, rfl, ⟨by decide, by decide, by decide⟩, _, _, rfl, rfl, _, rfl, ?_⟩
        by_cases hc : (10 : Int) ^ (18 : Int).toNat ≤ cell
        · refine ifT (A := _) (B := _) (decide_eq_true hc) ?_
          refine ⟨_, rfl, _, rfl, _, _, rfl, rfl, ⟨m0, m1⟩, ?_⟩
          refine ⟨_, rfl, r, _, 3, 3, rfl, rfl, upd_same, rfl, ?_⟩
          have c0 : 0 ≤ cell := Int.le_trans (by decide) hc
          exact ⟨_, rfl, .inl ⟨_, rfl, _, rfl, _, _, rfl, rfl, m0, q _ _ (((KpB.refl H).row hrow).row hrow) ⟨i + 1, _, cell / mm, by rw [upd_same]; rfl, Int.ediv_nonneg c0 (by omega)⟩ (Int.emod_nonneg _ (Int.ne_of_gt m0)) (Int.emod_lt_of_pos _ m0)⟩⟩
        · refine ifF (A := _) (B := _) (decide_eq_false hc) ?_
          exact ⟨_, rfl, .inl ⟨_, rfl, _, rfl, _, _, rfl, rfl, m0, q _ _ ((KpB.refl H).row hrow) ⟨i + 1, _, 0, by rw [upd_same]; rfl, by omega⟩ (Int.emod_nonneg _ (Int.ne_of_gt m0)) (Int.emod_lt_of_pos _ m0)⟩⟩
theorem has_pick (F : FnP K "_law_pick" sPick f fd) (m : mg "_law_pick" = some (.ref f)) (B : Bl mg) (hT : Has P w K mg base "_law_taken" 1 [] (spTaken K)) : Has P w K mg base "_law_pick" 2 [] (spPick K) := by
  refine ⟨f, fd, ["row", "things"], [], m, F.kp, F.bindsN (fun _ _ _ _ _ _ us hl => match us, hl with | [_, _], _ => rfl), .nil, ?_⟩
  refine F.ok scPick (fun vs H Q E h => ?_) (fun cdv A outer s H vs Q E hr h => ⟨_, PSs.nox (
    pss_one (ps_ret (pe_ix (r := rIxL K) ix_list (pv 1) (pe_has hT hr (by decide) (pa_cons (pv 0) (pa_cons (pe_callB call_len_seq rfl B.len PySem.boot_len (pa_cons (pv 1) pa_nil)) pa_nil))) (fun _ _ => rfl)))), ?_⟩)
  · obtain ⟨r, sa, t, xs, rfl, _⟩ := h
    rfl
  · obtain ⟨r, sa, t, xs, rfl, hd, ne, hx, hne, hl, q⟩ := h
    have hpos : 0 < xs.length := List.length_pos_iff.mpr hne
    refine ⟨_, rfl, _, rfl, _, rfl, t, xs, rfl, .inl hx, r, sa, _, rfl, hd, by omega, by omega, fun v H1 z1 ra h0 h1 => ?_⟩
    obtain ⟨j, rfl⟩ := Int.eq_ofNat_of_zero_le h0
    have hj : j < xs.length := by omega
    exact ⟨t, xs, _, xs[j], rfl, rfl, z1.sqL hx ne, atI_nat (List.getElem?_eq_getElem hj), q _ _ z1 ra (List.getElem_mem hj)⟩
theorem has_lturn (F : FnP K "_law_turn" sLTurn f fd) (m : mg "_law_turn" = some (.ref f)) (B : Bl mg) (hT : Has P w K mg base "_law_taken" 1 [] (spTaken K)) : Has P w K mg base "_law_turn" 2 [] (spLTurn K) := by
  refine ⟨f, fd, ["row", "halls"], [], m, F.kp, F.bindsN (fun _ _ _ _ _ _ us hl => match us, hl with | [_, _], _ => rfl), .nil, ?_⟩
  refine F.ok scLTurn (fun vs H Q E h => ?_) (fun cdv A outer s H vs Q E hr h => ⟨_, PSs.nox (
    pss_cons (ps_par (i := 2) (j := 3) (by rfl) scLTurn.nd rfl rfl (by decide) rfl rfl (pa_cons (pe_tup pa_nil) (pa_cons (pe_listRg rfl rfl B.list (prg_1 rfl B.range (pv 1))) pa_nil)) (by rfl))
    (pss_cons (ps_while PassesOwn.never (pt_cmpR (op_neNil hr.units) (pv 3) (pe_lst pa_nil) (nomark _))
      (pss_one (ps_set (i := 2) scLTurn.nd rfl (Or.inl rfl) (pe_op op_catP (pv 2) (pe_tupP (pa_cons (pe_bm PySem.F.plainAttrs_list PySem.F.slot_list_pop PySem.F.type_list_pop mt_popAt (pv 3) (pa_cons (pe_has hT hr (by decide) (pa_cons (pv 0) (pa_cons (pe_callB call_len_seq rfl B.len PySem.boot_len (pa_cons (pv 3) pa_nil)) pa_nil))) pa_nil)) pa_nil))))))
    (pss_one (ps_ret (pv 2))))), ?_⟩)
  · obtain ⟨r, sa, n, rfl, _⟩ := h
    rfl
  · obtain ⟨r, sa, n, rfl, hd, hn1, hn2, q⟩ := h
    obtain ⟨xr, hxr⟩ := hd.1.lst
    refine ⟨Nat.zero_le _, fun e he => ⟨_, rfl, n, rfl, RgOk.of_le (by decide) (by omega) (by decide) (by omega), fun l hl => ⟨_, _, rfl, ?_⟩⟩⟩
    have ner : e ≠ r := fun w => by rw [w, hxr] at he; cases he
    have nel : e ≠ l := fun w => by rw [← w, upd_same] at hl; cases hl
    have hl0 : H l = none := by rw [upd_ne nel.symm] at hl; exact hl
    have nlr : l ≠ r := fun w => by rw [w, hxr] at hl0; cases hl0
    refine ⟨fun m σ H' => ∃ (fv : V) (fs ls : List Int), σ = [some (.ref r), some (.int (n : Int)), some fv, some (.ref l)] ∧ KpB r H H' ∧ RowAt H' r sa ∧ H' l = some (.lst (ls.map V.int)) ∧ TI K H' fv fs ∧ (fs ≠ [] → PT H' fv fs) ∧ (fs ++ ls).Perm (idt n) ∧ m = ls.length,
      ⟨_, .ref e, [], idt n, rfl, ((KpB.refl H).put he ner).put hl0 nlr, (hd.1.put ner).put nlr, by rw [upd_same, rgV_idt], TI.of (by rw [upd_ne nel, upd_same]; rfl), fun h => absurd rfl h, List.Perm.refl _, rfl⟩, ?_⟩
    rintro m σ H' ⟨fv, fs, ls, rfl, z, ra, hl', tf, pf, pm, rfl⟩
    obtain ⟨xr', hxr'⟩ := ra.lst
    refine ⟨_, rfl, Nat.zero_le _, fun p hp => ?_⟩
    have npr : p ≠ r := fun w => by rw [w, hxr'] at hp; cases hp
    have npl : p ≠ l := fun w => by rw [w, hl'] at hp; cases hp
    have z2 := z.put (z.none hp) npr (o := .lst [])
    have zp := (Kp.refl H').new hp (o := .lst [])
    have hl2 : (upd H' p (.lst [])) l = some (.lst (ls.map V.int)) := by rw [upd_ne npl.symm]; exact hl'
    refine ⟨l, p, ls.map V.int, rfl, rfl, SqL.of hl2, SqL.of upd_same, _, rfl, ?_⟩
    by_cases hls : ls = []
    · subst hls
      refine ifF (A := _) (B := _) rfl ?_
      rw [List.append_nil] at pm
      have it := low_perm pm
      exact ⟨_, rfl, q _ _ fs z2 (ra.put npr) (zp.pt (pf (ne_len it hn1))) it⟩
    · refine ifT (A := _) (B := _) (by cases ls with | nil => exact absurd rfl hls | cons _ _ => rfl) ?_
      refine ⟨fun σ' H'' => ∃ m', m' < ls.length ∧ ∃ (fv : V) (fs ls : List Int), σ' = [some (.ref r), some (.int (n : Int)), some fv, some (.ref l)] ∧ KpB r H H'' ∧ RowAt H'' r sa ∧ H'' l = some (.lst (ls.map V.int)) ∧ TI K H'' fv fs ∧ (fs ≠ [] → PT H'' fv fs) ∧ (fs ++ ls).Perm (idt n) ∧ m' = ls.length, fun σ' H'' h => h, ?_⟩
      have lp : 0 < ls.length := List.length_pos_iff.mpr hls
      have ll : ls.length ≤ n := by
        have := pm.length_eq
        rw [List.length_append, idt_len] at this
        omega
      refine ⟨_, rfl, _, rfl, .inl ⟨rfl, _, SqL.of hl2⟩, _, rfl, _, rfl, l, _, rfl, .inl (SqL.of hl2), r, sa, _, rfl, hd.b z2 (ra.put npr), by rw [List.length_map]; omega, by rw [List.length_map]; omega, fun v H3 z3 ra3 v0 v1 => ?_⟩
      rw [List.length_map] at v1
      obtain ⟨j, rfl⟩ := Int.eq_ofNat_of_zero_le v0
      have hj : j < ls.length := by omega
      have hl3 : H3 l = some (.lst (ls.map V.int)) := z3.lst hl2 nlr
      refine ⟨l, _, _, j, .int ls[j], rfl, rfl, hl3, by omega, by omega, by rw [seqIndex_of (by omega) (by rw [List.length_map]; omega)]; rfl, by rw [List.getElem?_map, List.getElem?_eq_getElem hj]; rfl, (by show 1 ≤ sizeLine; decide), fun b o hb ho => ?_⟩
      rw [erase_map] at hb ⊢
      have nbl : b ≠ l := fun w => by rw [w, upd_same] at hb; cases hb
      have hb3 : H3 b = none := by rw [upd_ne nbl] at hb; exact hb
      obtain ⟨xr3, hxr3⟩ := ra3.lst
      have nbr : b ≠ r := fun w => by rw [w, hxr3] at hb3; cases hb3
      have z13 := z2.trans z3
      have t4 : Tup H3 (upd H3 l (.lst ((ls.eraseIdx j).map V.int))) := Tup.put (by rw [hl3]; trivial)
      have t5 : Tup H3 (upd (upd H3 l (.lst ((ls.eraseIdx j).map V.int))) b (.frz o (.tup [.int ls[j]]))) := t4.trans (Tup.new hb)
      have t6 : Tup H' (upd (upd H3 l (.lst ((ls.eraseIdx j).map V.int))) b (.frz o (.tup [.int ls[j]]))) := zp.tup.trans (z3.tup.trans t5)
      obtain ⟨pa, rfl, hpa⟩ := id tf
      have fl : fs.length ≤ n := by
        have := pm.length_eq
        rw [List.length_append, idt_len] at this
        omega
      have zz := (z13.put hl0 nlr (o := .lst ((ls.eraseIdx j).map V.int))).put (z13.none hb3) nbr (o := .frz o (.tup [.int ls[j]]))
      have rr := (ra3.put nlr (o := .lst ((ls.eraseIdx j).map V.int))).put nbr (o := .frz o (.tup [.int ls[j]]))
      have el : (ls.eraseIdx j).length < ls.length := by rw [List.length_eraseIdx_of_lt hj]; omega
      have pm2 : ((fs ++ [ls[j]]) ++ ls.eraseIdx j).Perm (idt n) := by
        rw [List.append_assoc]
        exact ((erase_perm ls j _ (List.getElem?_eq_getElem hj)).append_left fs).trans pm
      refine ⟨pa, b, _, [.int ls[j]], rfl, rfl, t6.sq hpa, .inl (.inr ⟨o, upd_same⟩), by rw [List.length_map, sizeLine_eq]; simp only [List.length_singleton]; omega, by simp, fun hx => ?_, fun hx p3 o3 hp3 ho3 => ?_⟩
      · have hfs : fs = [] := by simpa using hx
        subst hfs
        have pt : PT (upd (upd H3 l (.lst ((ls.eraseIdx j).map V.int))) b (.frz o (.tup [.int ls[j]]))) (.ref b) [ls[j]] := .of upd_same ho
        exact ⟨_, el, .ref b, [ls[j]], ls.eraseIdx j, rfl, zz, rr, by rw [upd_ne nbl.symm, upd_same], pt.ti, fun _ => pt, pm2, rfl⟩
      · have np3 : p3 ≠ l := fun w => by rw [w, upd_ne nbl.symm, upd_same] at hp3; cases hp3
        have p3r : p3 ≠ r := fun w => by
          obtain ⟨x4, hx4⟩ := rr.lst
          rw [w, hx4] at hp3
          cases hp3
        have pt : PT (upd (upd (upd H3 l (.lst ((ls.eraseIdx j).map V.int))) b (.frz o (.tup [.int ls[j]]))) p3 (.frz o3 (.tup (fs.map V.int ++ [.int ls[j]])))) (.ref p3) (fs ++ [ls[j]]) := .of (by rw [upd_same, List.map_append]; rfl) ho3
        exact ⟨_, el, .ref p3, fs ++ [ls[j]], ls.eraseIdx j, rfl, zz.put (zz.none hp3) p3r, rr.put p3r, by rw [upd_ne np3.symm, upd_ne nbl.symm, upd_same], pt.ti, fun _ => pt, pm2, rfl⟩
end
end NS
end
section
set_option maxHeartbeats 4000000
/-! DT: nested values; written ones -/
namespace NS
open PySem PySem.Spec PyProof.Rows L2 ZS
inductive Dt where
  | int (i : Int) | bl (b : Bool) | tup (xs : List Dt) | lst (xs : List Dt)
mutual
/-- v stands for d -/
def IsDt (K : PySem.W.Frag) (H : Hp) : Dt → V → Prop
  | .int i, v => v = .int i
  | .bl b, v => v = .bl b
  | .tup ds, v => ∃ a xs, v = .ref a ∧ SqT K H a xs ∧ IsDts K H ds xs
  | .lst ds, v => ∃ a xs, v = .ref a ∧ SqL K H a xs ∧ IsDts K H ds xs
def IsDts (K : PySem.W.Frag) (H : Hp) : List Dt → List V → Prop
  | [], vs => vs = []
  | d :: ds, vs => ∃ v r, vs = v :: r ∧ IsDt K H d v ∧ IsDts K H ds r
end
mutual
def Dt.depth : Dt → Nat
  | .int _ => 0
  | .bl _ => 0
  | .tup ds => Dt.depths ds + 1
  | .lst ds => Dt.depths ds + 1
def Dt.depths : List Dt → Nat
  | [] => 0
  | d :: ds => max (Dt.depth d) (Dt.depths ds)
end
section
variable {K : PySem.W.Frag} {H H' : Hp}
mutual
theorem IsDt.kp (z : Kp H H') : ∀ (d : Dt) (v : V), IsDt K H d v → IsDt K H' d v
  | .int i, v, h => by unfold IsDt at h ⊢; exact h
  | .bl b, v, h => by unfold IsDt at h ⊢; exact h
  | .tup ds, v, h => by
    unfold IsDt at h ⊢
    obtain ⟨a, xs, e, s, r⟩ := h
    exact ⟨a, xs, e, z.sqT s, IsDts.kp z ds xs r⟩
  | .lst ds, v, h => by
    unfold IsDt at h ⊢
    obtain ⟨a, xs, e, s, r⟩ := h
    exact ⟨a, xs, e, z.sqL s, IsDts.kp z ds xs r⟩
theorem IsDts.kp (z : Kp H H') : ∀ (ds : List Dt) (vs : List V), IsDts K H ds vs → IsDts K H' ds vs
  | [], vs, h => by unfold IsDts at h ⊢; exact h
  | d :: ds, vs, h => by
    unfold IsDts at h ⊢
    obtain ⟨v, r, e, h1, h2⟩ := h
    exact ⟨v, r, e, IsDt.kp z d v h1, IsDts.kp z ds r h2⟩
end
theorem IsDts.len : ∀ {ds : List Dt} {vs : List V}, IsDts K H ds vs → vs.length = ds.length
  | [], vs, h => by unfold IsDts at h; rw [h]; rfl
  | d :: ds, vs, h => by
    unfold IsDts at h
    obtain ⟨v, r, e, _, h2⟩ := h
    rw [e, List.length_cons, List.length_cons, IsDts.len h2]
theorem IsDts.get : ∀ {ds : List Dt} {vs : List V} {i : Nat} {d : Dt}, IsDts K H ds vs → ds[i]? = some d → ∃ v, vs[i]? = some v ∧ IsDt K H d v
  | [], vs, i, d, h, e => by simp at e
  | d0 :: ds, vs, 0, d, h, e => by
    unfold IsDts at h
    obtain ⟨v, r, e1, h1, _⟩ := h
    cases e
    exact ⟨v, by rw [e1]; rfl, h1⟩
  | d0 :: ds, vs, i + 1, d, h, e => by
    unfold IsDts at h
    obtain ⟨v, r, e1, _, h2⟩ := h
    obtain ⟨x, h3, h4⟩ := IsDts.get h2 (i := i) (d := d) e
    exact ⟨x, by rw [e1]; exact h3, h4⟩
theorem IsDts.snoc : ∀ {ds es : List Dt} {vs ws : List V}, IsDts K H ds vs → IsDts K H es ws → IsDts K H (ds ++ es) (vs ++ ws)
  | [], es, vs, ws, h, h' => by unfold IsDts at h; rw [h]; exact h'
  | d :: ds, es, vs, ws, h, h' => by
    unfold IsDts at h
    obtain ⟨v, r, e, h1, h2⟩ := h
    show IsDts K H (d :: (ds ++ es)) (vs ++ ws)
    unfold IsDts
    exact ⟨v, r ++ ws, by rw [e]; rfl, h1, IsDts.snoc h2 h'⟩
theorem dt_ints : ∀ ns : List Int, IsDts K H (ns.map Dt.int) (ns.map V.int)
  | [] => by unfold IsDts; rfl
  | n :: ns => by
    show IsDts K H (Dt.int n :: ns.map Dt.int) (V.int n :: ns.map V.int)
    unfold IsDts
    exact ⟨_, _, rfl, by unfold IsDt; rfl, dt_ints ns⟩
theorem of_dt_ints : ∀ (ns : List Int) (vs : List V), IsDts K H (ns.map Dt.int) vs → vs = ns.map V.int
  | [], vs, h => by simp only [List.map_nil] at h; unfold IsDts at h; rw [h]; rfl
  | n :: ns, vs, h => by
    simp only [List.map_cons] at h
    unfold IsDts at h
    obtain ⟨v, r, e, h1, h2⟩ := h
    unfold IsDt at h1
    rw [e, h1, of_dt_ints ns r h2, List.map_cons]
abbrev dT (t : List Int) : Dt := .tup (t.map Dt.int)
theorem TI.dt {v : V} {k : List Int} (h : TI K H v k) : IsDt K H (dT k) v := by
  obtain ⟨a, e, s⟩ := h
  unfold IsDt
  exact ⟨a, _, e, s, dt_ints k⟩
theorem dt_ti {v : V} {k : List Int} (h : IsDt K H (dT k) v) : TI K H v k := by
  unfold IsDt at h
  obtain ⟨a, xs, e, s, r⟩ := h
  rw [of_dt_ints k xs r] at s
  exact ⟨a, e, s⟩
end
/-- an expression that makes d out of nothing -/
def tDt (K : PySem.W.Frag) (d : Dt) : TE := fun _ H Q => ∀ v H', Kp H H' → IsDt K H' d v → Q v H'
def tDts (K : PySem.W.Frag) (ds : List Dt) : TA := fun _ H Q => ∀ vs H', Kp H H' → IsDts K H' ds vs → Q vs H'
section
variable {X : Cx}
theorem pd_int {i : Int} {j : Nat} {pos : Pos} : PE X (.Constant (.int i) j pos) (tDt X.K (.int i)) := pe_imp pe_int fun _ H Q h => h _ H (Kp.refl H) (by unfold IsDt; rfl)
theorem pd_nil : PA X [] (tDts X.K []) := ⟨fun pos pins s σ H Q I h => pa_nil.run pos pins s σ H Q I (h [] H (Kp.refl H) (by unfold IsDts; rfl))⟩
theorem pd_cons {e : Expr} {es : List Expr} {d : Dt} {ds : List Dt} (h1 : PE X e (tDt X.K d)) (h2 : PA X es (tDts X.K ds)) (hs : starEach (e :: es) X.env = (false, eval e X.env) :: starEach es X.env := by rfl) : PA X (e :: es) (tDts X.K (d :: ds)) :=
  ⟨fun pos pins s σ H Q I h => (pa_cons h1 h2 hs).run pos pins s σ H Q I (show tCons (tDt X.K d) (tDts X.K ds) σ H Q from fun v H1 z1 i1 vs H2 z2 i2 => h _ H2 (z1.trans z2) (by unfold IsDts; exact ⟨v, vs, rfl, IsDt.kp z2 d v i1, i2⟩))⟩
theorem pd_tup {es : List Expr} {x1} {pos : Pos} {ds : List Dt} (h : PA X es (tDts X.K ds)) (hl : ds.length ≤ 100 := by decide) : PE X (.Tuple es x1 pos) (tDt X.K (.tup ds)) :=
  pe_imp (pe_tup h) fun _ H Q q => show tTup (tDts X.K ds) _ H Q from fun vs H1 z1 i1 => ⟨by rw [i1.len, sizeLine_eq]; omega, fun p hp => q _ _ (z1.new hp) (by unfold IsDt; exact ⟨p, vs, rfl, SqT.of upd_same, IsDts.kp ((Kp.refl H1).new hp) ds vs i1⟩)⟩
theorem pd_lst {es : List Expr} {pos : Pos} {ds : List Dt} (h : PA X es (tDts X.K ds)) (hl : ds.length ≤ 100 := by decide) : PE X (.List es pos) (fun _ H Q => ∀ p H' vs, Kp H H' → H' p = some (.lst vs) → IsDts X.K H' ds vs → Q (.ref p) H') :=
  pe_imp (pe_lst h) fun _ H Q q => show tLst (tDts X.K ds) _ H Q from fun vs H1 z1 i1 => ⟨by rw [i1.len, sizeLine_eq]; omega, fun p hp => q p _ vs (z1.new hp) upd_same (IsDts.kp ((Kp.refl H1).new hp) ds vs i1)⟩
end
end NS
end
section
set_option maxHeartbeats 4000000
/-! L2x: circle, stayers, undone, then, members of the law -/
namespace NS
open PySem PySem.Spec PyProof.Rows L2 ZS
theorem scLCircle : FnScope ["halls", "step", "hall"] ["halls", "step"] (defScope sLCircle) := ⟨rfl, rfl, rfl, by decide +kernel, rfl, by decide +kernel, by decide +kernel⟩
def circ (n s : Nat) : List Int := (List.range n).map fun (i : Nat) => ((i : Int) + (s : Int)) % (n : Int)
def spLCircle : Sp := fun vs H Q _ => ∃ n s : Nat, vs = [.int n, .int s] ∧ 1 ≤ n ∧ n ≤ 1000 ∧ ∀ v H', Kp H H' → PT H' v (circ n s) → Q v H'
def spLStayers : Sp := fun vs H Q _ => ∃ (u : V) (t : List Int), vs = [u] ∧ PT H u t ∧ t.length ≤ 1000 ∧ ∀ r H', Kp H H' → PT H' r (keptL t) → Q r H'
theorem pr_pt {H H' : Hp} (z : Tup H H') {vs : List V} {as : List (List Int)} (h : Paired (PT H) vs as) : Paired (PT H') vs as := h.mono fun _ _ q => NS.Tup.pt z q
section
variable {P : Program} {w : World} {K : PySem.W.Frag} {mg : Str → Option Value} {base : Heap} {f : Addr} {fd : FuncData}
theorem has_lcircle (F : FnP K "_law_circle" sLCircle f fd) (m : mg "_law_circle" = some (.ref f)) (B : Bl mg) : Has P w K mg base "_law_circle" 1 [] spLCircle := by
  refine ⟨f, fd, ["halls", "step"], [], m, F.kp, F.bindsN (fun _ _ _ _ _ _ us hl => match us, hl with | [_, _], _ => rfl), .nil, ?_⟩
  refine F.ok scLCircle (fun vs H Q E h => ?_) (fun cdv A outer s H vs Q E hr h => ⟨_, PSs.nox (pss_one (ps_ret (pe_callTy cr_tupP rfl B.tuple PyProof.Rows.boot_tuple (pa_cons
    (pe_lc (own := [("hall", 2)]) (g := gName 2) (tt := tYes) rfl scLCircle.nd (pi_range1 rfl B.range (pa_cons (pv 0) pa_nil)) (blkOk_by (N := ["halls", "step", "hall"]) (sc := defScope sLCircle) (by decide +kernel))
      (fun _ _ _ _ _ => pg_name (i := 2) scLCircle.nd rfl (Or.inl rfl)) (fun _ _ _ _ _ => pts_nil) (fun _ _ _ _ _ => pe_op op_mod (pe_op op_add (pv 2) (pv 1)) (pv 0))) pa_nil)))), ?_⟩)
  · obtain ⟨n, s, rfl, _⟩ := h
    rfl
  · obtain ⟨n, s', rfl, hn, hn2, q⟩ := h
    refine ⟨_, rfl, (n : Int), rfl, by omega, by omega, fun D hD => ?_⟩
    show ∃ W, _
    have cl : (circ n s').length = n := by unfold circ; simp
    refine lcF (J := Itr 0 n) (Wlk.rng 0 n) hD (by have := big; omega) (fun i y _ => y = .int ((circ n s').getD i 0)) (fun _ _ _ _ _ h => h) (fun i x H' Q1 hi z hx q1 => ?_) (fun x H' Q Q' h q => h _ _ q) (fun ys H' z hD' hp => ?_)
    · subst hx
      refine ⟨rfl, _, rfl, _, rfl, _, _, rfl, rfl, _, rfl, _, _, rfl, rfl, (by show (0 : Int) < (n : Int); omega), q1 _ _ (Kp.refl _) ?_⟩
      rw [getD_of (d := 0) (x := ((i : Int) + (s' : Int)) % (n : Int)) (by unfold circ; rw [List.getElem?_map, List.getElem?_range hi]; rfl)]
      show V.int ((0 + (i : Int) + (s' : Int)) % (n : Int)) = _
      rw [Int.zero_add]
    · refine ⟨D, _, rfl, SqL.of hD', fun l o hl ho => ?_⟩
      rw [paired_ints cl hp]
      exact q _ _ (z.new hl) (.of upd_same ho)
theorem has_lthen (F : FnP K "_law_then" sLThen f fd) (m : mg "_law_then" = some (.ref f)) (B : Bl mg) : Has P w K mg base "_law_then" 1 [] (spThen K) := by
  refine ⟨f, fd, ["one", "other"], [], m, F.kp, F.bindsN (fun _ _ _ _ _ _ us hl => match us, hl with | [_, _], _ => rfl), .nil, ?_⟩
  refine F.ok scLThen (fun vs H Q E h => ?_) (fun cdv A outer s H vs Q E hr h => ⟨_, PSs.nox (pss_one (ps_ret (pe_callTy cr_tupP rfl B.tuple PyProof.Rows.boot_tuple (pa_cons
    (pe_lc (own := [("hall", 2)]) (g := gName 2) (tt := tYes) rfl scLThen.nd (pi_tup (pv 0)) (blkOk_by (N := ["one", "other", "hall"]) (sc := defScope sLThen) (by decide +kernel))
      (fun _ _ _ _ _ => pg_name (i := 2) scLThen.nd rfl (Or.inl rfl)) (fun _ _ _ _ _ => pts_nil) (fun _ _ _ _ _ => pe_ix (r := rIxT K) ix_tup (pv 1) (pv 2) (fun _ _ => rfl))) pa_nil)))), ?_⟩)
  · obtain ⟨u, v, a, b, rfl, _⟩ := h
    rfl
  · obtain ⟨u, v, a, b, rfl, ⟨pa, rfl, ha⟩, ⟨pb, rfl, hb⟩, lo, hz, q⟩ := h
    refine ⟨_, rfl, pa, rfl, ⟨_, ha⟩, fun D hD => ?_⟩
    refine lcF (Wlk.tup ha) hD (by rw [List.length_map]; have := big; omega) (fun i y _ => y = .int ((comp a b).getD i 0)) (fun _ _ _ _ _ h => h) (fun i x H' Q1 hi z hx q1 => ?_) (fun x H' Q Q' h q => h _ _ q) (fun ys H' z hD' hp => ?_)
    · obtain ⟨k, e, rfl⟩ := map_some hx
      obtain ⟨h0, h1⟩ := lo k (List.mem_of_getElem? e)
      refine ⟨rfl, _, rfl, _, rfl, pb, _, k, _, rfl, rfl, z.sqT hb, at_ints h0 h1, q1 _ _ (Kp.refl _) ?_⟩
      rw [comp_at e]
    · rw [List.length_map] at hp
      refine ⟨D, _, rfl, SqL.of hD', fun l o hl ho => ?_⟩
      rw [paired_ints (comp_len a b) hp]
      exact q _ _ (z.new hl) (.of upd_same ho)
theorem has_lstayers (F : FnP K "_law_stayers" sLStayers f fd) (m : mg "_law_stayers" = some (.ref f)) (B : Bl mg) : Has P w K mg base "_law_stayers" 1 [] spLStayers := by
  refine ⟨f, fd, ["turn"], [], m, F.kp, F.bindsN (fun _ _ _ _ _ _ us hl => match us, hl with | [_], _ => rfl), .nil, ?_⟩
  refine F.ok scLStayers (fun vs H Q E h => ?_) (fun cdv A outer s H vs Q E hr h => ⟨_, PSs.nox (pss_one (ps_ret (pe_callTy cr_tupP rfl B.tuple PyProof.Rows.boot_tuple (pa_cons
    (pe_lc (own := [("hall", 1)]) (g := gName 1) (tt := tTest (tOp rEq (tOp (rIxT K) (tVar 0) (tVar 1)) (tVar 1))) rfl scLStayers.nd (pi_range1 rfl B.range (pa_cons (pe_callB call_len_seq rfl B.len PySem.boot_len (pa_cons (pv 0) pa_nil)) pa_nil)) (blkOk_by (N := ["turn", "hall"]) (sc := defScope sLStayers) (by decide +kernel))
      (fun _ _ _ _ _ => pg_name (i := 1) scLStayers.nd rfl (Or.inl rfl)) (fun _ _ _ _ _ => pts_one (pt_cmpR op_eq (pe_ix (r := rIxT K) ix_tup (pv 0) (pv 1) (fun _ _ => rfl)) (pv 1) (nomark _))) (fun _ _ _ _ _ => pv 1)) pa_nil)))), ?_⟩)
  · obtain ⟨v, t, rfl, _⟩ := h
    rfl
  · obtain ⟨v, t, rfl, hp, hz, q⟩ := h
    obtain ⟨pa, o, rfl, ha, hd⟩ := id hp
    have hT : SqT K H pa (t.map V.int) := .inl (.inr ⟨o, ha⟩)
    refine ⟨_, rfl, pa, _, rfl, .inr hT, ((t.map V.int).length : Nat), rfl, by omega, by rw [List.length_map]; omega, fun D hD => ?_⟩
    rw [List.length_map]
    show ∃ W, _
    refine lcG (J := Itr 0 t.length) (Wlk.rng 0 t.length) hD (by have := big; omega) (fun i => decide (t.getD i 0 = (i : Int))) (fun i y _ => y = .int (i : Nat)) (fun _ _ _ _ _ h => h) (fun i x H' Q1 Q0 hi z hx q1 q0 => ?_) (fun ys H' z hD' hp => ?_)
    · subst hx
      refine ⟨rfl, _, rfl, _, rfl, pa, _, _, .int (t.getD i 0), rfl, rfl, z.sqT hT, ?_, _, rfl, rfl, _, rfl, ?_⟩
      · rw [Int.zero_add]
        exact atI_nat (by rw [List.getElem?_map, get_some hi 0]; rfl)
      have e : decide (V.int (t.getD i 0) = V.int (0 + (i : Int))) = decide (t.getD i 0 = (i : Int)) := by
        rw [Int.zero_add]
        exact decide_eq_decide.mpr ⟨fun e => by injection e, fun e => by rw [e]⟩
      show if decide (V.int (t.getD i 0) = V.int (0 + (i : Int))) = true then _ else _
      rw [e]
      cases hb : decide (t.getD i 0 = (i : Int)) with
      | true => exact ifT (B := Q0 _) rfl ⟨_, rfl, q1 _ _ hb (Kp.refl _) (by rw [Int.zero_add])⟩
      | false => exact ifF (A := tVar 1 _ _ Q1) rfl (q0 _ hb (Kp.refl _))
    · refine ⟨D, _, rfl, SqL.of hD', fun l o hl ho => q _ _ (z.new hl) (.of ?_ ho)⟩
      rw [upd_same, paired_map (f := fun i : Nat => V.int (i : Nat)) (fun _ _ e => e) hp]
      unfold keptL
      rw [List.map_map]
      rfl
end
end NS
end
section
set_option maxHeartbeats 4000000
/-! L3: the law's houses -/
namespace NS
open PySem PySem.Spec PyProof.Rows L2 ZS
theorem scLKnown : FnScope ["rows"] [] (defScope sLKnown) := ⟨rfl, rfl, rfl, by decide +kernel, rfl, by decide +kernel, by decide +kernel⟩
theorem scLMixed : FnScope ["row", "house", "names", "moved", "one", "found", "hall"] ["row", "house"] (defScope sLMixed) := ⟨rfl, rfl, rfl, by decide +kernel, rfl, by decide +kernel, by decide +kernel⟩
theorem scLWhole : FnScope ["row"] ["row"] (defScope sLWhole) := ⟨rfl, rfl, rfl, by decide +kernel, rfl, by decide +kernel, by decide +kernel⟩
theorem scLHouse : FnScope ["row", "halls", "letter"] ["row"] (defScope sLHouse) := ⟨rfl, rfl, rfl, by decide +kernel, rfl, by decide +kernel, by decide +kernel⟩
def kn0 : List (Nat × List (List Int)) := [(2, [[1, 0]]), (3, [[1, 2, 0]]), (3, [[1, 2, 0], [0, 2, 1]])]
def kn1 : List (Nat × List (List Int)) := [(4, [circ 4 1]), (4, [[1, 0, 3, 2], [2, 3, 0, 1]])]
def kn2 : List (Nat × List (List Int)) := [(4, [[1, 2, 0, 3], [1, 0, 3, 2]]), (4, [circ 4 1, [0, 3, 2, 1]])]
def kn3 : List (Nat × List (List Int)) := [(4, [[1, 2, 3, 0], [1, 0, 2, 3]])]
def kn4 : List (Nat × List (List Int)) := [(5, [circ 5 1]), (5, [circ 5 1, [0, 4, 3, 2, 1]])]
def kn5 : List (Nat × List (List Int)) := [(5, [circ 5 1, [0, 2, 4, 1, 3]])]
def kn6 : List (Nat × List (List Int)) := [(5, [[1, 2, 0, 3, 4], [0, 1, 3, 4, 2]]), (6, [circ 6 1])]
def kn7 : List (Nat × List (List Int)) := [(6, [circ 6 1, [0, 5, 4, 3, 2, 1]])]
def kn8 : List (Nat × List (List Int)) := [(6, [[1, 2, 0, 4, 5, 3], [3, 5, 4, 0, 2, 1]]), (6, [[1, 2, 3, 4, 0, 5], [5, 4, 2, 3, 1, 0]])]
def kn9 : List (Nat × List (List Int)) := [(7, [circ 7 1, [0, 2, 4, 6, 1, 3, 5]])]
def kn10 : List (Nat × List (List Int)) := [(7, [circ 7 1, [0, 3, 6, 2, 5, 1, 4]]), (7, [circ 7 1])]
def kn11 : List (Nat × List (List Int)) := [(8, [circ 8 1]), (8, [[1, 0, 3, 2, 5, 4, 7, 6], [0, 2, 4, 6, 3, 1, 7, 5]])]
def kn12 : List (Nat × List (List Int)) := [(8, [[1, 2, 3, 0, 5, 6, 7, 4], [4, 7, 6, 5, 2, 1, 0, 3]])]
def kn13 : List (Nat × List (List Int)) := [(8, [circ 8 1, [0, 7, 6, 5, 4, 3, 2, 1]])]
def known : List (Nat × List (List Int)) := (((((((((((((kn0 ++ kn1) ++ kn2) ++ kn3) ++ kn4) ++ kn5) ++ kn6) ++ kn7) ++ kn8) ++ kn9) ++ kn10) ++ kn11) ++ kn12) ++ kn13)
abbrev houseD (p : Nat × List (List Int)) : Dt := .tup [.int p.1, .tup (p.2.map dT)]
def spLKnown (K : PySem.W.Frag) : Sp := fun vs H Q _ => vs = [] ∧ ∀ q H' us, Kp H H' → H' q = some (.lst us) → IsDts K H' (known.map houseD) us → Q (.ref q) H'
theorem pd_circ {X : Cx} {k : Nat} {n s j1 j2 : Nat} {p p1 p2 pos : Pos} (hC : Has X.prog X.w X.K X.mg X.base "_law_circle" 1 [] spLCircle) (hr : Room k X.A) (hk : 1 ≤ k := by decide) (hn : 1 ≤ n := by decide) (hn2 : n ≤ 1000 := by decide) (hg : Gl X "_law_circle" := by rfl)
    (h1 : starEach [.Constant (.int n) j1 p1, .Constant (.int s) j2 p2] X.env = (false, eval (.Constant (.int n) j1 p1) X.env) :: starEach [.Constant (.int s) j2 p2] X.env := by rfl)
    (h2 : starEach [.Constant (.int s) j2 p2] X.env = (false, eval (.Constant (.int s) j2 p2) X.env) :: starEach [] X.env := by rfl) (h3 : (backTo pos (starEach [.Constant (.int s) j2 p2] X.env)).any (·.1) = false := by rfl) :
    PE X (.Call (.Name "_law_circle" p) [.Constant (.int n) j1 p1, .Constant (.int s) j2 p2] [] pos) (tDt X.K (dT (circ n s))) :=
  pe_imp (pe_has hC hr hk (pa_cons pe_int (pa_cons pe_int pa_nil h2) h1) hg (by decide) h1 h3) fun σ H Q q => show tCall spLCircle [] E0 (tCons (tC (.int n)) (tCons (tC (.int s)) tNil)) σ H Q from ⟨n, s, rfl, hn, hn2, fun v H' z p => q v H' z (NS.TI.dt p.ti)⟩
section
variable {P : Program} {w : World} {K : PySem.W.Frag} {mg : Str → Option Value} {base : Heap} {f : Addr} {fd : FuncData}
theorem has_lknown (F : FnP K "_law_known_groups" sLKnown f fd) (m : mg "_law_known_groups" = some (.ref f)) (B : Bl mg) (hC : Has P w K mg base "_law_circle" 1 [] spLCircle) : Has P w K mg base "_law_known_groups" 2 [] (spLKnown K) := by
  refine ⟨f, fd, [], [], m, F.kp, F.bindsN (fun _ _ _ _ _ _ us hl => match us, hl with | [], _ => rfl), .nil, ?_⟩
  refine F.ok scLKnown (fun vs H Q E h => ?_) (fun cdv A outer s H vs Q E hr h => ⟨_, PSs.nox (
    pss_cons (ps_set (i := 0) scLKnown.nd rfl (Or.inl rfl) (pd_lst (pd_cons (pd_tup (pd_cons pd_int (pd_cons (pd_tup (pd_cons (pd_tup (pd_cons pd_int (pd_cons pd_int pd_nil))) pd_nil)) pd_nil))) (pd_cons (pd_tup (pd_cons pd_int (pd_cons (pd_tup (pd_cons (pd_tup (pd_cons pd_int (pd_cons pd_int (pd_cons pd_int pd_nil)))) pd_nil)) pd_nil))) (pd_cons (pd_tup (pd_cons pd_int (pd_cons (pd_tup (pd_cons (pd_tup (pd_cons pd_int (pd_cons pd_int (pd_cons pd_int pd_nil)))) (pd_cons (pd_tup (pd_cons pd_int (pd_cons pd_int (pd_cons pd_int pd_nil)))) pd_nil))) pd_nil))) pd_nil)))))
    (pss_cons (ps_set (i := 0) scLKnown.nd rfl (Or.inl rfl) (pe_op op_cat (pv 0) (pd_lst (pd_cons (pd_tup (pd_cons pd_int (pd_cons (pd_tup (pd_cons (pd_circ hC hr (n := 4) (s := 1)) pd_nil)) pd_nil))) (pd_cons (pd_tup (pd_cons pd_int (pd_cons (pd_tup (pd_cons (pd_tup (pd_cons pd_int (pd_cons pd_int (pd_cons pd_int (pd_cons pd_int pd_nil))))) (pd_cons (pd_tup (pd_cons pd_int (pd_cons pd_int (pd_cons pd_int (pd_cons pd_int pd_nil))))) pd_nil))) pd_nil))) pd_nil)))))
    (pss_cons (ps_set (i := 0) scLKnown.nd rfl (Or.inl rfl) (pe_op op_cat (pv 0) (pd_lst (pd_cons (pd_tup (pd_cons pd_int (pd_cons (pd_tup (pd_cons (pd_tup (pd_cons pd_int (pd_cons pd_int (pd_cons pd_int (pd_cons pd_int pd_nil))))) (pd_cons (pd_tup (pd_cons pd_int (pd_cons pd_int (pd_cons pd_int (pd_cons pd_int pd_nil))))) pd_nil))) pd_nil))) (pd_cons (pd_tup (pd_cons pd_int (pd_cons (pd_tup (pd_cons (pd_circ hC hr (n := 4) (s := 1)) (pd_cons (pd_tup (pd_cons pd_int (pd_cons pd_int (pd_cons pd_int (pd_cons pd_int pd_nil))))) pd_nil))) pd_nil))) pd_nil)))))
    (pss_cons (ps_set (i := 0) scLKnown.nd rfl (Or.inl rfl) (pe_op op_cat (pv 0) (pd_lst (pd_cons (pd_tup (pd_cons pd_int (pd_cons (pd_tup (pd_cons (pd_tup (pd_cons pd_int (pd_cons pd_int (pd_cons pd_int (pd_cons pd_int pd_nil))))) (pd_cons (pd_tup (pd_cons pd_int (pd_cons pd_int (pd_cons pd_int (pd_cons pd_int pd_nil))))) pd_nil))) pd_nil))) pd_nil))))
    (pss_cons (ps_set (i := 0) scLKnown.nd rfl (Or.inl rfl) (pe_op op_cat (pv 0) (pd_lst (pd_cons (pd_tup (pd_cons pd_int (pd_cons (pd_tup (pd_cons (pd_circ hC hr (n := 5) (s := 1)) pd_nil)) pd_nil))) (pd_cons (pd_tup (pd_cons pd_int (pd_cons (pd_tup (pd_cons (pd_circ hC hr (n := 5) (s := 1)) (pd_cons (pd_tup (pd_cons pd_int (pd_cons pd_int (pd_cons pd_int (pd_cons pd_int (pd_cons pd_int pd_nil)))))) pd_nil))) pd_nil))) pd_nil)))))
    (pss_cons (ps_set (i := 0) scLKnown.nd rfl (Or.inl rfl) (pe_op op_cat (pv 0) (pd_lst (pd_cons (pd_tup (pd_cons pd_int (pd_cons (pd_tup (pd_cons (pd_circ hC hr (n := 5) (s := 1)) (pd_cons (pd_tup (pd_cons pd_int (pd_cons pd_int (pd_cons pd_int (pd_cons pd_int (pd_cons pd_int pd_nil)))))) pd_nil))) pd_nil))) pd_nil))))
    (pss_cons (ps_set (i := 0) scLKnown.nd rfl (Or.inl rfl) (pe_op op_cat (pv 0) (pd_lst (pd_cons (pd_tup (pd_cons pd_int (pd_cons (pd_tup (pd_cons (pd_tup (pd_cons pd_int (pd_cons pd_int (pd_cons pd_int (pd_cons pd_int (pd_cons pd_int pd_nil)))))) (pd_cons (pd_tup (pd_cons pd_int (pd_cons pd_int (pd_cons pd_int (pd_cons pd_int (pd_cons pd_int pd_nil)))))) pd_nil))) pd_nil))) (pd_cons (pd_tup (pd_cons pd_int (pd_cons (pd_tup (pd_cons (pd_circ hC hr (n := 6) (s := 1)) pd_nil)) pd_nil))) pd_nil)))))
    (pss_cons (ps_set (i := 0) scLKnown.nd rfl (Or.inl rfl) (pe_op op_cat (pv 0) (pd_lst (pd_cons (pd_tup (pd_cons pd_int (pd_cons (pd_tup (pd_cons (pd_circ hC hr (n := 6) (s := 1)) (pd_cons (pd_tup (pd_cons pd_int (pd_cons pd_int (pd_cons pd_int (pd_cons pd_int (pd_cons pd_int (pd_cons pd_int pd_nil))))))) pd_nil))) pd_nil))) pd_nil))))
    (pss_cons (ps_set (i := 0) scLKnown.nd rfl (Or.inl rfl) (pe_op op_cat (pv 0) (pd_lst (pd_cons (pd_tup (pd_cons pd_int (pd_cons (pd_tup (pd_cons (pd_tup (pd_cons pd_int (pd_cons pd_int (pd_cons pd_int (pd_cons pd_int (pd_cons pd_int (pd_cons pd_int pd_nil))))))) (pd_cons (pd_tup (pd_cons pd_int (pd_cons pd_int (pd_cons pd_int (pd_cons pd_int (pd_cons pd_int (pd_cons pd_int pd_nil))))))) pd_nil))) pd_nil))) (pd_cons (pd_tup (pd_cons pd_int (pd_cons (pd_tup (pd_cons (pd_tup (pd_cons pd_int (pd_cons pd_int (pd_cons pd_int (pd_cons pd_int (pd_cons pd_int (pd_cons pd_int pd_nil))))))) (pd_cons (pd_tup (pd_cons pd_int (pd_cons pd_int (pd_cons pd_int (pd_cons pd_int (pd_cons pd_int (pd_cons pd_int pd_nil))))))) pd_nil))) pd_nil))) pd_nil)))))
    (pss_cons (ps_set (i := 0) scLKnown.nd rfl (Or.inl rfl) (pe_op op_cat (pv 0) (pd_lst (pd_cons (pd_tup (pd_cons pd_int (pd_cons (pd_tup (pd_cons (pd_circ hC hr (n := 7) (s := 1)) (pd_cons (pd_tup (pd_cons pd_int (pd_cons pd_int (pd_cons pd_int (pd_cons pd_int (pd_cons pd_int (pd_cons pd_int (pd_cons pd_int pd_nil)))))))) pd_nil))) pd_nil))) pd_nil))))
    (pss_cons (ps_set (i := 0) scLKnown.nd rfl (Or.inl rfl) (pe_op op_cat (pv 0) (pd_lst (pd_cons (pd_tup (pd_cons pd_int (pd_cons (pd_tup (pd_cons (pd_circ hC hr (n := 7) (s := 1)) (pd_cons (pd_tup (pd_cons pd_int (pd_cons pd_int (pd_cons pd_int (pd_cons pd_int (pd_cons pd_int (pd_cons pd_int (pd_cons pd_int pd_nil)))))))) pd_nil))) pd_nil))) (pd_cons (pd_tup (pd_cons pd_int (pd_cons (pd_tup (pd_cons (pd_circ hC hr (n := 7) (s := 1)) pd_nil)) pd_nil))) pd_nil)))))
    (pss_cons (ps_set (i := 0) scLKnown.nd rfl (Or.inl rfl) (pe_op op_cat (pv 0) (pd_lst (pd_cons (pd_tup (pd_cons pd_int (pd_cons (pd_tup (pd_cons (pd_circ hC hr (n := 8) (s := 1)) pd_nil)) pd_nil))) (pd_cons (pd_tup (pd_cons pd_int (pd_cons (pd_tup (pd_cons (pd_tup (pd_cons pd_int (pd_cons pd_int (pd_cons pd_int (pd_cons pd_int (pd_cons pd_int (pd_cons pd_int (pd_cons pd_int (pd_cons pd_int pd_nil))))))))) (pd_cons (pd_tup (pd_cons pd_int (pd_cons pd_int (pd_cons pd_int (pd_cons pd_int (pd_cons pd_int (pd_cons pd_int (pd_cons pd_int (pd_cons pd_int pd_nil))))))))) pd_nil))) pd_nil))) pd_nil)))))
    (pss_cons (ps_set (i := 0) scLKnown.nd rfl (Or.inl rfl) (pe_op op_cat (pv 0) (pd_lst (pd_cons (pd_tup (pd_cons pd_int (pd_cons (pd_tup (pd_cons (pd_tup (pd_cons pd_int (pd_cons pd_int (pd_cons pd_int (pd_cons pd_int (pd_cons pd_int (pd_cons pd_int (pd_cons pd_int (pd_cons pd_int pd_nil))))))))) (pd_cons (pd_tup (pd_cons pd_int (pd_cons pd_int (pd_cons pd_int (pd_cons pd_int (pd_cons pd_int (pd_cons pd_int (pd_cons pd_int (pd_cons pd_int pd_nil))))))))) pd_nil))) pd_nil))) pd_nil))))
    (pss_one (ps_ret (pe_op op_cat (pv 0) (pd_lst (pd_cons (pd_tup (pd_cons pd_int (pd_cons (pd_tup (pd_cons (pd_circ hC hr (n := 8) (s := 1)) (pd_cons (pd_tup (pd_cons pd_int (pd_cons pd_int (pd_cons pd_int (pd_cons pd_int (pd_cons pd_int (pd_cons pd_int (pd_cons pd_int (pd_cons pd_int pd_nil))))))))) pd_nil))) pd_nil))) pd_nil)))))))))))))))))), ?_⟩)
  · obtain ⟨rfl, _⟩ := h
    rfl
  · obtain ⟨rfl, q⟩ := h
    refine fun p0 G0 v0 z0 h0 i0 => ?_
    refine ⟨_, rfl, fun q1 J1 w1 y1 g1 j1 => ⟨_, _, _, _, rfl, rfl, y1.lst h0, g1, ?_, fun p1 n1 => ?_⟩⟩
    · rw [i0.len, j1.len, sizeLine_eq]; decide
    have i1 := (IsDts.kp (y1.new n1 (o := .lst (v0 ++ w1))) _ _ i0).snoc (IsDts.kp ((Kp.refl J1).new n1 (o := .lst (v0 ++ w1))) _ _ j1)
    have h1 : (upd J1 p1 (.lst (v0 ++ w1))) p1 = some (.lst (v0 ++ w1)) := upd_same
    have z1 := (z0.trans y1).new n1 (o := .lst (v0 ++ w1))
    obtain ⟨v1, ev1⟩ : ∃ x, x = v0 ++ w1 := ⟨_, rfl⟩
    rw [← ev1] at i1 h1 z1 ⊢
    refine ⟨_, rfl, fun q2 J2 w2 y2 g2 j2 => ⟨_, _, _, _, rfl, rfl, y2.lst h1, g2, ?_, fun p2 n2 => ?_⟩⟩
    · rw [i1.len, j2.len, sizeLine_eq]; decide
    have i2 := (IsDts.kp (y2.new n2 (o := .lst (v1 ++ w2))) _ _ i1).snoc (IsDts.kp ((Kp.refl J2).new n2 (o := .lst (v1 ++ w2))) _ _ j2)
    have h2 : (upd J2 p2 (.lst (v1 ++ w2))) p2 = some (.lst (v1 ++ w2)) := upd_same
    have z2 := (z1.trans y2).new n2 (o := .lst (v1 ++ w2))
    obtain ⟨v2, ev2⟩ : ∃ x, x = v1 ++ w2 := ⟨_, rfl⟩
    rw [← ev2] at i2 h2 z2 ⊢
    refine ⟨_, rfl, fun q3 J3 w3 y3 g3 j3 => ⟨_, _, _, _, rfl, rfl, y3.lst h2, g3, ?_, fun p3 n3 => ?_⟩⟩
    · rw [i2.len, j3.len, sizeLine_eq]; decide
    have i3 := (IsDts.kp (y3.new n3 (o := .lst (v2 ++ w3))) _ _ i2).snoc (IsDts.kp ((Kp.refl J3).new n3 (o := .lst (v2 ++ w3))) _ _ j3)
    have h3 : (upd J3 p3 (.lst (v2 ++ w3))) p3 = some (.lst (v2 ++ w3)) := upd_same
    have z3 := (z2.trans y3).new n3 (o := .lst (v2 ++ w3))
    obtain ⟨v3, ev3⟩ : ∃ x, x = v2 ++ w3 := ⟨_, rfl⟩
    rw [← ev3] at i3 h3 z3 ⊢
    refine ⟨_, rfl, fun q4 J4 w4 y4 g4 j4 => ⟨_, _, _, _, rfl, rfl, y4.lst h3, g4, ?_, fun p4 n4 => ?_⟩⟩
    · rw [i3.len, j4.len, sizeLine_eq]; decide
    have i4 := (IsDts.kp (y4.new n4 (o := .lst (v3 ++ w4))) _ _ i3).snoc (IsDts.kp ((Kp.refl J4).new n4 (o := .lst (v3 ++ w4))) _ _ j4)
    have h4 : (upd J4 p4 (.lst (v3 ++ w4))) p4 = some (.lst (v3 ++ w4)) := upd_same
    have z4 := (z3.trans y4).new n4 (o := .lst (v3 ++ w4))
    obtain ⟨v4, ev4⟩ : ∃ x, x = v3 ++ w4 := ⟨_, rfl⟩
    rw [← ev4] at i4 h4 z4 ⊢
    refine ⟨_, rfl, fun q5 J5 w5 y5 g5 j5 => ⟨_, _, _, _, rfl, rfl, y5.lst h4, g5, ?_, fun p5 n5 => ?_⟩⟩
    · rw [i4.len, j5.len, sizeLine_eq]; decide
    have i5 := (IsDts.kp (y5.new n5 (o := .lst (v4 ++ w5))) _ _ i4).snoc (IsDts.kp ((Kp.refl J5).new n5 (o := .lst (v4 ++ w5))) _ _ j5)
    have h5 : (upd J5 p5 (.lst (v4 ++ w5))) p5 = some (.lst (v4 ++ w5)) := upd_same
    have z5 := (z4.trans y5).new n5 (o := .lst (v4 ++ w5))
    obtain ⟨v5, ev5⟩ : ∃ x, x = v4 ++ w5 := ⟨_, rfl⟩
    rw [← ev5] at i5 h5 z5 ⊢
    refine ⟨_, rfl, fun q6 J6 w6 y6 g6 j6 => ⟨_, _, _, _, rfl, rfl, y6.lst h5, g6, ?_, fun p6 n6 => ?_⟩⟩
    · rw [i5.len, j6.len, sizeLine_eq]; decide
    have i6 := (IsDts.kp (y6.new n6 (o := .lst (v5 ++ w6))) _ _ i5).snoc (IsDts.kp ((Kp.refl J6).new n6 (o := .lst (v5 ++ w6))) _ _ j6)
    have h6 : (upd J6 p6 (.lst (v5 ++ w6))) p6 = some (.lst (v5 ++ w6)) := upd_same
    have z6 := (z5.trans y6).new n6 (o := .lst (v5 ++ w6))
    obtain ⟨v6, ev6⟩ : ∃ x, x = v5 ++ w6 := ⟨_, rfl⟩
    rw [← ev6] at i6 h6 z6 ⊢
    refine ⟨_, rfl, fun q7 J7 w7 y7 g7 j7 => ⟨_, _, _, _, rfl, rfl, y7.lst h6, g7, ?_, fun p7 n7 => ?_⟩⟩
    · rw [i6.len, j7.len, sizeLine_eq]; decide
    have i7 := (IsDts.kp (y7.new n7 (o := .lst (v6 ++ w7))) _ _ i6).snoc (IsDts.kp ((Kp.refl J7).new n7 (o := .lst (v6 ++ w7))) _ _ j7)
    have h7 : (upd J7 p7 (.lst (v6 ++ w7))) p7 = some (.lst (v6 ++ w7)) := upd_same
    have z7 := (z6.trans y7).new n7 (o := .lst (v6 ++ w7))
    obtain ⟨v7, ev7⟩ : ∃ x, x = v6 ++ w7 := ⟨_, rfl⟩
    rw [← ev7] at i7 h7 z7 ⊢
    refine ⟨_, rfl, fun q8 J8 w8 y8 g8 j8 => ⟨_, _, _, _, rfl, rfl, y8.lst h7, g8, ?_, fun p8 n8 => ?_⟩⟩
    · rw [i7.len, j8.len, sizeLine_eq]; decide
    have i8 := (IsDts.kp (y8.new n8 (o := .lst (v7 ++ w8))) _ _ i7).snoc (IsDts.kp ((Kp.refl J8).new n8 (o := .lst (v7 ++ w8))) _ _ j8)
    have h8 : (upd J8 p8 (.lst (v7 ++ w8))) p8 = some (.lst (v7 ++ w8)) := upd_same
    have z8 := (z7.trans y8).new n8 (o := .lst (v7 ++ w8))
    obtain ⟨v8, ev8⟩ : ∃ x, x = v7 ++ w8 := ⟨_, rfl⟩
    rw [← ev8] at i8 h8 z8 ⊢
    refine ⟨_, rfl, fun q9 J9 w9 y9 g9 j9 => ⟨_, _, _, _, rfl, rfl, y9.lst h8, g9, ?_, fun p9 n9 => ?_⟩⟩
    · rw [i8.len, j9.len, sizeLine_eq]; decide
    have i9 := (IsDts.kp (y9.new n9 (o := .lst (v8 ++ w9))) _ _ i8).snoc (IsDts.kp ((Kp.refl J9).new n9 (o := .lst (v8 ++ w9))) _ _ j9)
    have h9 : (upd J9 p9 (.lst (v8 ++ w9))) p9 = some (.lst (v8 ++ w9)) := upd_same
    have z9 := (z8.trans y9).new n9 (o := .lst (v8 ++ w9))
    obtain ⟨v9, ev9⟩ : ∃ x, x = v8 ++ w9 := ⟨_, rfl⟩
    rw [← ev9] at i9 h9 z9 ⊢
    refine ⟨_, rfl, fun q10 J10 w10 y10 g10 j10 => ⟨_, _, _, _, rfl, rfl, y10.lst h9, g10, ?_, fun p10 n10 => ?_⟩⟩
    · rw [i9.len, j10.len, sizeLine_eq]; decide
    have i10 := (IsDts.kp (y10.new n10 (o := .lst (v9 ++ w10))) _ _ i9).snoc (IsDts.kp ((Kp.refl J10).new n10 (o := .lst (v9 ++ w10))) _ _ j10)
    have h10 : (upd J10 p10 (.lst (v9 ++ w10))) p10 = some (.lst (v9 ++ w10)) := upd_same
    have z10 := (z9.trans y10).new n10 (o := .lst (v9 ++ w10))
    obtain ⟨v10, ev10⟩ : ∃ x, x = v9 ++ w10 := ⟨_, rfl⟩
    rw [← ev10] at i10 h10 z10 ⊢
    refine ⟨_, rfl, fun q11 J11 w11 y11 g11 j11 => ⟨_, _, _, _, rfl, rfl, y11.lst h10, g11, ?_, fun p11 n11 => ?_⟩⟩
    · rw [i10.len, j11.len, sizeLine_eq]; decide
    have i11 := (IsDts.kp (y11.new n11 (o := .lst (v10 ++ w11))) _ _ i10).snoc (IsDts.kp ((Kp.refl J11).new n11 (o := .lst (v10 ++ w11))) _ _ j11)
    have h11 : (upd J11 p11 (.lst (v10 ++ w11))) p11 = some (.lst (v10 ++ w11)) := upd_same
    have z11 := (z10.trans y11).new n11 (o := .lst (v10 ++ w11))
    obtain ⟨v11, ev11⟩ : ∃ x, x = v10 ++ w11 := ⟨_, rfl⟩
    rw [← ev11] at i11 h11 z11 ⊢
    refine ⟨_, rfl, fun q12 J12 w12 y12 g12 j12 => ⟨_, _, _, _, rfl, rfl, y12.lst h11, g12, ?_, fun p12 n12 => ?_⟩⟩
    · rw [i11.len, j12.len, sizeLine_eq]; decide
    have i12 := (IsDts.kp (y12.new n12 (o := .lst (v11 ++ w12))) _ _ i11).snoc (IsDts.kp ((Kp.refl J12).new n12 (o := .lst (v11 ++ w12))) _ _ j12)
    have h12 : (upd J12 p12 (.lst (v11 ++ w12))) p12 = some (.lst (v11 ++ w12)) := upd_same
    have z12 := (z11.trans y12).new n12 (o := .lst (v11 ++ w12))
    obtain ⟨v12, ev12⟩ : ∃ x, x = v11 ++ w12 := ⟨_, rfl⟩
    rw [← ev12] at i12 h12 z12 ⊢
    refine ⟨_, rfl, fun q13 J13 w13 y13 g13 j13 => ⟨_, _, _, _, rfl, rfl, y13.lst h12, g13, ?_, fun p13 n13 => ?_⟩⟩
    · rw [i12.len, j13.len, sizeLine_eq]; decide
    have i13 := (IsDts.kp (y13.new n13 (o := .lst (v12 ++ w13))) _ _ i12).snoc (IsDts.kp ((Kp.refl J13).new n13 (o := .lst (v12 ++ w13))) _ _ j13)
    have h13 : (upd J13 p13 (.lst (v12 ++ w13))) p13 = some (.lst (v12 ++ w13)) := upd_same
    have z13 := (z12.trans y13).new n13 (o := .lst (v12 ++ w13))
    obtain ⟨v13, ev13⟩ : ∃ x, x = v12 ++ w13 := ⟨_, rfl⟩
    rw [← ev13] at i13 h13 z13 ⊢
    exact q _ _ _ z13 h13 i13
end
end NS
end
section
set_option maxHeartbeats 4000000
/-! L4: the law's house -/
namespace NS
open PySem PySem.Spec PyProof.Rows L2 ZS
theorem rep0 : ∀ n : Nat, (List.replicate n [V.int 0]).flatten = (List.replicate n (0 : Int)).map V.int
  | 0 => rfl
  | n + 1 => by rw [List.replicate_succ, List.flatten_cons, rep0 n, List.replicate_succ]; rfl
theorem known_ok : ∀ p ∈ known, 1 ≤ p.1 ∧ p.1 ≤ 8 ∧ 1 ≤ p.2.length ∧ p.2.length ≤ 6 ∧ ∀ t ∈ p.2, t.length = p.1 ∧ (∀ x ∈ t, 0 ≤ x ∧ x < (p.1 : Int)) ∧ t.Nodup := by decide +kernel
theorem known_len : known.length = 23 := by decide +kernel
theorem known_isH {p : Nat × List (List Int)} (hp : p ∈ known) : IsH p.1 p.2 := by
  obtain ⟨h1, h2, h3, h4, h5⟩ := known_ok p hp
  exact ⟨h1, h2, h3, h4, fun t ht => let ⟨a, b, c⟩ := h5 t ht; ⟨a, b, c⟩⟩
theorem IsH.conj {n : Nat} {ts : List (List Int)} {m : List Int} (h : IsH n ts) (hm : IsT n m) : IsH n (ts.map (conj m)) := ⟨h.n1, h.n8, by rw [List.length_map]; exact h.t1, by rw [List.length_map]; exact h.t6, fun t ht => by
  obtain ⟨u, hu, rfl⟩ := List.mem_map.mp ht
  exact hm.conj (h.is u hu)⟩
/-- the houses that the law draws -/
def GoodH (n : Nat) (ts : List (List Int)) : Prop := IsH n ts ∧ ((∃ p ∈ known, ∃ m, n = p.1 ∧ IsT p.1 m ∧ ts = p.2.map (conj m)) ∨ n ≤ 5)
/-- a known house, its halls called otherwise -/
def KnownH (n : Nat) (ts : List (List Int)) : Prop := IsH n ts ∧ ∃ p ∈ known, ∃ m, n = p.1 ∧ IsT p.1 m ∧ ts = p.2.map (conj m)
theorem KnownH.good {n : Nat} {ts : List (List Int)} (h : KnownH n ts) : GoodH n ts := ⟨h.1, .inl h.2⟩
theorem dts_pr {K : PySem.W.Frag} {H : Hp} : ∀ (ts : List (List Int)) (xs : List V), IsDts K H (ts.map dT) xs → Paired (TI K H) xs ts
  | [], xs, h => by simp only [List.map_nil] at h; unfold IsDts at h; rw [h]; exact .nil
  | t :: ts, xs, h => by
    simp only [List.map_cons] at h
    unfold IsDts at h
    obtain ⟨v, r, e, h1, h2⟩ := h
    rw [e]
    exact .cons (dt_ti h1) (dts_pr ts r h2)
theorem house_dt {K : PySem.W.Frag} {H : Hp} {p : Nat × List (List Int)} {v : V} (h : IsDt K H (houseD p) v) : ∃ a tb xs, v = .ref a ∧ SqT K H a [.int p.1, .ref tb] ∧ SqT K H tb xs ∧ Paired (TI K H) xs p.2 := by
  unfold houseD at h
  unfold IsDt at h
  obtain ⟨a, us, e, s, h⟩ := h
  unfold IsDts at h
  obtain ⟨v1, r1, e1, h1, h⟩ := h
  unfold IsDts at h
  obtain ⟨v2, r2, e2, h2, h⟩ := h
  unfold IsDts at h
  unfold IsDt at h1 h2
  obtain ⟨tb, xs, e3, s3, h3⟩ := h2
  subst e1 e2 e3 h h1
  exact ⟨a, tb, xs, e, s, s3, dts_pr _ _ h3⟩
def spLMixed (K : PySem.W.Frag) : Sp := fun vs H Q _ => ∃ (r sa : Addr) (hv : V) (p : Nat × List (List Int)), vs = [.ref r, hv] ∧ Draws K H r sa ∧ IsDt K H (houseD p) hv ∧ IsH p.1 p.2 ∧
  ∀ v H' m, KpB r H H' → RowAt H' r sa → IsT p.1 m → HouseAt K H' v p.1 (p.2.map (conj m)) → Q v H'
def spGood (K : PySem.W.Frag) (G : Nat → List (List Int) → Prop) : Sp := fun vs H Q _ => ∃ (r sa : Addr), vs = [.ref r] ∧ Draws K H r sa ∧ ∀ v H' n ts, KpB r H H' → RowAt H' r sa → G n ts → HouseAt K H' v n ts → Q v H'
abbrev spLWhole (K : PySem.W.Frag) : Sp := spGood K KnownH
abbrev spLHouse (K : PySem.W.Frag) : Sp := spGood K GoodH
section
variable {P : Program} {w : World} {K : PySem.W.Frag} {mg : Str → Option Value} {base : Heap} {f : Addr} {fd : FuncData}
theorem has_lmixed (F : FnP K "_law_mixed" sLMixed f fd) (m : mg "_law_mixed" = some (.ref f)) (B : Bl mg) (hT : Has P w K mg base "_law_turn" 2 [] (spLTurn K)) : Has P w K mg base "_law_mixed" 3 [] (spLMixed K) := by
  refine ⟨f, fd, ["row", "house"], [], m, F.kp, F.bindsN (fun _ _ _ _ _ _ us hl => match us, hl with | [_, _], _ => rfl), .nil, ?_⟩
  refine F.ok scLMixed (fun vs H Q E h => ?_) (fun cdv A outer s H vs Q E hr h => ⟨_, PSs.nox (
    pss_cons (ps_par (i := 2) (j := 3) (by rfl) scLMixed.nd rfl rfl (by decide) rfl rfl (pa_cons (pe_has hT hr (by decide) (pa_cons (pv 0) (pa_cons (pe_ix (r := rIxT K) ix_tup (pv 1) pe_int (fun _ _ => rfl)) pa_nil))) (pa_cons (pe_lst pa_nil) pa_nil)) (by rfl))
    (pss_cons (ps_for PassesOwn.never rfl (pi_tup (pe_ix (r := rIxT K) ix_tup (pv 1) pe_int (fun _ _ => rfl))) (pg_name (i := 4) scLMixed.nd rfl (Or.inl rfl))
      (pss_cons (ps_set (i := 5) scLMixed.nd rfl (Or.inl rfl) (pe_op op_rep (pe_lst (pa_cons pe_int pa_nil)) (pe_ix (r := rIxT K) ix_tup (pv 1) pe_int (fun _ _ => rfl))))
      (pss_cons (ps_for PassesOwn.never rfl (pi_range1 rfl B.range (pa_cons (pe_ix (r := rIxT K) ix_tup (pv 1) pe_int (fun _ _ => rfl)) pa_nil)) (pg_name (i := 6) scLMixed.nd rfl (Or.inl rfl))
        (pss_one (ps_asg (pe_ix (r := rIxT K) ix_tup (pv 2) (pe_ix (r := rIxT K) ix_tup (pv 4) (pv 6) (fun _ _ => rfl)) (fun _ _ => rfl)) (pg_sub (pv 5) (pe_ix (r := rIxT K) ix_tup (pv 2) (pv 6) (fun _ _ => rfl)) set_list))))
      (pss_one (ps_expr (pe_bm PySem.F.plainAttrs_list PySem.F.slot_list_append PySem.F.type_list_append mt_append (pv 3) (pa_cons (pe_callTy cr_tupP rfl B.tuple PyProof.Rows.boot_tuple (pa_cons (pv 5) pa_nil)) pa_nil)))))))
    (pss_one (ps_ret (pe_tup (pa_cons (pe_ix (r := rIxT K) ix_tup (pv 1) pe_int (fun _ _ => rfl)) (pa_cons (pe_callTy cr_tupP rfl B.tuple PyProof.Rows.boot_tuple (pa_cons (pv 3) pa_nil)) pa_nil))))))), ?_⟩)
  · obtain ⟨r, sa, hv, p, rfl, _⟩ := h
    rfl
  · obtain ⟨r, sa, hv, ⟨n, ts⟩, rfl, hd, hi0, hi, q⟩ := h
    obtain ⟨ha, tb, xs, rfl, hA, hB, hp⟩ := house_dt hi0
    have n1 := hi.n1
    have n8 := hi.n8
    have t6 := hi.t6
    have xl := hp.length
    simp only at n1 n8 t6 hA hp xl q hi
    refine ⟨_, rfl, _, rfl, ha, _, 0, _, rfl, rfl, hA, rfl, r, sa, n, rfl, hd, n1, by omega, fun nv H1 mm z1 ra1 pm tm => ⟨Nat.zero_le _, fun mo hmo => ⟨_, _, rfl, ?_⟩⟩⟩
    have hA1 := z1.tup.sq hA
    have hB1 := z1.tup.sq hB
    have hp1 : Paired (TI K H1) xs ts := hp.mono fun _ _ q => z1.tup.ti q
    have zm := (Kp.refl H1).new hmo (o := .lst [])
    refine ⟨_, rfl, ha, _, 1, _, rfl, rfl, zm.sqT hA1, rfl, tb, rfl, ⟨_, zm.sqT hB1⟩, ?_⟩
    refine forG (Wlk.tup hB1) (fun i σ H' => ∃ x y z us, σ = [some (.ref r), some (.ref ha), some nv, some (.ref mo), x, y, z] ∧ Kp H1 H' ∧ H' mo = some (.lst us) ∧ Paired (PT H') us ((ts.take i).map (conj mm))) ⟨none, none, none, [], rfl, zm, upd_same, .nil⟩ (fun i σ H' _ ⟨_, _, _, _, _, z, _⟩ => z) (fun i x σ H2 H3 hi' hpv z23 hx => ?_) (fun σ H' ⟨x, y, z, us, e, zk, hmo', hpr⟩ => ?_)
    · obtain ⟨x2, y2, z2, us, rfl, zk2, hmo2, hpr2⟩ := hpv
      obtain ⟨t, ht, tit⟩ := pr_get hp1 hx
      have tt := hi.is t (List.mem_of_getElem? ht)
      have zk3 := zk2.trans z23
      have hmo3 := z23.lst hmo2
      have hpr3 := pr_pt z23.tup hpr2
      have ul := hpr3.length
      refine ⟨(by show 1 ≤ sizeLine; decide), fun b hb => ?_⟩
      have zb := zk3.new hb (o := .lst [.int 0])
      refine ⟨_, rfl, ha, _, 0, _, rfl, rfl, zb.sqT hA1, rfl, b, (n : Int), [.int 0], rfl, rfl, upd_same, by omega, by omega, by rw [sizeLine_eq]; simp only [List.length_singleton]; omega, fun fo hfo => ?_⟩
      have hb1 : H1 b = none := zk3.none hb
      have hf1 : H1 fo = none := zb.none hfo
      have nbm : b ≠ mo := fun e => by rw [e, hmo3] at hb; cases hb
      have hmob : (upd H3 b (.lst [.int 0])) mo = some (.lst us) := by rw [upd_ne nbm.symm]; exact hmo3
      have nfm : fo ≠ mo := fun e => by rw [e, hmob] at hfo; cases hfo
      have zb3 := (Kp.refl H3).new hb (o := .lst [.int 0])
      have zf := zb.new hfo (o := .lst (List.replicate (n : Int).toNat [V.int 0]).flatten)
      have zf3 := zb3.new hfo (o := .lst (List.replicate (n : Int).toNat [V.int 0]).flatten)
      have rep : (List.replicate (n : Int).toNat [V.int 0]).flatten = (List.replicate n (0 : Int)).map V.int := by rw [Int.toNat_natCast]; exact rep0 n
      refine ⟨_, rfl, ha, _, 0, _, rfl, rfl, zf.sqT hA1, rfl, (n : Int), rfl, by omega, by omega, ?_⟩
      show ∃ W, _
      refine forG (J := Itr 0 n) (Wlk.rng (H := H1) 0 n) (fun j σ H' => ∃ z fl, σ = [some (.ref r), some (.ref ha), some nv, some (.ref mo), some x, some (.ref fo), z] ∧ Kp H1 H' ∧ H' mo = some (.lst us) ∧ Paired (PT H') us ((ts.take i).map (conj mm)) ∧ H' fo = some (.lst (fl.map V.int)) ∧ fl.length = n ∧ ∀ k, k < j → fl.getD (at' mm k) 0 = mm.getD (at' t k) 0)
        ⟨z2, List.replicate n 0, rfl, zf, by rw [upd_ne nfm.symm]; exact hmob, pr_pt zf3.tup hpr3, by rw [upd_same, rep], by simp, fun k hk => absurd hk (Nat.not_lt_zero _)⟩ (fun j σ H' _ ⟨_, _, _, z, _⟩ => z) (fun j v σ H4 H5 hj hpv z45 hv => ?_) (fun σ H' ⟨z, fl, e, zk, hmo', hpr, hfo', hfl, hall⟩ => ?_)
      · obtain ⟨z4, fl, rfl, zk4, hmo4, hpr4, hfo4, hfl4, hall4⟩ := hpv
        subst hv
        rw [Int.zero_add]
        have zk5 := zk4.trans z45
        have tj := tt.getD hj
        have mj := tm.getD hj
        obtain ⟨pt5, rfl, ht5⟩ := zk5.ti tit
        obtain ⟨pm5, rfl, hm5⟩ := (zk5.pt pm).ti (K := K)
        have hfo5 := z45.lst hfo4
        refine ⟨_, rfl, _, rfl, _, rfl, pt5, _, (j : Int), _, rfl, rfl, ht5, at_ints (by omega) (by rw [tt.len]; omega), pm5, _, _, _, rfl, rfl, hm5, at_ints (by rw [Int.toNat_natCast, tj.1]; omega) (by rw [Int.toNat_natCast, tj.1, tm.len]; omega), ?_⟩
        refine ⟨_, rfl, _, rfl, _, rfl, pm5, _, (j : Int), _, rfl, rfl, hm5, at_ints (by omega) (by rw [tm.len]; omega), fo, _, _, at' mm j, rfl, rfl, hfo5, ?_, ?_⟩
        · rw [Int.toNat_natCast, mj.1, List.length_map]
          exact ixN_nat (by rw [hfl4]; exact mj.2)
        have tz : Tup H5 (upd H5 fo (.lst ((fl.set (at' mm j) (mm.getD (at' t j) 0)).map V.int))) := Tup.put (by rw [hfo5]; trivial)
        refine ⟨_, fl.set (at' mm j) (mm.getD (at' t j) 0), rfl, zk5.put hf1, by rw [upd_ne nfm.symm]; exact z45.lst hmo4, pr_pt ?_ hpr4, ?_, by rw [List.length_set]; exact hfl4, fun k hk => ?_⟩
        · exact z45.tup.trans (Tup.put (by rw [hfo5]; trivial))
        · rw [upd_same, Int.toNat_natCast, tj.1, Int.toNat_natCast, List.map_set]
        · rw [set_getD (by rw [hfl4]; exact mj.2)]
          by_cases e : at' mm k = at' mm j
          · have : k = j := tm.inj (by omega) hj e
            rw [if_pos e, this]
          · rw [if_neg e]
            rcases Nat.lt_succ_iff_lt_or_eq.mp hk with h | h
            · exact hall4 k h
            · exact absurd (by rw [h]) e
      · subst e
        refine ⟨_, rfl, .inl ⟨rfl, _, SqL.of hmo'⟩, _, rfl, fo, _, rfl, SqL.of hfo', fun l o hl ho => ?_⟩
        have zl := (Kp.refl H').new hl (o := .frz o (.tup (fl.map V.int)))
        have hmol := zl.lst hmo'
        have ec := conj_eq tm tt hfl hall
        have pl : PT (upd H' l (.frz o (.tup (fl.map V.int)))) (.ref l) (conj mm t) := by rw [← ec]; exact .of upd_same ho
        have hml0 : H1 mo = none := hmo
        have ul' : us.length ≤ 6 := by
          rw [ul, List.length_map, List.length_take]
          omega
        refine ⟨mo, us, _, rfl, rfl, hmol, by rw [sizeLine_eq]; omega, ?_⟩
        have tz : Tup (upd H' l (.frz o (.tup (fl.map V.int)))) (upd (upd H' l (.frz o (.tup (fl.map V.int)))) mo (.lst (us ++ [.ref l]))) := Tup.put (by rw [hmol]; trivial)
        refine ⟨_, _, _, us ++ [.ref l], rfl, (zk.trans zl).put hml0, upd_same, ?_⟩
        rw [take_succ_of ht, List.map_append]
        exact Paired.snoc (pr_pt (zl.tup.trans tz) hpr) (NS.Tup.pt tz pl)
    · subst e
      rw [xl, List.take_length] at hpr
      refine ⟨_, rfl, ha, _, 0, _, rfl, rfl, zk.sqT hA1, rfl, _, rfl, mo, us, rfl, SqL.of hmo', fun l o hl ho => ⟨(by show 2 ≤ sizeLine; decide), fun c hc => ?_⟩⟩
      have zl := zk.new hl (o := .frz o (.tup us))
      have zl' := (Kp.refl H').new hl (o := .frz o (.tup us))
      have nlc : l ≠ c := fun e => by rw [← e, upd_same] at hc; cases hc
      have zc := zl.new hc (o := .tup [.int (n : Int), .ref l])
      have zc' := zl'.new hc (o := .tup [.int (n : Int), .ref l])
      refine q _ _ mm (z1.trans zc.b) (zc.rowAt ra1) tm ⟨c, .ref l, rfl, SqT.of upd_same, l, us, rfl, .inl (.inr ⟨o, by rw [upd_ne nlc, upd_same]⟩), pr_pt zc'.tup hpr⟩
theorem dts_mem {K : PySem.W.Frag} {H : Hp} : ∀ (ps : List (Nat × List (List Int))) (us : List V) (x : V), IsDts K H (ps.map houseD) us → x ∈ us → ∃ p ∈ ps, IsDt K H (houseD p) x
  | [], us, x, h, hx => by simp only [List.map_nil] at h; unfold IsDts at h; rw [h] at hx; cases hx
  | p :: ps, us, x, h, hx => by
    simp only [List.map_cons] at h
    unfold IsDts at h
    obtain ⟨v, r, e, h1, h2⟩ := h
    rw [e] at hx
    rcases List.mem_cons.mp hx with q | q
    · rw [q]
      exact ⟨p, List.mem_cons_self .., h1⟩
    · obtain ⟨p', hp, h'⟩ := dts_mem ps r x h2 q
      exact ⟨p', List.mem_cons_of_mem _ hp, h'⟩
mutual
theorem IsDt.kpb {K : PySem.W.Frag} {H H' : Hp} {r : Addr} (z : KpB r H H') : ∀ (p : Nat × List (List Int)) (v : V), IsDt K H (houseD p) v → IsDt K H' (houseD p) v
  | p, v, h => by
    obtain ⟨a, tb, xs, e, h1, h2, h3⟩ := house_dt h
    have h3' : Paired (TI K H') xs p.2 := h3.mono fun _ _ q => z.tup.ti q
    have go : ∀ (ts : List (List Int)) (xs : List V), Paired (TI K H') xs ts → IsDts K H' (ts.map dT) xs := fun ts xs h => by
      induction h with
      | nil => simp only [List.map_nil]; unfold IsDts; rfl
      | cons p _ ih =>
        simp only [List.map_cons]
        unfold IsDts
        exact ⟨_, _, rfl, NS.TI.dt p, ih⟩
    unfold houseD
    unfold IsDt
    refine ⟨a, [.int p.1, .ref tb], e, z.tup.sq h1, ?_⟩
    unfold IsDts
    refine ⟨_, _, rfl, by unfold IsDt; rfl, ?_⟩
    unfold IsDts
    refine ⟨_, _, rfl, ?_, by unfold IsDts; rfl⟩
    unfold IsDt
    exact ⟨tb, xs, rfl, z.tup.sq h2, go _ _ h3'⟩
end
theorem has_lwhole (F : FnP K "_law_whole" sLWhole f fd) (m : mg "_law_whole" = some (.ref f)) (hM : Has P w K mg base "_law_mixed" 3 [] (spLMixed K)) (hP : Has P w K mg base "_law_pick" 2 [] (spPick K)) (hK : Has P w K mg base "_law_known_groups" 2 [] (spLKnown K)) :
    Has P w K mg base "_law_whole" 4 [] (spLWhole K) := by
  refine ⟨f, fd, ["row"], [], m, F.kp, F.bindsN (fun _ _ _ _ _ _ us hl => match us, hl with | [_], _ => rfl), .nil, ?_⟩
  refine F.ok scLWhole (fun vs H Q E h => ?_) (fun cdv A outer s H vs Q E hr h => ⟨_, PSs.nox (
    pss_one (ps_ret (pe_has hM hr (by decide) (pa_cons (pv 0) (pa_cons (pe_has hP hr (by decide) (pa_cons (pv 0) (pa_cons (pe_has0 hK hr (by decide)) pa_nil))) pa_nil))))), ?_⟩)
  · obtain ⟨r, sa, rfl, _⟩ := h
    rfl
  · obtain ⟨r, sa, rfl, hd, q⟩ := h
    obtain ⟨xr, hxr⟩ := hd.1.lst
    refine ⟨_, rfl, _, rfl, rfl, fun qn H1 us z1 hq iq => ?_⟩
    have ul := iq.len
    rw [List.length_map, known_len] at ul
    have nq : qn ≠ r := fun e => by
      obtain ⟨i, sd, rest, h, _⟩ := (hd.k z1).1
      rw [e, h] at hq
      have hq' := Option.some.inj hq
      injection hq' with hq'
      rw [← hq'] at ul
      simp at ul
    refine ⟨r, sa, qn, us, rfl, hd.k z1, nq, SqL.of hq, (fun e => by rw [e] at ul; cases ul), by omega, fun x H2 z2 ra2 hx => ?_⟩
    obtain ⟨p, hp, hpx⟩ := dts_mem known us x iq hx
    exact ⟨r, sa, x, p, rfl, (hd.k z1).b z2 ra2, IsDt.kpb z2 p x hpx, known_isH hp, fun v H3 mm z3 ra3 tm hv => q v H3 p.1 _ ((z1.b.trans z2).trans z3) ra3 ⟨(known_isH hp).conj tm, p, hp, mm, rfl, tm, rfl⟩ hv⟩
theorem has_lhouse (F : FnP K "_law_house" sLHouse f fd) (m : mg "_law_house" = some (.ref f)) (B : Bl mg) (hT : Has P w K mg base "_law_taken" 1 [] (spTaken K)) (hL : Has P w K mg base "_law_turn" 2 [] (spLTurn K)) (hW : Has P w K mg base "_law_whole" 4 [] (spLWhole K)) :
    Has P w K mg base "_law_house" 5 [] (spLHouse K) := by
  refine ⟨f, fd, ["row"], [], m, F.kp, F.bindsN (fun _ _ _ _ _ _ us hl => match us, hl with | [_], _ => rfl), .nil, ?_⟩
  refine F.ok scLHouse (fun vs H Q E h => ?_) (fun cdv A outer s H vs Q E hr h => ⟨_, PSs.nox (
    pss_cons (ps_if (pt_cmpR op_eq (pe_has hT hr (by decide) (pa_cons (pv 0) (pa_cons pe_int pa_nil))) pe_int (nomark _)) (pss_one (ps_ret (pe_has hW hr (by decide) (pa_cons (pv 0) pa_nil)))) pss_nil)
    (pss_cons (ps_set (i := 1) scLHouse.nd rfl (Or.inr rfl) (pe_op op_add pe_int (pe_has hT hr (by decide) (pa_cons (pv 0) (pa_cons pe_int pa_nil)))))
    (pss_one (ps_ret (pe_tup (pa_cons (pv 1) (pa_cons (pe_callTy cr_tupP rfl B.tuple PyProof.Rows.boot_tuple (pa_cons
      (pe_lc (own := [("letter", 2)]) (g := gName 2) (tt := tYes) rfl scLHouse.nd (pi_range1 rfl B.range (pa_cons (pe_op op_add pe_int (pe_has hT hr (by decide) (pa_cons (pv 0) (pa_cons pe_int pa_nil)))) pa_nil)) (blkOk_by (N := ["row", "halls", "letter"]) (sc := defScope sLHouse) (by decide +kernel))
        (fun _ _ _ _ _ => pg_name (i := 2) scLHouse.nd rfl (Or.inl rfl)) (fun _ _ _ _ _ => pts_nil) (fun _ _ _ _ _ => pe_has hL hr (by decide) (pa_cons (pv 0) (pa_cons (pv 1) pa_nil)))) pa_nil)) pa_nil))))))), ?_⟩)
  · obtain ⟨r, sa, rfl, _⟩ := h
    rfl
  · obtain ⟨r, sa, rfl, hd, q⟩ := h
    refine ⟨_, rfl, r, sa, 2, rfl, hd, by decide, by decide, fun v H1 z1 ra1 v0 v1 => ⟨rfl, _, rfl, ?_⟩⟩
    have hd1 := hd.b z1 ra1
    by_cases e0 : v = 0
    · refine ifT (A := _) (B := _) (decide_eq_true (by rw [e0])) ?_
      exact ⟨_, rfl, r, sa, rfl, hd1, fun v H2 n ts z2 ra2 g hv => q v H2 n ts (z1.trans z2) ra2 g.good hv⟩
    · refine ifF (A := _) (B := _) (decide_eq_false (fun e => e0 (by injection e))) ?_
      refine ⟨_, rfl, r, sa, 5, rfl, hd1, by decide, by decide, fun v2 H2 z2 ra2 w0 w1 => ⟨_, _, rfl, rfl, ?_⟩⟩
      have hd2 := hd1.b z2 ra2
      obtain ⟨j, rfl⟩ := Int.eq_ofNat_of_zero_le w0
      have en : (1 : Int) + (j : Int) = ((j + 1 : Nat) : Int) := by omega
      refine ⟨_, rfl, _, rfl, r, sa, 2, rfl, hd2, by decide, by decide, fun v3 H3 z3 ra3 u0 u1 => ⟨_, _, rfl, rfl, (1 : Int) + v3, rfl, by omega, by omega, fun D hD => ?_⟩⟩
      have hd3 := hd2.b z3 ra3
      obtain ⟨k, rfl⟩ := Int.eq_ofNat_of_zero_le u0
      have ek : ((1 : Int) + (k : Int)).toNat = k + 1 := by omega
      rw [ek]
      refine lcB ra3 hD (by rw [sizeLine_eq]; omega) (fun i y H' => ∃ t, PT H' y t ∧ IsT (j + 1) t) (fun i y Ha Hb z ⟨t, p, it⟩ => ⟨t, NS.Tup.pt z p, it⟩) (fun i H4 Q1 hi z4 ra4 q1 => ⟨rfl, _, rfl, _, rfl, r, sa, j + 1, (by rw [← en]; rfl), hd3.b z4 ra4, by omega, by omega, fun y H5 t z5 ra5 p5 t5 => q1 y H5 z5 ra5 ⟨t, p5, t5⟩⟩) (fun x H' Q Q' h q => h _ _ q) (fun ys H4 z4 ra4 hD4 hpr => ?_)
      have yl := hpr.length
      rw [List.length_range] at yl
      obtain ⟨ts, hts, tl⟩ : ∃ ts : List (List Int), Paired (PT H4) ys ts ∧ ∀ t ∈ ts, IsT (j + 1) t := by
        clear yl hD4
        generalize List.range (k + 1) = l at hpr
        induction hpr with
        | nil => exact ⟨[], .nil, fun t h => by cases h⟩
        | cons p _ ih =>
          obtain ⟨t, p1, p2⟩ := p
          obtain ⟨ts, h1, h2⟩ := ih
          exact ⟨t :: ts, .cons p1 h1, fun u hu => by
            rcases List.mem_cons.mp hu with e | e
            · rw [e]; exact p2
            · exact h2 u e⟩
      have tsl := hts.length
      refine ⟨D, ys, rfl, SqL.of hD4, fun l o hl ho => ⟨(by show 2 ≤ sizeLine; decide), fun c hc => ?_⟩⟩
      have zl := (Kp.refl H4).new hl (o := .frz o (.tup ys))
      have nlc : l ≠ c := fun e => by rw [← e, upd_same] at hc; cases hc
      have zc := zl.new hc (o := .tup [.int ((1 : Int) + (j : Int)), .ref l])
      refine q _ _ (j + 1) ts ((((z1.trans z2).trans z3).trans z4).trans zc.b) (zc.rowAt ra4) ⟨⟨by omega, by omega, by omega, by omega, tl⟩, .inr (by omega)⟩ ⟨c, .ref l, rfl, (by rw [← en]; exact SqT.of upd_same), l, ys, rfl, .inl (.inr ⟨o, by rw [upd_ne nlc, upd_same]⟩), pr_pt zc.tup hts⟩
end
end NS
end
section
set_option maxHeartbeats 4000000
/-! L5: alike -/
namespace NS
open PySem PySem.Spec PyProof.Rows L2 ZS
theorem scAlike : FnScope ["found", "due", "k"] ["found", "due"] (defScope sAlike) := ⟨rfl, rfl, rfl, by decide +kernel, rfl, by decide +kernel, by decide +kernel⟩
mutual
def Dt.small : Dt → Prop
  | .int _ => True
  | .bl _ => True
  | .tup ds => ds.length ≤ 10000 ∧ Dt.smalls ds
  | .lst ds => ds.length ≤ 10000 ∧ Dt.smalls ds
def Dt.smalls : List Dt → Prop
  | [] => True
  | d :: ds => Dt.small d ∧ Dt.smalls ds
end
theorem smalls_get : ∀ {ds : List Dt} {i : Nat} {d : Dt}, Dt.smalls ds → ds[i]? = some d → Dt.small d
  | [], i, d, h, e => by simp at e
  | d0 :: ds, 0, d, h, e => by
    unfold Dt.smalls at h
    cases e
    exact h.1
  | d0 :: ds, i + 1, d, h, e => by
    unfold Dt.smalls at h
    exact smalls_get h.2 (i := i) e
theorem depths_get : ∀ {ds : List Dt} {i : Nat} {d : Dt}, ds[i]? = some d → d.depth ≤ Dt.depths ds
  | [], i, d, e => by simp at e
  | d0 :: ds, 0, d, e => by
    unfold Dt.depths
    cases e
    omega
  | d0 :: ds, i + 1, d, e => by
    unfold Dt.depths
    have := depths_get (ds := ds) (i := i) (d := d) e
    omega
def spAlike (K : PySem.W.Frag) (n : Nat) : Sp := fun vs H Q _ => ∃ (u v : V) (d : Dt), vs = [u, v] ∧ d.depth ≤ n ∧ d.small ∧ IsDt K H d u ∧ IsDt K H d v ∧ ∀ H', Kp H H' → Q (.bl true) H'
theorem tyx_L {K : PySem.W.Frag} {H : Hp} {a : Addr} {xs : List V} (h : SqL K H a xs) : TyX K H (.ref a) (.type "list") := by
  rcases h with (h | ⟨o, h⟩) | ⟨o, _, _, h1, h2, _⟩
  · exact .base (.lst h)
  · exact .base (.frz h)
  · exact .kList h1 h2
theorem any_tl {K : PySem.W.Frag} (t : String) (b : Bool) (h1 : kitB t "tuple" = some b) (h2 : b = false → kitB t "list" = some false) : PySem.W.kitAny K (.type t) [.type "tuple", .type "list"] = some b := by
  refine kitAny_cons (kit_ty h1) (fun e => ?_) (fun e => e)
  subst e
  exact kitAny_cons (kit_ty (h2 rfl)) (fun _ => kitAny_nil) (fun e => by cases e)
theorem any_l {K : PySem.W.Frag} : PySem.W.kitAny K (.type "list") [.type "tuple", .type "list"] = some true :=
  kitAny_cons (b := false) (kit_ty (by decide +kernel)) (fun _ => kitAny_cons (b := true) (kit_ty (by decide +kernel)) (fun e => by cases e) (fun _ => rfl)) (fun e => by cases e)
/-- an int or a truth value -/
structure Fl (K : PySem.W.Frag) (x : V) (t : String) (bb : Bool) : Prop where
  ty : ∀ H, TyX K H x (.type t)
  k1 : kitB t "tuple" = some false
  k2 : kitB t "list" = some false
  k3 : kitB t "str" = some false
  k4 : kitB t "int" = some true
  k5 : kitB t "bool" = some bb
  nn : x ≠ .non
  sc : scal x x = true
theorem fl_int {K : PySem.W.Frag} (i : Int) : Fl K (.int i) "int" false := ⟨fun _ => .base (.int i), by decide +kernel, by decide +kernel, by decide +kernel, by decide +kernel, by decide +kernel, (fun e => by cases e), rfl⟩
theorem fl_bl {K : PySem.W.Frag} (b : Bool) : Fl K (.bl b) "bool" true := ⟨fun _ => .base (.bl b), by decide +kernel, by decide +kernel, by decide +kernel, by decide +kernel, by decide +kernel, (fun e => by cases e), rfl⟩
/-- a list (k) or a tuple -/
def SqB (K : PySem.W.Frag) (H : Hp) (k : Bool) (a : Addr) (xs : List V) : Prop := (k = true ∧ SqL K H a xs) ∨ (k = false ∧ SqT K H a xs)
abbrev tyB (k : Bool) : String := if k then "list" else "tuple"
theorem Kp.sqB {K : PySem.W.Frag} {H H' : Hp} (z : Kp H H') {k : Bool} {a : Addr} {xs : List V} (h : SqB K H k a xs) : SqB K H' k a xs := h.elim (fun h => .inl ⟨h.1, z.sqL h.2⟩) fun h => .inr ⟨h.1, z.sqT h.2⟩
theorem SqB.ty {K : PySem.W.Frag} {H : Hp} {k : Bool} {a : Addr} {xs : List V} (h : SqB K H k a xs) : TyX K H (.ref a) (.type (tyB k)) := by
  rcases h with ⟨rfl, h⟩ | ⟨rfl, h⟩
  · exact tyx_L h
  · exact tyx_T h
theorem SqB.or {K : PySem.W.Frag} {H : Hp} {k : Bool} {a : Addr} {xs : List V} (h : SqB K H k a xs) : SqL K H a xs ∨ SqT K H a xs := h.elim (fun h => .inl h.2) fun h => .inr h.2
theorem SqB.ix {K : PySem.W.Frag} {H : Hp} {k : Bool} {a : Addr} {xs : List V} (h : SqB K H k a xs) {i : Int} {v : V} {Q : VK} (e : atI xs i = some v) (q : Q v H) : rIx K (.ref a) (.int i) H Q :=
  h.elim (fun h => .inl ⟨a, xs, i, v, rfl, rfl, h.2, e, q⟩) fun h => .inr (.inl ⟨a, xs, i, v, rfl, rfl, h.2, e, q⟩)
theorem any_B {K : PySem.W.Frag} (k : Bool) : PySem.W.kitAny K (.type (tyB k)) [.type "tuple", .type "list"] = some true := by
  cases k with
  | true => exact any_l
  | false => exact any_tl "tuple" true (by decide +kernel) (fun e => by cases e)
theorem one_B {K : PySem.W.Frag} (k : Bool) : PySem.W.kitOne K (.type (tyB k)) (.type "list") = some k := by
  cases k with
  | true => exact kit_ty (by decide +kernel)
  | false => exact kit_ty (by decide +kernel)
theorem dt_cases {K : PySem.W.Frag} {H : Hp} {d : Dt} {u v : V} (hu : IsDt K H d u) (hv : IsDt K H d v) : (∃ t bb, u = v ∧ Fl K v t bb) ∨ ∃ k ds pu us pv ws, u = .ref pu ∧ v = .ref pv ∧ SqB K H k pu us ∧ SqB K H k pv ws ∧ IsDts K H ds us ∧ IsDts K H ds ws ∧ d.depth = Dt.depths ds + 1 ∧ (d.small → ds.length ≤ 10000 ∧ Dt.smalls ds) := by
  cases d with
  | int i => unfold IsDt at hu hv; subst hu hv; exact .inl ⟨_, _, rfl, fl_int i⟩
  | bl b => unfold IsDt at hu hv; subst hu hv; exact .inl ⟨_, _, rfl, fl_bl b⟩
  | tup ds =>
    unfold IsDt at hu hv
    obtain ⟨pu, us, rfl, su, iu⟩ := hu
    obtain ⟨pv', ws, rfl, sv, iv⟩ := hv
    exact .inr ⟨false, ds, pu, us, pv', ws, rfl, rfl, .inr ⟨rfl, su⟩, .inr ⟨rfl, sv⟩, iu, iv, by rw [Dt.depth], fun h => by unfold Dt.small at h; exact h⟩
  | lst ds =>
    unfold IsDt at hu hv
    obtain ⟨pu, us, rfl, su, iu⟩ := hu
    obtain ⟨pv', ws, rfl, sv, iv⟩ := hv
    exact .inr ⟨true, ds, pu, us, pv', ws, rfl, rfl, .inl ⟨rfl, su⟩, .inl ⟨rfl, sv⟩, iu, iv, by rw [Dt.depth], fun h => by unfold Dt.small at h; exact h⟩
section
variable {P : Program} {w : World} {K : PySem.W.Frag} {mg : Str → Option Value} {base : Heap} {f : Addr} {fd : FuncData}
abbrev clsTL : List V := [.ty "tuple", .ty "list"]
theorem cls_tl : Paired ClsV clsTL [.type "tuple", .type "list"] := .cons (.ty _) (.cons (.ty _) .nil)
theorem ok_alike0 (F : FnP K "_law_alike" sAlike f fd) (B : Bl mg) : FnOk P w K mg base CX0 1 f fd ["found", "due"] (spAlike K 0) := by
  refine F.ok scAlike (fun vs H Q E h => ?_) (fun cdv A outer s H vs Q E hr h => ⟨_, PSs.nox (
    pss_cons (ps_if (pt_val (pe_callB call_isiT rfl B.isinstance PyProof.Rows.boot_isinstance (pa_cons (pv 1) (pa_cons (pe_tup (pa_cons (pe_bltn (v := .ty "tuple") rfl B.tuple PyProof.Rows.boot_tuple rfl) (pa_cons (pe_bltn (v := .ty "list") rfl B.list PyProof.Rows.boot_list rfl) pa_nil))) pa_nil)))) pss_never pss_nil)
    (pss_cons (ps_if (PW.pt (pw_or (pt_cmp (pc_isN (pv 1))) (pw_or1 (pt_val (pe_callB call_isi rfl B.isinstance PyProof.Rows.boot_isinstance (pa_cons (pv 1) (pa_cons (pe_bltn (v := .ty "str") rfl B.str PyProof.Rows.boot_str rfl) pa_nil))))))) pss_never pss_nil)
    (pss_one (ps_ret (pe_and (pe_callB call_isi rfl B.isinstance PyProof.Rows.boot_isinstance (pa_cons (pv 0) (pa_cons (pe_bltn (v := .ty "int") rfl B.int PyProof.Rows.boot_int rfl) pa_nil)))
      (pe_and (pe_cmpR op_eq (pe_callB call_isi rfl B.isinstance PyProof.Rows.boot_isinstance (pa_cons (pv 0) (pa_cons (pe_bltn (v := .ty "bool") rfl B.bool PyProof.Rows.boot_bool rfl) pa_nil))) (pe_callB call_isi rfl B.isinstance PyProof.Rows.boot_isinstance (pa_cons (pv 1) (pa_cons (pe_bltn (v := .ty "bool") rfl B.bool PyProof.Rows.boot_bool rfl) pa_nil))) (nomark _))
      (pe_one (pe_cmpR op_eq (pv 0) (pv 1) (nomark _))))))))), ?_⟩)
  · obtain ⟨u, v, d, rfl, _⟩ := h
    rfl
  · obtain ⟨u, v, d, rfl, hd, hsm, hu, hv, q⟩ := h
    rcases dt_cases hu hv with ⟨t, bb, rfl, fl⟩ | ⟨k, ds, pu, us, pw, ws, rfl, rfl, su, sw, iu, iw, ed, es⟩
    · refine ⟨_, rfl, (by show 2 ≤ sizeLine; decide), fun p hp => ⟨_, p, clsTL, _, _, false, rfl, upd_same, cls_tl, fl.ty _, any_tl t false fl.k1 (fun _ => fl.k2), _, rfl, ifF (A := _) (B := _) rfl ?_⟩⟩
      refine ⟨_, rfl, _, rfl, ifF (A := _) (B := _) (decide_eq_false fl.nn) ⟨_, rfl, _, _, _, _, false, rfl, .ty "str", fl.ty _, kit_ty fl.k3, _, rfl, ifF (A := _) (B := _) rfl ?_⟩⟩
      refine ⟨_, rfl, _, _, _, _, true, rfl, .ty "int", fl.ty _, kit_ty fl.k4, _, rfl, ifT (A := _) (B := _) rfl ?_⟩
      refine ⟨_, rfl, _, _, _, _, bb, rfl, .ty "bool", fl.ty _, kit_ty fl.k5, _, rfl, _, _, _, _, bb, rfl, .ty "bool", fl.ty _, kit_ty fl.k5, rfl, _, rfl, ifT (A := _) (B := _) (decide_eq_true rfl) ?_⟩
      refine ⟨_, rfl, _, rfl, fl.sc, ?_⟩
      rw [decide_eq_true rfl]
      exact q _ ((Kp.refl H).new hp)
    · omega
theorem ok_alikeS {n j : Nat} (F : FnP K "_law_alike" sAlike f fd) (B : Bl mg) (hA : Has P w K mg base "_law_alike" j [] (spAlike K n)) : FnOk P w K mg base CX0 (j + 1) f fd ["found", "due"] (spAlike K (n + 1)) := by
  refine F.ok scAlike (fun vs H Q E h => ?_) (fun cdv A outer s H vs Q E hr h => ⟨_, PSs.nox (
    pss_cons (ps_if (pt_val (pe_callB call_isiT rfl B.isinstance PyProof.Rows.boot_isinstance (pa_cons (pv 1) (pa_cons (pe_tup (pa_cons (pe_bltn (v := .ty "tuple") rfl B.tuple PyProof.Rows.boot_tuple rfl) (pa_cons (pe_bltn (v := .ty "list") rfl B.list PyProof.Rows.boot_list rfl) pa_nil))) pa_nil))))
      (pss_cons (ps_if (PW.pt (pw_or (pt_not (pt_val (pe_callB call_isiT rfl B.isinstance PyProof.Rows.boot_isinstance (pa_cons (pv 0) (pa_cons (pe_tup (pa_cons (pe_bltn (v := .ty "tuple") rfl B.tuple PyProof.Rows.boot_tuple rfl) (pa_cons (pe_bltn (v := .ty "list") rfl B.list PyProof.Rows.boot_list rfl) pa_nil))) pa_nil)))))
        (pw_or1 (pt_cmpR op_ne (pe_callB call_isi rfl B.isinstance PyProof.Rows.boot_isinstance (pa_cons (pv 0) (pa_cons (pe_bltn (v := .ty "list") rfl B.list PyProof.Rows.boot_list rfl) pa_nil))) (pe_callB call_isi rfl B.isinstance PyProof.Rows.boot_isinstance (pa_cons (pv 1) (pa_cons (pe_bltn (v := .ty "list") rfl B.list PyProof.Rows.boot_list rfl) pa_nil))) (nomark _))))) pss_never pss_nil)
      (pss_cons (ps_if (pt_cmpR op_ne (pe_callB call_len_seq rfl B.len PySem.boot_len (pa_cons (pv 0) pa_nil)) (pe_callB call_len_seq rfl B.len PySem.boot_len (pa_cons (pv 1) pa_nil)) (nomark _)) pss_never pss_nil)
      (pss_one (ps_ret (pe_cmpR (op_eqNil hr.units) (pe_lc (own := [("k", 2)]) (g := gName 2) (tt := tNot (tB (tCall (spAlike K n) [] E0 (tCons (tOp (rIx K) (tVar 0) (tVar 2)) (tCons (tOp (rIx K) (tVar 1) (tVar 2)) tNil))))) rfl scAlike.nd (pi_range1 rfl B.range (pa_cons (pe_callB call_len_seq rfl B.len PySem.boot_len (pa_cons (pv 1) pa_nil)) pa_nil)) (blkOk_by (N := ["found", "due", "k"]) (sc := defScope sAlike) (by decide +kernel))
        (fun _ _ _ _ _ => pg_name (i := 2) scAlike.nd rfl (Or.inl rfl)) (fun _ _ _ _ _ => pts_one (pt_not (pt_val (pe_has hA hr (Nat.le_refl _) (pa_cons (pe_ix (r := rIx K) ix_seq (pv 0) (pv 2) (fun _ _ => rfl)) (pa_cons (pe_ix (r := rIx K) ix_seq (pv 1) (pv 2) (fun _ _ => rfl)) pa_nil)))))) (fun _ _ _ _ _ => pv 2)) (pe_lst pa_nil) (nomark _)))))) pss_nil)
    (pss_cons (ps_if (PW.pt (pw_or (pt_cmp (pc_isN (pv 1))) (pw_or1 (pt_val (pe_callB call_isi rfl B.isinstance PyProof.Rows.boot_isinstance (pa_cons (pv 1) (pa_cons (pe_bltn (v := .ty "str") rfl B.str PyProof.Rows.boot_str rfl) pa_nil))))))) pss_never pss_nil)
    (pss_one (ps_ret (pe_and (pe_callB call_isi rfl B.isinstance PyProof.Rows.boot_isinstance (pa_cons (pv 0) (pa_cons (pe_bltn (v := .ty "int") rfl B.int PyProof.Rows.boot_int rfl) pa_nil)))
      (pe_and (pe_cmpR op_eq (pe_callB call_isi rfl B.isinstance PyProof.Rows.boot_isinstance (pa_cons (pv 0) (pa_cons (pe_bltn (v := .ty "bool") rfl B.bool PyProof.Rows.boot_bool rfl) pa_nil))) (pe_callB call_isi rfl B.isinstance PyProof.Rows.boot_isinstance (pa_cons (pv 1) (pa_cons (pe_bltn (v := .ty "bool") rfl B.bool PyProof.Rows.boot_bool rfl) pa_nil))) (nomark _))
      (pe_one (pe_cmpR op_eq (pv 0) (pv 1) (nomark _))))))))), ?_⟩)
  · obtain ⟨u, v, d, rfl, _⟩ := h
    rfl
  · obtain ⟨u, v, d, rfl, hd, hsm, hu, hv, q⟩ := h
    rcases dt_cases hu hv with ⟨t, bb, rfl, fl⟩ | ⟨k, ds, pu, us, pw, ws, rfl, rfl, su, sw, iu, iw, ed, es⟩
    · refine ⟨_, rfl, (by show 2 ≤ sizeLine; decide), fun p hp => ⟨_, p, clsTL, _, _, false, rfl, upd_same, cls_tl, fl.ty _, any_tl t false fl.k1 (fun _ => fl.k2), _, rfl, ifF (A := _) (B := _) rfl ?_⟩⟩
      refine ⟨_, rfl, _, rfl, ifF (A := _) (B := _) (decide_eq_false fl.nn) ⟨_, rfl, _, _, _, _, false, rfl, .ty "str", fl.ty _, kit_ty fl.k3, _, rfl, ifF (A := _) (B := _) rfl ?_⟩⟩
      refine ⟨_, rfl, _, _, _, _, true, rfl, .ty "int", fl.ty _, kit_ty fl.k4, _, rfl, ifT (A := _) (B := _) rfl ?_⟩
      refine ⟨_, rfl, _, _, _, _, bb, rfl, .ty "bool", fl.ty _, kit_ty fl.k5, _, rfl, _, _, _, _, bb, rfl, .ty "bool", fl.ty _, kit_ty fl.k5, rfl, _, rfl, ifT (A := _) (B := _) (decide_eq_true rfl) ?_⟩
      refine ⟨_, rfl, _, rfl, fl.sc, ?_⟩
      rw [decide_eq_true rfl]
      exact q _ ((Kp.refl H).new hp)
    · obtain ⟨l5, sm⟩ := es hsm
      have lu := iu.len
      have lw := iw.len
      refine ⟨_, rfl, (by show 2 ≤ sizeLine; decide), fun p hp => ?_⟩
      have z1 := (Kp.refl H).new hp (o := .tup clsTL)
      refine ⟨_, p, clsTL, _, _, true, rfl, upd_same, cls_tl, (z1.sqB sw).ty, any_B k, _, rfl, ifT (A := _) (B := _) rfl ?_⟩
      refine ⟨_, rfl, (by show 2 ≤ sizeLine; decide), fun p2 hp2 => ?_⟩
      have z2 := z1.new hp2 (o := .tup clsTL)
      have su2 := z2.sqB su
      have sw2 := z2.sqB sw
      refine ⟨_, p2, clsTL, _, _, true, rfl, upd_same, cls_tl, su2.ty, any_B k, _, rfl, ifF (A := _) (B := _) rfl ?_⟩
      refine ⟨_, rfl, _, _, _, _, k, rfl, .ty "list", su2.ty, one_B k, _, rfl, _, _, _, _, k, rfl, .ty "list", sw2.ty, one_B k, rfl, _, rfl, ifF (A := _) (B := _) (by simp) ?_⟩
      refine ⟨_, rfl, pu, us, rfl, su2.or, _, rfl, pw, ws, rfl, sw2.or, rfl, _, rfl, ifF (A := _) (B := _) (by rw [lu, lw]; simp) ?_⟩
      refine ⟨_, rfl, pw, ws, rfl, sw2.or, (ws.length : Int), rfl, by omega, by omega, fun D hD => ?_⟩
      show ∃ W, _
      refine lcG (J := Itr 0 ws.length) (Wlk.rng 0 ws.length) hD (by rw [sizeLine_eq]; omega) (fun _ => false) (fun _ _ _ => True) (fun _ _ _ _ _ _ => trivial) (fun i x H' Q1 Q0 hi z hx q1 q0 => ?_) (fun ys H' z hD' hpr => ?_)
      · subst hx
        rw [Int.zero_add]
        have hi' : i < ds.length := by omega
        have e := List.getElem?_eq_getElem hi'
        have zz := z2.trans z
        obtain ⟨u1, hu1, du1⟩ := IsDts.get (IsDts.kp zz ds us iu) e
        obtain ⟨w1, hw1, dw1⟩ := IsDts.get (IsDts.kp zz ds ws iw) e
        have dd := depths_get e
        refine ⟨rfl, _, rfl, _, rfl, (z.sqB su2).ix (atI_nat hu1) ⟨_, rfl, _, rfl, (z.sqB sw2).ix (atI_nat hw1) ⟨u1, w1, ds[i], rfl, by omega, smalls_get sm e, du1, dw1, fun H5 z5 => ⟨_, rfl, ?_⟩⟩⟩⟩
        exact ifF (A := tVar 2 _ _ Q1) rfl (q0 _ rfl z5)
      · have ey : ys = [] := by
          have := hpr.length
          rw [show (List.range ws.length).filter (fun _ => false) = [] from by simp] at this
          exact List.length_eq_zero_iff.mp this.symm
        subst ey
        refine ⟨Nat.zero_le _, fun e he => ?_⟩
        have ze := z.new he (o := .lst [])
        have nD : D ≠ e := fun w => by rw [w, he] at hD'; cases hD'
        exact ⟨D, e, [], rfl, rfl, SqL.of (by rw [upd_ne nD]; exact hD'), SqL.of upd_same, q _ (z2.trans ze)⟩
end
end NS
end
section
set_option maxHeartbeats 4000000
/-! L6: the law's lots of pairs -/
namespace NS
open PySem PySem.Spec PyProof.Rows L2 ZS
theorem has_alike {P : Program} {w : World} {K : PySem.W.Frag} {mg : Str → Option Value} {base : Heap} {f : Addr} {fd : FuncData} (F : FnP K "_law_alike" sAlike f fd) (m : mg "_law_alike" = some (.ref f)) (B : Bl mg) : ∀ n, Has P w K mg base "_law_alike" (n + 1) [] (spAlike K n)
  | 0 => ⟨f, fd, ["found", "due"], [], m, F.kp, F.bindsN (fun _ _ _ _ _ _ us hl => match us, hl with | [_, _], _ => rfl), .nil, ok_alike0 F B⟩
  | n + 1 => ⟨f, fd, ["found", "due"], [], m, F.kp, F.bindsN (fun _ _ _ _ _ _ us hl => match us, hl with | [_, _], _ => rfl), .nil, ok_alikeS F B (has_alike F m B n)⟩
/-- all pairs of halls -/
def G2 (n : Nat) : List (List Int) := (grid n n).map pr2
theorem mem_grid {n m : Nat} {p : Nat × Nat} : p ∈ grid n m ↔ p.1 < n ∧ p.2 < m := by
  unfold grid
  rw [List.mem_flatMap]
  constructor
  · rintro ⟨i, hi, e⟩
    obtain ⟨j, hj, rfl⟩ := List.mem_map.mp e
    exact ⟨List.mem_range.mp hi, List.mem_range.mp hj⟩
  · rintro ⟨h1, h2⟩
    exact ⟨p.1, List.mem_range.mpr h1, List.mem_map.mpr ⟨p.2, List.mem_range.mpr h2, rfl⟩⟩
theorem mem_g2 {n : Nat} {b : List Int} : b ∈ G2 n ↔ b.length = 2 ∧ Low n b := by
  unfold G2
  rw [List.mem_map]
  constructor
  · rintro ⟨p, hp, rfl⟩
    have h := mem_grid.mp hp
    refine ⟨rfl, fun x hx => ?_⟩
    rcases List.mem_cons.mp hx with e | e
    · rw [e]; show (0 : Int) ≤ (p.1 : Int) ∧ (p.1 : Int) < n; omega
    · rw [List.mem_singleton.mp e]; show (0 : Int) ≤ (p.2 : Int) ∧ (p.2 : Int) < n; omega
  · rintro ⟨hb, lo⟩
    match b, hb with
    | [x, y], _ =>
      have hx := lo x (by simp)
      have hy := lo y (by simp)
      refine ⟨(x.toNat, y.toNat), mem_grid.mpr ⟨by show x.toNat < n; omega, by show y.toNat < n; omega⟩, ?_⟩
      show [((x.toNat : Nat) : Int), ((y.toNat : Nat) : Int)] = [x, y]
      rw [Int.toNat_of_nonneg hx.1, Int.toNat_of_nonneg hy.1]
theorem g2_len (n : Nat) : (G2 n).length = n * n := by unfold G2; rw [List.length_map, grid_len]
theorem comp_low {n : Nat} {b t : List Int} (hb : Low n b) (ht : IsT n t) : Low n (comp b t) := fun x hx => by
  obtain ⟨k, hk, rfl⟩ := List.mem_map.mp hx
  have hk' := hb k hk
  exact ht.low _ (mem_getD (by rw [ht.len]; omega) 0)
theorem g2_cl {n : Nat} {ts : List (List Int)} (hi : ∀ t ∈ ts, IsT n t) : ∀ b ∈ G2 n, ∀ t ∈ ts, comp b t ∈ G2 n := fun b hb t ht => by
  obtain ⟨l2, lo⟩ := mem_g2.mp hb
  exact mem_g2.mpr ⟨by rw [comp_len, l2], comp_low lo (hi t ht)⟩
theorem comp_inj {n : Nat} {t : List Int} (ht : IsT n t) : ∀ {a b : List Int}, Low n a → Low n b → comp a t = comp b t → a = b
  | [], [], _, _, _ => rfl
  | [], y :: b, _, _, e => by cases e
  | x :: a, [], _, _, e => by cases e
  | x :: a, y :: b, ha, hb, e => by
    have e1 : t.getD x.toNat 0 :: comp a t = t.getD y.toNat 0 :: comp b t := e
    injection e1 with h1 h2
    have hx := ha x (List.mem_cons_self ..)
    have hy := hb y (List.mem_cons_self ..)
    have := ht.inj (i := x.toNat) (j := y.toNat) (by omega) (by omega) (by unfold at'; rw [h1])
    have exy : x = y := by omega
    rw [exy, comp_inj ht (fun z hz => ha z (List.mem_cons_of_mem _ hz)) (fun z hz => hb z (List.mem_cons_of_mem _ hz)) h2]
theorem g2_sym {n : Nat} {ts : List (List Int)} (hi : ∀ t ∈ ts, IsT n t) {p x : List Int} (hp : p ∈ G2 n) (h : Rch comp ts p x) : Rch comp ts x p :=
  h.symm (g2_cl hi) (fun t ht a ha b hb e => comp_inj (hi t ht) (mem_g2.mp ha).2 (mem_g2.mp hb).2 e) hp
/-- lots of pairs, each from its first one -/
structure PLots (n : Nat) (ts : List (List Int)) (LL : List (List (List Int))) : Prop where
  hd : ∀ lot ∈ LL, ∃ p rest, lot = p :: rest ∧ p ∈ G2 n ∧ lot.Nodup ∧ ∀ x, x ∈ lot ↔ Rch comp ts p x
  dj : LL.Pairwise fun l1 l2 => ∀ x ∈ l1, x ∉ l2
def LotsAt (K : PySem.W.Frag) (H : Hp) (fo : Addr) (us : List V) (LL : List (List (List Int))) : Prop := Paired (fun v lot => ∃ a ys, v = .ref a ∧ a ≠ fo ∧ H a = some (.lst ys) ∧ Paired (TI K H) ys lot) us LL
theorem pr_ti {K : PySem.W.Frag} {H H' : Hp} (z : Tup H H') {vs : List V} {as : List (List Int)} (h : Paired (TI K H) vs as) : Paired (TI K H') vs as := h.mono fun _ _ q => z.ti q
theorem LotsAt.kp {K : PySem.W.Frag} {H H' : Hp} {fo : Addr} {us : List V} {LL : List (List (List Int))} (h : LotsAt K H fo us LL) (z : Kp H H') : LotsAt K H' fo us LL := h.mono fun _ _ ⟨a, ys, e, n, h1, h2⟩ => ⟨a, ys, e, n, z.lst h1, pr_ti z.tup h2⟩
theorem LotsAt.put {K : PySem.W.Frag} {H : Hp} {fo : Addr} {us ws : List V} {LL : List (List (List Int))} (h : LotsAt K H fo us LL) {xs : List V} (hf : H fo = some (.lst xs)) : LotsAt K (upd H fo (.lst ws)) fo us LL := h.mono fun _ _ ⟨a, ys, e, n, h1, h2⟩ => ⟨a, ys, e, n, by rw [upd_ne n]; exact h1, pr_ti (Tup.put (by rw [hf]; trivial)) h2⟩
section
variable {P : Program} {w : World} {K : PySem.W.Frag} {mg : Str → Option Value} {base : Heap} {f : Addr} {fd : FuncData}
end
end NS
end
section
set_option maxHeartbeats 4000000
/-! L7: the law's parts and rings -/
namespace NS
open PySem PySem.Spec PyProof.Rows L2 ZS
theorem diag_rch {ts : List (List Int)} {i : Int} {x : List Int} : Rch comp ts [i, i] x ↔ ∃ h, x = [h, h] ∧ Orb ts i h := by
  constructor
  · intro h
    induction h with
    | base => exact ⟨i, rfl, .base⟩
    | next _ ht ih =>
      obtain ⟨h, rfl, o⟩ := ih
      exact ⟨_, rfl, .next o ht⟩
  · rintro ⟨h, rfl, o⟩
    induction o with
    | base => exact .base
    | next _ ht ih => exact .next ih ht
/-- the first pair of lot i -/
abbrev hdp (LLp : List (List (List Int))) (i : Nat) : List Int := (LLp.getD i []).getD 0 []
section
variable {n : Nat} {ts : List (List Int)} {LLp : List (List (List Int))}
theorem lots_dj (pl : PLots n ts LLp) {i j : Nat} (hi : i < LLp.length) (hj : j < LLp.length) {x : List Int} (h1 : x ∈ LLp.getD i []) (h2 : x ∈ LLp.getD j []) : i = j := by
  have pw := List.pairwise_iff_getElem.mp pl.dj
  have e1 : LLp.getD i [] = LLp[i] := getD_of (List.getElem?_eq_getElem hi)
  have e2 : LLp.getD j [] = LLp[j] := getD_of (List.getElem?_eq_getElem hj)
  rw [e1] at h1
  rw [e2] at h2
  rcases Nat.lt_trichotomy i j with h | h | h
  · exact absurd h2 (pw i j hi hj h x h1)
  · exact h
  · exact absurd h1 (pw j i hj hi h x h2)
end
section
variable {P : Program} {w : World} {K : PySem.W.Frag} {mg : Str → Option Value} {base : Heap} {f : Addr} {fd : FuncData}
end
end NS
end
section
set_option maxHeartbeats 4000000
/-! L8: the law's rings -/
namespace NS
open PySem PySem.Spec PyProof.Rows L2 ZS
section
variable {n : Nat} {t : List Int}
theorem hallS_in (ht : IsT n t) {a : Int} (ha : a ∈ idt n) : hallS a t ∈ idt n := by
  have h := mem_idt.mp ha
  have h2 := ht.getD (i := a.toNat) (by omega)
  refine mem_idt.mpr ?_
  show 0 ≤ t.getD a.toNat 0 ∧ t.getD a.toNat 0 < n
  omega
theorem hallS_inj (ht : IsT n t) {a b : Int} (ha : a ∈ idt n) (hb : b ∈ idt n) (e : hallS a t = hallS b t) : a = b := by
  have h1 := mem_idt.mp ha
  have h2 := mem_idt.mp hb
  have := ht.inj (i := a.toNat) (j := b.toNat) (by omega) (by omega) (by unfold at'; unfold hallS at e; rw [e])
  omega
theorem orb_sym {ts : List (List Int)} (hT : ∀ t ∈ ts, IsT n t) {a b : Int} (ha : a ∈ idt n) (h : Orb ts a b) : Orb ts b a :=
  h.symm (U := idt n) (fun a ha t ht => hallS_in (hT t ht) ha) (fun t ht a ha b hb e => hallS_inj (hT t ht) ha hb e) ha
theorem orb_in {ts : List (List Int)} (hT : ∀ t ∈ ts, IsT n t) {a b : Int} (ha : a ∈ idt n) (h : Orb ts a b) : b ∈ idt n := h.inU ha fun a ha t ht => hallS_in (hT t ht) ha
end
section
variable {n : Nat} {t : List Int} {OO : List (List Int)}
end
section
variable {P : Program} {w : World} {K : PySem.W.Frag} {mg : Str → Option Value} {base : Heap} {f : Addr} {fd : FuncData}
end
end NS
end
section
/-! M3: counting -/
namespace NS
/-! ### sums -/
theorem sum_map_add {α : Type} (f g : α → Nat) : ∀ l : List α, (l.map fun x => f x + g x).sum = (l.map f).sum + (l.map g).sum
  | [] => rfl
  | a :: l => by
    simp only [List.map_cons, List.sum_cons, sum_map_add f g l]
    omega
theorem sum_map_zero {α : Type} : ∀ l : List α, (l.map fun _ => 0).sum = 0
  | [] => rfl
  | a :: l => by simp only [List.map_cons, List.sum_cons, sum_map_zero l]
theorem sum_map_congr {α : Type} {f g : α → Nat} {l : List α} (h : ∀ x ∈ l, f x = g x) : (l.map f).sum = (l.map g).sum := by rw [List.map_congr_left h]
theorem sum_const {α : Type} (c : Nat) : ∀ l : List α, (l.map fun _ => c).sum = l.length * c
  | [] => by simp
  | a :: l => by
    simp only [List.map_cons, List.sum_cons, sum_const c l, List.length_cons, Nat.succ_mul]
    omega
theorem sum_flatten {α : Type} (f : α → Nat) : ∀ LL : List (List α), (LL.flatten.map f).sum = (LL.map fun k => (k.map f).sum).sum
  | [] => rfl
  | k :: LL => by rw [List.flatten_cons, List.map_append, List.sum_append, List.map_cons, List.sum_cons, sum_flatten f LL]
theorem sum_perm {l m : List Nat} (h : l.Perm m) : l.sum = m.sum := by
  induction h with
  | nil => rfl
  | cons a _ ih => rw [List.sum_cons, List.sum_cons, ih]
  | swap a b l => simp only [List.sum_cons]; omega
  | trans _ _ h1 h2 => rw [h1, h2]
theorem len_filter {α : Type} (p : α → Bool) : ∀ l : List α, (l.filter p).length = (l.map fun x => if p x = true then 1 else 0).sum
  | [] => rfl
  | a :: l => by
    rw [List.map_cons, List.sum_cons, ← len_filter p l]
    cases h : p a
    · rw [List.filter_cons_of_neg (by simp [h])]; simp
    · rw [List.filter_cons_of_pos h, List.length_cons]; simp; omega
/-- the same pairs counted both ways -/
theorem count_both {α γ : Type} (P : α → γ → Bool) (X : List α) : ∀ G : List γ, (G.map fun g => (X.filter fun x => P x g).length).sum = (X.map fun x => (G.filter fun g => P x g).length).sum
  | [] => by
    have := sum_map_zero X
    simpa using this.symm
  | g :: G => by
    rw [List.map_cons, List.sum_cons, count_both P X G, len_filter, ← sum_map_add]
    refine sum_map_congr fun x _ => ?_
    cases h : P x g
    · rw [List.filter_cons_of_neg (by simp [h])]; simp
    · rw [List.filter_cons_of_pos h, List.length_cons, if_pos rfl]; exact Nat.add_comm ..
theorem one_of {α : Type} [DecidableEq α] {a : α} : ∀ {k : List α}, k.Nodup → a ∈ k → (k.filter fun x => decide (a = x)).length = 1
  | [], _, h => by cases h
  | b :: k, nd, h => by
    obtain ⟨h1, h2⟩ := List.nodup_cons.mp nd
    by_cases e : a = b
    · subst e
      rw [List.filter_cons_of_pos (by simp), List.length_cons]
      have : k.filter (fun x => decide (a = x)) = [] := List.filter_eq_nil_iff.mpr fun x hx => by
        simp only [decide_eq_true_eq]
        intro e
        rw [e] at h1
        exact h1 hx
      rw [this]
      rfl
    · rw [List.filter_cons_of_neg (by simpa using e)]
      rcases List.mem_cons.mp h with h | h
      · exact absurd h e
      · exact one_of h2 h
/-- as many turns leave things in place as there are turns, times lots -/
theorem burnside {α γ : Type} [DecidableEq α] [DecidableEq γ] {G : List γ} {X : List α} {act : α → γ → α} {mul : γ → γ → γ} {LL : List (List α)} (ndG : G.Nodup) (pm : LL.flatten.Perm X)
    (hm : ∀ a ∈ G, ∀ b ∈ G, mul a b ∈ G) (hi : ∀ h ∈ G, ∀ a ∈ G, ∀ b ∈ G, mul h a = mul h b → a = b) (ha : ∀ x ∈ X, ∀ a ∈ G, ∀ b ∈ G, act (act x a) b = act x (mul a b))
    (hk : ∀ k ∈ LL, k.Nodup ∧ ∃ x0 ∈ k, (∀ g ∈ G, act x0 g ∈ k) ∧ ∀ x ∈ k, (∃ h ∈ G, act x0 h = x) ∧ ∃ h ∈ G, act x h = x0) :
    (G.map fun g => (X.filter fun x => decide (act x g = x)).length).sum = G.length * LL.length := by
  rw [count_both (fun x g => decide (act x g = x)) X G]
  rw [sum_perm ((pm.map fun x => (G.filter fun g => decide (act x g = x)).length).symm), sum_flatten]
  have each : ∀ k ∈ LL, (k.map fun x => (G.filter fun g => decide (act x g = x)).length).sum = G.length := fun k hkm => by
    obtain ⟨ndk, x0, hx0, hin, hx⟩ := hk k hkm
    have inX : ∀ x ∈ k, x ∈ X := fun x h => pm.mem_iff.mp (List.mem_flatten.mpr ⟨k, hkm, h⟩)
    have step : ∀ x ∈ k, (G.filter fun g => decide (act x g = x)).length = (G.filter fun g => decide (act x0 g = x)).length := fun x hxk => by
      obtain ⟨⟨h, hh, eh⟩, h', hh', eh'⟩ := hx x hxk
      refine Nat.le_antisymm ?_ ?_
      · have nd : ((G.filter fun g => decide (act x g = x)).map (mul h)).Nodup := nodup_map (List.Pairwise.filter _ ndG) fun a ha' b hb' e => hi h hh a (List.mem_filter.mp ha').1 b (List.mem_filter.mp hb').1 e
        have := nd_le nd (b := G.filter fun g => decide (act x0 g = x)) fun y hy => by
          obtain ⟨g, hg, rfl⟩ := List.mem_map.mp hy
          obtain ⟨g1, g2⟩ := List.mem_filter.mp hg
          refine List.mem_filter.mpr ⟨hm h hh g g1, decide_eq_true ?_⟩
          rw [← ha x0 (inX x0 hx0) h hh g g1, eh]
          exact of_decide_eq_true g2
        rwa [List.length_map] at this
      · have nd : ((G.filter fun g => decide (act x0 g = x)).map (mul h')).Nodup := nodup_map (List.Pairwise.filter _ ndG) fun a ha' b hb' e => hi h' hh' a (List.mem_filter.mp ha').1 b (List.mem_filter.mp hb').1 e
        have := nd_le nd (b := G.filter fun g => decide (act x g = x)) fun y hy => by
          obtain ⟨g, hg, rfl⟩ := List.mem_map.mp hy
          obtain ⟨g1, g2⟩ := List.mem_filter.mp hg
          refine List.mem_filter.mpr ⟨hm h' hh' g g1, decide_eq_true ?_⟩
          rw [← ha x (inX x hxk) h' hh' g g1, eh']
          exact of_decide_eq_true g2
        rwa [List.length_map] at this
    rw [sum_map_congr step, ← count_both (fun x g => decide (act x0 g = x)) k G, sum_map_congr (g := fun _ => 1) fun g hg => one_of ndk (hin g hg), sum_const, Nat.mul_one]
  rw [sum_map_congr each, sum_const, Nat.mul_comm]
/-! ### ascending lists are there -/
theorem asc_exists {α : Type} {lt : α → α → Prop} (tr : ∀ a b c, lt a b → lt b c → lt a c) (tot : ∀ a b, a ≠ b → lt a b ∨ lt b a) : ∀ l : List α, l.Nodup → ∃ k : List α, k.Perm l ∧ k.Pairwise lt
  | [], _ => ⟨[], List.Perm.refl _, List.Pairwise.nil⟩
  | a :: l, nd => by
    obtain ⟨h1, h2⟩ := List.nodup_cons.mp nd
    obtain ⟨k, pm, pw⟩ := asc_exists tr tot l h2
    have ins : ∀ k : List α, k.Pairwise lt → a ∉ k → ∃ k' : List α, k'.Perm (a :: k) ∧ k'.Pairwise lt := fun k => by
      induction k with
      | nil => exact fun _ _ => ⟨[a], List.Perm.refl _, List.pairwise_singleton _ _⟩
      | cons b k ih =>
        intro pw na
        obtain ⟨p1, p2⟩ := List.pairwise_cons.mp pw
        have nab : a ≠ b := fun e => na (by rw [e]; exact List.mem_cons_self ..)
        rcases tot a b nab with h | h
        · exact ⟨a :: b :: k, List.Perm.refl _, List.pairwise_cons.mpr ⟨fun x hx => by
            rcases List.mem_cons.mp hx with e | e
            · rw [e]; exact h
            · exact tr _ _ _ h (p1 x e), pw⟩⟩
        · obtain ⟨k', pm', pw'⟩ := ih p2 fun hk => na (List.mem_cons_of_mem _ hk)
          refine ⟨b :: k', (pm'.cons b).trans (List.Perm.swap a b k), List.pairwise_cons.mpr ⟨fun x hx => ?_, pw'⟩⟩
          rcases List.mem_cons.mp (pm'.mem_iff.mp hx) with e | e
          · rw [e]; exact h
          · exact p1 x e
    obtain ⟨k', pm', pw'⟩ := ins k pw fun h => h1 (pm.mem_iff.mp h)
    exact ⟨k', pm'.trans (pm.cons a), pw'⟩
end NS
end
section
set_option maxHeartbeats 4000000
/-! M4: the group, its lots, its numbers -/
namespace NS
open PySem PySem.Spec PyProof.Rows L2 ZS
section
variable {n : Nat} {ts : List (List Int)} {a b c g h t : List Int}
theorem comp_low_assoc (ha : Low n a) (hb : IsT n b) (c : List Int) : comp (comp a b) c = comp a (comp b c) := by
  unfold comp
  rw [List.map_map]
  refine List.map_congr_left fun x hx => ?_
  have h := ha x hx
  exact (comp_getD c (a := b) (i := x.toNat) (by rw [hb.len]; omega)).symm
theorem comp_low_idt (ha : Low n a) : comp a (idt n) = a := by
  unfold comp
  conv => rhs; rw [← List.map_id a]
  refine List.map_congr_left fun x hx => ?_
  have h := ha x hx
  show (idt n).getD x.toNat 0 = x
  rw [idt_at (by omega)]
  omega
theorem grp_isT (hT : ∀ t ∈ ts, IsT n t) (h : Grp n ts g) : IsT n g := by
  induction h with
  | base => exact idt_isT n
  | next _ ht ih => exact ih.comp (hT _ ht)
theorem grp_mul (hT : ∀ t ∈ ts, IsT n t) (hg : Grp n ts g) (hh : Grp n ts h) : Grp n ts (comp g h) := by
  have ig := grp_isT hT hg
  have key : ∀ k, Rch comp ts (idt n) k → Grp n ts (comp g k) ∧ IsT n k := fun k hk => by
    induction hk with
    | base => exact ⟨by rw [comp_idt ig]; exact hg, idt_isT n⟩
    | next _ ht ih => exact ⟨by rw [← comp_assoc ig ih.2]; exact .next ih.1 ht, ih.2.comp (hT _ ht)⟩
  exact (key h hh).1
/-- what the turns make of places are the places behind a turn of the group -/
theorem rch_comp (hT : ∀ t ∈ ts, IsT n t) (ha : Low n a) {x : List Int} : Rch comp ts a x ↔ ∃ g, Grp n ts g ∧ x = comp a g := by
  constructor
  · intro h
    induction h with
    | base => exact ⟨idt n, .base, (comp_low_idt ha).symm⟩
    | next _ ht ih =>
      obtain ⟨g, hg, rfl⟩ := ih
      exact ⟨_, .next hg ht, comp_low_assoc ha (grp_isT hT hg) _⟩
  · rintro ⟨g, hg, rfl⟩
    have key : ∀ k, Rch comp ts (idt n) k → Rch comp ts a (comp a k) ∧ IsT n k := fun k hk => by
      induction hk with
      | base => exact ⟨by rw [comp_low_idt ha]; exact .base, idt_isT n⟩
      | next _ ht ih => exact ⟨by rw [← comp_low_assoc ha ih.2]; exact .next ih.1 ht, ih.2.comp (hT _ ht)⟩
    exact (key g hg).1
theorem hallS_comp {x : Int} (hx : x ∈ idt n) (ha : IsT n a) (b : List Int) : hallS (hallS x a) b = hallS x (comp a b) := by
  have h := mem_idt.mp hx
  exact (comp_getD b (a := a) (i := x.toNat) (by rw [ha.len]; omega)).symm
theorem hallS_idt {x : Int} (hx : x ∈ idt n) : hallS x (idt n) = x := by
  have h := mem_idt.mp hx
  unfold hallS
  rw [idt_at (by omega)]
  omega
theorem orb_grp (hT : ∀ t ∈ ts, IsT n t) {y x : Int} (hy : y ∈ idt n) : Orb ts y x ↔ ∃ g, Grp n ts g ∧ x = hallS y g := by
  constructor
  · intro h
    induction h with
    | base => exact ⟨idt n, .base, (hallS_idt hy).symm⟩
    | next _ ht ih =>
      obtain ⟨g, hg, rfl⟩ := ih
      exact ⟨_, .next hg ht, hallS_comp hy (grp_isT hT hg) _⟩
  · rintro ⟨g, hg, rfl⟩
    have key : ∀ k, Rch comp ts (idt n) k → Orb ts y (hallS y k) ∧ IsT n k := fun k hk => by
      induction hk with
      | base => exact ⟨by rw [hallS_idt hy]; exact .base, idt_isT n⟩
      | next _ ht ih => exact ⟨by rw [← hallS_comp hy ih.2]; exact .next ih.1 ht, ih.2.comp (hT _ ht)⟩
    exact (key g hg).1
theorem left_inj (hh : IsT n h) (ha : IsT n a) (hb : IsT n b) (e : comp h a = comp h b) : a = b := by
  have e2 : comp (inv h) (comp h a) = comp (inv h) (comp h b) := by rw [e]
  rwa [← comp_assoc hh.inv hh, ← comp_assoc hh.inv hh, inv_comp hh, idt_comp ha, idt_comp hb] at e2
theorem IsT.like (ha : IsT n a) (ht : IsT n t) : IsT n (likeS a t) := (ht.inv.comp ha).comp ht
/-! ### lots of halls -/
theorem lot_ex (hT : ∀ t ∈ ts, IsT n t) {y : Int} (hy : y ∈ idt n) : ∃ k, Lot ts y k := by
  classical
  obtain ⟨k, pm, pw⟩ := asc_exists (lt := fun a b : Int => a < b) (fun a b c h1 h2 => by omega) (fun a b h => by omega) ((idt n).filter fun x => decide (Orb ts y x)) (List.Pairwise.filter _ (idt_isT n).nd)
  refine ⟨k, pw, pw.imp fun h e => by omega, fun x => ?_⟩
  rw [pm.mem_iff, List.mem_filter, decide_eq_true_iff]
  exact ⟨fun h => h.2, fun h => ⟨orb_in hT hy h, h⟩⟩
theorem lots_apart (hT : ∀ t ∈ ts, IsT n t) {k k' : List Int} (h1 : Lots n ts k) (h2 : Lots n ts k') {x : Int} (x1 : x ∈ k) (x2 : x ∈ k') : k = k' := by
  obtain ⟨i, hi, l1⟩ := h1
  obtain ⟨j, hj, l2⟩ := h2
  have ii : (i : Int) ∈ idt n := mem_idt.mpr (by omega)
  have jj : (j : Int) ∈ idt n := mem_idt.mpr (by omega)
  have o1 := (l1.mem x).mp x1
  have o2 := (l2.mem x).mp x2
  have e1 : Orb ts (i : Int) (j : Int) := o1.trans (orb_sym hT jj o2)
  have e2 := orb_sym hT ii e1
  refine Asc.uniq (G := Orb ts (i : Int)) (fun a => Int.lt_irrefl a) (fun a b h1 h2 => by omega) l1 ⟨l2.pw, l2.nd, fun y => (l2.mem y).trans ⟨fun q => e1.trans q, fun q => e2.trans q⟩⟩
theorem flat_nd {α : Type} {LL : List (List α)} (nd : ∀ k ∈ LL, k.Nodup) (dj : LL.Pairwise fun a b => ∀ x ∈ a, x ∉ b) : LL.flatten.Nodup := by
  induction LL with
  | nil => exact List.nodup_nil
  | cons k LL ih =>
    obtain ⟨p1, p2⟩ := List.pairwise_cons.mp dj
    rw [List.flatten_cons, List.nodup_append]
    refine ⟨nd k (List.mem_cons_self ..), ih (fun k' h => nd k' (List.mem_cons_of_mem _ h)) p2, fun x hx y hy e => ?_⟩
    subst e
    obtain ⟨k', hk', hx'⟩ := List.mem_flatten.mp hy
    exact p1 k' hk' x hx hx'
theorem lots_flat (hT : ∀ t ∈ ts, IsT n t) {LL : List (List Int)} (nd : LL.Nodup) (mem : ∀ k, k ∈ LL ↔ Lots n ts k) : LL.flatten.Perm (idt n) := by
  refine (List.perm_ext_iff_of_nodup (flat_nd (fun k hk => ?_) ?_) (idt_isT n).nd).mpr fun x => ?_
  · obtain ⟨i, _, l⟩ := (mem k).mp hk
    exact l.nd
  · refine nd.imp_of_mem fun {a b} ha hb ne x x1 x2 => ne (lots_apart hT ((mem a).mp ha) ((mem b).mp hb) x1 x2)
  · rw [List.mem_flatten]
    constructor
    · rintro ⟨k, hk, hx⟩
      obtain ⟨i, hi, l⟩ := (mem k).mp hk
      exact orb_in hT (mem_idt.mpr (by omega)) ((l.mem x).mp hx)
    · intro hx
      obtain ⟨k, l⟩ := lot_ex hT hx
      have := mem_idt.mp hx
      refine ⟨k, (mem k).mpr ⟨x.toNat, by omega, ?_⟩, (l.mem x).mpr .base⟩
      rw [Int.toNat_of_nonneg this.1]
      exact l
theorem kept_eq (ht : IsT n t) : (idt n).filter (fun x => decide (hallS x t = x)) = keptL t := by
  unfold idt keptL
  rw [List.filter_map, ht.len]
  rfl
/-- halls left in place, over the group -/
theorem sum_kept (hT : ∀ t ∈ ts, IsT n t) {LL W : List (List Int)} (ndW : W.Nodup) (mW : ∀ x, x ∈ W ↔ Grp n ts x) (nd : LL.Nodup) (mem : ∀ k, k ∈ LL ↔ Lots n ts k) : (W.map fun g => (keptL g).length).sum = W.length * LL.length := by
  have is : ∀ g ∈ W, IsT n g := fun g hg => grp_isT hT ((mW g).mp hg)
  rw [← burnside (X := idt n) (act := hallS) (mul := comp) ndW (lots_flat hT nd mem) (fun a ha b hb => (mW _).mpr (grp_mul hT ((mW a).mp ha) ((mW b).mp hb))) (fun h hh a ha b hb e => left_inj (is h hh) (is a ha) (is b hb) e) (fun x hx a ha b hb => hallS_comp hx (is a ha) b) fun k hk => ?_]
  · exact sum_map_congr fun g hg => by rw [kept_eq (is g hg)]
  · obtain ⟨i, hi, l⟩ := (mem k).mp hk
    have ii : (i : Int) ∈ idt n := mem_idt.mpr (by omega)
    refine ⟨l.nd, i, (l.mem _).mpr .base, fun g hg => (l.mem _).mpr ((orb_grp hT ii).mpr ⟨g, (mW g).mp hg, rfl⟩), fun x hx => ?_⟩
    have o := (l.mem x).mp hx
    obtain ⟨g, hg, e⟩ := (orb_grp hT ii).mp o
    obtain ⟨g', hg', e'⟩ := (orb_grp hT (orb_in hT ii o)).mp (orb_sym hT ii o)
    exact ⟨⟨g, (mW g).mpr hg, e.symm⟩, g', (mW g').mpr hg', e'.symm⟩
/-! ### lots of pairs -/
theorem filter_both {α β : Type} (p : α → Bool) (q : β → Bool) (l2 : List β) : ∀ l1 : List α, ((l1.flatMap fun i => l2.map fun j => (i, j)).filter fun x => p x.1 && q x.2).length = (l1.filter p).length * (l2.filter q).length
  | [] => by simp
  | a :: l1 => by
    rw [List.flatMap_cons, List.filter_append, List.length_append, filter_both p q l2 l1, List.filter_map, List.length_map]
    cases h : p a
    · rw [List.filter_cons_of_neg (by simp [h])]
      have : l2.filter ((fun x : α × β => p x.1 && q x.2) ∘ fun j => (a, j)) = [] := List.filter_eq_nil_iff.mpr fun x _ => by simp [h]
      rw [this]
      simp
    · rw [List.filter_cons_of_pos h, List.length_cons, Nat.succ_mul]
      have : l2.filter ((fun x : α × β => p x.1 && q x.2) ∘ fun j => (a, j)) = l2.filter q := List.filter_congr fun x _ => by simp [h]
      rw [this]
      exact Nat.add_comm ..
theorem kept2 (ht : IsT n t) : ((G2 n).filter fun x => decide (comp x t = x)).length = (keptL t).length * (keptL t).length := by
  unfold G2
  rw [List.filter_map, List.length_map]
  have e : (grid n n).filter ((fun x => decide (comp x t = x)) ∘ pr2) = (grid n n).filter fun x => decide (t.getD x.1 0 = (x.1 : Int)) && decide (t.getD x.2 0 = (x.2 : Int)) := List.filter_congr fun x _ => by
    show decide ([t.getD (x.1 : Int).toNat 0, t.getD (x.2 : Int).toNat 0] = [(x.1 : Int), (x.2 : Int)]) = _
    rw [Int.toNat_natCast, Int.toNat_natCast, ← Bool.decide_and]
    exact decide_eq_decide.mpr ⟨fun e => by injection e with e1 e2; injection e2 with e2 _; exact ⟨e1, e2⟩, fun ⟨e1, e2⟩ => by rw [e1, e2]⟩
  rw [e]
  have := filter_both (fun i : Nat => decide (t.getD i 0 = (i : Int))) (fun i : Nat => decide (t.getD i 0 = (i : Int))) (List.range n) (List.range n)
  unfold keptL
  rw [List.length_map, ht.len]
  exact this
theorem pl_flat (hT : ∀ t ∈ ts, IsT n t) {LLp : List (List (List Int))} (pl : PLots n ts LLp) (cm : ∀ p ∈ G2 n, ∃ lot ∈ LLp, p ∈ lot) : LLp.flatten.Perm (G2 n) := by
  have ndg : (G2 n).Nodup := by
    unfold G2
    refine nodup_map ?_ fun x hx y hy e => ?_
    · unfold grid
      have : ∀ l1 : List Nat, l1.Nodup → (l1.flatMap fun i => (List.range n).map fun j => (i, j)).Nodup := fun l1 => by
        induction l1 with
        | nil => exact fun _ => List.nodup_nil
        | cons a l1 ih =>
          intro nd
          obtain ⟨h1, h2⟩ := List.nodup_cons.mp nd
          rw [List.flatMap_cons, List.nodup_append]
          refine ⟨nodup_map List.nodup_range fun x _ y _ e => by injection e, ih h2, fun x hx y hy e => ?_⟩
          subst e
          obtain ⟨j, _, rfl⟩ := List.mem_map.mp hx
          obtain ⟨i, hi, hy⟩ := List.mem_flatMap.mp hy
          obtain ⟨j', _, e⟩ := List.mem_map.mp hy
          injection e with e _
          rw [e] at hi
          exact h1 hi
      exact this _ List.nodup_range
    · obtain ⟨x1, x2⟩ := x
      obtain ⟨y1, y2⟩ := y
      injection e with e1 e2
      injection e2 with e2 _
      have : x1 = y1 := by omega
      have : x2 = y2 := by omega
      subst x1 x2
      rfl
  refine (List.perm_ext_iff_of_nodup (flat_nd (fun k hk => ?_) pl.dj) ndg).mpr fun x => ?_
  · obtain ⟨p, rest, _, _, nd, _⟩ := pl.hd k hk
    exact nd
  · rw [List.mem_flatten]
    constructor
    · rintro ⟨k, hk, hx⟩
      obtain ⟨p, rest, _, hp, _, mem⟩ := pl.hd k hk
      exact ((mem x).mp hx).inU hp (g2_cl hT)
    · exact fun hx => cm x hx
theorem sum_kept2 (hT : ∀ t ∈ ts, IsT n t) {LLp : List (List (List Int))} {W : List (List Int)} (ndW : W.Nodup) (mW : ∀ x, x ∈ W ↔ Grp n ts x) (pl : PLots n ts LLp) (cm : ∀ p ∈ G2 n, ∃ lot ∈ LLp, p ∈ lot) :
    (W.map fun g => (keptL g).length * (keptL g).length).sum = W.length * LLp.length := by
  have is : ∀ g ∈ W, IsT n g := fun g hg => grp_isT hT ((mW g).mp hg)
  rw [← burnside (X := G2 n) (act := comp) (mul := comp) ndW (pl_flat hT pl cm) (fun a ha b hb => (mW _).mpr (grp_mul hT ((mW a).mp ha) ((mW b).mp hb))) (fun h hh a ha b hb e => left_inj (is h hh) (is a ha) (is b hb) e) (fun x hx a ha b hb => comp_low_assoc (mem_g2.mp hx).2 (is a ha) b) fun k hk => ?_]
  · exact sum_map_congr fun g hg => (kept2 (is g hg)).symm
  · obtain ⟨p, rest, e, hp, nd, mem⟩ := pl.hd k hk
    have lo := (mem_g2.mp hp).2
    refine ⟨nd, p, (mem _).mpr .base, fun g hg => (mem _).mpr ((rch_comp hT lo).mpr ⟨g, (mW g).mp hg, rfl⟩), fun x hx => ?_⟩
    have o := (mem x).mp hx
    have hx' := o.inU hp (g2_cl hT)
    obtain ⟨g, hg, e⟩ := (rch_comp hT lo).mp o
    obtain ⟨g', hg', e'⟩ := (rch_comp hT (mem_g2.mp hx').2).mp (g2_sym hT hp o)
    exact ⟨⟨g, (mW g).mpr hg, e.symm⟩, g', (mW g').mpr hg', e'.symm⟩
end
end NS
end
section
set_option maxHeartbeats 4000000
/-! M5: rings, tables, room -/
namespace NS
open PySem PySem.Spec PyProof.Rows L2 ZS
section
variable {n : Nat} {t : List Int}
end
/-! ### room -/
end NS
end
section
set_option maxHeartbeats 4000000
/-! M6: roamers, counted -/
namespace NS
open PySem PySem.Spec PyProof.Rows L2 ZS
/-! ### sums of whole numbers -/
/-! ### orbits: as many turns as things, times those that leave one in place -/
theorem orbit_stab {α γ : Type} [DecidableEq α] [DecidableEq γ] {G : List γ} {act : α → γ → α} {mul : γ → γ → γ} {k : List α} {x0 : α} (ndG : G.Nodup) (ndk : k.Nodup)
    (hm : ∀ a ∈ G, ∀ b ∈ G, mul a b ∈ G) (hi : ∀ h ∈ G, ∀ a ∈ G, ∀ b ∈ G, mul a h = mul b h → a = b) (ha : ∀ a ∈ G, ∀ b ∈ G, act (act x0 a) b = act x0 (mul a b))
    (hin : ∀ g ∈ G, act x0 g ∈ k) (hx : ∀ x ∈ k, (∃ h ∈ G, act x0 h = x) ∧ ∃ h ∈ G, act x h = x0) :
    (∀ x ∈ k, (G.filter fun g => decide (act x0 g = x)).length = (G.filter fun g => decide (act x0 g = x0)).length) ∧ G.length = k.length * (G.filter fun g => decide (act x0 g = x0)).length := by
  have step : ∀ x ∈ k, (G.filter fun g => decide (act x0 g = x)).length = (G.filter fun g => decide (act x0 g = x0)).length := fun x hxk => by
    obtain ⟨⟨h, hh, eh⟩, h', hh', eh'⟩ := hx x hxk
    refine Nat.le_antisymm ?_ ?_
    · have nd : ((G.filter fun g => decide (act x0 g = x)).map (fun g => mul g h')).Nodup := nodup_map (List.Pairwise.filter _ ndG) fun a ha' b hb' e => hi h' hh' a (List.mem_filter.mp ha').1 b (List.mem_filter.mp hb').1 e
      have := nd_le nd (b := G.filter fun g => decide (act x0 g = x0)) fun y hy => by
        obtain ⟨g, hg, rfl⟩ := List.mem_map.mp hy
        obtain ⟨g1, g2⟩ := List.mem_filter.mp hg
        refine List.mem_filter.mpr ⟨hm g g1 h' hh', decide_eq_true ?_⟩
        rw [← ha g g1 h' hh', of_decide_eq_true g2, eh']
      rwa [List.length_map] at this
    · have nd : ((G.filter fun g => decide (act x0 g = x0)).map (fun g => mul g h)).Nodup := nodup_map (List.Pairwise.filter _ ndG) fun a ha' b hb' e => hi h hh a (List.mem_filter.mp ha').1 b (List.mem_filter.mp hb').1 e
      have := nd_le nd (b := G.filter fun g => decide (act x0 g = x)) fun y hy => by
        obtain ⟨g, hg, rfl⟩ := List.mem_map.mp hy
        obtain ⟨g1, g2⟩ := List.mem_filter.mp hg
        refine List.mem_filter.mpr ⟨hm g g1 h hh, decide_eq_true ?_⟩
        rw [← ha g g1 h hh, of_decide_eq_true g2, eh]
      rwa [List.length_map] at this
  refine ⟨step, ?_⟩
  have e := count_both (fun x g => decide (act x0 g = x)) k G
  rw [sum_map_congr step, sum_const, sum_map_congr (g := fun _ => 1) (fun g hg => one_of ndk (hin g hg)), sum_const, Nat.mul_one] at e
  exact e
/-! ### turns that leave halls in place -/
section
variable {n : Nat} {ts : List (List Int)} {W : List (List Int)} {t : List Int}
/-- a turn that leaves no hall in place -/
abbrev free (t : List Int) : Bool := decide (keptL t = [])
/-- the group, its lots of halls and of pairs -/
structure Grpd (n : Nat) (ts W : List (List Int)) (LLp : List (List (List Int))) : Prop where
  n2 : 2 ≤ n
  is : ∀ t ∈ ts, IsT n t
  nd : W.Nodup
  mem : ∀ x, x ∈ W ↔ Grp n ts x
  one : ∀ i : Nat, i < n → Orb ts 0 (i : Int)
  pl : PLots n ts LLp
  cm : ∀ p ∈ G2 n, ∃ lot ∈ LLp, p ∈ lot
variable {LLp : List (List (List Int))}
theorem Grpd.wis (g : Grpd n ts W LLp) : ∀ t ∈ W, IsT n t := fun t ht => grp_isT g.is ((g.mem t).mp ht)
theorem Grpd.s1 (g : Grpd n ts W LLp) : (W.map fun t => (keptL t).length).sum = W.length := by
  obtain ⟨k0, l0⟩ := lot_ex g.is (y := ((0 : Nat) : Int)) (mem_idt.mpr (by have := g.n2; omega))
  have n2 := g.n2
  have mem : ∀ k, k ∈ [k0] ↔ Lots n ts k := fun k => by
    rw [List.mem_singleton]
    constructor
    · rintro rfl
      exact ⟨0, by omega, l0⟩
    · rintro ⟨i, hi, l⟩
      exact lots_apart g.is ⟨i, hi, l⟩ ⟨0, by omega, l0⟩ ((l.mem _).mpr .base) ((l0.mem _).mpr (g.one i hi))
  have := sum_kept g.is g.nd g.mem (List.pairwise_singleton _ k0) mem
  simpa using this
theorem Grpd.s2 (g : Grpd n ts W LLp) : (W.map fun t => (keptL t).length * (keptL t).length).sum = W.length * LLp.length := sum_kept2 g.is g.nd g.mem g.pl g.cm
end
end NS
end
section
set_option maxHeartbeats 4000000
/-! RSum: sum(tuple of whole numbers) -/
namespace ZS
open PySem PySem.Spec PyProof.Rows L2
section
variable {prog : Program} {w : World} {A : Around} {E : Value → Shared → Prop} {s : Shared} {l : Addr} {its : List Value} {ns : List Int} {Q : Value → Shared → Prop}
end
section
variable {X : Cx}
end
end ZS
end
section
set_option maxHeartbeats 4000000
/-! N1: roamers, and what is told of them -/
namespace NS
open PySem PySem.Spec PyProof.Rows L2 ZS
/-- a house with its checks' tables, whole, its group small -/
def HW (K : PySem.W.Frag) (pT pA : Addr) (H : Hp) (v : V) (n : Nat) (ts U : List (List Int)) : Prop := HouseAt K H v n ts ∧ IsH n ts ∧ GxR.TabG H pT ∧ GxR.TabG H pA ∧ Room' n comp ts (idt n) U
theorem HW.kp {K : PySem.W.Frag} {pT pA : Addr} {H H' : Hp} {v : V} {n : Nat} {ts U : List (List Int)} (h : HW K pT pA H v n ts U) (z : Kp H H') : HW K pT pA H' v n ts U := ⟨z.house h.1, h.2.1, z.tabG h.2.2.1, z.tabG h.2.2.2.1, h.2.2.2.2⟩
section
variable {P : Program} {w : World} {K : PySem.W.Frag} {mg : Str → Option Value} {base : Heap} {f : Addr} {fd : FuncData} {pT pA : Addr} {S : Addr → Option Sp}
end
end NS
end
section
set_option maxHeartbeats 4000000
/-! M7: sharp groups -/
namespace NS
open PySem PySem.Spec PyProof.Rows L2 ZS
theorem grid_nd (n : Nat) : (grid n n).Nodup := by
  unfold grid
  have : ∀ l1 : List Nat, l1.Nodup → (l1.flatMap fun i => (List.range n).map fun j => (i, j)).Nodup := fun l1 => by
    induction l1 with
    | nil => exact fun _ => List.nodup_nil
    | cons a l1 ih =>
      intro nd
      obtain ⟨h1, h2⟩ := List.nodup_cons.mp nd
      rw [List.flatMap_cons, List.nodup_append]
      refine ⟨nodup_map List.nodup_range fun x _ y _ e => by injection e, ih h2, fun x hx y hy e => ?_⟩
      subst e
      obtain ⟨j, _, rfl⟩ := List.mem_map.mp hx
      obtain ⟨i, hi, hy⟩ := List.mem_flatMap.mp hy
      obtain ⟨j', _, e⟩ := List.mem_map.mp hy
      injection e with e _
      rw [e] at hi
      exact h1 hi
  exact this _ List.nodup_range
section
variable {n : Nat} {ts : List (List Int)} {W : List (List Int)} {t : List Int} {LLp : List (List (List Int))}
theorem pl_same (pl : PLots n ts LLp) {l1 l2 : List (List Int)} (h1 : l1 ∈ LLp) (h2 : l2 ∈ LLp) {x : List Int} (x1 : x ∈ l1) (x2 : x ∈ l2) : l1 = l2 := by
  obtain ⟨i, hi, e1⟩ := List.getElem_of_mem h1
  obtain ⟨j, hj, e2⟩ := List.getElem_of_mem h2
  have d1 : LLp.getD i [] = l1 := getD_of (by rw [List.getElem?_eq_getElem hi, e1])
  have d2 : LLp.getD j [] = l2 := getD_of (by rw [List.getElem?_eq_getElem hj, e2])
  have := lots_dj pl hi hj (by rw [d1]; exact x1) (by rw [d2]; exact x2)
  subst this
  rw [← d1, ← d2]
theorem pl_nd (pl : PLots n ts LLp) : LLp.Nodup := pl.dj.imp_of_mem fun {a b} ha hb h e => by
  obtain ⟨p, rest, ea, _⟩ := pl.hd a ha
  subst e
  have := h p (by rw [ea]; exact List.mem_cons_self ..)
  rw [ea] at this
  exact this (List.mem_cons_self ..)
theorem pair_g2 {a b : Nat} (ha : a < n) (hb : b < n) : [(a : Int), (b : Int)] ∈ G2 n := mem_g2.mpr ⟨rfl, fun x hx => by
  rcases List.mem_cons.mp hx with e | e
  · rw [e]; omega
  · rw [List.mem_singleton.mp e]; omega⟩
theorem g2_pair {x : List Int} (h : x ∈ G2 n) : ∃ a b : Nat, a < n ∧ b < n ∧ x = [(a : Int), (b : Int)] := by
  obtain ⟨hl, lo⟩ := mem_g2.mp h
  match x, hl, lo with
  | [u, v], _, lo =>
    have h1 := lo u (List.mem_cons_self ..)
    have h2 := lo v (List.mem_cons_of_mem _ (List.mem_cons_self ..))
    refine ⟨u.toNat, v.toNat, by omega, by omega, ?_⟩
    rw [Int.toNat_of_nonneg h1.1, Int.toNat_of_nonneg h2.1]
/-- the lot of a pair -/
theorem Grpd.lot (g : Grpd n ts W LLp) {p : List Int} (hp : p ∈ G2 n) : ∃ lot ∈ LLp, lot.Nodup ∧ p ∈ lot ∧ ∀ x, x ∈ lot ↔ Rch comp ts p x := by
  obtain ⟨lot, hl, hpl⟩ := g.cm p hp
  obtain ⟨q, rest, _, hq, nd, mem⟩ := g.pl.hd lot hl
  have qp := (mem p).mp hpl
  have pq := g2_sym g.is hq qp
  exact ⟨lot, hl, nd, hpl, fun x => (mem x).trans ⟨fun h => pq.trans h, fun h => qp.trans h⟩⟩
theorem Grpd.orb (g : Grpd n ts W LLp) {p : List Int} (hp : p ∈ G2 n) {lot : List (List Int)} (nd : lot.Nodup) (mem : ∀ x, x ∈ lot ↔ Rch comp ts p x) :
    (∀ x ∈ lot, (W.filter fun t => decide (comp p t = x)).length = (W.filter fun t => decide (comp p t = p)).length) ∧ W.length = lot.length * (W.filter fun t => decide (comp p t = p)).length := by
  have lo := (mem_g2.mp hp).2
  refine orbit_stab (act := comp) (mul := comp) g.nd nd (fun a ha b hb => (g.mem _).mpr (grp_mul g.is ((g.mem a).mp ha) ((g.mem b).mp hb))) (fun h hh a ha b hb e => ?_) (fun a ha b hb => comp_low_assoc lo (g.wis a ha) b) (fun t ht => (mem _).mpr ((rch_comp g.is lo).mpr ⟨t, (g.mem t).mp ht, rfl⟩)) (fun x hx => ?_)
  · have e2 : comp (comp a h) (inv h) = comp (comp b h) (inv h) := by rw [e]
    rwa [comp_assoc (g.wis a ha) (g.wis h hh), comp_assoc (g.wis b hb) (g.wis h hh), comp_inv (g.wis h hh), comp_idt (g.wis a ha), comp_idt (g.wis b hb)] at e2
  · have o := (mem x).mp hx
    have hx' := o.inU hp (g2_cl g.is)
    obtain ⟨u, hu, e⟩ := (rch_comp g.is lo).mp o
    obtain ⟨u', hu', e'⟩ := (rch_comp g.is (mem_g2.mp hx').2).mp (g2_sym g.is hp o)
    exact ⟨⟨u, (g.mem u).mpr hu, e.symm⟩, u', (g.mem u').mpr hu', e'.symm⟩
theorem off_rch {a b : Nat} (g : Grpd n ts W LLp) (ha : a < n) (hb : b < n) (ne : a ≠ b) {x : List Int} (h : Rch comp ts [(a : Int), (b : Int)] x) : ∃ c d : Nat, c < n ∧ d < n ∧ c ≠ d ∧ x = [(c : Int), (d : Int)] := by
  have hx := h.inU (pair_g2 ha hb) (g2_cl g.is)
  obtain ⟨c, d, hc, hd, rfl⟩ := g2_pair hx
  refine ⟨c, d, hc, hd, fun e => ?_, rfl⟩
  subst e
  obtain ⟨y, e, _⟩ := diag_rch.mp (g2_sym g.is (pair_g2 ha hb) h)
  injection e with e1 e2
  injection e2 with e2 _
  omega
/-- two lots of pairs, exactly if each two unlike halls are led to each two -/
theorem Grpd.rank2 (g : Grpd n ts W LLp) : 2 ≤ LLp.length ∧ (LLp.length = 2 ↔ ∀ a b : Nat, a < n → b < n → a ≠ b → Rch comp ts [0, 1] [(a : Int), (b : Int)]) := by
  have n2 := g.n2
  have p0 : [((0 : Nat) : Int), ((0 : Nat) : Int)] ∈ G2 n := pair_g2 (by omega) (by omega)
  have p1 : [((0 : Nat) : Int), ((1 : Nat) : Int)] ∈ G2 n := pair_g2 (by omega) (by omega)
  obtain ⟨A, hA, nA, inA, mA⟩ := g.lot p0
  obtain ⟨B, hB, nB, inB, mB⟩ := g.lot p1
  have ne : A ≠ B := fun e => by
    rw [← e] at inB
    obtain ⟨y, e, _⟩ := diag_rch.mp ((mA _).mp inB)
    injection e with e1 e2
    injection e2 with e2 _
    omega
  have two : 2 ≤ LLp.length := nd_le (a := [A, B]) (b := LLp) (by simp; exact ne) fun x hx => by
    rcases List.mem_cons.mp hx with e | e
    · rw [e]; exact hA
    · rw [List.mem_singleton.mp e]; exact hB
  refine ⟨two, fun h a b ha hb nab => ?_, fun h => ?_⟩
  · obtain ⟨C, hC, nC, inC, mC⟩ := g.lot (pair_g2 ha hb)
    have all := nd_all (a := [A, B]) (b := LLp) (by simp; exact ne) (fun x hx => by
      rcases List.mem_cons.mp hx with e | e
      · rw [e]; exact hA
      · rw [List.mem_singleton.mp e]; exact hB) (by rw [h]; exact Nat.le_refl _) C hC
    rcases List.mem_cons.mp all with e | e
    · rw [e] at inC
      obtain ⟨y, e, _⟩ := diag_rch.mp ((mA _).mp inC)
      injection e with e1 e2
      injection e2 with e2 _
      omega
    · rw [List.mem_singleton.mp e] at inC
      exact (mB _).mp inC
  · have le : LLp.length ≤ 2 := nd_le (a := LLp) (b := [A, B]) (pl_nd g.pl) fun C hC => by
      obtain ⟨q, rest, eC, hq, nC, mC⟩ := g.pl.hd C hC
      have inC : q ∈ C := by rw [eC]; exact List.mem_cons_self ..
      obtain ⟨a, b, ha, hb, rfl⟩ := g2_pair hq
      by_cases e : a = b
      · subst e
        have := pl_same g.pl hC hA inC ((mA _).mpr (diag_rch.mpr ⟨a, rfl, g.one a ha⟩))
        rw [this]
        exact List.mem_cons_self ..
      · have := pl_same g.pl hC hB inC ((mB _).mpr (h a b ha hb e))
        rw [this]
        exact List.mem_cons_of_mem _ (List.mem_cons_self ..)
    omega
abbrev p01 : List Int := [((0 : Nat) : Int), ((1 : Nat) : Int)]
/-- how many turns lead 0 and 1 to a pair -/
abbrev cnt (W : List (List Int)) (x : List Int) : Nat := (W.filter fun t => decide (comp p01 t = x)).length
theorem len_parts {α : Type} (p : α → Bool) : ∀ l : List α, l.length = (l.filter p).length + (l.filter fun x => !p x).length
  | [] => rfl
  | a :: l => by
    have ih := len_parts p l
    cases h : p a
    · rw [List.filter_cons_of_neg (by simp [h]), List.filter_cons_of_pos (by simp [h]), List.length_cons, List.length_cons, ih]; omega
    · rw [List.filter_cons_of_pos h, List.filter_cons_of_neg (by simp [h]), List.length_cons, List.length_cons, ih]; omega
theorem off_len (n : Nat) : ((G2 n).filter fun x => !decide (x.getD 0 0 = x.getD 1 0)).length = n * n - n := by
  have e := len_parts (fun x : List Int => decide (x.getD 0 0 = x.getD 1 0)) (G2 n)
  have d : ((G2 n).filter fun x => decide (x.getD 0 0 = x.getD 1 0)).length = n := by
    have ndg : (G2 n).Nodup := by
      unfold G2
      refine nodup_map (grid_nd n) fun x hx y hy e => ?_
      obtain ⟨x1, x2⟩ := x
      obtain ⟨y1, y2⟩ := y
      injection e with e1 e2
      injection e2 with e2 _
      have : x1 = y1 := by omega
      have : x2 = y2 := by omega
      subst x1 x2
      rfl
    have pm : ((G2 n).filter fun x => decide (x.getD 0 0 = x.getD 1 0)).Perm ((idt n).map fun h => [h, h]) := by
      refine (List.perm_ext_iff_of_nodup (List.Pairwise.filter _ ndg) (nodup_map (idt_isT n).nd fun a _ b _ e => by injection e)).mpr fun x => ?_
      rw [List.mem_filter, List.mem_map]
      constructor
      · rintro ⟨h1, h2⟩
        obtain ⟨a, b, ha, hb, rfl⟩ := g2_pair h1
        have h3 : (a : Int) = (b : Int) := of_decide_eq_true h2
        exact ⟨a, mem_idt.mpr (by omega), by rw [h3]⟩
      · rintro ⟨h, hh, rfl⟩
        have := mem_idt.mp hh
        have e : h = ((h.toNat : Nat) : Int) := by omega
        refine ⟨?_, decide_eq_true rfl⟩
        rw [e]
        exact pair_g2 (by omega) (by omega)
    rw [pm.length_eq, List.length_map, idt_len]
  have := g2_len n
  omega
/-- each two halls led to each two: as many turns as pairs, times those that leave 0 and 1 -/
theorem Grpd.twice (g : Grpd n ts W LLp) (h : LLp.length = 2) : W.length = (n * n - n) * cnt W p01 ∧ ∀ a b : Nat, a < n → b < n → a ≠ b → cnt W [(a : Int), (b : Int)] = cnt W p01 := by
  have n2 := g.n2
  have all := g.rank2.2.mp h
  have p1 : p01 ∈ G2 n := pair_g2 (by omega) (by omega)
  obtain ⟨B, hB, nB, inB, mB⟩ := g.lot p1
  obtain ⟨h1, h2⟩ := g.orb p1 nB mB
  have pm : B.Perm ((G2 n).filter fun x => !decide (x.getD 0 0 = x.getD 1 0)) := by
    have ndg : (G2 n).Nodup := (pl_flat g.is g.pl g.cm).nodup_iff.mp (flat_nd (fun k hk => by
      obtain ⟨p, rest, _, _, nd, _⟩ := g.pl.hd k hk
      exact nd) g.pl.dj)
    refine (List.perm_ext_iff_of_nodup nB (List.Pairwise.filter _ ndg)).mpr fun x => ?_
    rw [List.mem_filter]
    constructor
    · intro hx
      obtain ⟨c, d, hc, hd, ne, rfl⟩ := off_rch g (by omega) (by omega) (by decide) ((mB x).mp hx)
      refine ⟨pair_g2 hc hd, ?_⟩
      have : decide (([(c : Int), (d : Int)] : List Int).getD 0 0 = ([(c : Int), (d : Int)] : List Int).getD 1 0) = false := decide_eq_false (fun e => ne (by have e' : (c : Int) = (d : Int) := e; omega))
      rw [this]
      rfl
    · rintro ⟨h1, h2⟩
      obtain ⟨a, b, ha, hb, rfl⟩ := g2_pair h1
      refine (mB _).mpr (all a b ha hb fun e => ?_)
      subst e
      have : decide (([(a : Int), (a : Int)] : List Int).getD 0 0 = ([(a : Int), (a : Int)] : List Int).getD 1 0) = true := decide_eq_true rfl
      rw [this] at h2
      cases h2
  rw [pm.length_eq, off_len] at h2
  exact ⟨h2, fun a b ha hb ne => h1 _ ((mB _).mpr (all a b ha hb ne))⟩
end
end NS
end
section
set_option maxHeartbeats 4000000
/-! N2: singles -/
namespace NS
open PySem PySem.Spec PyProof.Rows L2 ZS
section
variable {P : Program} {w : World} {K : PySem.W.Frag} {mg : Str → Option Value} {base : Heap} {f : Addr} {fd : FuncData} {pT pA C : Addr}
end
end NS
end
section
set_option maxHeartbeats 4000000
/-! X1: a tuple of whole numbers at module level, told by the head -/
namespace NS
open PySem PySem.Spec PyProof.Rows L2 ZS
end NS
end
section
set_option maxHeartbeats 4000000
/-! X2: a dict of the module with whole numbers for keys, told by the head -/
namespace NS
open PySem PySem.Spec PyProof.Rows L2 ZS
section
variable {X : Cx}
end
end NS
end
section
set_option maxHeartbeats 4000000
/-! N9: sharps, of houses as they are -/
namespace NS
open PySem PySem.Spec PyProof.Rows L2 ZS
theorem scChkNum : FnScope ["value", "least", "most"] ["value", "least", "most"] (defScope sChkNum) := ⟨rfl, rfl, rfl, by decide +kernel, rfl, by decide +kernel, by decide +kernel⟩
section
variable {P : Program} {w : World} {K : PySem.W.Frag} {mg : Str → Option Value} {base : Heap} {f : Addr} {fd : FuncData} {pT pA C : Addr}
end
end NS
end
section
set_option maxHeartbeats 4000000
/-! R3: reached where it stops at most -/
namespace NS
open PySem PySem.Spec PyProof.Rows L2 ZS
/-- ahead of each turn of the for -/
def FRL (lm : Nat) {K : PySem.W.Frag} {P : Program} {w : World} {α : Type} (R : Rep K P w α) (step : α → List Int → α) (ts : List (List Int)) (a0 : α) (U : List α) (H : Hp) (start : V) (tb fl : Addr) (most : V) (sa wa : Addr) (v : V) (a : α) (m : Nat) (i : Nat) (σ : L2.St) (H' : Hp) : Prop :=
  ∃ (L : List α) (ws : List V) (as : List α) (y z : Option V), σ = [some start, some (.ref tb), some (.ref fl), some most, some (.ref sa), some (.ref wa), some v, y, z] ∧ Kp H H' ∧ R.El H' v a ∧ a ∈ L ∧ R.St H' sa L ∧ H' wa = some (.lst ws) ∧ Paired (R.El H') ws as ∧
    (∀ a ∈ as, a ∈ L) ∧ (∀ a ∈ L, Rch step ts a0 a) ∧ a0 ∈ L ∧ (∀ b ∈ L, b ∉ as → b ≠ a → ∀ t ∈ ts, step b t ∈ L) ∧ (∀ j, j < i → ∀ t, ts[j]? = some t → step a t ∈ L) ∧ 2 * (U.length - L.length) + as.length < m ∧ L.length ≤ lm + i ∧ as.length + 1 ≤ L.length
theorem FRL.kp {lm : Nat} {K : PySem.W.Frag} {P : Program} {w : World} {α : Type} {R : Rep K P w α} {step : α → List Int → α} {ts : List (List Int)} {a0 : α} {U : List α} {H : Hp} {start : V} {tb fl : Addr} {most : V} {sa wa : Addr} {v : V} {a : α} {m i : Nat} {σ : L2.St} {H' : Hp} (h : FRL lm R step ts a0 U H start tb fl most sa wa v a m i σ H') : Kp H H' := by
  obtain ⟨L, ws, as, y, z, _, zk, _⟩ := h
  exact zk
section
variable {P : Program} {w : World} {K : PySem.W.Frag} {mg : Str → Option Value} {base : Heap} {f : Addr} {fd : FuncData}
end
end NS
end
section
set_option maxHeartbeats 4000000
/-! X3: a dict of the module with whole numbers for keys and turns for values, told by the head -/
namespace NS
open PySem PySem.Spec PyProof.Rows L2 ZS
section
variable {X : Cx}
end
end NS
end
section
set_option maxHeartbeats 4000000
/-! N12: sharps, of any value -/
namespace NS
open PySem PySem.Spec PyProof.Rows L2 ZS
def spChkNumX (K : PySem.W.Frag) (C : Addr) : Sp := fun vs H Q E => ∃ (x : V) (lo hi : Int) (b : Bool), vs = [x, .int lo, .int hi] ∧ NumX K H lo hi x b ∧ (b = true → Q .non H) ∧ (b = false → E (.ref C) none H)
section
variable {P : Program} {w : World} {K : PySem.W.Frag} {mg : Str → Option Value} {base : Heap} {f : Addr} {fd : FuncData} {pT pA C : Addr} {S : Addr → Option Sp}
theorem has_chknumX (F : FnP K "check_number" sChkNum f fd) (m : mg "check_number" = some (.ref f)) (T : ExcC K mg "BadNumber" C) (hN : Has P w K mg base "is_number" 1 [] (spNumX K)) : HasX P w K mg base "check_number" 2 (spChkNumX K C) := by
  refine ⟨f, fd, ["value", "least", "most"], m, F.kp, F.bindsN (fun _ _ _ _ _ _ us hl => match us, hl with | [_, _, _], _ => rfl), ?_⟩
  refine F.ok scChkNum (fun vs H Q E h => ?_) (fun cdv A outer s H vs Q E hr h => ⟨_,
    pss_one (ps_if (pt_not (pt_val (pe_has hN hr (by decide) (pa_cons (pv 0) (pa_cons (pv 1) (pa_cons (pv 2) pa_nil)))))) (pss_one (ps_raise0 T (takes_of rfl rfl rfl rfl))) pss_nil), ?_⟩)
  · obtain ⟨x, lo, hi, b, rfl, _⟩ := h
    rfl
  · obtain ⟨x, lo, hi, b, rfl, hx, q, qe⟩ := h
    refine ⟨_, rfl, _, rfl, _, rfl, x, lo, hi, b, rfl, hx, ?_⟩
    cases b with
    | true => exact ⟨_, rfl, ifF (A := _) (B := _) rfl (q rfl)⟩
    | false => exact ⟨_, rfl, ifT (A := _) (B := _) rfl (qe rfl)⟩
end
end NS
end
section
set_option maxHeartbeats 4000000
/-! N14: seats -/
namespace NS
open PySem PySem.Spec PyProof.Rows L2 ZS
theorem scSeatsInit : FnScope ["self", "house", "halls", "turns"] ["self", "house"] (defScope sSeatsInit) := ⟨rfl, rfl, rfl, by decide +kernel, rfl, by decide +kernel, by decide +kernel⟩
/-- what the head tells of the class -/
structure SeatsC (K : PySem.W.Frag) (C : Addr) : Prop where
  cl : Cls K C
  nT : NoAttr K C "_turns"
  nR : NoAttr K C "_row"
  nW : NoAttr K C "_where"
/-- all but what lies at a is kept -/
structure KpA (a : Addr) (H H' : Hp) : Prop where
  k : ∀ b o, H b = some o → (∀ ps, o ≠ .tbl ps) → b ≠ a → H' b = some o
  t : ∀ b ps, H b = some (.tbl ps) → ∃ ps' : Array Value, H' b = some (.tbl ps') ∧ TabUp ps ps'
abbrev seatF (tv rw wv : V) : List (Str × V) := [("_turns", tv), ("_row", rw), ("_where", wv)]
def spSeatsInit (K : PySem.W.Frag) (pT pA C CB : Addr) : Sp := fun vs H Q E => ∃ (a dx : Addr) (v r : V), vs = [.ref a, v] ∧ H a = some (.ins C dx []) ∧ FaultX K H v r ∧ GxR.TabG H pT ∧ GxR.TabG H pA ∧
  (r ≠ .non → ∀ d H', Kp H H' → H' d = none → E (.ref CB) (some d) (upd H' d (.xd [("part", r)]))) ∧
  (r = .non → ∃ (n : Nat) (ts : List (List Int)), HouseAt K H v n ts ∧ IsH n ts ∧ ∀ H' rw tv wv, KpA a H H' → H' a = some (.ins C dx (seatF tv (.ref rw) wv)) → H' rw = some (.lst []) → H rw = none → PTS K H' tv ts → PT H' wv (idt n) → Q .non H')
section
variable {P : Program} {w : World} {K : PySem.W.Frag} {mg : Str → Option Value} {base : Heap} {f : Addr} {fd : FuncData} {pT pA C CB : Addr}
theorem ok_seatsinit (F : FunD K "__init__" "Seats.__init__" (defArgs sSeatsInit) (defBody sSeatsInit) (defScope sSeatsInit) [] [] f fd) (T : SeatsC K C) (hC : HasX P w K mg base "check_house" 7 (spChkHouseX K pT pA CB)) (hS : Has P w K mg base "still" 1 [] spStill) :
    FnOk P w K mg base (L2.CX P w) 8 f fd ["self", "house"] (spSeatsInit K pT pA C CB) := by
  refine ok_code F scSeatsInit (fun vs H Q E h => ?_) (fun cdv A outer s H vs Q E hcd hr h => ⟨_,
    pss_cons (ps_expr (pe_hasX hC hr (by decide) (takes_of rfl rfl rfl rfl) (pa_cons (pv 1) pa_nil)))
    (PSs.nox (pss_cons (ps_asg (pv 1) (pg_tup rfl (pgs_cons (pg_name (i := 2) scSeatsInit.nd rfl (Or.inl rfl)) (pgs_cons (pg_name (i := 3) scSeatsInit.nd rfl (Or.inl rfl)) pgs_nil))))
    (pss_cons (ps_fld (pv 0) (pv 3) rfl)
    (pss_cons (ps_fld (pv 0) (pe_lst pa_nil) rfl)
    (pss_one (ps_fld (pv 0) (pe_has hS hr (by decide) (pa_cons (pv 2) pa_nil)) rfl)))))), ?_⟩)
  · obtain ⟨a, dx, v, r, rfl, _⟩ := h
    rfl
  · obtain ⟨a, dx, v, r, rfl, ha, hx, gT, gA, qe, q⟩ := h
    refine ⟨_, rfl, v, r, rfl, hx, gT, gA, fun er H1 z1 => ?_, qe⟩
    obtain ⟨n, ts, hv, hi, qq⟩ := q er
    have n8 := hi.n8
    obtain ⟨b, tv, rfl, hT, hp⟩ := z1.house hv
    refine ⟨_, rfl, b, _, rfl, hT, rfl, _, _, rfl, _, _, rfl, rfl, ?_⟩
    have ha1 := z1.k _ _ ha (fun _ q => by cases q)
    refine ⟨_, rfl, _, rfl, a, C, dx, _, rfl, ha1, T.cl, T.nT, (by show 0 < 1000; decide), ?_⟩
    refine ⟨Nat.zero_le _, fun rw hrw => ?_⟩
    have nar : a ≠ rw := fun e => by rw [← e, upd_same] at hrw; cases hrw
    refine ⟨_, rfl, a, C, dx, _, rfl, (by rw [upd_ne nar]; exact upd_same), T.cl, T.nR, (by show 1 < 1000; decide), ?_⟩
    refine ⟨_, rfl, n, rfl, by omega, fun wv H2 z2 pt => ⟨_, rfl, a, C, dx, _, rfl, z2.k _ _ upd_same (fun _ q => by cases q), T.cl, T.nW, (by show 2 < 1000; decide), ?_⟩⟩
    have hrw1 : H1 rw = none := by rw [upd_ne nar.symm] at hrw; exact hrw
    have old : ∀ {c : Addr} {o : HO}, H1 c = some o → c ≠ a → upd (upd (upd H1 a (.ins C dx (putF "_turns" tv []))) rw (.lst [])) a (.ins C dx (putF "_row" (.ref rw) (putF "_turns" tv []))) c = some o := fun {c o} e ne => by
      rw [upd_ne ne, upd_ne (fun q => by rw [q, hrw1] at e; cases e), upd_ne ne]
      exact e
    have tw : Tup H1 (upd (upd (upd H1 a (.ins C dx (putF "_turns" tv []))) rw (.lst [])) a (.ins C dx (putF "_row" (.ref rw) (putF "_turns" tv [])))) := ⟨fun c xs e => old e (fun q => (by rw [q, ha1] at e; cases e)), fun c o u e => old e (fun q => (by rw [q, ha1] at e; cases e))⟩
    have ta : Tup H2 (upd H2 a (.ins C dx (putF "_where" wv (putF "_row" (.ref rw) (putF "_turns" tv []))))) := ⟨fun c xs e => by
      rw [upd_ne fun q => by rw [q, z2.k _ _ upd_same (fun _ q => by cases q)] at e; cases e]
      exact e, fun c o u e => by
      rw [upd_ne fun q => by rw [q, z2.k _ _ upd_same (fun _ q => by cases q)] at e; cases e]
      exact e⟩
    refine qq _ rw tv wv ⟨fun c o e nt ne => ?_, fun c ps e => ?_⟩ (by rw [upd_same]; rfl) ?_ ?_ (NS.Tup.pts ((tw.trans z2.tup).trans ta) hp) (NS.Tup.pt ta pt)
    · rw [upd_ne ne]
      exact z2.k _ _ (old (z1.k _ _ e nt) ne) nt
    · obtain ⟨p1, h1, t1⟩ := z1.t c ps e
      have nca : c ≠ a := fun q => by rw [q, ha] at e; cases e
      obtain ⟨p2, h2, t2⟩ := z2.t c p1 (old h1 nca)
      exact ⟨p2, by rw [upd_ne nca]; exact h2, t1.trans t2⟩
    · rw [upd_ne nar.symm]
      exact z2.lst (by rw [upd_ne nar.symm, upd_same])
    · exact z1.none hrw1
end
theorem scDo : FnScope ["self", "letter"] ["self", "letter"] (defScope sDo) := ⟨rfl, rfl, rfl, by decide +kernel, rfl, by decide +kernel, by decide +kernel⟩
/-- seats of n halls with these turns: the line done, the hall of each -/
structure SeatsAt (K : PySem.W.Frag) (H : Hp) (a C rw : Addr) (n : Nat) (ts : List (List Int)) (line t : List Int) : Prop where
  ex : ∃ dx tv wv, H a = some (.ins C dx (seatF tv (.ref rw) wv)) ∧ PTS K H tv ts ∧ PT H wv t
  row : H rw = some (.lst (line.map V.int))
  it : IsT n t
  its : ∀ u ∈ ts, IsT n u
  n8 : n ≤ 8
/-- all but the seats and their row is kept -/
structure KpS (a rw : Addr) (H H' : Hp) : Prop where
  k : ∀ b o, H b = some o → (∀ ps, o ≠ .tbl ps) → b ≠ a → b ≠ rw → H' b = some o
  t : ∀ b ps, H b = some (.tbl ps) → ∃ ps' : Array Value, H' b = some (.tbl ps') ∧ TabUp ps ps'
def spDo (K : PySem.W.Frag) (C CN : Addr) : Sp := fun vs H Q E => ∃ (a rw : Addr) (n : Nat) (ts : List (List Int)) (line t : List Int) (x : V) (b : Bool), vs = [.ref a, x] ∧ SeatsAt K H a C rw n ts line t ∧ ts.length ≤ 6 ∧ line.length ≤ 1000 ∧ NumX K H 0 ((ts.length : Int) - 1) x b ∧ (b = false → E (.ref CN) none H) ∧
  (b = true → ∀ i : Nat, x = .int i → ∀ u, ts[i]? = some u → ∀ H', KpS a rw H H' → SeatsAt K H' a C rw n ts (line ++ [(i : Int)]) (comp t u) → Q .non H')
section
variable {P : Program} {w : World} {K : PySem.W.Frag} {mg : Str → Option Value} {base : Heap} {f : Addr} {fd : FuncData} {C CN : Addr}
theorem ok_do (F : FunD K "do" "Seats.do" (defArgs sDo) (defBody sDo) (defScope sDo) [] [] f fd) (B : Bl mg) (T : SeatsC K C) (hN : HasX P w K mg base "check_number" 2 (spChkNumX K CN)) (hT : Has P w K mg base "then" 1 [] (spThen K)) :
    FnOk P w K mg base (L2.CX P w) 3 f fd ["self", "letter"] (spDo K C CN) := by
  refine ok_code F scDo (fun vs H Q E h => ?_) (fun cdv A outer s H vs Q E hcd hr h => ⟨_,
    pss_cons (ps_expr (pe_hasX hN hr (by decide) (takes_of rfl rfl rfl rfl) (pa_cons (pv 1) (pa_cons pe_int (pa_cons (pe_op op_sub (pe_callB call_len_seq rfl B.len PySem.boot_len (pa_cons (pe_fld (pv 0) rfl) pa_nil)) pe_int) pa_nil)))))
    (PSs.nox (pss_cons (ps_fld (pv 0) (pe_has hT hr (by decide) (pa_cons (pe_fld (pv 0) rfl) (pa_cons (pe_ix (r := rIxT K) ix_tup (pe_fld (pv 0) rfl) (pv 1) (fun _ _ => rfl)) pa_nil))) rfl)
    (pss_one (ps_expr (pe_bm PySem.F.plainAttrs_list PySem.F.slot_list_append PySem.F.type_list_append mt_append (pe_fld (pv 0) rfl) (pa_cons (pv 1) pa_nil)))))), ?_⟩)
  · obtain ⟨a, rw, n, ts, line, t, x, b, rfl, _⟩ := h
    rfl
  · obtain ⟨a, rw, n, ts, line, t, x, b, rfl, ⟨⟨dx, tv, wv, ha, hp, pw⟩, hrw, it, its, n8⟩, t6, l1, hx, qe, q⟩ := h
    obtain ⟨tb, xs, rfl, hT, hpr⟩ := id hp
    have xl := hpr.length
    refine ⟨_, rfl, _, rfl, a, C, dx, _, _, rfl, ha, T.cl, T.nT, rfl, tb, xs, rfl, .inr hT, _, _, rfl, rfl, ?_⟩
    refine ⟨x, 0, _, b, rfl, by rw [xl]; exact hx, fun eb => ?_, qe⟩
    subst eb
    obtain ⟨i, rfl, hb⟩ | ⟨_, hb⟩ := hx
    · have hb := of_decide_eq_true hb.symm
      obtain ⟨j, rfl⟩ : ∃ j : Nat, i = (j : Int) := ⟨i.toNat, by omega⟩
      have hj : j < xs.length := by omega
      obtain ⟨u, hu, pu⟩ := pr_get hpr (List.getElem?_eq_getElem hj)
      have iu := its u (List.mem_of_getElem? hu)
      have neT : ∀ {c : Addr} {ys : List V}, SqT K H c ys → True := fun _ => trivial
      refine ⟨_, rfl, a, C, dx, _, _, rfl, ha, T.cl, T.nW, rfl, _, rfl, a, C, dx, _, _, rfl, ha, T.cl, T.nT, rfl, ?_⟩
      refine ⟨_, rfl, tb, xs, (j : Int), _, rfl, rfl, hT, atI_nat (List.getElem?_eq_getElem hj), ?_⟩
      refine ⟨wv, _, t, u, rfl, pw.ti, pu.ti, by rw [iu.len]; exact it.low, by rw [it.len]; omega, fun rv H1 z1 pr => ?_⟩
      have ha1 := z1.k _ _ ha (fun _ q => by cases q)
      have hrw1 := z1.lst hrw
      have nar : rw ≠ a := fun e => by rw [e, ha] at hrw; cases hrw
      refine ⟨_, rfl, a, C, dx, _, rfl, ha1, T.cl, T.nW, (by show 3 < 1000; decide), ?_⟩
      refine ⟨_, rfl, a, C, dx, _, _, rfl, upd_same, T.cl, T.nR, rfl, .inl ⟨rfl, _, SqL.of (by rw [upd_ne nar]; exact hrw1)⟩, _, rfl, rw, _, _, rfl, rfl, by rw [upd_ne nar]; exact hrw1, by rw [List.length_map, sizeLine_eq]; omega, ?_⟩
      have old : ∀ {c : Addr} {o : HO}, H1 c = some o → c ≠ a → c ≠ rw → upd (upd H1 a (.ins C dx (putF "_where" rv (seatF (.ref tb) (.ref rw) wv)))) rw (.lst (line.map V.int ++ [.int (j : Int)])) c = some o := fun {c o} e n1 n2 => by
        rw [upd_ne n2, upd_ne n1]
        exact e
      have tw : Tup H1 (upd (upd H1 a (.ins C dx (putF "_where" rv (seatF (.ref tb) (.ref rw) wv)))) rw (.lst (line.map V.int ++ [.int (j : Int)]))) := ⟨fun c ys e => old e (fun q => (by rw [q, ha1] at e; cases e)) (fun q => (by rw [q, hrw1] at e; cases e)), fun c o v e => old e (fun q => (by rw [q, ha1] at e; cases e)) (fun q => (by rw [q, hrw1] at e; cases e))⟩
      refine q rfl j rfl u hu _ ⟨fun c o e nt n1 n2 => old (z1.k _ _ e nt) n1 n2, fun c ps e => ?_⟩ ⟨⟨dx, .ref tb, rv, by rw [upd_ne nar.symm, upd_same]; rfl, NS.Tup.pts tw (z1.pts hp), NS.Tup.pt tw pr⟩, by rw [upd_same, List.map_append]; rfl, it.comp iu, its, n8⟩
      obtain ⟨p1, h1, t1⟩ := z1.t c ps e
      exact ⟨p1, old h1 (fun q => (by rw [q, ha1] at h1; cases h1)) (fun q => (by rw [q, hrw1] at h1; cases h1)), t1⟩
    · cases hb
end
theorem scUndo : FnScope ["self", "letter"] ["self"] (defScope sUndo) := ⟨rfl, rfl, rfl, by decide +kernel, rfl, by decide +kernel, by decide +kernel⟩
def spUndo (K : PySem.W.Frag) (C CS : Addr) : Sp := fun vs H Q E => ∃ (a rw : Addr) (n : Nat) (ts : List (List Int)) (line t : List Int), vs = [.ref a] ∧ SeatsAt K H a C rw n ts line t ∧ ts.length ≤ 6 ∧ line.length ≤ 1000 ∧ (∀ l ∈ line, 0 ≤ l ∧ l < (ts.length : Int)) ∧ (line = [] → E (.ref CS) none H) ∧
  (∀ (ln : List Int) (i : Nat) (u : List Int), line = ln ++ [(i : Int)] → ts[i]? = some u → ∀ H', KpS a rw H H' → SeatsAt K H' a C rw n ts ln (comp t (inv u)) → Q .non H')
section
variable {P : Program} {w : World} {K : PySem.W.Frag} {mg : Str → Option Value} {base : Heap} {f : Addr} {fd : FuncData} {C CS : Addr}
theorem ok_undo (F : FunD K "undo" "Seats.undo" (defArgs sUndo) (defBody sUndo) (defScope sUndo) [] [] f fd) (B : Bl mg) (T : SeatsC K C) (TS : ExcC K mg "BadStep" CS) (hT : Has P w K mg base "then" 1 [] (spThen K)) (hU : Has P w K mg base "undone" 1 [] spUndone) :
    FnOk P w K mg base (L2.CX P w) 2 f fd ["self"] (spUndo K C CS) := by
  refine ok_code F scUndo (fun vs H Q E h => ?_) (fun cdv A outer s H vs Q E hcd hr h => ⟨_,
    pss_cons (ps_if (pt_cmpR op_eq (pe_callB call_len_seq rfl B.len PySem.boot_len (pa_cons (pe_fld (pv 0) rfl) pa_nil)) pe_int (nomark _)) (pss_one (ps_raise0 TS (takes_of rfl rfl rfl rfl))) pss_nil)
    (PSs.nox (pss_cons (ps_set (i := 1) scUndo.nd rfl (Or.inl rfl) (pe_bm0 PySem.F.plainAttrs_list PySem.F.slot_list_pop PySem.F.type_list_pop mt_pop (pe_fld (pv 0) rfl)))
    (pss_one (ps_fld (pv 0) (pe_has hT hr (by decide) (pa_cons (pe_fld (pv 0) rfl) (pa_cons (pe_has hU hr (by decide) (pa_cons (pe_ix (r := rIxT K) ix_tup (pe_fld (pv 0) rfl) (pv 1) (fun _ _ => rfl)) pa_nil)) pa_nil))) rfl)))), ?_⟩)
  · obtain ⟨a, rw, n, ts, line, t, rfl, _⟩ := h
    rfl
  · obtain ⟨a, rw, n, ts, line, t, rfl, ⟨⟨dx, tv, wv, ha, hp, pw⟩, hrw, it, its, n8⟩, t6, l1, low, qe, q⟩ := h
    obtain ⟨tb, xs, rfl, hT, hpr⟩ := id hp
    have xl := hpr.length
    refine ⟨_, rfl, a, C, dx, _, _, rfl, ha, T.cl, T.nR, rfl, rw, _, rfl, .inl (SqL.of hrw), rfl, _, rfl, ?_⟩
    by_cases e0 : line = []
    · subst e0
      exact ifT (A := _) (B := _) rfl (qe rfl)
    · refine ifF (A := _) (B := _) (decide_eq_false fun e => e0 (by have := V.int.inj e; rw [List.length_map] at this; exact List.length_eq_zero_iff.mp (by omega))) ?_
      obtain ⟨ln, x, rfl⟩ : ∃ ln x, line = ln ++ [x] := ⟨line.dropLast, line.getLast e0, (List.dropLast_concat_getLast e0).symm⟩
      have lx := low x (by simp)
      obtain ⟨j, rfl⟩ : ∃ j : Nat, x = (j : Int) := ⟨x.toNat, by omega⟩
      have hj : j < xs.length := by omega
      obtain ⟨u, hu, pu⟩ := pr_get hpr (List.getElem?_eq_getElem hj)
      have iu := its u (List.mem_of_getElem? hu)
      rw [List.map_append] at hrw
      refine ⟨_, rfl, a, C, dx, _, _, rfl, ha, T.cl, T.nR, rfl, .inl ⟨rfl, _, SqL.of hrw⟩, rw, _, .int (j : Int), rfl, rfl, hrw, by simp, ?_⟩
      rw [show (ln.map V.int ++ [(j : Int)].map V.int).dropLast = ln.map V.int by simp]
      have nar : rw ≠ a := fun e => by rw [e, ha] at hrw; cases hrw
      have tw1 : Tup H (upd H rw (.lst (ln.map V.int))) := Tup.put (by rw [hrw]; trivial)
      have ha1 : upd H rw (.lst (ln.map V.int)) a = some (.ins C dx (seatF (.ref tb) (.ref rw) wv)) := by rw [upd_ne nar.symm]; exact ha
      have hT1 := tw1.sq hT
      have pw1 := NS.Tup.pt tw1 pw
      have pu1 := NS.Tup.pt tw1 pu
      refine ⟨_, rfl, a, C, dx, _, _, rfl, ha1, T.cl, T.nW, rfl, _, rfl, a, C, dx, _, _, rfl, ha1, T.cl, T.nT, rfl, ?_⟩
      refine ⟨_, rfl, tb, xs, (j : Int), _, rfl, rfl, hT1, atI_nat (List.getElem?_eq_getElem hj), ?_⟩
      refine ⟨_, u, n, rfl, pu1, iu, by omega, fun r2 H2 z2 p2 => ?_⟩
      refine ⟨wv, r2, t, inv u, rfl, (z2.pt pw1).ti, p2.ti, by rw [iu.inv.len]; exact it.low, by rw [it.len]; omega, fun rv H3 z3 p3 => ?_⟩
      have z23 := z2.trans z3
      have ha3 := z23.k _ _ ha1 (fun _ q => by cases q)
      have hrw3 := z23.lst (show upd H rw (.lst (ln.map V.int)) rw = some (.lst (ln.map V.int)) from upd_same)
      refine ⟨_, rfl, a, C, dx, _, rfl, ha3, T.cl, T.nW, (by show 3 < 1000; decide), ?_⟩
      have old : ∀ {c : Addr} {o : HO}, H3 c = some o → c ≠ a → upd H3 a (.ins C dx (putF "_where" rv (seatF (.ref tb) (.ref rw) wv))) c = some o := fun {c o} e n1 => by
        rw [upd_ne n1]
        exact e
      have tw3 : Tup H3 (upd H3 a (.ins C dx (putF "_where" rv (seatF (.ref tb) (.ref rw) wv)))) := ⟨fun c ys e => old e (fun q => (by rw [q, ha3] at e; cases e)), fun c o v e => old e (fun q => (by rw [q, ha3] at e; cases e))⟩
      have k1 : ∀ {c : Addr} {o : HO}, H c = some o → c ≠ rw → upd H rw (.lst (ln.map V.int)) c = some o := fun {c o} e n2 => by
        rw [upd_ne n2]
        exact e
      refine q ln j u rfl hu _ ⟨fun c o e nt n1 n2 => old (z23.k _ _ (k1 e n2) nt) n1, fun c ps e => ?_⟩ ⟨⟨dx, .ref tb, rv, by rw [upd_same]; rfl, NS.Tup.pts ((tw1.trans z23.tup).trans tw3) hp, NS.Tup.pt tw3 p3⟩, old hrw3 nar, it.comp iu.inv, its, n8⟩
      have n2 : c ≠ rw := fun q => (by rw [q, hrw] at e; cases e)
      obtain ⟨p1, h1, t1⟩ := z23.t c ps (k1 e n2)
      exact ⟨p1, old h1 (fun q => (by rw [q, ha3] at h1; cases h1)), t1⟩
end
theorem scSStay : FnScope ["self"] ["self"] (defScope sSStay) := ⟨rfl, rfl, rfl, by decide +kernel, rfl, by decide +kernel, by decide +kernel⟩
theorem scSRow : FnScope ["self"] ["self"] (defScope sSRow) := ⟨rfl, rfl, rfl, by decide +kernel, rfl, by decide +kernel, by decide +kernel⟩
theorem scSWhere : FnScope ["self"] ["self"] (defScope sSWhere) := ⟨rfl, rfl, rfl, by decide +kernel, rfl, by decide +kernel, by decide +kernel⟩
def spSeats (K : PySem.W.Frag) (C : Addr) (what : List Int → List Int → List Int) : Sp := fun vs H Q _ => ∃ (a rw : Addr) (n : Nat) (ts : List (List Int)) (line t : List Int), vs = [.ref a] ∧ SeatsAt K H a C rw n ts line t ∧ line.length ≤ 1000 ∧ ∀ r H', Kp H H' → PT H' r (what line t) → Q r H'
section
variable {P : Program} {w : World} {K : PySem.W.Frag} {mg : Str → Option Value} {base : Heap} {f : Addr} {fd : FuncData} {C : Addr}
theorem ok_sstay (F : FunD K "stayers" "Seats.stayers" (defArgs sSStay) (defBody sSStay) (defScope sSStay) [] [] f fd) (T : SeatsC K C) (hK : Has P w K mg base "halls_kept" 1 [] (spKept K)) : FnOk P w K mg base CX0 2 f fd ["self"] (spSeats K C fun _ t => keptL t) := by
  refine ok_code F scSStay (fun vs H Q E h => ?_) (fun cdv A outer s H vs Q E hcd hr h => ⟨_, PSs.nox (pss_one (ps_ret (pe_has hK hr (by decide) (pa_cons (pe_fld (pv 0) rfl) pa_nil)))), ?_⟩)
  · obtain ⟨a, rw, n, ts, line, t, rfl, _⟩ := h
    rfl
  · obtain ⟨a, rw, n, ts, line, t, rfl, ⟨⟨dx, tv, wv, ha, hp, pw⟩, hrw, it, its, n8⟩, l1, q⟩ := h
    exact ⟨_, rfl, a, C, dx, _, _, rfl, ha, T.cl, T.nW, rfl, wv, t, rfl, pw.ti, by rw [it.len]; omega, q⟩
theorem ok_srow (F : FunD K "row" "Seats.row" (defArgs sSRow) (defBody sSRow) (defScope sSRow) [] [] f fd) (B : Bl mg) (T : SeatsC K C) : FnOk P w K mg base CX0 1 f fd ["self"] (spSeats K C fun line _ => line) := by
  refine ok_code F scSRow (fun vs H Q E h => ?_) (fun cdv A outer s H vs Q E hcd hr h => ⟨_, PSs.nox (pss_one (ps_ret (pe_callTy cr_tupP rfl B.tuple PyProof.Rows.boot_tuple (pa_cons (pe_fld (pv 0) rfl) pa_nil)))), ?_⟩)
  · obtain ⟨a, rw, n, ts, line, t, rfl, _⟩ := h
    rfl
  · obtain ⟨a, rw, n, ts, line, t, rfl, ⟨⟨dx, tv, wv, ha, hp, pw⟩, hrw, it, its, n8⟩, l1, q⟩ := h
    exact ⟨_, rfl, a, C, dx, _, _, rfl, ha, T.cl, T.nR, rfl, rw, _, rfl, SqL.of hrw, fun l o hl ho => q _ _ ((Kp.refl H).new hl) (.of upd_same ho)⟩
theorem ok_swhere (F : FunD K "where" "Seats.where" (defArgs sSWhere) (defBody sSWhere) (defScope sSWhere) [] [] f fd) (T : SeatsC K C) : FnOk P w K mg base CX0 1 f fd ["self"] (spSeats K C fun _ t => t) := by
  refine ok_code F scSWhere (fun vs H Q E h => ?_) (fun cdv A outer s H vs Q E hcd hr h => ⟨_, PSs.nox (pss_one (ps_ret (pe_fld (pv 0) rfl))), ?_⟩)
  · obtain ⟨a, rw, n, ts, line, t, rfl, _⟩ := h
    rfl
  · obtain ⟨a, rw, n, ts, line, t, rfl, ⟨⟨dx, tv, wv, ha, hp, pw⟩, hrw, it, its, n8⟩, l1, q⟩ := h
    exact ⟨_, rfl, a, C, dx, _, _, rfl, ha, T.cl, T.nW, rfl, q _ _ (Kp.refl H) pw⟩
end
end NS
end
section
set_option maxHeartbeats 4000000
/-! LV: answers as nested values -/
namespace NS
open PySem PySem.Spec PyProof.Rows L2 ZS
/-- numbers drawn -/
theorem drawn {m : Int} {l : List Nat} {ys : List V} (h : Paired (fun (_ : Nat) y => ∃ k : Int, y = .int k ∧ 0 ≤ k ∧ k < m) l ys) : ∃ ks : List Int, ys = ks.map V.int ∧ ks.length = l.length ∧ ∀ k ∈ ks, 0 ≤ k ∧ k < m := by
  induction h with
  | nil => exact ⟨[], rfl, rfl, fun k h => by cases h⟩
  | cons p _ ih =>
    obtain ⟨k, rfl, h1, h2⟩ := p
    obtain ⟨ks, e, el, hk⟩ := ih
    refine ⟨k :: ks, by rw [e]; rfl, by rw [List.length_cons, List.length_cons, el], fun x hx => ?_⟩
    rcases List.mem_cons.mp hx with e | e
    · rw [e]; exact ⟨h1, h2⟩
    · exact hk x e
section
variable {K : PySem.W.Frag} {H H' : Hp}
theorem ints_depth : ∀ ns : List Int, Dt.depths (ns.map Dt.int) = 0
  | [] => rfl
  | n :: ns => by
    rw [List.map_cons]
    unfold Dt.depths
    rw [ints_depth ns]
    unfold Dt.depth
    rfl
theorem dT_depth (t : List Int) : Dt.depth (dT t) = 1 := by unfold Dt.depth; rw [ints_depth]
theorem ints_small : ∀ ns : List Int, Dt.smalls (ns.map Dt.int)
  | [] => by rw [List.map_nil]; unfold Dt.smalls; trivial
  | n :: ns => by rw [List.map_cons]; unfold Dt.smalls; exact ⟨by unfold Dt.small; trivial, ints_small ns⟩
theorem dT_small {t : List Int} (h : t.length ≤ 10000) : Dt.small (dT t) := by unfold Dt.small; exact ⟨by rw [List.length_map]; exact h, ints_small t⟩
theorem dt_lst {a : Addr} {xs : List V} {ds : List Dt} (s : SqL K H a xs) (h : IsDts K H ds xs) : IsDt K H (.lst ds) (.ref a) := by unfold IsDt; exact ⟨a, xs, rfl, s, h⟩
theorem dts_nil : IsDts K H [] [] := by unfold IsDts; rfl
theorem dts_cons {d : Dt} {ds : List Dt} {v : V} {vs : List V} (h : IsDt K H d v) (h' : IsDts K H ds vs) : IsDts K H (d :: ds) (v :: vs) := by unfold IsDts; exact ⟨v, vs, rfl, h, h'⟩
theorem smalls_nil : Dt.smalls [] := by unfold Dt.smalls; trivial
theorem smalls_cons {d : Dt} {ds : List Dt} (h : Dt.small d) (h' : Dt.smalls ds) : Dt.smalls (d :: ds) := by unfold Dt.smalls; exact ⟨h, h'⟩
theorem small_lst {ds : List Dt} (h1 : ds.length ≤ 10000) (h : Dt.smalls ds) : Dt.small (.lst ds) := by unfold Dt.small; exact ⟨h1, h⟩
theorem depth_lst {ds : List Dt} : Dt.depth (.lst ds) = Dt.depths ds + 1 := by rw [Dt.depth]
theorem depths_cons {d : Dt} {ds : List Dt} : Dt.depths (d :: ds) = max (Dt.depth d) (Dt.depths ds) := by rw [Dt.depths]
theorem depths_nil : Dt.depths [] = 0 := by rw [Dt.depths]
theorem pt_dt {v : V} {k : List Int} (h : PT H v k) : IsDt K H (dT k) v := NS.TI.dt h.ti
/-- what stands all along the law: the row of draws, the house, the tables -/
structure Sta (K : PySem.W.Frag) (H : Hp) (r sa : Addr) (v : V) (n : Nat) (ts : List (List Int)) (pT pA : Addr) : Prop where
  dr : Draws K H r sa
  hv : HouseAt K H v n ts
  gT : GxR.TabG H pT
  gA : GxR.TabG H pA
variable {r sa pT pA : Addr} {v : V} {n : Nat} {ts : List (List Int)}
theorem Sta.kp (h : Sta K H r sa v n ts pT pA) (z : Kp H H') : Sta K H' r sa v n ts pT pA := ⟨h.dr.k z, z.house h.hv, z.tabG h.gT, z.tabG h.gA⟩
theorem Sta.kpb (h : Sta K H r sa v n ts pT pA) (z : KpB r H H') (ra : RowAt H' r sa) : Sta K H' r sa v n ts pT pA := ⟨h.dr.b z ra, NS.Tup.house z.tup h.hv, z.tabG h.gT, z.tabG h.gA⟩
/-- a list of turns at wa -/
structure Who (H : Hp) (r wa : Addr) (W : List (Addr × List Int)) : Prop where
  ne : wa ≠ r
  at_ : H wa = some (.lst (W.map fun p => V.ref p.1))
  pt : ∀ p ∈ W, PT H (.ref p.1) p.2
variable {wa : Addr} {W : List (Addr × List Int)}
theorem Who.kpb (h : Who H r wa W) (z : KpB r H H') : Who H' r wa W := ⟨h.ne, z.lst h.at_ h.ne, fun p hp => NS.Tup.pt z.tup (h.pt p hp)⟩
theorem Who.kp (h : Who H r wa W) (z : Kp H H') : Who H' r wa W := h.kpb z.b
theorem Who.sq (h : Who H r wa W) : SqL K H wa (W.map fun p => V.ref p.1) := SqL.of h.at_
/-- a list that is not the row -/
def Lst (H : Hp) (r la : Addr) (us : List V) : Prop := la ≠ r ∧ H la = some (.lst us)
theorem Lst.kpb {la : Addr} {us : List V} (h : Lst H r la us) (z : KpB r H H') : Lst H' r la us := ⟨h.1, z.lst h.2 h.1⟩
theorem Lst.kp {la : Addr} {us : List V} (h : Lst H r la us) (z : Kp H H') : Lst H' r la us := h.kpb z.b
end
end NS
end
section
set_option maxHeartbeats 4000000
/-! M8: a part and its likes -/
namespace NS
open PySem PySem.Spec PyProof.Rows L2 ZS
section
variable {n : Nat} {ts us : List (List Int)} {W V : List (List Int)} {t : List Int}
end
end NS
end
section
set_option maxHeartbeats 4000000
/-! M9: houses of up to five halls -/
namespace NS
open PySem PySem.Spec PyProof.Rows L2 ZS
/-- a turn done so often -/
def pw (t : List Int) : Nat → List Int
  | 0 => idt t.length
  | k + 1 => comp (pw t k) t
section
variable {n : Nat} {ts : List (List Int)} {W : List (List Int)} {t : List Int} {LLp : List (List (List Int))}
end
end NS
end
section
set_option maxHeartbeats 4000000
/-! M10: cores -/
namespace NS
open PySem PySem.Spec PyProof.Rows L2 ZS
section
variable {n : Nat} {ts : List (List Int)} {W : List (List Int)} {t : List Int} {LLp : List (List (List Int))}
/-! ### known houses -/
end
end NS
end
section
set_option maxHeartbeats 4000000
/-! M11: how often a turn must be done till all are in place; its rings -/
namespace NS
open PySem PySem.Spec PyProof.Rows L2 ZS
section
variable {n : Nat} {t : List Int} {ls : List Int}
end
end NS
end
section
set_option maxHeartbeats 4000000
/-! M12: likes: as many divide the group, rings alike; halls called otherwise -/
namespace NS
open PySem PySem.Spec PyProof.Rows L2 ZS
section
variable {n : Nat} {ts : List (List Int)} {W : List (List Int)} {t g : List Int} {ls ls' : List Int}
end
end NS
end
section
set_option maxHeartbeats 4000000
/-! M13: known houses lead each hall to each -/
namespace NS
open PySem PySem.Spec PyProof.Rows L2 ZS
end NS
end
section
set_option maxHeartbeats 4000000
/-! M14: the lots of pairs are there -/
namespace NS
open PySem PySem.Spec PyProof.Rows L2 ZS
end NS
end
section
set_option maxHeartbeats 4000000
/-! LP: what most laws begin with -/
namespace NS
open PySem PySem.Spec PyProof.Rows L2 ZS
section
variable {X : Cx}
end
/-- a statement, and what holds behind it -/
def tMid (t : TS) : TS := fun D σ H => ∃ P : L2.St → Hp → Prop, (∀ σ' H', P σ' H' → D.nx σ' H') ∧ t { D with nx := P } σ H
theorem ps_mid {X : Cx} {st : Stmt} {t : TS} (h : PS X st t) : PS X st (tMid t) := by
  refine ⟨fun pins s σ H D I hm => ?_⟩
  obtain ⟨P, hP, ht⟩ := hm
  refine thn (h.run pins s σ H { D with nx := P } I ht) fun f s1 q => ?_
  cases f with
  | next =>
    obtain ⟨σ', H', I', q⟩ := q
    exact ⟨σ', H', I', hP _ _ q⟩
  | ret v => exact q
  | brk => exact q
  | cont => exact q
section
variable {K : PySem.W.Frag} {H H' : Hp} {r sa wa : Addr} {v tv : V} {n : Nat} {ts U : List (List Int)} {pT pA : Addr} {W : List (Addr × List Int)}
end
end NS
end
section
set_option maxHeartbeats 4000000
/-! M16: rings whose lengths are powers of one prime -/
namespace NS
open PySem PySem.Spec PyProof.Rows L2 ZS
section
variable {n : Nat} {ts W : List (List Int)} {t ls : List Int} {LLp : List (List (List Int))}
end
end NS
end
section
set_option maxHeartbeats 4000000
/-! M15: cores -/
namespace NS
open PySem PySem.Spec PyProof.Rows L2 ZS
section
variable {n : Nat} {ts W : List (List Int)} {LLp : List (List (List Int))}
end
/-! ### == of lists of whole numbers -/
theorem lay_ints : ∀ l : List Int, PyData.canLayAll0 (l.map .int) = true
  | [] => by simp [PyData.canLayAll0]
  | a :: l => by simp [PyData.canLayAll0, PyData.canLay0, lay_ints l]
theorem dep_ints : ∀ l : List Int, PyData.depthAll (l.map .int) = 0
  | [] => by simp [PyData.depthAll]
  | a :: l => by simp [PyData.depthAll, PyData.depth, dep_ints l]
theorem dp_ints {K : PySem.W.Frag} {H : Hp} : ∀ l : List Int, DpAll K H (l.map V.int) (l.map .int)
  | [] => .nil
  | a :: l => .cons (.int a) (dp_ints l)
end NS
end
section
set_option maxHeartbeats 4000000
/-! L9: the law's order and powers -/
namespace NS
open PySem PySem.Spec PyProof.Rows L2 ZS
section
variable {P : Program} {w : World} {K : PySem.W.Frag} {mg : Str → Option Value} {base : Heap} {f : Addr} {fd : FuncData}
end
end NS
end
section
set_option maxHeartbeats 4000000
/-! TSetD1: tables from which rows were taken (dummies) -/
namespace ZS
open PySem PySem.Spec PyProof.Rows L2 TS
/-- a table, maybe with dummies, in which each hash's own way leads to its slot over full slots and dummies -/
structure TabD (t : SetTable) (hs : List Int) : Prop where
  up : Ris t.place.toList
  dup : Ris t.dummies.toList
  dj : ∀ j ∈ t.dummies.toList, j ∉ t.place.toList
  len : t.place.size = hs.length
  msk : Msk t.mask
  fill : t.place.size + t.dummies.size ≤ t.mask
  found : ∀ (i : Nat) (h : Int) (j : Nat), hs[i]? = some h → t.place.toList[i]? = some j → ∃ k, way t.mask h k = j ∧ ∀ n, n < k → way t.mask h n ∈ t.place.toList ∨ way t.mask h n ∈ t.dummies.toList
theorem Tab.toD {t : SetTable} {hs : List Int} (T : Tab t hs) (room : hs.length ≤ t.mask) : TabD t hs :=
  ⟨T.up, (by rw [T.nod]; exact List.Pairwise.nil), fun j h => (by rw [T.nod] at h; cases h), T.len, T.msk, (by rw [T.nod, T.len]; exact room), fun i h j h1 h2 => let ⟨k, e, f⟩ := T.found i h j h1 h2; ⟨k, e, fun n hn => .inl (f n hn)⟩⟩
section
variable {t : SetTable} {hs : List Int}
theorem TabD.gap (T : TabD t hs) (h : Int) : ∃ N, N ≤ 10 * (t.place.size + t.dummies.size + 12) ∧ way t.mask h N ∉ t.place.toList ∧ way t.mask h N ∉ t.dummies.toList ∧ ∀ n, n < N → way t.mask h n ∈ t.place.toList ∨ way t.mask h n ∈ t.dummies.toList := by
  have full : (t.place.toList ++ t.dummies.toList).length = t.place.size + t.dummies.size := by rw [List.length_append, Array.length_toList, Array.length_toList]
  obtain ⟨k, hk, free⟩ := way_out T.msk h (t.place.toList ++ t.dummies.toList) (by rw [full]; exact T.fill)
  obtain ⟨N, a, b, c⟩ := st_least (p := fun n => way t.mask h n ∉ t.place.toList ++ t.dummies.toList) k free
  rw [full] at hk
  exact ⟨N, by omega, fun z => b (List.mem_append_left _ z), fun z => b (List.mem_append_right _ z), fun n hn => List.mem_append.mp (Classical.byContradiction fun z => c n hn z)⟩
theorem TabD.ahead (T : TabD t hs) {h : Int} {N i j : Nat} (hN : way t.mask h N ∉ t.place.toList) (hD : way t.mask h N ∉ t.dummies.toList) (hi : hs[i]? = some h) (hj : t.place.toList[i]? = some j) : ∃ n, n < N ∧ way t.mask h n = j := by
  obtain ⟨k, ek, full⟩ := T.found i h j hi hj
  refine ⟨k, Nat.lt_of_not_le fun z => ?_, ek⟩
  rcases Nat.lt_or_eq_of_le z with z | z
  · exact (full N z).elim hN hD
  · rw [z, ek] at hN
    exact hN (List.mem_of_getElem? hj)
theorem toList_eraseAt {α : Type} (xs : Array α) (p : Nat) : (SetTable.eraseAt xs p).toList = xs.toList.take p ++ xs.toList.drop (p + 1) := by
  unfold SetTable.eraseAt
  rw [Array.toList_append]
  simp
  exact List.take_of_length_le (by simp)
theorem erase_list {α : Type} (l : List α) (p : Nat) : l.take p ++ l.drop (p + 1) = l.eraseIdx p := List.eraseIdx_eq_take_drop_succ l p |>.symm
/-- a row taken out -/
theorem TabD.drop (T : TabD t hs) {i j : Nat} (hj : t.place.toList[i]? = some j) : TabD (t.drop i) (hs.eraseIdx i) ∧ (t.drop i).mask = t.mask ∧ (t.drop i).led = t.led ∧ (t.drop i).plain = t.plain ∧ (t.drop i).place.size + (t.drop i).dummies.size = t.place.size + t.dummies.size := by
  have hj2 : t.place[i]? = some j := by rw [← Array.getElem?_toList]; exact hj
  have il : i < t.place.toList.length := (List.getElem?_eq_some_iff.mp hj).1
  have e : t.drop i = { t with place := SetTable.eraseAt t.place i, dummies := SetTable.insertAt t.dummies (SetTable.below t.dummies j) j } := by
    unfold SetTable.drop
    rw [hj2]
  have jin : j ∈ t.place.toList := List.mem_of_getElem? hj
  have hnd : j ∉ t.dummies.toList := fun h => T.dj j h jin
  have ep : (SetTable.eraseAt t.place i).toList = t.place.toList.eraseIdx i := by rw [toList_eraseAt, erase_list]
  have ed := SetTable.toList_insertAt t.dummies (SetTable.below t.dummies j) j
  have hle : SetTable.below t.dummies j ≤ t.dummies.toList.length := by
    obtain ⟨c1, _, _⟩ := below_cut T.dup j
    rw [Array.length_toList]
    exact c1
  have pd := put_perm t.dummies.toList (SetTable.below t.dummies j) j
  rw [← ed] at pd
  have md : ∀ x, x ∈ (SetTable.insertAt t.dummies (SetTable.below t.dummies j) j).toList ↔ x = j ∨ x ∈ t.dummies.toList := fun x => by rw [pd.mem_iff, List.mem_cons]
  have ndp : t.place.toList.Nodup := T.up.imp fun h e => by omega
  have mp : ∀ x, x ∈ t.place.toList.eraseIdx i ↔ x ∈ t.place.toList ∧ x ≠ j := fun x => by
    rw [List.mem_eraseIdx_iff_getElem?]
    constructor
    · rintro ⟨k, hk, e2⟩
      refine ⟨List.mem_of_getElem? e2, fun q => hk ?_⟩
      rw [q] at e2
      rcases Nat.lt_trichotomy k i with c | c | c
      · exact absurd (ris_lt T.up e2 hj c) (Nat.lt_irrefl _)
      · exact c
      · exact absurd (ris_lt T.up hj e2 c) (Nat.lt_irrefl _)
    · rintro ⟨hx, hne⟩
      obtain ⟨k, hk, e2⟩ := List.getElem_of_mem hx
      have e3 : t.place.toList[k]? = some x := by rw [List.getElem?_eq_getElem hk, e2]
      refine ⟨k, fun q => hne ?_, e3⟩
      rw [q, hj] at e3
      exact (Option.some.inj e3).symm
  have un : ∀ x, (x ∈ t.place.toList ∨ x ∈ t.dummies.toList) → x ∈ t.place.toList.eraseIdx i ∨ x ∈ (SetTable.insertAt t.dummies (SetTable.below t.dummies j) j).toList := fun x hx => by
    by_cases q : x = j
    · exact .inr ((md x).mpr (.inl q))
    · rcases hx with h | h
      · exact .inl ((mp x).mpr ⟨h, q⟩)
      · exact .inr ((md x).mpr (.inr h))
  have sz1 : (SetTable.eraseAt t.place i).size = t.place.size - 1 := by
    rw [← Array.length_toList, ep, List.length_eraseIdx_of_lt il, Array.length_toList]
  have sz2 : (SetTable.insertAt t.dummies (SetTable.below t.dummies j) j).size = t.dummies.size + 1 := by
    rw [← Array.length_toList, pd.length_eq, List.length_cons, Array.length_toList]
  have sp : 0 < t.place.size := by rw [Array.length_toList] at il; omega
  have tot : (SetTable.eraseAt t.place i).size + (SetTable.insertAt t.dummies (SetTable.below t.dummies j) j).size = t.place.size + t.dummies.size := by omega
  rw [e]
  refine ⟨⟨?_, ris_insert T.dup fun h => hnd (List.mem_of_getElem? (by rw [Array.getElem?_toList]; exact h)), fun x hx => ?_, ?_, T.msk, ?_, fun i' h j' h1 h2 => ?_⟩, rfl, rfl, rfl, tot⟩
  · show Ris (SetTable.eraseAt t.place i).toList
    rw [ep]
    exact T.up.sublist (List.eraseIdx_sublist ..)
  · show x ∉ (SetTable.eraseAt t.place i).toList
    rw [ep, mp]
    rintro ⟨a, b⟩
    rcases (md x).mp hx with q | q
    · exact b q
    · exact T.dj x q a
  · show (SetTable.eraseAt t.place i).size = _
    have := T.len
    rw [sz1, List.length_eraseIdx_of_lt (by rw [← T.len]; rw [Array.length_toList] at il; exact il), T.len]
  · show (SetTable.eraseAt t.place i).size + (SetTable.insertAt t.dummies (SetTable.below t.dummies j) j).size ≤ t.mask
    rw [tot]
    exact T.fill
  · have h2 : (SetTable.eraseAt t.place i).toList[i']? = some j' := h2
    rw [ep, List.getElem?_eraseIdx] at h2
    rw [List.getElem?_eraseIdx] at h1
    have : ∃ i0 : Nat, hs[i0]? = some h ∧ t.place.toList[i0]? = some j' := by
      by_cases q : i' < i
      · rw [if_pos q] at h1 h2
        exact ⟨i', h1, h2⟩
      · rw [if_neg q] at h1 h2
        exact ⟨i' + 1, h1, h2⟩
    obtain ⟨i0, g1, g2⟩ := this
    obtain ⟨k, ek, f⟩ := T.found i0 h j' g1 g2
    refine ⟨k, ek, fun n hn => ?_⟩
    show _ ∈ (SetTable.eraseAt t.place i).toList ∨ _
    rw [ep]
    exact un _ (f n hn)
end
end ZS
end
section
set_option maxHeartbeats 4000000
/-! TSetD2: finding and discarding in a set from which rows were taken -/
namespace ZS
open PySem PySem.Spec PyProof.Rows L2 TS
structure SetD {P : Program} {w : World} {K : Type} [DecidableEq K] (Z : ZK P w K) (h : Heap) (a : Addr) (L : List (Addr × K)) (es : Array (Int × Value)) (ep : Nat) (t : SetTable) : Prop where
  obj : ∃ o, h.get? a = some o ∧ o.ExactSet ∧ o.data = .set es ep t
  row : es.toList = zrows Z L
  tab : TabD t (L.map fun p => Z.hash p.2)
  dif : (L.map (·.2)).Nodup
  tup : ∀ p ∈ L, Z.is h p.2 p.1
  pln : t.plain = true
  led : w.params.followText "set-order" = true ∨ t.led = true
  sum : t.place.size + t.dummies.size < zBound
section
variable {P : Program} {w : World} {K : Type} [DecidableEq K] {Z : ZK P w K} {A : Around} {E : Value → Shared → Prop} {s : Shared} {a : Addr} {L : List (Addr × K)} {es : Array (Int × Value)} {ep : Nat} {t : SetTable}
theorem SetZ.toD (R : SetZ Z s.heap a L es ep t) : SetD Z s.heap a L es ep t := ⟨R.obj, R.row, R.tab.toD (by have := R.room; rw [List.length_map]; omega), R.dif, R.tup, R.pln, R.led, (by have z := R.tab.len; have f := R.few; rw [List.length_map] at z; rw [R.tab.nod]; show t.place.size + 0 < _; omega)⟩
theorem SetD.size (R : SetD Z s.heap a L es ep t) : es.size = L.length := zrows_len R.row
theorem SetD.few (R : SetD Z s.heap a L es ep t) : L.length < zBound := by
  have z := R.tab.len
  have f := R.sum
  rw [List.length_map] at z
  omega
theorem SetD.fits (R : SetD Z s.heap a L es ep t) : t.fits es.size = true := by
  have h1 := R.tab.len
  have h2 := R.tab.fill
  rw [List.length_map] at h1
  unfold SetTable.fits SetTable.fill
  rw [R.size, ← h1]
  simp [h2]
theorem SetD.entry (R : SetD Z s.heap a L es ep t) {i : Nat} {p : Addr × K} (h : L[i]? = some p) : es[i]? = some (Z.hash p.2, Value.ref p.1) := by
  rw [← Array.getElem?_toList, R.row]
  show (L.map _)[i]? = _
  rw [List.getElem?_map, h]
  rfl
theorem SetD.steady (R : SetD Z s.heap a L es ep t) : ¬ t.gaveWay = true := by
  unfold SetTable.gaveWay
  rw [R.tab.msk.odd]
  decide
end
end ZS
end
section
set_option maxHeartbeats 4000000
/-! TSetD3: a set's copy, its walk, its tidying -/
namespace ZS
open PySem PySem.Spec PyProof.Rows L2 TS
section
variable {P : Program} {w : World} {K : Type} [DecidableEq K] {Z : ZK P w K} {A : Around} {E : Value → Shared → Prop} {s : Shared} {a : Addr} {L : List (Addr × K)} {es : Array (Int × Value)} {ep : Nat} {t : SetTable}
end
end ZS
end
section
set_option maxHeartbeats 4000000
/-! TSetD4: a set's copy -/
namespace ZS
open PySem PySem.Spec PyProof.Rows L2 TS
section
variable {P : Program} {w : World} {K : Type} [DecidableEq K] {Z : ZK P w K} {A : Around} {E : Value → Shared → Prop} {s : Shared} {a : Addr} {L : List (Addr × K)} {es : Array (Int × Value)} {ep : Nat} {t : SetTable}
theorem SetD.empty (Z : ZK P w K) {h : Heap} {r : Addr} (hr : h.get? r = some { cls := .type "set", dict := none, data := .set #[] 0 (.fresh 0 0 (!w.params.followText "set-order")) }) :
    SetD Z h r [] #[] 0 (.fresh 0 0 (!w.params.followText "set-order")) ∧ Tab (.fresh 0 0 (!w.params.followText "set-order")) [] := by
  have T : Tab (.fresh 0 0 (!w.params.followText "set-order")) [] := ⟨List.Pairwise.nil, rfl, rfl, ⟨3, by decide, by decide, rfl⟩, fun z hz => (by cases hz), fun i h j hi => (by simp at hi)⟩
  refine ⟨⟨⟨_, hr, ⟨rfl, rfl, rfl⟩, rfl⟩, rfl, T.toD (Nat.zero_le _), List.nodup_nil, fun p hp => (by cases hp), rfl, ?_, (by show 0 + 0 < 9000; decide)⟩, T⟩
  show _ ∨ (!w.params.followText "set-order") = true
  cases w.params.followText "set-order"
  · exact .inr rfl
  · exact .inl rfl
theorem SetZ.same (R : SetZ Z s.heap a L es ep t) {r : Addr} {h' : Heap} {o : Obj} {es1 : Array (Int × Value)} {ep1 : Nat} {t1 : SetTable} (hne : a ≠ r) (ho : s.heap.get? r = some o) (hd : o.data = .set es1 ep1 t1) (sb : Heap.SameBut r s.heap h') : SetZ Z h' a L es ep t := by
  obtain ⟨oa, hoa, he, hda⟩ := R.obj
  exact ⟨⟨oa, (sb.2 a hne).trans hoa, he, hda⟩, R.row, R.tab, R.dif, fun p hp => zsame (R.tup p hp) ho hd sb, R.pln, R.led, R.room, R.few⟩
end
end ZS
end
section
set_option maxHeartbeats 4000000
/-! TSetD5: the difference of two sets -/
namespace ZS
open PySem PySem.Spec PyProof.Rows L2 TS
theorem erase_map {α β : Type} (f : α → β) (l : List α) (i : Nat) : (l.eraseIdx i).map f = (l.map f).eraseIdx i := by
  rw [List.eraseIdx_eq_take_drop_succ, List.eraseIdx_eq_take_drop_succ, List.map_append, List.map_take, List.map_drop]
section
variable {P : Program} {w : World} {K : Type} [DecidableEq K] {Z : ZK P w K} {A : Around} {E : Value → Shared → Prop} {s : Shared} {a b : Addr} {La Lb L : List (Addr × K)} {esa esb es : Array (Int × Value)} {epa epb ep : Nat} {ta tb t : SetTable}
theorem SetD.type (R : SetD Z s.heap a L es ep t) : s.TypeIs (.ref a) "set" := by
  obtain ⟨o, ho, hex, hd⟩ := R.obj
  exact ⟨o, ho, hex.1⟩
end
end ZS
end
section
set_option maxHeartbeats 4000000
/-! TSetD6: the difference of two sets, as a whole -/
namespace ZS
open PySem PySem.Spec PyProof.Rows L2 TS
section
variable {P : Program} {w : World} {K : Type} [DecidableEq K] {Z : ZK P w K} {A : Around} {E : Value → Shared → Prop} {s : Shared} {a b : Addr} {La Lb L : List (Addr × K)} {esa esb es : Array (Int × Value)} {epa epb ep : Nat} {ta tb t : SetTable}
theorem SetZ.push (R : SetZ Z s.heap a L es ep t) (o : Obj) : SetZ Z (s.heap.push o) a L es ep t := by
  obtain ⟨oa, hoa, he, hda⟩ := R.obj
  exact ⟨⟨oa, Heap.get?_push_of_some _ hoa, he, hda⟩, R.row, R.tab, R.dif, fun p hp => Z.keep (R.tup p hp) fun c oc vs n hc _ => Heap.get?_push_of_some _ hc, R.pln, R.led, R.room, R.few⟩
theorem SetZ.off (R : SetZ Z s.heap a L es ep t) : s.heap.objs.size ≠ a := by
  obtain ⟨o, ho, _⟩ := R.obj
  exact Nat.ne_of_gt (Heap.lt_size ho)
end
end ZS
end
section
set_option maxHeartbeats 4000000
/-! TSetD7: what `a - b` gives as a tracked thing; its length, its sorting -/
namespace ZS
open PySem PySem.Spec PyProof.Rows L2 TS PpSet
/-- a set of which is known no more than its rows -/
structure SetW (P : Program) (w : World) (h : Heap) (a : Addr) (L : List (Addr × NK)) (es : Array (Int × Value)) (ep : Nat) (t : SetTable) : Prop where
  obj : ∃ o, h.get? a = some o ∧ o.ExactSet ∧ o.data = .set es ep t
  row : es.toList = zrows (zk P w) L
  up : Ris t.place.toList
  fits : t.fits es.size = true
  dif : (L.map (·.2)).Nodup
  led : w.params.followText "set-order" = true ∨ t.led = true
theorem SetW.size {P : Program} {w : World} {h : Heap} {a : Addr} {L : List (Addr × NK)} {es : Array (Int × Value)} {ep : Nat} {t : SetTable} (R : SetW P w h a L es ep t) : es.size = L.length := zrows_len R.row
def SetW0 (P : Program) (w : World) (h : Heap) (a : Addr) (L : List (Addr × NK)) : Prop := ∃ es ep t, SetW P w h a L es ep t
def WSet (P : Program) (w : World) (a : Addr) (L : List (Addr × NK)) : HO := .ext fun h => SetW0 P w h a L
theorem SetW0.laid {P : Program} {w : World} {h : Heap} {a : Addr} {L : List (Addr × NK)} (R : SetW0 P w h a L) (H : Hp) : ObjOk P w H h a (WSet P w a L) := by
  have ⟨es, ep, t, R0⟩ := R
  obtain ⟨o, ho, _⟩ := R0.obj
  refine ⟨R, ⟨o, ho⟩, fun h1 h2 p k => ?_⟩
  have ⟨es', ep', t', R'⟩ := (show SetW0 P w h1 a L from p)
  obtain ⟨o', ho', r'⟩ := R'.obj
  exact ⟨es', ep', t', ⟨o', k o' ho', r'⟩, R'.row, R'.up, R'.fits, R'.dif, R'.led⟩
section
variable {X : Cx} {pins : List (Addr × Obj)} {σ : L2.St} {H : Hp} {s : Shared} {a b : Addr} {L : List (Addr × NK)}
end
section
variable {X : Cx}
end
end ZS
end
section
set_option maxHeartbeats 4000000
/-! RSetT: set of a tuple of keys; set of nothing -/
namespace ZS
open PySem PySem.Spec PyProof.Rows L2 PpSet
section
variable {P : Program} {w : World} {A : Around} {E : Value → Shared → Prop} {s : Shared}
end
section
variable {X : Cx} {pins : List (Addr × Obj)} {σ : L2.St} {H : Hp}
end
end ZS
end
section
set_option maxHeartbeats 4000000
/-! N5: covers -/
namespace NS
open PySem PySem.Spec PyProof.Rows L2 ZS
theorem Kp.with {H H' : Hp} (z : Kp H H') {p : Addr} {o : HO} (h : H' p = some o) (n : ∀ ps, o ≠ .tbl ps) : Kp (upd H p o) H' := by
  refine ⟨fun b u e q => ?_, fun b ps e => ?_⟩
  · by_cases c : b = p
    · rw [c, upd_same] at e
      rw [c, h, e]
    · rw [upd_ne c] at e
      exact z.k b u e q
  · by_cases c : b = p
    · rw [c, upd_same] at e
      exact absurd (Option.some.inj e) (n ps)
    · rw [upd_ne c] at e
      exact z.t b ps e
section
variable {P : Program} {w : World} {K : PySem.W.Frag} {mg : Str → Option Value} {base : Heap} {f : Addr} {fd : FuncData} {pT pA C : Addr} {S : Addr → Option Sp}
end
end NS
end
section
set_option maxHeartbeats 4000000
/-! N6: covers, asked of houses -/
namespace NS
open PySem PySem.Spec PyProof.Rows L2 ZS
/-- a value that is no turn of n halls by its kind or its length -/
def OddV (K : PySem.W.Frag) (H : Hp) (n : Nat) (x : V) : Prop := (∃ T : String, (∀ H', Kp H H' → TyX K H' x (.type T)) ∧ kitB T "tuple" = some false) ∨ ∃ a ys, x = .ref a ∧ SqT K H a ys ∧ ys.length ≠ n
section
variable {P : Program} {w : World} {K : PySem.W.Frag} {mg : Str → Option Value} {base : Heap} {f : Addr} {fd : FuncData} {pT pA C : Addr} {S : Addr → Option Sp}
end
end NS
end
section
set_option maxHeartbeats 4000000
/-! N7: covers: counted, shown -/
namespace NS
open PySem PySem.Spec PyProof.Rows L2 ZS
theorem TupEl.kp {K : PySem.W.Frag} {H H' : Hp} (z : Kp H H') {r : V} {R : List (List Int)} (h : TupEl H (ElT K H) r R) : TupEl H' (ElT K H') r R := by
  obtain ⟨p1, o1, v1, e1, h1, d1, pr1⟩ := h
  exact ⟨p1, o1, v1, e1, z.k _ _ h1 (fun _ q => by cases q), d1, pr1.mono fun _ _ q => q.tup z.tup⟩
section
variable {P : Program} {w : World} {K : PySem.W.Frag} {mg : Str → Option Value} {base : Heap} {f : Addr} {fd : FuncData} {pT pA C : Addr} {S : Addr → Option Sp}
end
end NS
end
section
set_option maxHeartbeats 4000000
/-! N8: shows_uncovered -/
namespace NS
open PySem PySem.Spec PyProof.Rows L2 ZS
theorem OddV.kp {K : PySem.W.Frag} {H H' : Hp} (z : Kp H H') {n : Nat} {x : V} (h : OddV K H n x) : OddV K H' n x := by
  rcases h with ⟨T, h, k⟩ | ⟨a, ys, e, h, l⟩
  · exact .inl ⟨T, fun H2 z2 => h H2 (z.trans z2), k⟩
  · exact .inr ⟨a, ys, e, z.sqT h, l⟩
section
variable {P : Program} {w : World} {K : PySem.W.Frag} {mg : Str → Option Value} {base : Heap} {f : Addr} {fd : FuncData}
end
section
variable {P : Program} {w : World} {K : PySem.W.Frag} {mg : Str → Option Value} {base : Heap} {f : Addr} {fd : FuncData} {pT pA C : Addr} {S : Addr → Option Sp}
end
end NS
end
section
set_option maxHeartbeats 4000000
/-! L11: what law k12 wants besides -/
namespace NS
open PySem PySem.Spec PyProof.Rows L2 ZS
def dInts (l : List Int) : PyData := .tuple (l.map .int)
theorem lay_dInts (l : List Int) : PyData.canLay0 (dInts l) = true := by unfold dInts; simp [PyData.canLay0, lay_ints l]
theorem dep_dInts (l : List Int) : PyData.depth (dInts l) = 1 := by unfold dInts; simp [PyData.depth, dep_ints l]
section
variable {P : Program} {w : World} {K : PySem.W.Frag} {mg : Str → Option Value} {base : Heap} {f : Addr} {fd : FuncData}
end
theorem TupEl.kpb {K : PySem.W.Frag} {r : Addr} {H H' : Hp} (z : KpB r H H') {x : V} {R : List (List Int)} (h : TupEl H (ElT K H) x R) : TupEl H' (ElT K H') x R := by
  obtain ⟨p1, o1, v1, e1, h1, d1, pr1⟩ := h
  exact ⟨p1, o1, v1, e1, z.k _ _ h1 (fun _ q => by cases q) (fun _ q => by cases q), d1, pr1.mono fun _ _ q => q.tup z.tup⟩
end NS
end
section
set_option maxHeartbeats 4000000
/-! N15: methods that may raise, a class made where it may raise; what the law keeps -/
namespace NS
open PySem PySem.Spec PyProof.Rows L2 ZS
section
variable {X : Cx} {CX : CXT} {k : Nat} {f C : Addr} {fd : FuncData} {ps : List Str} {sp : Sp} {E : L2.St → XK} {x m : Str} {p pos apos : Pos} {e o : Expr} {es : List Expr} {ta : TE} {t : TA}
/-- o.m(e, ..), what is raised wished for at the slots -/
def tMethE (C : Addr) (m : Str) (sp : Sp) (E : L2.St → XK) (ta : TE) (t : TA) : TE := fun σ H Q => ta σ H fun x H1 => ∃ a dx fs, x = .ref a ∧ H1 a = some (.ins C dx fs) ∧ fs.lookup m = none ∧ t σ H1 fun vs H2 => sp (x :: vs) H2 Q (E σ)
theorem pe_methE {pl : Sem Bool} (he : PE X o ta) (c : Cls X.K C) (hm : Meth X.K C m f) (F : FnOk X.prog X.w X.K X.mg X.base CX k f fd ps sp) (hr : Room k X.A) (hb : Binds X.K fd ps []) (hx : ∀ σ, PassesAt CX X σ (E σ)) (ha : PA X (e :: es) t)
    (hst : starEach (e :: es) X.env = (false, eval e X.env) :: starEach es X.env := by rfl) (hpl : (backTo pos (starEach es X.env)).any (·.1) = false := by rfl)
    (ht : eval (.Call (.Attribute o m apos) (e :: es) [] pos) X.env = (do
      let ov ← eval o X.env
      standAt apos.atName
      let (f, first) ← holding [ov] (getMethod ov m pl)
      callWith pos f first (backTo pos (starEach (e :: es) X.env)) (backToKw pos (keywordEach [] X.env))) := by rfl) :
    PE X (.Call (.Attribute o m apos) (e :: es) [] pos) (tMethE C m sp E ta t) := by
  refine ⟨fun pins s σ H Q I h => ?_⟩
  refine PySem.W.methodCall_KW (pl := pl) (thn (he.run pins s σ H _ I h) fun u s1 ⟨x, H1, I1, rx, a, dx, fs, ex, ea, l, q⟩ => ?_) ht
  subst ex
  obtain rfl : u = Value.ref a := rx
  refine getmeth_ok I1 ea c hm l ?_
  refine PySem.W.callWith_K (first := [.ref a]) (h₀ := X.base) I.ok.mod.kin hm.kp (thn (ha.run pos pins s1 σ H1 _ I1 q) fun us s2 ⟨vs, H2, I2, r, q2⟩ => ⟨I2.kIn, ?_⟩) hst hpl
  exact run_fnS (us := .ref a :: us) (vs := .ref a :: vs) F hr hb (hx σ) I2 (.cons rfl r) q2
theorem pe_methE0 {pl : Sem Bool} (he : PE X o ta) (c : Cls X.K C) (hm : Meth X.K C m f) (F : FnOk X.prog X.w X.K X.mg X.base CX k f fd ps sp) (hr : Room k X.A) (hb : Binds X.K fd ps []) (hx : ∀ σ, PassesAt CX X σ (E σ))
    (ht : eval (.Call (.Attribute o m apos) [] [] pos) X.env = (do
      let ov ← eval o X.env
      standAt apos.atName
      let (f, first) ← holding [ov] (getMethod ov m pl)
      callWith pos f first (backTo pos (starEach [] X.env)) (backToKw pos (keywordEach [] X.env))) := by rfl) :
    PE X (.Call (.Attribute o m apos) [] [] pos) (tMethE C m sp E ta tNil) := by
  refine ⟨fun pins s σ H Q I h => ?_⟩
  refine PySem.W.methodCall_KW (pl := pl) (thn (he.run pins s σ H _ I h) fun u s1 ⟨x, H1, I1, rx, a, dx, fs, ex, ea, l, q⟩ => ?_) ht
  subst ex
  obtain rfl : u = Value.ref a := rx
  refine getmeth_ok I1 ea c hm l ?_
  exact PySem.W.callWith_K0 (first := [.ref a]) I1.kIn hm.kp (run_fnS (us := [.ref a]) (vs := [.ref a]) F hr hb (hx σ) I1 (.cons rfl .nil) q)
/-- C(e, ..), what is raised wished for at the slots -/
def tMakeE (C : Addr) (sp : Sp) (E : L2.St → XK) (t : TA) : TE := fun σ H Q => t σ H fun vs H1 => ∀ x dx, H1 x = none → H1 dx = none → dx ≠ x →
  sp (.ref x :: vs) (upd (upd H1 dx (.own x)) x (.ins C dx [])) (fun v H2 => v = .non ∧ Q (.ref x) H2) (E σ)
theorem pe_makeE (M : Mk X.K C f) (F : FnOk X.prog X.w X.K X.mg X.base CX k f fd ps sp) (hr : Room (k + 1) X.A) (hg : Gl X x) (hm : X.mg x = some (.ref C)) (hb : Binds X.K fd ps []) (hx : ∀ σ, PassesAt CX X σ (E σ))
    (ha : PA X (e :: es) t) (hdb : (x == ("__debug__" : Str)) = false := by decide) (he : starEach (e :: es) X.env = (false, eval e X.env) :: starEach es X.env := by rfl) (hpl : (backTo pos (starEach es X.env)).any (·.1) = false := by rfl) :
    PE X (.Call (.Name x p) (e :: es) [] pos) (tMakeE C sp E t) := by
  refine ⟨fun pins s σ H Q I h => ?_⟩
  refine wpAny_Call_Name_kw (ld_glob I hg hm ?_ hdb)
  refine PySem.W.callWith_K (h₀ := X.base) I.ok.mod.kin M.kp (thn (ha.run pos pins s σ H _ I h) fun us s1 ⟨vs, H1, I1, r, q⟩ => ⟨I1.kIn, ?_⟩) he hpl
  have hq := q (s1.heap.objs.size + 1) s1.heap.objs.size (I1.hok.fresh (Nat.le_succ _)) (I1.hok.fresh (Nat.le_refl _)) (Nat.ne_of_lt (Nat.lt_succ_self _))
  have I2 := Inv.made (C := C) I1
  have r2 : Vals (V.ref (s1.heap.objs.size + 1) :: vs) (Value.ref (s1.heap.objs.size + 1) :: us) := .cons rfl r
  have hl : (Value.ref (s1.heap.objs.size + 1) :: us).length = ps.length := by
    have e := r2.length
    rw [F.len _ _ _ _ hq] at e
    exact e.symm
  have b := hb _ (Value.ref (s1.heap.objs.size + 1) :: us) I2.kIn (by rw [List.append_nil]; exact hl)
  rw [List.append_nil] at b
  refine wpAny_call (make_map (f := f) I1.kIn M.makes M.init (beq_iff_eq.mp M.fn) (codeAny_mono (F.run _ X.stack _ _ ⟨Value.ref (s1.heap.objs.size + 1) :: us, []⟩ (Value.ref (s1.heap.objs.size + 1) :: us) _ _ (E σ) (hr.make C us [])
    (I2.env0.make C us []) b r2 hq) fun r s' hq' => ?_))
  cases r with
  | error e => exact hx σ pins _ _ e s' I2 hq'
  | ok fl =>
    cases fl with
    | ret u =>
      obtain ⟨v, H', I3, rv, ev, q3⟩ := I2.after hq'
      subst ev
      exact ⟨rv, ⟨V.ref (s1.heap.objs.size + 1), H', I3, rfl, q3⟩⟩
    | next => exact False.elim hq'
    | brk => exact False.elim hq'
    | cont => exact False.elim hq'
end
section
variable {P : Program} {w : World} {K : PySem.W.Frag} {mg : Str → Option Value} {base : Heap} {k : Nat} {f : Addr} {fd : FuncData} {ps : List Str} {sp : Sp}
def spNoX (sp : Sp) : Sp := fun vs H Q _ => sp vs H Q fun _ _ _ => False
/-- where it raises nothing -/
theorem fnok_no (h : FnOk P w K mg base (L2.CX P w) k f fd ps sp) : FnOk P w K mg base CX0 k f fd ps (spNoX sp) :=
  ⟨fun vs H Q E => h.len vs H Q _, fun A outer s H args us vs Q E hr he hb hv hs => codeAny_mono (h.run A outer s H args us vs Q (fun _ _ _ => False) hr he hb hv hs) fun r s' hq => by
    cases r with
    | ok fl =>
      cases fl with
      | ret u => exact hq
      | next => exact hq
      | brk => exact hq
      | cont => exact hq
    | error e =>
      obtain ⟨a, B, H', cls, d, _, _, _, _, _, _, _, f⟩ := hq
      exact f.elim⟩
end
/-- a method keeps a promise -/
structure HasM (P : Program) (w : World) (K : PySem.W.Frag) (mg : Str → Option Value) (base : Heap) (C : Addr) (m : Str) (CX : CXT) (k : Nat) (sp : Sp) : Prop where
  ex : ∃ (f : Addr) (fd : FuncData) (ps : List Str), Meth K C m f ∧ Binds K fd ps [] ∧ FnOk P w K mg base CX k f fd ps sp
/-- a property keeps a promise -/
structure HasP (P : Program) (w : World) (K : PySem.W.Frag) (mg : Str → Option Value) (base : Heap) (C : Addr) (m : Str) (k : Nat) (sp : Sp) : Prop where
  ex : ∃ (p g : Addr) (fd : FuncData) (ps : List Str), PropOf K C m p g ∧ Binds K fd ps [] ∧ FnOk P w K mg base CX0 k g fd ps sp
/-- a class made keeps a promise -/
structure HasMk (P : Program) (w : World) (K : PySem.W.Frag) (mg : Str → Option Value) (base : Heap) (x : Str) (C : Addr) (k : Nat) (sp : Sp) : Prop where
  g : mg x = some (.ref C)
  ex : ∃ (f : Addr) (fd : FuncData) (ps : List Str), Mk K C f ∧ Binds K fd ps [] ∧ FnOk P w K mg base (L2.CX P w) k f fd ps sp
/-- the class Seats -/
structure SeatsD (P : Program) (w : World) (K : PySem.W.Frag) (mg : Str → Option Value) (base : Heap) (pT pA C CB CN CS : Addr) : Prop where
  c : SeatsC K C
  made : HasMk P w K mg base "Seats" C 8 (spSeatsInit K pT pA C CB)
  do_ : HasM P w K mg base C "do" (L2.CX P w) 3 (spDo K C CN)
  undo : HasM P w K mg base C "undo" (L2.CX P w) 2 (spUndo K C CS)
  stay : HasM P w K mg base C "stayers" CX0 2 (spSeats K C fun _ t => keptL t)
  row : HasP P w K mg base C "row" 1 (spSeats K C fun line _ => line)
  where_ : HasP P w K mg base C "where" 1 (spSeats K C fun _ t => t)
section
variable {X : Cx} {k j : Nat} {C : Addr} {m x : Str} {sp : Sp} {W : WX} {p pos apos : Pos} {e o : Expr} {es : List Expr} {ta : TE} {t : TA}
theorem pe_hasM {pl : Sem Bool} (he : PE X o ta) (c : Cls X.K C) (h : HasM X.prog X.w X.K X.mg X.base C m (L2.CX X.prog X.w) j sp) (hr : Room k X.A) (hk : j ≤ k) (tk : Takes X W) (ha : PA X (e :: es) t)
    (hst : starEach (e :: es) X.env = (false, eval e X.env) :: starEach es X.env := by rfl) (hpl : (backTo pos (starEach es X.env)).any (·.1) = false := by rfl)
    (ht : eval (.Call (.Attribute o m apos) (e :: es) [] pos) X.env = (do
      let ov ← eval o X.env
      standAt apos.atName
      let (f, first) ← holding [ov] (getMethod ov m pl)
      callWith pos f first (backTo pos (starEach (e :: es) X.env)) (backToKw pos (keywordEach [] X.env))) := by rfl) :
    PE X (.Call (.Attribute o m apos) (e :: es) [] pos) (tMethE C m sp (WE W) ta t) := by
  obtain ⟨f, fd, ps, h1, h2, h3⟩ := h.ex
  exact pe_methE he c h1 h3 (hr.mono hk) h2 (fun σ => passAt tk σ) ha hst hpl ht
theorem pe_hasM0 {pl : Sem Bool} (he : PE X o ta) (c : Cls X.K C) (h : HasM X.prog X.w X.K X.mg X.base C m (L2.CX X.prog X.w) j sp) (hr : Room k X.A) (hk : j ≤ k) (tk : Takes X W)
    (ht : eval (.Call (.Attribute o m apos) [] [] pos) X.env = (do
      let ov ← eval o X.env
      standAt apos.atName
      let (f, first) ← holding [ov] (getMethod ov m pl)
      callWith pos f first (backTo pos (starEach [] X.env)) (backToKw pos (keywordEach [] X.env))) := by rfl) :
    PE X (.Call (.Attribute o m apos) [] [] pos) (tMethE C m sp (WE W) ta tNil) := by
  obtain ⟨f, fd, ps, h1, h2, h3⟩ := h.ex
  exact pe_methE0 he c h1 h3 (hr.mono hk) h2 (fun σ => passAt tk σ) ht
theorem pe_hasM0n {pl : Sem Bool} (he : PE X o ta) (c : Cls X.K C) (h : HasM X.prog X.w X.K X.mg X.base C m CX0 j sp) (hr : Room k X.A) (hk : j ≤ k)
    (ht : eval (.Call (.Attribute o m apos) [] [] pos) X.env = (do
      let ov ← eval o X.env
      standAt apos.atName
      let (f, first) ← holding [ov] (getMethod ov m pl)
      callWith pos f first (backTo pos (starEach [] X.env)) (backToKw pos (keywordEach [] X.env))) := by rfl) :
    PE X (.Call (.Attribute o m apos) [] [] pos) (tMeth C m sp [] E0 ta tNil) := by
  obtain ⟨f, fd, ps, h1, h2, h3⟩ := h.ex
  exact pe_meth0 he c h1 h3 (hr.mono hk) h2 .nil pass0 ht
theorem pe_hasP (he : PE X e ta) (c : Cls X.K C) (h : HasP X.prog X.w X.K X.mg X.base C m j sp) (hr : Room k X.A) (hk : j + 1 ≤ k) (hab : attributeBase e m X.env (eval e X.env) = eval e X.env := by rfl) : PE X (.Attribute e m pos) (tProp C sp [] E0 ta) := by
  obtain ⟨p, g, fd, ps, h1, h2, h3⟩ := h.ex
  exact pe_prop he c h1 h3 (hr.mono hk) h2 .nil pass0 hab
theorem pe_hasMk (S : HasMk X.prog X.w X.K X.mg X.base x C j sp) (hr : Room k X.A) (hk : j + 1 ≤ k) (tk : Takes X W) (ha : PA X (e :: es) t) (hg : Gl X x := by rfl)
    (hdb : (x == ("__debug__" : Str)) = false := by decide) (he : starEach (e :: es) X.env = (false, eval e X.env) :: starEach es X.env := by rfl) (hpl : (backTo pos (starEach es X.env)).any (·.1) = false := by rfl) :
    PE X (.Call (.Name x p) (e :: es) [] pos) (tMakeE C sp (WE W) t) := by
  obtain ⟨f, fd, ps, h1, h2, h3⟩ := S.ex
  exact pe_makeE h1 h3 (hr.mono hk) hg S.g h2 (fun σ => passAt tk σ) ha hdb he hpl
theorem pe_hasMk0 (S : HasMk X.prog X.w X.K X.mg X.base x C j sp) (hr : Room k X.A) (hk : j + 1 ≤ k) (ha : PA X (e :: es) t) (hg : Gl X x := by rfl)
    (hdb : (x == ("__debug__" : Str)) = false := by decide) (he : starEach (e :: es) X.env = (false, eval e X.env) :: starEach es X.env := by rfl) (hpl : (backTo pos (starEach es X.env)).any (·.1) = false := by rfl) :
    PE X (.Call (.Name x p) (e :: es) [] pos) (tMake C (spNoX sp) [] E0 t) := by
  obtain ⟨f, fd, ps, h1, h2, h3⟩ := S.ex
  exact pe_make h1 (fnok_no h3) (hr.mono hk) hg S.g h2 .nil pass0 ha hdb he hpl
end
/-! ### what the law keeps -/
inductive Trk (n : Nat) (ts : List (List Int)) : List Int → List (List Int) → List Int → Prop
  | nil : Trk n ts [] [idt n] (idt n)
  | snoc {l : List Int} {ms : List (List Int)} {t : List Int} {i : Nat} {u : List Int} : Trk n ts l ms t → ts[i]? = some u → Trk n ts (l ++ [(i : Int)]) (ms ++ [comp t u]) (comp t u)
section
variable {n : Nat} {ts : List (List Int)} {l : List Int} {ms : List (List Int)} {t : List Int}
theorem Trk.len (h : Trk n ts l ms t) : ms.length = l.length + 1 := by
  induction h with
  | nil => rfl
  | snoc _ _ ih => rw [List.length_append, List.length_append, ih]; rfl
theorem Trk.last (h : Trk n ts l ms t) : ms.getLast? = some t := by
  cases h with
  | nil => rfl
  | snoc => simp
theorem Trk.is (h : Trk n ts l ms t) (its : ∀ u ∈ ts, IsT n u) : IsT n t := by
  induction h with
  | nil => exact idt_isT n
  | snoc _ hu ih => exact ih.comp (its _ (List.mem_of_getElem? hu))
theorem Trk.low (h : Trk n ts l ms t) : ∀ x ∈ l, 0 ≤ x ∧ x < (ts.length : Int) := by
  induction h with
  | nil => intro x hx; cases hx
  | @snoc l ms t i u _ hu ih =>
    intro x hx
    rcases List.mem_append.mp hx with hx | hx
    · exact ih x hx
    · have := (List.getElem?_eq_some_iff.mp hu).1
      rw [List.mem_singleton.mp hx]
      omega
theorem Trk.back {i : Nat} {u : List Int} (h : Trk n ts (l ++ [(i : Int)]) ms t) (its : ∀ u ∈ ts, IsT n u) (hu : ts[i]? = some u) : Trk n ts l ms.dropLast (comp t (inv u)) := by
  generalize e : l ++ [(i : Int)] = l' at h
  cases h with
  | nil => exact absurd e (by simp)
  | @snoc l0 ms0 t0 i0 u0 h0 hu0 =>
    obtain ⟨rfl, e2⟩ := List.append_inj' e rfl
    have e3 : (i : Int) = (i0 : Int) := List.head_eq_of_cons_eq e2
    have e4 : i = i0 := by omega
    subst e4
    rw [hu] at hu0
    cases hu0
    rw [List.dropLast_concat, comp_assoc (h0.is its) (its _ (List.mem_of_getElem? hu)), comp_inv (its _ (List.mem_of_getElem? hu)), comp_idt (h0.is its)]
    exact h0
end
theorem sIx_m1 (n d : Nat) : HT.sIx n d (some (-1)) = n - 1 := by
  show (if (-1 : Int) < 0 then ((-1 : Int) + (n : Int)).toNat else min (-1 : Int).toNat n) = n - 1
  rw [if_pos (by decide)]
  omega
theorem sIx_1 (n d : Nat) : HT.sIx n d (some 1) = min 1 n := HT.sIx_nat n d 1
/-- xs[:1] + xs[1:-1] -/
theorem cut_mid {xs : List V} : cutV xs none (some 1) ++ cutV xs (some 1) (some (-1)) = if xs.length ≤ 1 then xs else xs.dropLast := by
  unfold cutV
  rw [sIx_m1, sIx_1]
  show (xs.drop (HT.sIx xs.length 0 none)).take (HT.sIx xs.length xs.length (some 1) - HT.sIx xs.length 0 none) ++ _ = _
  rw [HT.sIx_none, sIx_1, List.drop_zero, Nat.sub_zero]
  match xs with
  | [] => rfl
  | [x] => rfl
  | x :: y :: r =>
    rw [if_neg (by simp only [List.length_cons]; omega), show min 1 (x :: y :: r).length = 1 by simp only [List.length_cons]; omega, List.dropLast_eq_take]
    show [x] ++ List.take ((x :: y :: r).length - 1 - 1) (y :: r) = List.take ((x :: y :: r).length - 1) (x :: y :: r)
    simp only [List.length_cons]
    rw [show r.length + 1 + 1 - 1 = r.length + 1 from rfl, show r.length + 1 - 1 = r.length from rfl, List.take_succ_cons]
    rfl
theorem cut_back {xs : List V} : cutV xs none (some (-1)) = xs.dropLast := by
  unfold cutV
  rw [sIx_m1, HT.sIx_none, List.drop_zero, Nat.sub_zero, List.dropLast_eq_take]
/-- t[lo:hi] of a tuple, the whole too -/
def rSlK (K : PySem.W.Frag) : V → Option Int → Option Int → Hp → VK → Prop := fun x lo hi H Q => ∃ a xs, x = .ref a ∧ SqT K H a xs ∧ ∀ p H', Kp H H' → SqT K H' p (cutV xs lo hi) → Q (.ref p) H'
theorem sl_tupK {X : Cx} : SlR X (rSlK X.K) := by
  intro pins s σ H x v vl vu lo hi sl Q I rx hs pl pu h
  obtain ⟨a, xs, rfl, hx, q⟩ := h
  refine sl_tupA pins s σ H _ v vl vu lo hi sl Q I rx hs pl pu ⟨a, xs, rfl, hx, fun hw => q a H (Kp.refl H) ?_, fun hw p hp => q p _ ((Kp.refl H).new hp) (SqT.of upd_same)⟩
  unfold cutV
  rw [hw.1, hw.2, List.drop_zero, Nat.sub_zero, List.take_length]
  exact hx
/-- t + u, u not empty -/
theorem catK {K : PySem.W.Frag} {H : Hp} {a b : Addr} {xs ys : List V} {Q : VK} (ha : SqT K H a xs) (hb : SqT K H b ys) (hz : xs.length + ys.length ≤ sizeLine) (q : ∀ p H', Kp H H' → SqT K H' p (xs ++ ys) → Q (.ref p) H') : rCatA K (.ref a) (.ref b) H Q :=
  ⟨a, b, xs, ys, rfl, rfl, ha, hb, hz, fun e => q b H (Kp.refl H) (by rw [e]; exact hb), fun _ e => q a H (Kp.refl H) (by rw [e, List.append_nil]; exact ha), fun _ _ p hp => q p _ ((Kp.refl H).new hp) (SqT.of upd_same)⟩
/-- x != () of a tuple of ints -/
theorem ne_nilI {K : PySem.W.Frag} {H : Hp} {Q : VK} {v : V} {t : List Int} {b : Addr} (h : TI K H v t) (hb : SqT K H b []) (q : Q (.bl (!decide (t = []))) H) : rNeD K v (.ref b) H Q := by
  obtain ⟨p, rfl, hp⟩ := h
  have sh : ∀ t : List Int, SeqAt.shaped (dInts t) = true := fun t => by
    unfold SeqAt.shaped
    rw [Bool.and_eq_true]
    exact ⟨lay_dInts t, decide_eq_true (by rw [dep_dInts]; omega)⟩
  refine ⟨dInts t, dInts [], .tup hp (dp_ints t), .tup hb .nil, sh t, sh [], ?_⟩
  have e : PyData.eqv (dInts t) (dInts []) = decide (t = []) := by
    unfold dInts PyData.eqv
    cases t with
    | nil => simp [PyData.eqvAll]
    | cons x l => simp [PyData.eqvAll]
  rw [e]
  exact q
section
variable {K : PySem.W.Frag} {H H' : Hp} {a rw C r sa pT pA ma : Addr} {n : Nat} {ts ms : List (List Int)} {line t : List Int} {v lv : V}
theorem SeatsAt.kp (h : SeatsAt K H a C rw n ts line t) (z : Kp H H') : SeatsAt K H' a C rw n ts line t := by
  obtain ⟨⟨dx, tv, wv, ha, hp, pw⟩, hrw, it, its, n8⟩ := h
  exact ⟨⟨dx, tv, wv, z.k _ _ ha (fun _ q => by cases q), z.pts hp, z.pt pw⟩, z.lst hrw, it, its, n8⟩
theorem SeatsAt.kpb (h : SeatsAt K H a C rw n ts line t) (z : KpB r H H') (ne : rw ≠ r) : SeatsAt K H' a C rw n ts line t := by
  obtain ⟨⟨dx, tv, wv, ha, hp, pw⟩, hrw, it, its, n8⟩ := h
  exact ⟨⟨dx, tv, wv, z.k _ _ ha (fun _ q => by cases q) (fun _ q => by cases q), NS.Tup.pts z.tup hp, NS.Tup.pt z.tup pw⟩, z.lst hrw ne, it, its, n8⟩
/-- the row of draws, the house, the seats, the law's own line and list -/
structure St8 (K : PySem.W.Frag) (H : Hp) (r sa : Addr) (v : V) (n : Nat) (ts : List (List Int)) (pT pA a C rw ma : Addr) (lv : V) (line : List Int) (ms : List (List Int)) (t : List Int) : Prop where
  sta : Sta K H r sa v n ts pT pA
  se : SeatsAt K H a C rw n ts line t
  hlv : TI K H lv line
  hma : ∃ us, H ma = some (.lst us) ∧ Paired (PT H) us ms
  trk : Trk n ts line ms t
  n1 : rw ≠ r
  n2 : sa ≠ rw ∨ ∃ ns : List Int, ∀ H, SqL K H sa (ns.map V.int)
  n3 : ma ≠ rw
  n4 : ma ≠ r
theorem St8.kp (h : St8 K H r sa v n ts pT pA a C rw ma lv line ms t) (z : Kp H H') : St8 K H' r sa v n ts pT pA a C rw ma lv line ms t := by
  obtain ⟨us, h1, h2⟩ := h.hma
  exact ⟨h.sta.kp z, h.se.kp z, z.ti h.hlv, ⟨us, z.lst h1, h2.mono fun _ _ q => z.pt q⟩, h.trk, h.n1, h.n2, h.n3, h.n4⟩
theorem St8.kpb (h : St8 K H r sa v n ts pT pA a C rw ma lv line ms t) (z : KpB r H H') (ra : RowAt H' r sa) : St8 K H' r sa v n ts pT pA a C rw ma lv line ms t := by
  obtain ⟨us, h1, h2⟩ := h.hma
  exact ⟨h.sta.kpb z ra, h.se.kpb z h.n1, z.tup.ti h.hlv, ⟨us, z.lst h1 h.n4, h2.mono fun _ _ q => NS.Tup.pt z.tup q⟩, h.trk, h.n1, h.n2, h.n3, h.n4⟩
theorem KpS.tup (z : KpS a rw H H') (ha : ∃ dx fs, H a = some (.ins C dx fs)) (hr : ∃ xs, H rw = some (.lst xs)) : Tup H H' := by
  obtain ⟨dx, fs, ha⟩ := ha
  obtain ⟨xs, hr⟩ := hr
  exact ⟨fun c ys e => z.k c _ e (fun _ q => by cases q) (fun q => by rw [q, ha] at e; cases e) (fun q => by rw [q, hr] at e; cases e),
    fun c o u e => z.k c _ e (fun _ q => by cases q) (fun q => by rw [q, ha] at e; cases e) (fun q => by rw [q, hr] at e; cases e)⟩
/-- what a step of the seats leaves of the rest -/
theorem St8.step (h : St8 K H r sa v n ts pT pA a C rw ma lv line ms t) (z : KpS a rw H H') : Sta K H' r sa v n ts pT pA ∧ TI K H' lv line ∧ ∃ us, H' ma = some (.lst us) ∧ Paired (PT H') us ms := by
  obtain ⟨us, h1, h2⟩ := h.hma
  obtain ⟨⟨dx, tv, wv, ha, _, _⟩, hrw, _⟩ := h.se
  have tz := z.tup ⟨_, _, ha⟩ ⟨_, hrw⟩
  have tab : ∀ {P : Addr}, GxR.TabG H P → GxR.TabG H' P := fun {P} g => by
    obtain ⟨ps, hP, hT⟩ := g
    obtain ⟨ps', h', u⟩ := z.t P ps hP
    exact ⟨ps', h', u.1 hT⟩
  have lst : ∀ {b : Addr} {xs : List V}, H b = some (.lst xs) → b ≠ rw → H' b = some (.lst xs) := fun {b xs} e ne => z.k b _ e (fun _ q => by cases q) (fun q => by rw [q, ha] at e; cases e) ne
  obtain ⟨⟨⟨i, sd, rest, hrow, hrest⟩, ns, hns⟩, hv, gT, gA⟩ := h.sta
  have dr : ∃ ns : List Int, SqL K H' sa (ns.map V.int) := by
    rcases h.n2 with ne | ⟨ns, e⟩
    · refine ⟨ns, ?_⟩
      rcases hns with (e | ⟨o, e⟩) | e
      · exact .inl (.inl (lst e ne))
      · exact .inl (.inr ⟨o, z.k _ _ e (fun _ q => by cases q) (fun q => by rw [q, ha] at e; cases e) (fun q => by rw [q, hrw] at e; cases e)⟩)
      · exact .inr e
    · exact ⟨ns, e H'⟩
  exact ⟨⟨⟨⟨i, sd, rest, lst hrow h.n1.symm, hrest⟩, dr⟩, NS.Tup.house tz hv, tab gT, tab gA⟩, tz.ti h.hlv, us, lst h1 h.n3, h2.mono fun _ _ q => NS.Tup.pt tz q⟩
theorem made_last {F : V → List Int → Prop} {us : List V} {ms : List (List Int)} {t : List Int} (h : Paired F us ms) (e : ms.getLast? = some t) : ∃ us0 w, us = us0 ++ [w] ∧ F w t := by
  have ne : ms ≠ [] := fun q => by rw [q] at e; cases e
  have hl := h.length
  have ne2 : us ≠ [] := fun q => by rw [q] at hl; exact ne (List.length_eq_zero_iff.mp hl.symm)
  obtain ⟨y, hy, f⟩ := pr_get h (i := us.length - 1) (x := us.getLast ne2) (by rw [← List.getLast?_eq_getElem?, List.getLast?_eq_some_getLast ne2])
  rw [hl, ← List.getLast?_eq_getElem?, e] at hy
  cases hy
  exact ⟨us.dropLast, us.getLast ne2, (List.dropLast_concat_getLast ne2).symm, f⟩
theorem pr_dropLast {α β : Type} {F : α → β → Prop} : ∀ {xs : List α} {ys : List β}, Paired F xs ys → Paired F xs.dropLast ys.dropLast
  | _, _, .nil => .nil
  | _, _, .cons p .nil => .nil
  | _, _, .cons p (.cons q t) => .cons p (pr_dropLast (.cons q t))
theorem pr_mid {F : V → List Int → Prop} {us : List V} {ms : List (List Int)} (h : Paired F us ms) : Paired F (cutV us none (some 1) ++ cutV us (some 1) (some (-1))) (if ms.length ≤ 1 then ms else ms.dropLast) := by
  rw [cut_mid, h.length]
  split
  · exact h
  · exact pr_dropLast h
end
/-- what may be drawn for a letter -/
theorem letter8 {K : PySem.W.Frag} {H : Hp} {m : Nat} {x : V} (hx : x ∈ (List.replicate (3 : Int).toNat (rgV 0 (m : Int))).flatten ++ [V.non, .int (m : Int), .int (0 - 1), .bl true, .str "0"]) :
    ∃ b, NumX K H 0 ((m : Int) - 1) x b ∧ (b = true → ∃ i : Nat, i < m ∧ x = .int (i : Int)) := by
  rcases List.mem_append.mp hx with hx | hx
  · obtain ⟨l, hl, hx⟩ := List.mem_flatten.mp hx
    rw [List.eq_of_mem_replicate hl, rgV_idt] at hx
    obtain ⟨i, hi, rfl⟩ := List.mem_map.mp hx
    have := mem_idt.mp hi
    refine ⟨true, .inl ⟨i, rfl, (decide_eq_true (by omega)).symm⟩, fun _ => ⟨i.toNat, by omega, by congr 1; omega⟩⟩
  · simp only [List.mem_cons, List.mem_nil_iff, or_false] at hx
    refine ⟨false, ?_, fun e => by cases e⟩
    rcases hx with rfl | rfl | rfl | rfl | rfl
    · exact .inr ⟨.inr ⟨"NoneType", fun _ _ => .base .non, by decide +kernel⟩, rfl⟩
    · exact .inl ⟨m, rfl, (decide_eq_false (by omega)).symm⟩
    · exact .inl ⟨_, rfl, (decide_eq_false (by omega)).symm⟩
    · exact .inr ⟨.inl ⟨_, rfl⟩, rfl⟩
    · exact .inr ⟨.inr ⟨"str", fun _ _ => .base (.str _), by decide +kernel⟩, rfl⟩
end NS
end
section
set_option maxHeartbeats 4000000
/-! LW8: law k08 -/
namespace NS
open PySem PySem.Spec PyProof.Rows L2 ZS
abbrev nLaw : List Str := ["script", "row", "house", "seats", "line", "made", "turn", "told", "e", "letter", "good"]
theorem scLaw : FnScope nLaw ["script"] (defScope sLaw) := ⟨rfl, rfl, rfl, by decide +kernel, rfl, by decide +kernel, by decide +kernel⟩
def spLaw (K : PySem.W.Frag) (pT pA : Addr) : Sp := fun vs H Q _ => ∃ (a : Addr) (ns : List Int), vs = [.ref a] ∧ SqL K H a (ns.map V.int) ∧ GxR.TabG H pT ∧ GxR.TabG H pA ∧ ∀ H', Q (.bl true) H'
/-- all the defs that the law calls -/
structure Defs (P : Program) (w : World) (K : PySem.W.Frag) (mg : Str → Option Value) (base : Heap) (pT pA C CB CN CS : Addr) : Prop where
  taken : Has P w K mg base "_law_taken" 1 [] (spTaken K)
  pick : Has P w K mg base "_law_pick" 2 [] (spPick K)
  house : Has P w K mg base "_law_house" 5 [] (spLHouse K)
  lstay : Has P w K mg base "_law_stayers" 1 [] spLStayers
  lthen : Has P w K mg base "_law_then" 1 [] (spThen K)
  alike : Has P w K mg base "_law_alike" 3 [] (spAlike K 2)
  seats : SeatsD P w K mg base pT pA C CB CN CS
  bh : mg "BadHouse" = some (.ref CB) ∧ PySem.W.exmOne K (.ref CB) (.ref CB) = some true
  bn : ExcC K mg "BadNumber" CN
  bs : ExcC K mg "BadStep" CS
section
variable {P : Program} {w : World} {K : PySem.W.Frag} {mg : Str → Option Value} {base : Heap} {f : Addr} {fd : FuncData} {pT pA C CB CN CS : Addr}
theorem ok_law (F : FnP K "law" sLaw f fd) (B : Bl mg) (M : Defs P w K mg base pT pA C CB CN CS) : FnOk P w K mg base CX0 10 f fd ["script"] (spLaw K pT pA) := by
  have Cl := M.seats.c.cl
  refine F.ok scLaw (fun vs H Q E h => ?_) (fun cdv A outer s H vs Q E hr h => ⟨_, PSs.nox (
    pss_cons (ps_set (i := 1) scLaw.nd rfl (Or.inl rfl) (pe_lst (pa_cons (pv 0) (pa_cons pe_int (pa_cons pe_int (pa_cons pe_int pa_nil))))))
    (pss_cons (ps_set (i := 2) scLaw.nd rfl (Or.inl rfl) (pe_has M.house hr (by decide) (pa_cons (pv 1) pa_nil)))
    (pss_cons (ps_par3 (i := 3) (j := 4) (l := 5) (by rfl) scLaw.nd rfl rfl rfl (by decide) (by decide) (by decide) rfl rfl rfl (pa_cons (pe_hasMk0 M.seats.made hr (by decide) (pa_cons (pv 2) pa_nil)) (pa_cons (pe_tup pa_nil) (pa_cons (pe_lst (pa_cons (pe_tupRgP rfl rfl B.tuple (prg_1 rfl B.range (pe_ix (r := rIxT K) ix_tup (pv 2) pe_int (fun _ _ => rfl)))) pa_nil)) pa_nil))) (by rfl))
    (pss_cons (ps_for PassesOwn.never rfl (pi_range1 rfl B.range (pa_cons (pe_has M.taken hr (by decide) (pa_cons (pv 1) (pa_cons pe_int pa_nil))) pa_nil)) (pg_name (i := 6) scLaw.nd rfl (Or.inl rfl))
      (pss_cons (ps_mid (ps_if (pt_cmpR op_eq (pe_has M.taken hr (by decide) (pa_cons (pv 1) (pa_cons pe_int pa_nil))) pe_int (nomark _))
        (pss_cons (ps_mid (ps_try_as (i := 8) rfl rfl scLaw.nd rfl rfl ⟨rfl, by decide, .inl M.bs.g⟩ takes0
            (fun W pn xe tk _ => pss_one (ps_set (i := 7) scLaw.nd rfl (Or.inl rfl) (pe_hasM0 (pv 3) Cl M.seats.undo hr (by decide) tk)))
            (fun a oe cls d pn hz hf => pss_one (ps_set (i := 7) scLaw.nd rfl (Or.inl rfl) pe_str))))
        (pss_cons (ps_mid (ps_if (pt_cmpR op_ne (pv 7) (pe_ifExp (pt_cmpR (op_neD hr.units) (pv 4) (pe_tup pa_nil) (nomark _)) pe_non pe_str) (nomark _)) pss_never pss_nil))
        (pss_one (ps_par (i := 4) (j := 5) (by rfl) scLaw.nd rfl rfl (by decide) rfl rfl (pa_cons (pe_slice sl_tupK (pv 4) po_none (po_some (pe_un un_neg pe_int))) (pa_cons (pe_op op_cat (pe_slice sl_list (pv 5) po_none (po_some pe_int)) (pe_slice sl_list (pv 5) (po_some pe_int) (po_some (pe_un un_neg pe_int)))) pa_nil)) (by rfl)))))
        (pss_cons (ps_mid (ps_set (i := 9) scLaw.nd rfl (Or.inl rfl) (pe_has M.pick hr (by decide) (pa_cons (pv 1) (pa_cons (pe_op op_cat (pe_op op_rep (pe_listRg rfl rfl B.list (prg_1 rfl B.range (pe_callB call_len_seq rfl B.len PySem.boot_len (pa_cons (pe_ix (r := rIxT K) ix_tup (pv 2) pe_int (fun _ _ => rfl)) pa_nil)))) pe_int) (pe_lst (pa_cons pe_non (pa_cons (pe_callB call_len_seq rfl B.len PySem.boot_len (pa_cons (pe_ix (r := rIxT K) ix_tup (pv 2) pe_int (fun _ _ => rfl)) pa_nil)) (pa_cons (pe_op op_sub pe_int pe_int) (pa_cons pe_bl (pa_cons pe_str pa_nil))))))) pa_nil)))))
        (pss_cons (ps_mid (ps_set (i := 10) scLaw.nd rfl (Or.inl rfl)
          (pe_and (pe_callB call_isi rfl B.isinstance PyProof.Rows.boot_isinstance (pa_cons (pv 9) (pa_cons (pe_bltn (v := .ty "int") rfl B.int PyProof.Rows.boot_int rfl) pa_nil)))
          (pe_and (pe_not (pe_callB call_isi rfl B.isinstance PyProof.Rows.boot_isinstance (pa_cons (pv 9) (pa_cons (pe_bltn (v := .ty "bool") rfl B.bool PyProof.Rows.boot_bool rfl) pa_nil))))
          (pe_one (pe_chain op_le op_lt pe_int (pv 9) (pe_callB call_len_seq rfl B.len PySem.boot_len (pa_cons (pe_ix (r := rIxT K) ix_tup (pv 2) pe_int (fun _ _ => rfl)) pa_nil))))))))
        (pss_cons (ps_mid (ps_try_as (i := 8) rfl rfl scLaw.nd rfl rfl ⟨rfl, by decide, .inl M.bn.g⟩ takes0
            (fun W pn xe tk _ => pss_one (ps_set (i := 7) scLaw.nd rfl (Or.inl rfl) (pe_hasM (pv 3) Cl M.seats.do_ hr (by decide) tk (pa_cons (pv 9) pa_nil))))
            (fun a oe cls d pn hz hf => pss_one (ps_set (i := 7) scLaw.nd rfl (Or.inl rfl) pe_str))))
        (pss_cons (ps_if (pt_cmpR op_ne (pv 7) (pe_ifExp (pt_val (pv 10)) pe_non pe_str) (nomark _)) pss_never pss_nil)
        (pss_one (ps_if (pt_val (pv 10))
          (pss_cons (ps_set (i := 4) scLaw.nd rfl (Or.inl rfl) (pe_op op_catA (pv 4) (pe_tup (pa_cons (pv 9) pa_nil))))
          (pss_one (ps_expr (pe_bm PySem.F.plainAttrs_list PySem.F.slot_list_append PySem.F.type_list_append mt_append (pv 5) (pa_cons (pe_has M.lthen hr (by decide) (pa_cons (pe_ix (r := rIxL K) ix_list (pv 5) (pe_un un_neg pe_int) (fun _ _ => rfl)) (pa_cons (pe_ix (r := rIxT K) ix_tup (pe_ix (r := rIxT K) ix_tup (pv 2) pe_int (fun _ _ => rfl)) (pv 9) (fun _ _ => rfl)) pa_nil))) pa_nil)))))
          pss_nil))))))))
      (pss_one (ps_if (pt_not (pt_val (pe_has M.alike hr (by decide) (pa_cons (pe_lst (pa_cons (pe_hasP (pv 3) Cl M.seats.row hr (by decide)) (pa_cons (pe_hasP (pv 3) Cl M.seats.where_ hr (by decide)) (pa_cons (pe_hasM0n (pv 3) Cl M.seats.stay hr (by decide)) pa_nil)))) (pa_cons (pe_lst (pa_cons (pv 4) (pa_cons (pe_ix (r := rIxL K) ix_list (pv 5) (pe_un un_neg pe_int) (fun _ _ => rfl)) (pa_cons (pe_has M.lstay hr (by decide) (pa_cons (pe_ix (r := rIxL K) ix_list (pv 5) (pe_un un_neg pe_int) (fun _ _ => rfl)) pa_nil)) pa_nil)))) pa_nil))))) pss_never pss_nil))))
    (pss_cons (ps_try_as (i := 8) rfl rfl scLaw.nd rfl rfl ⟨rfl, by decide, .inl M.bh.1⟩ takes0
      (fun W pn xe tk _ => pss_one (ps_expr (pe_hasMk M.seats.made hr (by decide) tk (pa_cons (pe_has M.pick hr (by decide) (pa_cons (pv 1) (pa_cons (pe_lst (pa_cons pe_non (pa_cons (pe_tup pa_nil) (pa_cons (pe_tup (pa_cons pe_int (pa_cons (pe_tup pa_nil) pa_nil))) (pa_cons (pe_tup (pa_cons pe_int (pa_cons (pe_tup (pa_cons (pe_tup (pa_cons pe_int (pa_cons pe_int pa_nil))) pa_nil)) pa_nil))) (pa_cons (pe_tup (pa_cons pe_int (pa_cons (pe_lst (pa_cons (pe_tup (pa_cons pe_int (pa_cons pe_int pa_nil))) pa_nil)) pa_nil))) pa_nil)))))) pa_nil))) pa_nil))))
      (fun a oe cls d pn hz hf => pss_one (ps_ret pe_bl)))
    (pss_one (ps_ret pe_bl))))))), ?_⟩)
  · obtain ⟨a, ns, rfl, _⟩ := h
    rfl
  · obtain ⟨sa, ns, rfl, hs, gT, gA, q⟩ := h
    refine ⟨_, rfl, ⟨(by show 4 ≤ sizeLine; decide), fun r hr0 => ?_⟩⟩
    have z1 := (Kp.refl H).new hr0 (o := .lst [.ref sa, .int 0, .int 5708, .int 0])
    have ra1 : RowAt (upd H r (.lst [.ref sa, .int 0, .int 5708, .int 0])) r sa := ⟨0, 5708, 0, upd_same, Int.le_refl _⟩
    have dr1 : Draws K (upd H r (.lst [.ref sa, .int 0, .int 5708, .int 0])) r sa := ⟨ra1, ns, z1.sqL hs⟩
    have gT1 := z1.tabG gT
    have gA1 := z1.tabG gA
    generalize upd H r (.lst [.ref sa, .int 0, .int 5708, .int 0]) = H1 at dr1 gT1 gA1 ⊢
    clear z1 ra1 hs gT gA hr0
    refine ⟨_, rfl, r, sa, rfl, dr1, fun v H2 n ts z2 ra2 gd hv => ?_⟩
    have hi := gd.1
    have n1 := hi.n1
    have n8 := hi.n8
    have t1 := hi.t1
    have t6 := hi.t6
    have S2 : Sta K H2 r sa v n ts pT pA := ⟨dr1.b z2 ra2, hv, z2.tabG gT1, z2.tabG gA1⟩
    clear dr1 gT1 gA1 z2 ra2 hv H1
    -- the seats
    refine ⟨_, rfl, fun a dx ha0 hdx0 ne => ?_⟩
    have zA := ((Kp.refl H2).new hdx0 (o := .own a)).new (p := a) (by rw [upd_ne (Ne.symm ne)]; exact ha0) (o := .ins C dx [])
    refine ⟨a, dx, v, .non, rfl, upd_same, faultX_house (zA.house S2.hv) hi, zA.tabG S2.gT, zA.tabG S2.gA, fun e => absurd rfl e, fun _ => ⟨n, ts, zA.house S2.hv, hi, fun H3 rw tv wv zk hins hrw hrw0 hpts hpt => ⟨rfl, ?_⟩⟩⟩
    have hrw2 := zA.none hrw0
    have z3 : Kp H2 H3 := ⟨fun b o e nt => zk.k b o (zA.k b o e nt) nt (fun q => by rw [q, ha0] at e; cases e), fun b ps e => by
      obtain ⟨p1, h1, u1⟩ := zA.t b ps e
      obtain ⟨p2, h2, u2⟩ := zk.t b p1 h1
      exact ⟨p2, h2, u1.trans u2⟩⟩
    have n1' : rw ≠ r := fun e => by
      obtain ⟨xs, q⟩ := S2.dr.1.lst
      rw [e, q] at hrw2
      cases hrw2
    have n2' : sa ≠ rw ∨ ∃ ns : List Int, ∀ H, SqL K H sa (ns.map V.int) := by
      obtain ⟨ns, hns⟩ := S2.dr.2
      rcases hns with (e | ⟨o, e⟩) | e
      · exact .inl fun q => by rw [q, hrw2] at e; cases e
      · exact .inl fun q => by rw [q, hrw2] at e; cases e
      · exact .inr ⟨ns, fun _ => .inr e⟩
    have S3 := S2.kp z3
    have se3 : SeatsAt K H3 a C rw n ts [] (idt n) := ⟨⟨dx, tv, wv, hins, hpts, hpt⟩, hrw, idt_isT n, hi.is, n8⟩
    clear S2 z3 zk zA hins hrw hrw0 hpts hpt hrw2 ha0 hdx0 ne H2 tv wv
    refine ⟨Nat.zero_le _, fun p4 h4 => ?_⟩
    have z4 := (Kp.refl H3).new h4 (o := .tup [])
    have lv4 : TI K (upd H3 p4 (.tup [])) (.ref p4) [] := TI.of (by rw [upd_same]; rfl)
    have S4 := S3.kp z4
    have se4 := se3.kp z4
    generalize upd H3 p4 (.tup []) = H4 at S4 se4 lv4 ⊢
    clear S3 se3 z4 h4 H3
    obtain ⟨ha, tv, rfl, hT, tb, xs, rfl, hTb, hp⟩ := id S4.hv
    refine ⟨_, rfl, ha, _, 0, _, rfl, rfl, hT, rfl, n, rfl, RgOk.of_le (by decide) (by omega) (by decide) (by omega), fun p5 o5 h5 ho5 => ⟨(by show 1 ≤ sizeLine; decide), fun ma hma => ?_⟩⟩
    have z5 := (Kp.refl H4).new h5 (o := .frz o5 (.tup (rgV 0 n)))
    have z6 := (Kp.refl _).new hma (o := .lst [.ref p5])
    have pt5 : PT (upd (upd H4 p5 (.frz o5 (.tup (rgV 0 n)))) ma (.lst [.ref p5])) (.ref p5) (idt n) := z6.pt (.of (by rw [upd_same, rgV_idt]) ho5)
    have nmr : ∀ b, (∃ xs, H4 b = some (.lst xs)) → ma ≠ b := fun b ⟨xs, e⟩ q => by
      have := z5.lst e
      rw [← q, hma] at this
      cases this
    have S6 : St8 K (upd (upd H4 p5 (.frz o5 (.tup (rgV 0 n)))) ma (.lst [.ref p5])) r sa (.ref ha) n ts pT pA a C rw ma (.ref p4) [] [idt n] (idt n) :=
      ⟨S4.kp (z5.trans z6), se4.kp (z5.trans z6), (z5.trans z6).ti lv4, ⟨_, upd_same, .cons pt5 .nil⟩, .nil, n1', n2', nmr _ ⟨_, se4.row⟩, nmr _ S4.dr.1.lst⟩
    generalize upd (upd H4 p5 (.frz o5 (.tup (rgV 0 n)))) ma (.lst [.ref p5]) = H6 at S6 ⊢
    clear z5 z6 pt5 nmr S4 se4 lv4 hma h5 hT hTb hp H4 n1' n2' xs tb
    refine ⟨_, _, _, rfl, ?_⟩
    -- the loop
    refine ⟨_, rfl, r, sa, 20, rfl, S6.sta.dr, by decide, by decide, fun k H7 z7 ra7 k0 k20 => ?_⟩
    have S7 := S6.kpb z7 ra7
    clear S6 z7 ra7 H6
    obtain ⟨m, rfl⟩ : ∃ m : Nat, k = (m : Int) := ⟨k.toNat, by omega⟩
    refine ⟨_, rfl, by omega, by omega, ?_⟩
    refine forG (Wlk.rng (H := fun _ => none) 0 m) (fun i σ H' => ∃ ma lv line ms t x6 x7 x9 x10, σ = [some (.ref sa), some (.ref r), some (.ref ha), some (.ref a), some lv, some (.ref ma), x6, x7, none, x9, x10] ∧ St8 K H' r sa (.ref ha) n ts pT pA a C rw ma lv line ms t ∧ line.length ≤ i)
      ⟨ma, _, _, _, _, _, _, _, _, rfl, S7, Nat.le_refl _⟩ (fun i σ H' _ _ => ⟨fun b o e => (by cases e), fun b o e => (by cases e)⟩) (fun i x σ H8 H9 hi9 hpv z9 hx => ?_) (fun σ H8 hpv => ?_)
    · obtain ⟨ma, lv, line, ms, t, x6, x7, x9, x10, rfl, S8, hl⟩ := hpv
      have S9 := S8.kp z9
      clear S8 z9 S7 hx
      refine ⟨fun σ H' => ∃ ma lv line ms t x6 x7 x9 x10, σ = [some (.ref sa), some (.ref r), some (.ref ha), some (.ref a), some lv, some (.ref ma), x6, x7, none, x9, x10] ∧ St8 K H' r sa (.ref ha) n ts pT pA a C rw ma lv line ms t ∧ line.length ≤ i + 1, ?rest, ?body⟩
      case rest =>
        clear S9 hl
        rintro σ H10 ⟨ma, lv, line, ms, t, x6, x7, x9, x10, rfl, S10, hl⟩
        have ll : line.length ≤ 1000 := by omega
        have tl := (S10.trk.is hi.is).len
        obtain ⟨⟨dx, tv, wv, hins, _, _⟩, _⟩ := id S10.se
        refine ⟨_, rfl, a, dx, _, rfl, hins, a, rw, n, ts, line, t, rfl, S10.se, ll, fun v1 H11 z11 pt1 => ?_⟩
        have S11 := S10.kp z11
        obtain ⟨⟨dx, tv, wv, hins, _, _⟩, _⟩ := id S11.se
        refine ⟨_, rfl, a, dx, _, rfl, hins, a, rw, n, ts, line, t, rfl, S11.se, ll, fun v2 H12 z12 pt2 => ?_⟩
        have S12 := S11.kp z12
        obtain ⟨⟨dx, tv, wv, hins, _, _⟩, _⟩ := id S12.se
        refine ⟨_, rfl, a, dx, _, rfl, hins, rfl, a, rw, n, ts, line, t, rfl, S12.se, ll, fun v3 H13 z13 pt3 => ⟨(by show 3 ≤ sizeLine; decide), fun p1 hp1 => ?_⟩⟩
        have z14 := (Kp.refl H13).new hp1 (o := .lst [v1, v2, v3])
        have S14 := (S12.kp z13).kp z14
        have pt1' := ((z12.trans z13).trans z14).pt pt1
        have pt2' := (z13.trans z14).pt pt2
        have pt3' := z14.pt pt3
        have hp1' : upd H13 p1 (.lst [v1, v2, v3]) p1 = some (.lst [v1, v2, v3]) := upd_same
        generalize upd H13 p1 (.lst [v1, v2, v3]) = H14 at S14 pt1' pt2' pt3' hp1' ⊢
        clear z11 z12 z13 z14 pt1 pt2 pt3 hp1 S10 S11 S12 hins
        obtain ⟨us, hus, pus⟩ := S14.hma
        obtain ⟨us0, wt, rfl, pw⟩ := made_last pus S14.trk.last
        refine ⟨_, rfl, _, rfl, 1, rfl, ma, _, -1, _, rfl, rfl, SqL.of hus, atI_last us0 wt, ?_⟩
        refine ⟨_, rfl, 1, rfl, ma, _, -1, _, rfl, rfl, SqL.of hus, atI_last us0 wt, wt, t, rfl, pw, by omega, fun v4 H15 z15 pt4 => ⟨(by show 3 ≤ sizeLine; decide), fun p2 hp2 => ?_⟩⟩
        have z16 := (Kp.refl H15).new hp2 (o := .lst [lv, wt, v4])
        have z17 := z15.trans z16
        have kl := kept_len t
        refine ⟨_, _, .lst [dT line, dT t, dT (keptL t)], rfl, ?_, small_lst (by show 3 ≤ 10000; decide) (smalls_cons (dT_small (by omega)) (smalls_cons (dT_small (by omega)) (smalls_cons (dT_small (by omega)) smalls_nil))), dt_lst (z17.sqL (SqL.of hp1')) (dts_cons (pt_dt (z17.pt pt1')) (dts_cons (pt_dt (z17.pt pt2')) (dts_cons (pt_dt (z17.pt pt3')) dts_nil))), dt_lst (SqL.of upd_same) (dts_cons (NS.TI.dt (z17.ti S14.hlv)) (dts_cons (pt_dt (z17.pt pw)) (dts_cons (pt_dt (z16.pt pt4)) dts_nil))), fun H17 z18 => ?_⟩
        · rw [depth_lst, depths_cons, depths_cons, depths_cons, depths_nil, dT_depth, dT_depth, dT_depth]
          decide
        · exact ⟨_, rfl, ifF (A := _) (B := _) rfl ⟨ma, lv, line, ms, t, _, _, _, _, rfl, (S14.kp z17).kp z18, hl⟩⟩
      case body =>
        refine ⟨_, rfl, r, sa, 4, rfl, S9.sta.dr, by decide, by decide, fun k H10 z10 ra10 k0 k4 => ⟨rfl, _, rfl, ?_⟩⟩
        have S10 := S9.kpb z10 ra10
        clear S9 z10 ra10
        by_cases ek : k = 0
        · subst ek
          refine ifT (A := _) (B := _) (by decide +kernel) ?_
          -- a step back
          refine ⟨fun σ H' => ∃ tl t', σ = [some (.ref sa), some (.ref r), some (.ref ha), some (.ref a), some lv, some (.ref ma), some x, some tl, none, x9, x10] ∧ tl = (if line = [] then .str "none" else .non) ∧ Sta K H' r sa (.ref ha) n ts pT pA ∧ TI K H' lv line ∧ (∃ us, H' ma = some (.lst us) ∧ Paired (PT H') us ms) ∧
            SeatsAt K H' a C rw n ts line.dropLast t' ∧ Trk n ts line.dropLast (if ms.length ≤ 1 then ms else ms.dropLast) t', ?u2, ?u1⟩
          case u1 =>
            obtain ⟨⟨dx, tv, wv, hins, _, _⟩, _⟩ := id S10.se
            refine ⟨_, rfl, a, dx, _, rfl, hins, rfl, a, rw, n, ts, line, t, rfl, S10.se, t6, by omega, S10.trk.low, fun el => ⟨true, M.bs.m, fun _ ea hea => ?_, fun h => (by cases h)⟩, fun ln j u el hu H11 zs se11 => ?_⟩
            · subst el
              have lm := S10.trk.len
              refine ⟨_, t, rfl, rfl, S10.sta, S10.hlv, S10.hma, S10.se, ?_⟩
              rw [if_pos (by rw [lm]; exact Nat.le_refl 1)]
              exact S10.trk
            · obtain ⟨st11, lv11, ma11⟩ := S10.step zs
              have lm := S10.trk.len
              subst el
              rw [List.length_append] at lm
              refine ⟨.non, comp t (inv u), rfl, (if_neg (by simp)).symm, st11, lv11, ma11, by rw [List.dropLast_concat]; exact se11, ?_⟩
              rw [if_neg (by rw [lm]; simp), List.dropLast_concat]
              exact S10.trk.back hi.is hu
          case u2 =>
            have q1 := S10.n1
            have q2 := S10.n2
            have q3 := S10.n3
            have q4 := S10.n4
            have lm0 := S10.trk.len
            clear S10
            rintro σ H11 ⟨tl, t', rfl, etl, st11, lv11, ⟨us, hus, pus⟩, se11, trk11⟩
            refine ⟨fun σ H' => σ = [some (.ref sa), some (.ref r), some (.ref ha), some (.ref a), some lv, some (.ref ma), some x, some tl, none, x9, x10] ∧ Sta K H' r sa (.ref ha) n ts pT pA ∧ TI K H' lv line ∧ (H' ma = some (.lst us) ∧ Paired (PT H') us ms) ∧ SeatsAt K H' a C rw n ts line.dropLast t', ?v2, ?v1⟩
            case v1 =>
              refine ⟨_, rfl, _, rfl, Nat.zero_le _, fun b hb => ?_⟩
              have zb := (Kp.refl H11).new hb (o := .tup [])
              refine ne_nilI (zb.ti lv11) (SqT.of upd_same) ⟨_, rfl, ?_⟩
              by_cases el : line = []
              · rw [if_pos el] at etl
                subst etl
                refine ifF (A := _) (B := _) (by rw [decide_eq_true el]; rfl) ?_
                exact ⟨rfl, _, rfl, ifF (A := _) (B := _) (by decide +kernel) ⟨rfl, st11.kp zb, zb.ti lv11, ⟨zb.lst hus, pus.mono fun _ _ q => zb.pt q⟩, se11.kp zb⟩⟩
              · rw [if_neg el] at etl
                subst etl
                refine ifT (A := _) (B := _) (by rw [decide_eq_false el]; rfl) ?_
                exact ⟨rfl, _, rfl, ifF (A := _) (B := _) (by decide +kernel) ⟨rfl, st11.kp zb, zb.ti lv11, ⟨zb.lst hus, pus.mono fun _ _ q => zb.pt q⟩, se11.kp zb⟩⟩
            case v2 =>
              clear st11 lv11 hus pus se11 etl
              rintro σ H12 ⟨rfl, st12, lv12, ⟨hus, pus⟩, se12⟩
              obtain ⟨pl, rfl, hpl⟩ := id lv12
              -- line[:-1]
              refine ⟨_, rfl, 1, rfl, _, rfl, pl, _, rfl, hpl, fun p6 H13 z13 h6 => ?_⟩
              have h6' : TI K H13 (.ref p6) line.dropLast := ⟨p6, rfl, by rw [cut_back, ← List.map_dropLast] at h6; exact h6⟩
              have hus13 := z13.lst hus
              have pus13 := pus.mono fun _ _ q => z13.pt q
              have st13 := st12.kp z13
              have se13 := se12.kp z13
              have xl := pus.length
              have ml := trk11.len
              clear st12 lv12 hus pus se12 z13 h6 hpl
              refine ⟨_, rfl, 1, rfl, ma, us, rfl, SqL.of hus13, fun p7 hp7 => ?_⟩
              have z7 := (Kp.refl H13).new hp7 (o := .lst (cutV us none (some 1)))
              refine ⟨_, rfl, 1, rfl, 1, rfl, _, rfl, ma, us, rfl, SqL.of (z7.lst hus13), fun p8 hp8 => ?_⟩
              have z8 := (Kp.refl _).new hp8 (o := .lst (cutV us (some 1) (some (-1))))
              have c1 := cutV_length us none (some 1)
              have c2 := cutV_length us (some 1) (some (-1))
              refine ⟨p7, p8, _, _, rfl, rfl, z8.lst upd_same, upd_same, by rw [sizeLine_eq]; omega, fun p9 hp9 => ?_⟩
              have z9 := (Kp.refl _).new hp9 (o := .lst (cutV us none (some 1) ++ cutV us (some 1) (some (-1))))
              have z79 := (z7.trans z8).trans z9
              have st9 := st13.kp z79
              have se9 := se13.kp z79
              refine ⟨_, _, rfl, p9, _, _, _, t', _, _, _, _, rfl, ⟨st9, se9, z79.ti h6', ⟨_, upd_same, ?_⟩, trk11, q1, q2, ?_, ?_⟩, ?_⟩
              · exact pr_mid (pus13.mono fun _ _ q => z79.pt q)
              · intro e
                have := (z7.trans z8).lst se13.row
                rw [← e, hp9] at this
                cases this
              · intro e
                obtain ⟨ys, hr'⟩ := st13.dr.1.lst
                have := (z7.trans z8).lst hr'
                rw [← e, hp9] at this
                cases this
              · rw [List.length_dropLast]
                omega
        · refine ifF (A := _) (B := _) (decide_eq_false fun e => ek (V.int.inj e)) ?_
          -- a letter
          refine ⟨fun σ H' => ∃ y b, σ = [some (.ref sa), some (.ref r), some (.ref ha), some (.ref a), some lv, some (.ref ma), some x, x7, none, some y, x10] ∧ St8 K H' r sa (.ref ha) n ts pT pA a C rw ma lv line ms t ∧ NumX K H' 0 ((ts.length : Int) - 1) y b ∧ (b = true → ∃ i : Nat, i < ts.length ∧ y = .int (i : Int)), ?u2, ?u1⟩
          case u1 =>
            obtain ⟨_, tv, e1, hT, tb, xs, rfl, hTb, hp⟩ := id S10.sta.hv
            cases e1
            have xl := hp.length
            refine ⟨_, rfl, _, rfl, ha, _, 1, _, rfl, rfl, hT, rfl, tb, xs, rfl, .inr hTb, _, rfl, RgOk.of_le (by decide) (by omega) (by decide) (by omega), fun p1 hp1 => ?_⟩
            have z11 := (Kp.refl H10).new hp1 (o := .lst (rgV 0 xs.length))
            refine ⟨p1, 3, _, rfl, rfl, upd_same, by decide, by decide, by rw [rgV_length, sizeLine_eq, show (3 : Int).toNat = 3 from rfl]; omega, fun p2 hp2 => ?_⟩
            have z12 := (Kp.refl _).new hp2 (o := .lst (List.replicate (3 : Int).toNat (rgV 0 xs.length)).flatten)
            have z02 := z11.trans z12
            refine ⟨_, rfl, ha, _, 1, _, rfl, rfl, z02.sqT hT, rfl, tb, xs, rfl, .inr (z02.sqT hTb), _, _, rfl, rfl, (by show 5 ≤ sizeLine; decide), fun p3 hp3 => ?_⟩
            have z13 := (Kp.refl _).new hp3 (o := .lst [V.non, .int (xs.length : Int), .int (0 - 1), .bl true, .str "0"])
            have z03 := z02.trans z13
            have lf : (List.replicate (3 : Int).toNat (rgV 0 (xs.length : Int))).flatten.length ≤ 18 := by
              have : (rgV 0 (xs.length : Int)).length = xs.length := by rw [rgV_length]; omega
              show ([rgV 0 (xs.length : Int), rgV 0 (xs.length : Int), rgV 0 (xs.length : Int)]).flatten.length ≤ 18
              simp only [List.flatten_cons, List.length_append, List.flatten_nil, List.length_nil, this]
              omega
            refine ⟨p2, p3, _, _, rfl, rfl, z13.lst upd_same, upd_same, by rw [sizeLine_eq]; simp only [List.length_cons, List.length_nil]; omega, fun p4 hp4 => ?_⟩
            have z14 := (Kp.refl _).new hp4 (o := .lst ((List.replicate (3 : Int).toNat (rgV 0 xs.length)).flatten ++ [V.non, .int (xs.length : Int), .int (0 - 1), .bl true, .str "0"]))
            have z04 := z03.trans z14
            have S14 := S10.kp z04
            refine ⟨r, sa, p4, _, rfl, S14.sta.dr, fun e => ?_, SqL.of upd_same, by simp, by simp only [List.length_append, List.length_cons, List.length_nil]; omega, fun y H15 z15 ra15 hy => ?_⟩
            · obtain ⟨ys, hr'⟩ := S10.sta.dr.1.lst
              have := z03.lst hr'
              rw [← e, hp4] at this
              cases this
            · obtain ⟨b, nx, nb⟩ := letter8 (K := K) (H := H15) hy
              rw [xl] at nx nb
              exact ⟨y, b, rfl, S14.kpb z15 ra15, nx, nb⟩
          case u2 =>
            clear S10
            rintro σ H11 ⟨y, b, rfl, S11, nx, nb⟩
            refine ⟨fun σ H' => σ = [some (.ref sa), some (.ref r), some (.ref ha), some (.ref a), some lv, some (.ref ma), some x, x7, none, some y, some (.bl b)] ∧ H' = H11, ?v2, ?v1⟩
            case v1 =>
              obtain ⟨_, tv, e1, hT, tb, xs, rfl, hTb, hp⟩ := id S11.sta.hv
              cases e1
              have xl := hp.length
              obtain ⟨i, rfl, rfl⟩ | ⟨⟨c, rfl⟩ | ⟨t, ty, k⟩, rfl⟩ := id nx
              · refine ⟨_, rfl, _, _, _, _, true, rfl, .ty "int", .base (.int i), kit_ty (by decide +kernel), _, rfl, ?_⟩
                refine iteT (B := _) ⟨_, rfl, _, _, _, _, false, rfl, .ty "bool", .base (.int i), kit_ty (by decide +kernel), _, rfl, _, rfl, ?_⟩
                refine iteT (B := _) ⟨_, rfl, _, _, rfl, rfl, _, rfl, ?_⟩
                by_cases h1 : 0 ≤ i
                · rw [if_pos (decide_eq_true h1)]
                  refine ⟨_, rfl, ha, _, 1, _, rfl, rfl, hT, rfl, tb, xs, rfl, .inr hTb, _, _, rfl, rfl, ?_⟩
                  have e : decide (0 ≤ i ∧ i ≤ (ts.length : Int) - 1) = decide (i < (xs.length : Int)) := decide_eq_decide.mpr ⟨fun h => by omega, fun h => by omega⟩
                  rw [e]
                  exact ⟨rfl, rfl⟩
                · rw [if_neg (by simp [h1])]
                  have e : decide (0 ≤ i ∧ i ≤ (ts.length : Int) - 1) = false := by simp [h1]
                  rw [e]
                  exact ⟨rfl, rfl⟩
              · refine ⟨_, rfl, _, _, _, _, true, rfl, .ty "int", .base (.bl c), kit_ty (by decide +kernel), _, rfl, ?_⟩
                refine iteT (B := _) ⟨_, rfl, _, _, _, _, true, rfl, .ty "bool", .base (.bl c), kit_ty (by decide +kernel), _, rfl, _, rfl, ?_⟩
                exact iteF (A := _) ⟨rfl, rfl⟩
              · refine ⟨_, rfl, _, _, _, _, false, rfl, .ty "int", ty H11 (Kp.refl H11), kit_ty k, _, rfl, ?_⟩
                exact iteF (A := _) ⟨rfl, rfl⟩
            case v2 =>
              rintro σ H12 ⟨rfl, rfl⟩
              refine ⟨fun σ H' => ∃ tl, σ = [some (.ref sa), some (.ref r), some (.ref ha), some (.ref a), some lv, some (.ref ma), some x, some tl, none, some y, some (.bl b)] ∧ tl = (if b = true then .non else .str "bad") ∧ ((b = false ∧ St8 K H' r sa (.ref ha) n ts pT pA a C rw ma lv line ms t) ∨
                ∃ (j : Nat) (u : List Int), b = true ∧ y = .int (j : Int) ∧ ts[j]? = some u ∧ Sta K H' r sa (.ref ha) n ts pT pA ∧ TI K H' lv line ∧ (∃ us, H' ma = some (.lst us) ∧ Paired (PT H') us ms) ∧ SeatsAt K H' a C rw n ts (line ++ [(j : Int)]) (comp t u)), ?w2, ?w1⟩
              case w1 =>
                obtain ⟨⟨dx, tv, wv, hins, _, _⟩, _⟩ := id S11.se
                refine ⟨_, rfl, a, dx, _, rfl, hins, rfl, _, rfl, a, rw, n, ts, line, t, y, b, rfl, S11.se, t6, by omega, nx, fun eb => ⟨true, M.bn.m, fun _ ea hea => ?_, fun h => (by cases h)⟩, fun eb j ey u hu H12 zs se12 => ?_⟩
                · subst eb
                  exact ⟨_, rfl, rfl, .inl ⟨rfl, S11⟩⟩
                · subst eb ey
                  obtain ⟨st12, lv12, ma12⟩ := S11.step zs
                  exact ⟨_, rfl, rfl, .inr ⟨j, u, rfl, rfl, hu, st12, lv12, ma12, se12⟩⟩
              case w2 =>
                have q1 := S11.n1
                have q2 := S11.n2
                have q3 := S11.n3
                have q4 := S11.n4
                have trk := S11.trk
                clear S11 nx nb
                rintro σ H12 ⟨tl, rfl, etl, ⟨rfl, S12⟩ | ⟨j, u, rfl, rfl, hu, st12, lv12, ⟨us, hus, pus⟩, se12⟩⟩
                · rw [if_neg Bool.false_ne_true] at etl
                  subst etl
                  refine ⟨_, rfl, _, rfl, _, rfl, ifF (A := _) (B := _) rfl ⟨rfl, _, rfl, ifF (A := _) (B := _) (by decide +kernel) ?_⟩⟩
                  refine ⟨_, rfl, _, rfl, ifF (A := _) (B := _) rfl ?_⟩
                  exact ⟨ma, lv, line, ms, t, _, _, _, _, rfl, S12, by omega⟩
                · rw [if_pos rfl] at etl
                  subst etl
                  refine ⟨_, rfl, _, rfl, _, rfl, ifT (A := _) (B := _) rfl ⟨rfl, _, rfl, ifF (A := _) (B := _) (by decide +kernel) ?_⟩⟩
                  refine ⟨_, rfl, _, rfl, ifT (A := _) (B := _) rfl ?_⟩
                  obtain ⟨pl, rfl, hpl⟩ := id lv12
                  refine ⟨_, rfl, _, rfl, (by show 1 ≤ sizeLine; decide), fun p6 hp6 => ?_⟩
                  have z6 := (Kp.refl H12).new hp6 (o := .tup [.int (j : Int)])
                  refine catK (z6.sqT hpl) (SqT.of upd_same) (by rw [sizeLine_eq, List.length_map]; simp only [List.length_cons, List.length_nil]; omega) fun p7 H13 z7 h7 => ?_
                  have lv13 : TI K H13 (.ref p7) (line ++ [(j : Int)]) := ⟨p7, rfl, by rw [List.map_append]; exact h7⟩
                  have z67 := z6.trans z7
                  have st13 := st12.kp z67
                  have se13 := se12.kp z67
                  have hus13 := z67.lst hus
                  have pus13 := pus.mono fun _ _ q => z67.pt q
                  clear st12 se12 hus pus z6 z7 z67 h7 hpl lv12 hp6
                  obtain ⟨us0, wt, rfl, pw⟩ := made_last pus13 trk.last
                  obtain ⟨_, tv, e1, hT, tb, xs, rfl, hTb, hp⟩ := id st13.hv
                  cases e1
                  have iu := hi.is _ (List.mem_of_getElem? hu)
                  have it := trk.is hi.is
                  have hj : j < ts.length := (List.getElem?_eq_some_iff.mp hu).1
                  have xl := hp.length
                  obtain ⟨u', hu', pu⟩ := pr_get hp (List.getElem?_eq_getElem (show j < xs.length by omega))
                  rw [hu] at hu'
                  cases hu'
                  have lm := trk.len
                  have ul := pus13.length
                  refine ⟨_, rfl, .inl ⟨rfl, _, SqL.of hus13⟩, ?_⟩
                  refine ⟨_, rfl, 1, rfl, ma, _, -1, _, rfl, rfl, SqL.of hus13, atI_last us0 wt, ?_⟩
                  refine ⟨_, rfl, ha, _, 1, _, rfl, rfl, hT, rfl, _, rfl, tb, xs, (j : Int), _, rfl, rfl, hTb, atI_nat (List.getElem?_eq_getElem (show j < xs.length by omega)), ?_⟩
                  refine ⟨wt, _, t, u, rfl, pw.ti, pu.ti, by rw [iu.len]; exact it.low, by rw [it.len]; omega, fun rv H14 z14 pr => ?_⟩
                  have hus14 := z14.lst hus13
                  refine ⟨ma, _, rv, rfl, rfl, hus14, by rw [sizeLine_eq]; omega, ?_⟩
                  have st14 := st13.kp z14
                  have zb : KpB ma H14 (upd H14 ma (.lst (us0 ++ [wt] ++ [rv]))) := (KpB.refl H14).row hus14
                  obtain ⟨ra1, nn, hnn⟩ := id st14.dr
                  obtain ⟨ri, rsd, rrest, hrow, hrest⟩ := id ra1
                  have row' : RowAt (upd H14 ma (.lst (us0 ++ [wt] ++ [rv]))) r sa := ⟨ri, rsd, rrest, by rw [upd_ne q4.symm]; exact hrow, hrest⟩
                  have dr' : ∃ ns : List Int, SqL K (upd H14 ma (.lst (us0 ++ [wt] ++ [rv]))) sa (ns.map V.int) := by
                    refine ⟨nn, ?_⟩
                    rcases hnn with (e | ⟨o, e⟩) | e
                    · refine .inl (.inl (zb.lst e fun q => ?_))
                      rw [q, hus14] at e
                      have e2 := HO.lst.inj (Option.some.inj e)
                      have m1 : wt ∈ nn.map V.int := by rw [← e2]; simp
                      obtain ⟨i1, _, e3⟩ := List.mem_map.mp m1
                      obtain ⟨pa, po, e4, _⟩ := pw
                      rw [e4] at e3
                      cases e3
                    · exact .inl (.inr ⟨o, zb.k _ _ e (fun _ q => by cases q) (fun _ q => by cases q)⟩)
                    · exact .inr e
                  refine ⟨ma, _, line ++ [(j : Int)], ms ++ [comp t u], comp t u, _, _, _, _, rfl, ⟨⟨⟨row', dr'⟩, NS.Tup.house zb.tup st14.hv, zb.tabG st14.gT, zb.tabG st14.gA⟩, (se13.kp z14).kpb zb q3.symm, zb.tup.ti (z14.ti lv13), ⟨_, upd_same, ?_⟩, trk.snoc hu, q1, q2, q3, q4⟩, by simp only [List.length_append, List.length_cons, List.length_nil]; omega⟩
                  exact Paired.snoc (pus13.mono fun _ _ q => NS.Tup.pt zb.tup (z14.pt q)) (NS.Tup.pt zb.tup pr)
    · obtain ⟨ma, lv, line, ms, t, x6, x7, x9, x10, rfl, S8, hl⟩ := hpv
      clear S7
      have St := S8.sta
      clear S8
      refine ⟨_, rfl, Nat.zero_le _, fun o1 h1 => ⟨Nat.zero_le _, fun b2 g2 => ⟨(by show 2 ≤ sizeLine; decide), fun o2 h2 => ⟨(by show 2 ≤ sizeLine; decide), fun a3 f3 => ⟨(by show 1 ≤ sizeLine; decide), fun b3 g3 => ⟨(by show 2 ≤ sizeLine; decide), fun o3 h3 => ⟨(by show 2 ≤ sizeLine; decide), fun a4 f4 => ⟨(by show 1 ≤ sizeLine; decide), fun b4 g4 => ⟨(by show 2 ≤ sizeLine; decide), fun o4 h4 => ⟨(by show 5 ≤ sizeLine; decide), fun l5 h5 => ?_⟩⟩⟩⟩⟩⟩⟩⟩⟩⟩
      have k1 := (Kp.refl H8).new h1 (o := .tup [])
      have k2 := (Kp.refl _).new g2 (o := .tup [])
      have k3 := (Kp.refl _).new h2 (o := .tup [.int 0, .ref b2])
      have k4 := (Kp.refl _).new f3 (o := .tup [.int 0, .int 0])
      have k5 := (Kp.refl _).new g3 (o := .tup [.ref a3])
      have k6 := (Kp.refl _).new h3 (o := .tup [.int 2, .ref b3])
      have k7 := (Kp.refl _).new f4 (o := .tup [.int 0, .int 1])
      have k8 := (Kp.refl _).new g4 (o := .lst [.ref a4])
      have k9 := (Kp.refl _).new h4 (o := .tup [.int 2, .ref b4])
      have k10 := (Kp.refl _).new h5 (o := .lst [.non, .ref o1, .ref o2, .ref o3, .ref o4])
      have s9 := k9.trans k10
      have s8 := k8.trans s9
      have s7 := k7.trans s8
      have s6 := k6.trans s7
      have s5 := k5.trans s6
      have s4 := k4.trans s5
      have s3 := k3.trans s4
      have s2 := k2.trans s3
      have St2 := St.kp (k1.trans s2)
      have c1 := s2.sqT (K := K) (SqT.of (upd_same (H := H8) (a := o1) (o := .tup [])))
      have c2 := s4.sqT (K := K) (SqT.of (upd_same (a := o2) (o := .tup [.int 0, .ref b2])))
      have c3 := s5.sqT (K := K) (SqT.of (upd_same (a := a3) (o := .tup [.int 0, .int 0])))
      have c4 := s6.sqT (K := K) (SqT.of (upd_same (a := b3) (o := .tup [.ref a3])))
      have c5 := s7.sqT (K := K) (SqT.of (upd_same (a := o3) (o := .tup [.int 2, .ref b3])))
      have c6 := s9.lst (upd_same (a := b4) (o := .lst [.ref a4]))
      have c7 := k10.sqT (K := K) (SqT.of (upd_same (a := o4) (o := .tup [.int 2, .ref b4])))
      have nl : ∀ {b : Addr} {H' : Hp}, Kp H8 H' → H' b = none → b ≠ r := fun {b H'} z e q => by
        obtain ⟨xs, e2⟩ := St.dr.1.lst
        rw [q, z.lst e2] at e
        cases e
      have nb4 : b4 ≠ r := nl (((((((k1.trans k2).trans k3).trans k4).trans k5).trans k6).trans k7)) g4
      have nl5 : l5 ≠ r := nl (((((((((k1.trans k2).trans k3).trans k4).trans k5).trans k6).trans k7).trans k8).trans k9)) h5
      refine ⟨r, sa, l5, _, rfl, St2.dr, nl5, SqL.of upd_same, (by simp), (by show 5 < 1073741824; decide), fun x H20 z20 ra20 hx => ?_⟩
      have St3 := St2.kpb z20 ra20
      have d1 := z20.tup.sq c1
      have d2 := z20.tup.sq c2
      have d3 := z20.tup.sq c3
      have d4 := z20.tup.sq c4
      have d5 := z20.tup.sq c5
      have d6 := z20.lst c6 nb4
      have d7 := z20.tup.sq c7
      clear c1 c2 c3 c4 c5 c6 c7 s2 s3 s4 s5 s6 s7 s8 s9 k1 k2 k3 k4 k5 k6 k7 k8 k9 k10 nl z20 ra20 St2 St
      have fx : ∃ rv, FaultX K H20 x rv ∧ rv ≠ .non := by
        simp only [List.mem_cons, List.mem_nil_iff, or_false] at hx
        rcases hx with rfl | rfl | rfl | rfl | rfl
        · exact ⟨.str "whole", .inl ⟨⟨"NoneType", fun _ _ => .base .non, by decide +kernel⟩, rfl⟩, by intro e; cases e⟩
        · exact ⟨.str "whole", .inr (.inl ⟨o1, [], rfl, d1, by decide, rfl⟩), by intro e; cases e⟩
        · exact ⟨.str "halls", .inr (.inr (.inl ⟨o2, .int 0, _, rfl, d2, .inl ⟨0, rfl, by decide⟩, rfl⟩)), by intro e; cases e⟩
        · exact ⟨.str "turns", .inr (.inr (.inr ⟨o3, 2, _, false, rfl, d5, by decide, by decide, .inr (.inr ⟨b3, [.ref a3], [false], rfl, d4, Nat.le_refl 1, (by show 1 ≤ 6; decide), .cons (.inr (.inr (.inr ⟨a3, [0, 0], rfl, d3, rfl, by decide, by decide, by decide⟩))) .nil, rfl⟩), rfl⟩)), by intro e; cases e⟩
        · exact ⟨.str "turns", .inr (.inr (.inr ⟨o4, 2, _, false, rfl, d7, by decide, by decide, .inl ⟨⟨"list", fun H' z => .base (.lst (z.lst d6)), by decide +kernel⟩, rfl⟩, rfl⟩)), by intro e; cases e⟩
      obtain ⟨rv, fx, nrv⟩ := fx
      intro s1 ds hs1 hds nds
      have zB := ((Kp.refl H20).new hds (o := .own s1)).new (p := s1) (by rw [upd_ne (Ne.symm nds)]; exact hs1) (o := .ins C ds [])
      exact ⟨s1, ds, x, rv, rfl, upd_same, fx.kp zB, zB.tabG St3.gT, zB.tabG St3.gA, fun _ d H21 z21 hd => ⟨true, M.bh.2, fun _ a ha => q _, fun h => (by cases h)⟩, fun e => absurd e nrv⟩
end
end NS
end
section
set_option maxHeartbeats 4000000
/-! X4: what the head tells, properties' getters among it -/
namespace NS
open PySem PySem.Spec PyProof.Rows L2 ZS
theorem get_def {K : PySem.W.Frag} {fp : GetD} (e : fp.map (fun d => He5.fnA K (d.at_ K)) = fp.map He5.DefA.val) (o : (fp.all fun d => d.ok K) = true) (i : Nat) {d : He5.DefA} (h : fp[i]? = some d) : ∃ fd, FunD K d.name d.qual d.params d.body d.scope (d.dvs K) (d.kws K) (d.at_ K) fd := by
  have e2 : (fp.map fun d => He5.fnA K (d.at_ K))[i]? = (fp.map He5.DefA.val)[i]? := by rw [e]
  rw [List.getElem?_map, List.getElem?_map, h] at e2
  exact He5.DefA.funD (Option.some.inj e2) (List.all_eq_true.mp o d (List.mem_of_getElem? h))
theorem propB_ok {K : PySem.W.Frag} {x m : Str} (h : propB K x m = true) : PropOf K (He.ga K x) m (He.ma K (He.ga K x) m) (gAt x m K) := by
  unfold propB at h
  simp only [Bool.and_eq_true] at h
  obtain ⟨h1, h2, h3, h4⟩ := h
  refine ⟨He.eqO_ok h1, He.eqO_ok h2, of_decide_eq_true h3, ?_⟩
  unfold gAt
  split at h4
  · rename_i g rest e
    rw [e]
    exact ⟨rest, rfl⟩
  · cases h4
section
variable {P : Program} {w : World} {K : PySem.W.Frag} {mg : Str → Option Value} {base : Heap} {pT pA C CB CN CS f1 f2 f3 f4 f5 p5 f6 p6 : Addr} {fd1 fd2 fd3 fd4 fd5 fd6 : FuncData}
theorem errF_of {fI : Addr} {fd : FuncData} (g : mg "BadHouse" = some (.ref CB)) (o : oexB K CB = true) (m : PySem.W.exmOne K (.ref CB) (.ref CB) = some true) (M : Meth K CB "__init__" fI) (no : NoAttr K CB "part") (F : FunD K "__init__" "BadHouse.__init__" (defArgs sBadInit) (defBody sBadInit) (defScope sBadInit) [] [] fI fd) : ErrF P w K mg base "BadHouse" "part" CB := by
  have O := oexB_ok o
  exact ⟨g, O, m, fI, fd, ["self", "part"], M.at_, beq_iff_eq.mp M.fn, F.bindsN (fun _ _ _ _ _ _ us hl => match us, hl with | [_, _], _ => rfl), ok_badinit F O no⟩
theorem seats_of (B : Bl mg) (g : mg "Seats" = some (.ref C)) (T : SeatsC K C) (M : Mk K C f1) (F1 : FunD K "__init__" "Seats.__init__" (defArgs sSeatsInit) (defBody sSeatsInit) (defScope sSeatsInit) [] [] f1 fd1)
    (M2 : Meth K C "do" f2) (F2 : FunD K "do" "Seats.do" (defArgs sDo) (defBody sDo) (defScope sDo) [] [] f2 fd2) (M3 : Meth K C "undo" f3) (F3 : FunD K "undo" "Seats.undo" (defArgs sUndo) (defBody sUndo) (defScope sUndo) [] [] f3 fd3)
    (M4 : Meth K C "stayers" f4) (F4 : FunD K "stayers" "Seats.stayers" (defArgs sSStay) (defBody sSStay) (defScope sSStay) [] [] f4 fd4)
    (M5 : PropOf K C "row" p5 f5) (F5 : FunD K "row" "Seats.row" (defArgs sSRow) (defBody sSRow) (defScope sSRow) [] [] f5 fd5) (M6 : PropOf K C "where" p6 f6) (F6 : FunD K "where" "Seats.where" (defArgs sSWhere) (defBody sSWhere) (defScope sSWhere) [] [] f6 fd6)
    (hC : HasX P w K mg base "check_house" 7 (spChkHouseX K pT pA CB)) (hS : Has P w K mg base "still" 1 [] spStill) (hN : HasX P w K mg base "check_number" 2 (spChkNumX K CN)) (hT : Has P w K mg base "then" 1 [] (spThen K)) (TS : ExcC K mg "BadStep" CS)
    (hU : Has P w K mg base "undone" 1 [] spUndone) (hK : Has P w K mg base "halls_kept" 1 [] (spKept K)) : SeatsD P w K mg base pT pA C CB CN CS where
  c := T
  made := ⟨g, f1, fd1, ["self", "house"], M, F1.bindsN (fun _ _ _ _ _ _ us hl => match us, hl with | [_, _], _ => rfl), ok_seatsinit F1 T hC hS⟩
  do_ := ⟨f2, fd2, ["self", "letter"], M2, F2.bindsN (fun _ _ _ _ _ _ us hl => match us, hl with | [_, _], _ => rfl), ok_do F2 B T hN hT⟩
  undo := ⟨f3, fd3, ["self"], M3, F3.bindsN (fun _ _ _ _ _ _ us hl => match us, hl with | [_], _ => rfl), ok_undo F3 B T TS hT hU⟩
  stay := ⟨f4, fd4, ["self"], M4, F4.bindsN (fun _ _ _ _ _ _ us hl => match us, hl with | [_], _ => rfl), ok_sstay F4 T hK⟩
  row := ⟨p5, f5, fd5, ["self"], M5, F5.bindsN (fun _ _ _ _ _ _ us hl => match us, hl with | [_], _ => rfl), ok_srow F5 B T⟩
  where_ := ⟨p6, f6, fd6, ["self"], M6, F6.bindsN (fun _ _ _ _ _ _ us hl => match us, hl with | [_], _ => rfl), ok_swhere F6 T⟩
end
end NS
end
section
set_option maxHeartbeats 4000000
/-! HE: all the defs from the head's facts -/
namespace NS
open PySem PySem.Spec PyProof.Rows L2 ZS
section
variable {P : Program} {w : World} {K : PySem.W.Frag} {mg : Str → Option Value} {h base : Heap} {x : Str} {st : Stmt} {f : Addr} {fd : FuncData}
theorem code_ref (F : FnP K x st (He.ga K x) fd) : fd.code = .ref (He.codeOf K (x, none)) := by
  obtain ⟨oc, od, dV, kV, doc, pm, an, cdv, ct, osl, rfl, lk, hcd, _, _⟩ := F.ex
  obtain ⟨c, rfl⟩ := He.codeIn_ref hcd
  have e := He.codeOf_eq (p := (x, none)) (c := c) lk rfl
  rw [e]
theorem fnAt (c : He.SaysD fa fn K) (i : Nat) (e : fn[i]? = some (dd x st [])) : ∃ fd, FnP K x st (He.ga K x) fd := c.def_ i e
theorem tabG0 {H : Hp} {p : Addr} (e : H p = some (.tbl #[])) : GxR.TabG H p := ⟨#[], e, trivial⟩
theorem bl_of (X : K.In h) (G : h.Ns mainGlobals mg) (c : He.SaysD fa fn K) : Bl mg :=
  ⟨He.free_ok X G (c.fact 22 (f := .free "tuple") rfl), He.free_ok X G (c.fact 23 (f := .free "list") rfl), He.free_ok X G (c.fact 24 (f := .free "len") rfl), He.free_ok X G (c.fact 25 (f := .free "range") rfl), He.free_ok X G (c.fact 26 (f := .free "isinstance") rfl), He.free_ok X G (c.fact 27 (f := .free "set") rfl), He.free_ok X G (c.fact 28 (f := .free "sorted") rfl), He.free_ok X G (c.fact 29 (f := .free "all") rfl), He.free_ok X G (c.fact 30 (f := .free "sum") rfl), He.free_ok X G (c.fact 31 (f := .free "enumerate") rfl), He.free_ok X G (c.fact 32 (f := .free "int") rfl), He.free_ok X G (c.fact 33 (f := .free "bool") rfl), He.free_ok X G (c.fact 34 (f := .free "str") rfl), He.free_ok X G (c.fact 35 (f := .free "any") rfl), He.free_ok X G (c.fact 36 (f := .free "min") rfl)⟩
/-- the only lead that is asked for -/
def S1 (a : Addr) (sp : Sp) : Addr → Option Sp := fun b => if b = a then some sp else none
theorem s1_self {a : Addr} {sp : Sp} : S1 a sp a = some sp := if_pos rfl
theorem s1_held {a : Addr} {sp : Sp} {k : Nat} (h : Held P w K mg base k a sp) : ∀ f sp', S1 a sp f = some sp' → Held P w K mg base k f sp' := fun f sp' e => by
  unfold S1 at e
  split at e
  · rename_i q
    cases e
    rw [q]
    exact h
  · cases e
theorem Held.up {f : Addr} {sp : Sp} {j k : Nat} (hk : j ≤ k) (h : Has P w K mg base x j [] sp) (e : mg x = some (.ref f)) : Held P w K mg base k f sp := by
  obtain ⟨fd, ps, h5, h2, h3⟩ := h.held e
  exact ⟨fd, ps, h5.mono hk, h2, h3⟩
abbrev pTA (K : PySem.W.Frag) : Addr := (He.cT K ("is_turn", none)).2
abbrev pAA (K : PySem.W.Frag) : Addr := (He.cT K ("are_turns", none)).2
theorem law_all (X : K.In h) (G : h.Ns mainGlobals mg) (c : He.SaysD fa fn K) {base : Heap} {fd : FuncData} (FLaw : FnP K "law" sLaw (He.ga K "law") fd) (XB : exB K = true) (cG : fp.map (fun d => He5.fnA K (d.at_ K)) = fp.map He5.DefA.val) (oG : (fp.all fun d => d.ok K) = true) (T_is_turn : GxR.TabB base mg (He.codeOf K ("is_turn", none)) (pTA K)) (T_are_turns : GxR.TabB base mg (He.codeOf K ("are_turns", none)) (pAA K)) :
    FnOk P w K mg base CX0 10 (He.ga K "law") fd ["script"] (spLaw K (pTA K) (pAA K)) := by
  have B := bl_of X G c
  have g : ∀ {x : Str} (i : Nat), fa[i]? = some (.glo x) → mg x = some (.ref (He.ga K x)) := fun i e => He.glo_ok X G (c.fact i e)
  obtain ⟨t_MOST_HALLS, m_MOST_HALLS⟩ := He.int_ok X G (c.fact 37 (f := .int "MOST_HALLS" 8) rfl)
  have mi_MOST_HALLS : ∃ t, mg "MOST_HALLS" = some (.int 8 t) := ⟨_, m_MOST_HALLS⟩
  obtain ⟨t_MOST_TURNS, m_MOST_TURNS⟩ := He.int_ok X G (c.fact 38 (f := .int "MOST_TURNS" 6) rfl)
  have mi_MOST_TURNS : ∃ t, mg "MOST_TURNS" = some (.int 6 t) := ⟨_, m_MOST_TURNS⟩
  have e_BadNumber : ExcC K mg "BadNumber" (He.ga K "BadNumber") := by
    obtain ⟨x1, x2, x3, x4⟩ := He.exc_ok (c.fact 40 (f := .exc "BadNumber") rfl)
    exact ⟨g 39 rfl, x1, x2, x3, x4, of_decide_eq_true (c.fact 41 (f := .exm "BadNumber" "BadNumber" true) rfl)⟩
  have e_BadStep : ExcC K mg "BadStep" (He.ga K "BadStep") := by
    obtain ⟨x1, x2, x3, x4⟩ := He.exc_ok (c.fact 43 (f := .exc "BadStep") rfl)
    exact ⟨g 42 rfl, x1, x2, x3, x4, of_decide_eq_true (c.fact 44 (f := .exm "BadStep" "BadStep" true) rfl)⟩
  obtain ⟨XB1, XB2⟩ := He.ba XB
  obtain ⟨XB0, XB1⟩ := He.ba XB1
  have g_BadHouse : mg "BadHouse" = some (.ref (He.ga K "BadHouse")) := g 54 rfl
  have x_BadHouse : PySem.W.exmOne K (.ref (He.ga K "BadHouse")) (.ref (He.ga K "BadHouse")) = some true := He.exm_ok (c.fact 57 (f := .exm "BadHouse" "BadHouse" true) rfl)
  obtain ⟨_, F⟩ := c.def_ 22 (d := md "BadHouse" "__init__" "BadHouse.__init__" sBadInit) rfl
  have f_BadHouse := errF_of (P := P) (w := w) (mg := mg) (base := base) g_BadHouse XB0 x_BadHouse (He.meth_ok (c.fact 55 (f := .meth "BadHouse" "__init__") rfl)) (He.noat_ok (c.fact 56 (f := .noat "BadHouse" "part") rfl)) F
  clear F
  obtain ⟨_, F⟩ := fnAt c 0 (x := "is_number") (st := sNumber) rfl
  have h_is_number := has_numX (P := P) (w := w) (mg := mg) (base := base) F (g 0 rfl) B
  clear F
  obtain ⟨_, F⟩ := fnAt c 1 (x := "is_turn") (st := sIsTurn) rfl
  have h_is_turn := has_turnX (P := P) (w := w) (mg := mg) (base := base) F (g 1 rfl) B h_is_number (code_ref F) T_is_turn
  clear F
  obtain ⟨_, F⟩ := fnAt c 2 (x := "are_turns") (st := sAreTurns) rfl
  have h_are_turns := has_turnsX (P := P) (w := w) (mg := mg) (base := base) F (g 2 rfl) B mi_MOST_TURNS h_is_turn (code_ref F) T_are_turns
  clear F
  obtain ⟨_, F⟩ := fnAt c 3 (x := "house_fault") (st := sFault) rfl
  have h_house_fault := has_faultX (P := P) (w := w) (mg := mg) (base := base) F (g 3 rfl) B mi_MOST_HALLS h_is_number h_are_turns
  clear F
  obtain ⟨_, F⟩ := fnAt c 4 (x := "check_house") (st := sCheckHouse) rfl
  have h_check_house := has_chkhouseX (P := P) (w := w) (mg := mg) (base := base) F (g 4 rfl) f_BadHouse h_house_fault
  clear F
  obtain ⟨_, F⟩ := fnAt c 5 (x := "check_number") (st := sChkNum) rfl
  have h_check_number := has_chknumX (P := P) (w := w) (mg := mg) (base := base) F (g 5 rfl) e_BadNumber h_is_number
  clear F
  obtain ⟨_, F⟩ := fnAt c 6 (x := "still") (st := sStill) rfl
  have h_still := has_still (P := P) (w := w) (mg := mg) (base := base) F (g 6 rfl) B
  clear F
  obtain ⟨_, F⟩ := fnAt c 7 (x := "then") (st := sThen) rfl
  have h_then := has_then (P := P) (w := w) (mg := mg) (base := base) F (g 7 rfl) B
  clear F
  obtain ⟨_, F⟩ := fnAt c 8 (x := "undone") (st := sUndone) rfl
  have h_undone := has_undone (P := P) (w := w) (mg := mg) (base := base) F (g 8 rfl) B
  clear F
  obtain ⟨_, F⟩ := fnAt c 9 (x := "halls_kept") (st := sKept) rfl
  have h_halls_kept := has_kept (P := P) (w := w) (mg := mg) (base := base) F (g 9 rfl) B
  clear F
  obtain ⟨_, F⟩ := fnAt c 10 (x := "_law_taken") (st := sTaken) rfl
  have h__law_taken := has_taken (P := P) (w := w) (mg := mg) (base := base) F (g 10 rfl) B
  clear F
  obtain ⟨_, F⟩ := fnAt c 11 (x := "_law_pick") (st := sPick) rfl
  have h__law_pick := has_pick (P := P) (w := w) (mg := mg) (base := base) F (g 11 rfl) B h__law_taken
  clear F
  obtain ⟨_, F⟩ := fnAt c 12 (x := "_law_alike") (st := sAlike) rfl
  have h__law_alike := has_alike (P := P) (w := w) (mg := mg) (base := base) F (g 12 rfl) B 2
  clear F
  obtain ⟨_, F⟩ := fnAt c 13 (x := "_law_turn") (st := sLTurn) rfl
  have h__law_turn := has_lturn (P := P) (w := w) (mg := mg) (base := base) F (g 13 rfl) B h__law_taken
  clear F
  obtain ⟨_, F⟩ := fnAt c 14 (x := "_law_circle") (st := sLCircle) rfl
  have h__law_circle := has_lcircle (P := P) (w := w) (mg := mg) (base := base) F (g 14 rfl) B
  clear F
  obtain ⟨_, F⟩ := fnAt c 15 (x := "_law_known_groups") (st := sLKnown) rfl
  have h__law_known_groups := has_lknown (P := P) (w := w) (mg := mg) (base := base) F (g 15 rfl) B h__law_circle
  clear F
  obtain ⟨_, F⟩ := fnAt c 16 (x := "_law_mixed") (st := sLMixed) rfl
  have h__law_mixed := has_lmixed (P := P) (w := w) (mg := mg) (base := base) F (g 16 rfl) B h__law_turn
  clear F
  obtain ⟨_, F⟩ := fnAt c 17 (x := "_law_whole") (st := sLWhole) rfl
  have h__law_whole := has_lwhole (P := P) (w := w) (mg := mg) (base := base) F (g 17 rfl) h__law_mixed h__law_pick h__law_known_groups
  clear F
  obtain ⟨_, F⟩ := fnAt c 18 (x := "_law_house") (st := sLHouse) rfl
  have h__law_house := has_lhouse (P := P) (w := w) (mg := mg) (base := base) F (g 18 rfl) B h__law_taken h__law_turn h__law_whole
  clear F
  obtain ⟨_, F⟩ := fnAt c 19 (x := "_law_stayers") (st := sLStayers) rfl
  have h__law_stayers := has_lstayers (P := P) (w := w) (mg := mg) (base := base) F (g 19 rfl) B
  clear F
  obtain ⟨_, F⟩ := fnAt c 20 (x := "_law_then") (st := sLThen) rfl
  have h__law_then := has_lthen (P := P) (w := w) (mg := mg) (base := base) F (g 20 rfl) B
  clear F
  have T_Seats : SeatsC K (He.ga K "Seats") := ⟨He.cls_ok (c.fact 46 (f := .cls "Seats") rfl), He.noat_ok (c.fact 47 (f := .noat "Seats" "_turns") rfl), He.noat_ok (c.fact 48 (f := .noat "Seats" "_row") rfl), He.noat_ok (c.fact 49 (f := .noat "Seats" "_where") rfl)⟩
  obtain ⟨_, FM1⟩ := c.def_ 23 (d := md "Seats" "__init__" "Seats.__init__" sSeatsInit) rfl
  obtain ⟨_, FM2⟩ := c.def_ 24 (d := md "Seats" "do" "Seats.do" sDo) rfl
  obtain ⟨_, FM3⟩ := c.def_ 25 (d := md "Seats" "undo" "Seats.undo" sUndo) rfl
  obtain ⟨_, FM4⟩ := c.def_ 26 (d := md "Seats" "stayers" "Seats.stayers" sSStay) rfl
  obtain ⟨_, FG1⟩ := get_def cG oG 0 (d := gd "Seats" "row" "Seats.row" sSRow) rfl
  obtain ⟨_, FG2⟩ := get_def cG oG 1 (d := gd "Seats" "where" "Seats.where" sSWhere) rfl
  have s_Seats := seats_of (P := P) (w := w) (mg := mg) (base := base) B (g 45 rfl) T_Seats (He.mkr_ok (c.fact 50 (f := .mkr "Seats") rfl)) FM1 (He.meth_ok (c.fact 51 (f := .meth "Seats" "do") rfl)) FM2 (He.meth_ok (c.fact 52 (f := .meth "Seats" "undo") rfl)) FM3 (He.meth_ok (c.fact 53 (f := .meth "Seats" "stayers") rfl)) FM4 (propB_ok XB1) FG1 (propB_ok XB2) FG2 h_check_house h_still h_check_number h_then e_BadStep h_undone h_halls_kept
  exact ok_law FLaw B ⟨h__law_taken, h__law_pick, h__law_house, h__law_stayers, h__law_then, h__law_alike, s_Seats, ⟨g_BadHouse, x_BadHouse⟩, e_BadNumber, e_BadStep⟩
end
end NS
open PySem PySem.W PySem.Calls PyProof.Rows
theorem PySem.Challenge.cw_nobodystays_k08_whole_seats_holds : PySem.Challenge.rw_nobodystays_k08_whole_seats.Holds := by
  w_on; o_law
  refine HandSHeadRun.head_any (r := OpenLaw.row PySem.Challenge.rw_nobodystays_k08_whole_seats) (q := view (OpenLaw.row PySem.Challenge.rw_nobodystays_k08_whole_seats).prog [34]) (H := NS.hk) (ob := NS.ob) (M := 4000) (loose := NS.names) (d := HandSHeadRun.topDef (OpenLaw.row PySem.Challenge.rw_nobodystays_k08_whole_seats).prog 34) (kwd := []) NS.ob_eq
    (by kernel_rfl) (fun s => by kernel_rfl) NS.run (by kernel_rfl) (by kernel_rfl) (by kernel_rfl) (by rfl) (by first | assumption | decide +kernel) (by decide +kernel) ⟨rfl, rfl, rfl, rfl, rfl, by decide +kernel⟩ ?hw ?hc
  case hw => w_witness2
  case hc =>
    refine LamX.walk_ofTsE (l := PySem.Challenge.rw_nobodystays_k08_whole_seats) (n := 63) (k := 10) (x := "script") (CX := fun _ => L2.CX0) rfl (by decide) (by kernel_rfl) ⟨rfl, by decide, by decide⟩ ?F (fun _ _ _ _ _ z => z)
    intro w mg fa h Y G hmg0
    obtain ⟨K, KX, c, cG⟩ := Y
    have hmg : mg ("law" : PySem.Str) = some (.ref fa) := by
      have e : (HandSHeadRun.topDef (OpenLaw.row PySem.Challenge.rw_nobodystays_k08_whole_seats).prog 34).name = ("law" : PySem.Str) := by kernel_rfl
      rw [← e]
      exact hmg0
    have e := hmg.symm.trans (He.glo_ok KX G (c.t.d.fact 21 (f := .glo "law") rfl))
    cases e
    refine ⟨K, KX, ?_⟩
    obtain ⟨fd, FX⟩ := NS.fnAt c.t.d 21 (x := "law") (st := NS.sLaw) rfl
    have b := L2.FunD.bindsA (ps := ["script"]) FX fun _ _ _ _ _ _ us hl => match us, hl with | [_], _ => rfl
    refine ⟨fd, NS.tf.map (He.cT K), NS.spLaw K (NS.pTA K) (NS.pAA K), fun p hp => ?_, fun p hp => ?_, fun p hp => ?_, fun s v => b s [v] rfl, fun H a ns hl hb hT hS => ⟨a, ns, rfl, hS, NS.tabG0 (hT (He.cT K ("is_turn", none)) (List.mem_map.mpr ⟨_, List.mem_cons_self, rfl⟩)), NS.tabG0 (hT (He.cT K ("are_turns", none)) (List.mem_map.mpr ⟨_, List.mem_cons_of_mem _ List.mem_cons_self, rfl⟩)), fun _ => rfl⟩, fun base KB GB TB => ?_⟩
    · obtain ⟨d, hd, rfl⟩ := List.mem_map.mp hp
      exact c.empty d hd
    · obtain ⟨d, hd, rfl⟩ := List.mem_map.mp hp
      exact c.out d hd
    · obtain ⟨d, hd, rfl⟩ := List.mem_map.mp hp
      exact PySem.W.codeHd_of_K KX (c.hd d hd)
    · have z1 := TB (He.cT K ("is_turn", none)) (List.mem_map.mpr ⟨_, List.mem_cons_self, rfl⟩)
      have z2 := TB (He.cT K ("are_turns", none)) (List.mem_map.mpr ⟨_, List.mem_cons_of_mem _ List.mem_cons_self, rfl⟩)
      exact NS.law_all KX G c.t.d FX (He.ba c.more).1 cG (He.ba c.more).2 ⟨z1.code, z1.bm, z1.gP⟩ ⟨z2.code, z2.bm, z2.gP⟩
end
