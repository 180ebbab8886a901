import PyProof.Rows.All
import Wide.All
import OpenK.AllK
import Wide.FinOn
import HandS.ForMost
import HandS.AnyAll
import HandS.GenList
import PyProof.ConsumeS
import PyProof.Rows.SeqGen
import HandS.TupSets
import KE.KeyNested
import HandS.SortInts
import KE.KSortTupAny
import HandS.Strs
import HandS.SetBool
import HandS.Comp
import HandS.SetFor
import PyProof.Draws
import PyProof.EnumMake
import HandS.Iter
import HandS.Deep
import HandS.CallLocal
import HandS.Defaults
import HandS.TupAny
import HandS.Conv
import HandS.IsInst
import KE.KDictDisplayH
import KE.KDictKeyed
import KE.KDictWalk
import KE.KDictCopyH
import PyProof.Rows.TupTab
import PyProof.NeKinds
import PyProof.EqAt
import PyProof.WalksMore
import PyProof.Rows.SumAny
import HandS.List
import HandS.ForExc
import HandS.Star
import HandS.HeadHook1
import HandS.More
import HandS.Lambda
import HandS.WideBits
import HandS.TupLe
import HandS.Head0
import HandS.Head1
import HandS.Head2
import HandS.HeadEnd
import HandS.HeadHook2
import HandS.HeadHook3
import HandS.HeadHook4
import HandS.HeadWalk
import PySem.Challenge.RW_nobodystays_k07_whole_sharps
set_option Elab.async false
set_option linter.all false
set_option maxRecDepth 100000
namespace ZS
end ZS
section
namespace NS
open PySem PySem.Spec PyProof.Rows L2
abbrev PR : Program := PySem.Challenge.pw_nobodystays_k07_whole_sharps
def top (i : Nat) : Stmt := PR.main.body.getD i (.Pass ⟨0, 0, 0, 0⟩)
abbrev sStill : Stmt := top 15
abbrev sThen : Stmt := top 16
abbrev sHall : Stmt := top 17
abbrev sPair : Stmt := top 18
abbrev sNumber : Stmt := top 8
abbrev sIsTurn : Stmt := top 9
abbrev sAreTurns : Stmt := top 10
abbrev sFault : Stmt := top 11
abbrev sCheckHouse : Stmt := top 12
abbrev sReached : Stmt := top 19
abbrev sParts : Stmt := top 21
abbrev sTrans : Stmt := top 22
abbrev sRank : Stmt := top 23
abbrev sTaken : Stmt := top 34
abbrev sPick : Stmt := top 35
abbrev sLTurn : Stmt := top 37
abbrev sLCircle : Stmt := top 38
abbrev sLMembers : Stmt := top 39
abbrev sLKnown : Stmt := top 40
abbrev sLMixed : Stmt := top 41
abbrev sLWhole : Stmt := top 42
abbrev sAlike : Stmt := top 36
abbrev sLPairs : Stmt := top 43
abbrev sChkWhole : Stmt := top 25
abbrev sSharp : Stmt := top 26
def entB : List DictEntry → List Int → Bool
  | [], [] => true
  | e :: es, k :: ks => (match e.key with | .int j _ => decide (j = k) | _ => false) && decide (e.hash = hashInt k) && (match e.val with | .ref _ => true | _ => false) && entB es ks
  | _, _ => false
abbrev sIsHouse : Stmt := top 20
abbrev sChkNum : Stmt := top 13
abbrev sChkHalls : Stmt := top 30
abbrev sSharpH : Stmt := top 31
abbrev sShowsS : Stmt := top 32
/-- these values are these whole numbers -/
def valIB : List Value → List Int → Bool
  | [], [] => true
  | .int j _ :: vs, k :: ks => decide (j = k) && valIB vs ks
  | _, _ => false
/-- at a lies a tuple of these whole numbers -/
def tupIB (K : PySem.W.Frag) (a : Addr) (t : List Int) : Bool := match K.lookup a with
  | some o => decide (o.cls = .type "tuple") && match o.data with
    | .seq its _ => decide (its.size ≤ sizeLine) && valIB its.toList t
    | _ => false
  | none => false
def tupsB (K : PySem.W.Frag) : List Value → List (List Int) → Bool
  | [], [] => true
  | .ref a :: vs, t :: ts => tupIB K a t && tupsB K vs ts
  | _, _ => false
/-- at a lies a tuple of such tuples -/
def tupTB (K : PySem.W.Frag) (a : Addr) (ts : List (List Int)) : Bool := match K.lookup a with
  | some o => decide (o.cls = .type "tuple") && match o.data with
    | .seq its _ => decide (its.size ≤ sizeLine) && tupsB K its.toList ts
    | _ => false
  | none => false
def entV (K : PySem.W.Frag) : List DictEntry → List (Int × List (List Int)) → Bool
  | [], [] => true
  | e :: es, p :: l => (match e.val with | .ref a => tupTB K a p.2 | _ => false) && entV K es l
  | _, _ => false
def dicVB (K : PySem.W.Frag) (x : Str) (l : List (Int × List (List Int))) : Bool := match PySem.W.nsIn K mainGlobals x with
  | some (some (.ref a)) => (match K.lookup a with
    | some o => decide (o.cls = .type "dict") && decide (o.dict = none) && decide (o.slots = #[]) && !(a == sysModules) && (match o.data with
      | .dict es _ => entB es.toList (l.map (·.1)) && entV K es.toList l
      | _ => false)
    | none => false)
  | _ => false
abbrev turnsT : List (Int × List (List Int)) := [(2, [[1, 0]]), (3, [[1, 2, 0], [0, 2, 1]]), (4, [[1, 0, 3, 2], [0, 2, 3, 1]]), (5, [[1, 2, 3, 4, 0], [0, 2, 4, 1, 3]]), (7, [[1, 2, 3, 4, 5, 6, 0], [0, 3, 6, 2, 5, 1, 4]]), (8, [[1, 0, 3, 2, 5, 4, 7, 6], [0, 2, 4, 6, 3, 1, 7, 5]])]
abbrev sLSharp : Stmt := top 44
abbrev sLaw : Stmt := top 45
end NS
end
section
set_option maxHeartbeats 0
/-! HD: the head -/
namespace NS
open PySem PySem.Spec PyProof.Rows L2 ZS
def dd (x : Str) (st : Stmt) (df : List He.Dv) : He.DefD := ⟨(x, none), x, x, defArgs st, defBody st, defScope st, df, []⟩
def fn : List He.DefD := [dd "is_number" sNumber [], dd "is_turn" sIsTurn [], dd "are_turns" sAreTurns [], dd "house_fault" sFault [], dd "check_house" sCheckHouse [], dd "check_number" sChkNum [], dd "still" sStill [], dd "then" sThen [], dd "hall_led" sHall [], dd "pair_led" sPair [], dd "reached" sReached [.non], dd "is_house" sIsHouse [], dd "parts" sParts [], dd "is_transitive" sTrans [], dd "rank" sRank [], dd "check_whole" sChkWhole [], dd "is_sharp" sSharp [], dd "check_halls" sChkHalls [], dd "sharp_house" sSharpH [], dd "shows_sharp" sShowsS [], dd "_law_taken" sTaken [], dd "_law_pick" sPick [], dd "_law_alike" sAlike [], dd "_law_turn" sLTurn [], dd "_law_circle" sLCircle [], dd "_law_members" sLMembers [], dd "_law_known_groups" sLKnown [], dd "_law_mixed" sLMixed [], dd "_law_whole" sLWhole [], dd "_law_pairs" sLPairs [], dd "_law_is_sharp" sLSharp [], dd "law" sLaw []]
def fa1 : List He.Fa := [.glo "is_number", .glo "is_turn", .glo "are_turns", .glo "house_fault", .glo "check_house", .glo "check_number", .glo "still", .glo "then", .glo "hall_led", .glo "pair_led", .glo "reached", .glo "is_house", .glo "parts", .glo "is_transitive", .glo "rank", .glo "check_whole", .glo "is_sharp", .glo "check_halls", .glo "sharp_house", .glo "shows_sharp", .glo "_law_taken", .glo "_law_pick", .glo "_law_alike", .glo "_law_turn", .glo "_law_circle", .glo "_law_members", .glo "_law_known_groups", .glo "_law_mixed", .glo "_law_whole", .glo "_law_pairs", .glo "_law_is_sharp", .glo "law"]
def fa2 : List He.Fa := [.free "tuple", .free "list", .free "len", .free "range", .free "isinstance", .free "set", .free "sorted", .free "all", .free "sum", .free "enumerate", .free "int", .free "bool", .free "str", .free "any", .free "min", .int "MOST_HALLS" 8, .int "MOST_TURNS" 6, .int "FEWEST_HALLS" 2]
def fa3 : List He.Fa := [.glo "BadNumber", .exc "BadNumber", .exm "BadNumber" "BadNumber" true]
def fa : List He.Fa := fa1 ++ fa2 ++ fa3
def tf : List He.Defn := [("is_turn", none), ("are_turns", none)]
def exB (K : PySem.W.Frag) : Bool := dicVB K "TURNS" turnsT
def names1 : List PySem.Str := ["TurnError", "BadHouse", "BadNumber", "NotWhole", "MOST_HALLS", "MOST_TURNS", "FEWEST_HALLS", "TURNS", "is_number", "is_turn", "are_turns", "house_fault", "check_house", "check_number", "still", "then", "hall_led", "pair_led", "reached", "is_house"]
def names2 : List PySem.Str := ["parts", "is_transitive", "rank", "check_whole", "is_sharp", "check_halls", "sharp_house", "shows_sharp", "_law_taken", "_law_pick", "_law_alike", "_law_turn", "_law_circle", "_law_members", "_law_known_groups", "_law_mixed", "_law_whole", "_law_pairs", "_law_is_sharp"]
def names : List PySem.Str := names1 ++ names2
abbrev RR : PySem.W.OpenRow := PySem.W.OpenLaw.row PySem.Challenge.rw_nobodystays_k07_whole_sharps
abbrev hk : PySem.W.Hook := He.hookX 4 fa fn [] tf exB
def ob (s : PySem.W.SharedT) : He.AlX := He.obsX 4 fa fn [] tf exB (HandSHeadRun.getT s)
theorem ob_eq (s : PySem.W.SharedT) : ob s = hk.obs s.abs := He.obsX_eq (HandSHeadRun.getT_eq s)
theorem run_split {p : World → Prop} (h : ∀ (w : World) (b : Bool), p { w with params := { w.params with followText := fun s => if s = "special-get-raises" then b else w.params.followText s } }) (w : World) : p w := by
  have e : { w with params := { w.params with followText := fun s => if s = "special-get-raises" then w.params.followText "special-get-raises" else w.params.followText s } } = w := by
    obtain ⟨d, P⟩ := w
    cases P
    simp only
    congr 2
    funext s
    split
    · rename_i h
      rw [h]
    · rfl
  have := h w (w.params.followText "special-get-raises")
  rwa [e] at this
def wB (w : World) (b : Bool) : World := { w with params := { w.params with followText := fun s => if s = "special-get-raises" then b else w.params.followText s } }
theorem run0 (w : World) : HandSHeadRun.RunEq RR (PySem.W.view RR.prog [45]) hk ob 16000 names (wB w false) := by
  intro os
  kernel_rfl
theorem run1 (w : World) : HandSHeadRun.RunEq RR (PySem.W.view RR.prog [45]) hk ob 16000 names (wB w true) := by
  intro os
  kernel_rfl
theorem run (w : World) : HandSHeadRun.RunEq RR (PySem.W.view RR.prog [45]) hk ob 16000 names w := by
  refine run_split (p := fun w => HandSHeadRun.RunEq RR (PySem.W.view RR.prog [45]) hk ob 16000 names w) (fun w b => ?_) w
  cases b
  · exact run0 w
  · exact run1 w
end NS
end
section
set_option maxHeartbeats 4000000
/-! GAll: all(test for x in a tuple), the test any expression of the frame (calls of own defs within) -/
namespace GA
open PySem PySem.Spec PyProof.Rows L2 GenW
/-- a generator expression's frame, as a context -/
def gx (X : Cx) (N : List Str) (env : Env) (A : Around) (s : Shared) (H : Hp) (ex : List Addr) : Cx :=
  { prog := X.prog, w := X.w, K := X.K, mg := X.mg, base := X.base, A := A, N := N, s_0 := s, H_0 := H, env := env,
    outer := X.stack, stack := env :: X.stack, ex := ex, fn := fun _ => false, calm := true, pn := [], xe := fun _ _ => False }
structure Wk (s s' : Shared) : Prop where
  os : s'.os = s.os
  bare : AllBare s'.gens
  heap : s'.heap = s.heap
theorem Wk.inv {X : Cx} {pins : List (Addr × Obj)} {σ : L2.St} {H : Hp} {s s' : Shared} (k : Wk s s') (I : Inv X pins σ H s) : Inv X pins σ H s' :=
  I.call' (ch := []) k.os (by rw [k.heap]; exact Un.refl) (by rw [k.heap]; exact I.hok) k.bare (fun b z => absurd z (by simp))
section
variable {X : Cx} {pins : List (Addr × Obj)} {it : Addr} {vs : List (Option V)} {fp : List Addr} {tn : Nat → Heap → Prop} {W : Nat → Hp → Prop} {Qf : Hp → Prop} {pb : Nat → Bool} {n0 : Nat} {ag : Addr} {g : Nat}
def Top (X : Cx) (pins : List (Addr × Obj)) (it : Addr) (vs : List (Option V)) (fp : List Addr) (tn : Nat → Heap → Prop) (W : Nat → Hp → Prop) (i : Nat) (s : Shared) : Prop :=
  ∃ y H, Inv X pins (some (.ref it) :: y :: vs) H s ∧ tn i s.heap ∧ (∀ b ∈ fp, FpOk X pins H b) ∧ W i H
def Here (X : Cx) (pins : List (Addr × Obj)) (it : Addr) (vs : List (Option V)) (R : Hp → Prop) (s : Shared) : Prop :=
  ∃ y H, Inv X pins (some (.ref it) :: y :: vs) H s ∧ R H
/-- handed out: the truth of the test; it goes on only behind a true one -/
def Yp (X : Cx) (pins : List (Addr × Obj)) (it : Addr) (vs : List (Option V)) (Qf : Hp → Prop) (pb : Nat → Bool) (n0 : Nat) : Protocol := fun m _ v s kap =>
  ∃ i, (m + i = n0 ∧ i < n0) ∧ v = .bool (pb i) ∧ Here X pins it vs (fun H => pb i = false → Qf H) s ∧ (pb i = true → ∀ s', Wk s s' → kap (.send .none) s')
abbrev Rp (X : Cx) (pins : List (Addr × Obj)) (it : Addr) (vs : List (Option V)) (W : Nat → Hp → Prop) (n0 : Nat) : GenEnd := fun n _ r s₁ => r = .ok .next ∧ (n = 1 ∧ Here X pins it vs (W n0) s₁)
theorem Top.wake {i : Nat} {s s' : Shared} (k : Wk s s') (h : Top X pins it vs fp tn W i s) : Top X pins it vs fp tn W i s' := by
  obtain ⟨y, H, I, t, f, w⟩ := h
  exact ⟨y, H, k.inv I, by rw [k.heap]; exact t, f, w⟩
/-- the generator's own loop -/
theorem seg_loop {A : Around} {elt iter : Expr} {x : Str} {px pos : Pos} {scope : Scope} {xs : List V} {a : Addr} {te : TE}
    (hA : A.over (.compLoop (.GeneratorExp elt [⟨.Name x px, iter, [], 0⟩] scope pos) 0 (.ref it) .none X.env) [] = X.A) (hc : X.calm = true) (hco : X.env.scope.isCoroutine = false) (hxe : X.xe = fun _ _ => False)
    (T : Turn X.prog X.w X.K (.Name x px) (Itt X.K a) fp it tn) (hg : PG X (.Name x px) (gName 1)) (hel : PE X elt te) (hl : xs.length = n0)
    (hxs : ∀ i H, W i H → SqT X.K H a xs)
    (step : ∀ i v H, xs[i]? = some v → W i H → te (some (.ref it) :: some v :: vs) H fun b H3 => b = .bl (pb i) ∧ (pb i = true → W (i + 1) H3) ∧ (pb i = false → Qf H3)) :
    ∀ (k i : Nat) (s₀ s : Shared), n0 - i = k → i ≤ n0 → Top X pins it vs fp tn W i s →
      Seg (model X.prog X.w) A (Rp X pins it vs W n0) (Yp X pins it vs Qf pb n0) (k + 1) s₀ (.compLoop (.GeneratorExp elt [⟨.Name x px, iter, [], 0⟩] scope pos) 0 (.ref it) .none X.env)
        ((model X.prog X.w).den (.compLoop (.GeneratorExp elt [⟨.Name x px, iter, [], 0⟩] scope pos) 0 (.ref it) .none X.env)) [] s := by
  intro k
  induction k with
  | zero =>
    intro i s₀ s hk hi ⟨y, H, I, t, f, w⟩
    have ei : i = n0 := by omega
    subst ei
    show Seg _ A _ _ _ s₀ _ ((compTurn (.GeneratorExp elt [⟨.Name x px, iter, [], 0⟩] scope pos) 0 (.ref it) .none X.env).onRaise (leaving X.env)) [] s
    rw [compTurn_gen, Sem.onRaise_eq_wrap]
    refine seg_bind_wrap (wpAny_standAt (seg_bind_wrap ?_))
    rw [hA]
    refine thn (T.done X rfl rfl rfl hc i pins s _ H _ I f t ⟨xs, hxs _ _ w, by omega⟩) fun r s1 ⟨hr, I1⟩ => ?_
    subst hr
    exact seg_end (.ok .next) ⟨rfl, rfl, y, H, I1, w⟩
  | succ k ih =>
    intro i s₀ s hk hi ⟨y, H, I, t, f, w⟩
    have hlt : i < xs.length := by omega
    obtain ⟨v, hv⟩ : ∃ v, xs[i]? = some v := ⟨xs[i], List.getElem?_eq_getElem hlt⟩
    show Seg _ A _ _ _ s₀ _ ((compTurn (.GeneratorExp elt [⟨.Name x px, iter, [], 0⟩] scope pos) 0 (.ref it) .none X.env).onRaise (leaving X.env)) [] s
    rw [compTurn_gen, Sem.onRaise_eq_wrap]
    refine seg_bind_wrap (wpAny_standAt (seg_bind_wrap ?_))
    rw [hA]
    refine thn (T.item X rfl rfl rfl hc i pins s _ H _ I f t ⟨xs, v, hxs _ _ w, hv⟩) fun r s1 ⟨u, hr, h1⟩ => ?_
    subst hr
    refine seg_bind_wrap ?_
    rw [hA]
    refine thn h1 fun _ s2 ⟨x2, H2, I2, r2, y2, t2, f2⟩ => ?_
    obtain ⟨eH, ex⟩ := y2
    subst eH
    have ev : x2 = v := Option.some.inj ((ex xs (hxs _ _ w)).symm.trans hv)
    subst ev
    have J2 := I2.pinned f (T.obj _ _ t2)
    refine seg_bind_wrap ?_
    rw [hA]
    refine wpAny_mono (hg.run _ s2 _ _ x2 u (fun σ' H' => σ' = some (.ref it) :: some x2 :: vs ∧ H' = H2) J2 r2 ⟨rfl, rfl⟩) (fun _ s3 h3 => ?_) fun e s3 z => (by rw [hxe] at z; exact z.elim)
    obtain ⟨σ3, H3, I3, e3, eH3⟩ := h3
    subst e3 eH3
    simp only [List.forIn_nil]
    refine seg_bind_wrap (wpAny_pure ?_)
    simp only [if_true]
    have hy : ∀ z, yieldOut X.env z = yieldValue z := fun z => by unfold yieldOut; simp only [hco, Bool.false_eq_true, if_false]
    simp only [hy]
    rw [Sem.bind_eq_wrap', Sem.bind_eq_wrap', Sem.wrap_wrap, Sem.wrap_wrap]
    refine seg_wrap ?_
    rw [hA]
    refine wpAny_mono (hel.run _ s3 _ _ _ I3 (step i x2 H3 hv w)) (fun z s4 h4 => ?_) fun e s4 z => (by rw [hxe] at z; exact z.elim)
    obtain ⟨b, H4, I4, r4, eb, q1, q2⟩ := h4
    subst eb
    have ez : z = Value.bool (pb i) := r4
    subst ez
    have t4 : tn (i + 1) s4.heap := T.keep _ _ _ t2 fun b hb o e => (I4.pin (b, o) (List.mem_append_right _ (List.mem_append_right _ (mem_pinsAt hb e)))).1
    have f4 : ∀ b ∈ fp, FpOk X pins H4 b := fun b hb => by
      obtain ⟨o, e, d⟩ := T.obj _ _ t2 b hb
      exact ⟨(I4.pin (b, o) (List.mem_append_right _ (List.mem_append_right _ (mem_pinsAt hb e)))).2.1, (f b hb).2⟩
    refine seg_at (seg_yield rfl rfl rfl ⟨i, ⟨by omega, by omega⟩, rfl, ⟨some x2, H4, I4.unpinned, q2⟩, fun hp s'' hw => ?_⟩)
    exact seg_again rfl (ih (i + 1) s'' s'' (by omega) (by omega) (Top.wake hw ⟨some x2, H4, I4.unpinned, t4, f4, q1 hp⟩))
theorem seg_begin {A : Around} {elt iter : Expr} {x : Str} {px pos : Pos} {scope : Scope} {xs : List V} {a : Addr} {te : TE}
    (hA : A.over (.compLoop (.GeneratorExp elt [⟨.Name x px, iter, [], 0⟩] scope pos) 0 (.ref it) .none X.env) [] = X.A) (hc : X.calm = true) (hco : X.env.scope.isCoroutine = false) (hxe : X.xe = fun _ _ => False)
    (T : Turn X.prog X.w X.K (.Name x px) (Itt X.K a) fp it tn) (hg : PG X (.Name x px) (gName 1)) (hel : PE X elt te) (hl : xs.length = n0)
    (hxs : ∀ i H, W i H → SqT X.K H a xs)
    (step : ∀ i v H, xs[i]? = some v → W i H → te (some (.ref it) :: some v :: vs) H fun b H3 => b = .bl (pb i) ∧ (pb i = true → W (i + 1) H3) ∧ (pb i = false → Qf H3))
    (s₀ s : Shared) (h : Top X pins it vs fp tn W 0 s) :
      Seg (model X.prog X.w) A (Rp X pins it vs W n0) (Yp X pins it vs Qf pb n0) (n0 + 1) s₀ (.compStart (.GeneratorExp elt [⟨.Name x px, iter, [], 0⟩] scope pos) 0 (.ref it) .none X.env)
        ((model X.prog X.w).den (.compStart (.GeneratorExp elt [⟨.Name x px, iter, [], 0⟩] scope pos) 0 (.ref it) .none X.env)) [] s := by
  have loop := seg_loop (A := A) (elt := elt) (iter := iter) (px := px) (scope := scope) (pos := pos) hA hc hco hxe T hg hel hl hxs step n0 0 s₀ s (Nat.sub_zero _) (Nat.zero_le _) h
  obtain ⟨y, H, I, t, f, w⟩ := h
  show Seg _ A _ _ _ s₀ _ ((compStart (.GeneratorExp elt [⟨.Name x px, iter, [], 0⟩] scope pos) 0 (.ref it) .none X.env).onRaise (leaving X.env)) [] s
  unfold compStart
  rw [Sem.onRaise_eq_wrap]
  show Seg _ A _ _ _ s₀ _ ((ask >>= _).wrap _ _ _ _) [] s
  refine seg_bind_wrap (wpAny_askSetting ?_)
  split
  · exact seg_again rfl loop
  · refine seg_bind_wrap (wpAny_rule ?_)
    show Seg _ A _ _ _ s₀ _ ((standAt iter.pos >>= _).wrap _ _ _ _) [] s
    exact seg_bind_wrap (wpAny_standAt (seg_bind_wrap (T.self _ 0 s _ _ t (seg_again rfl loop))))
/-- what the consumer knows between two turns -/
def Con (X : Cx) (pins : List (Addr × Obj)) (it : Addr) (vs : List (Option V)) (W : Nat → Hp → Prop) (Qf : Hp → Prop) (pb : Nat → Bool) (n0 : Nat) (ag : Addr) (g : Nat) (A : Around) (i : Nat) (s : Shared) : Prop :=
  s.heap.IsGen ag g ∧ s.heap.NoLimit ∧ AllBare s.gens ∧ ∃ gs, s.gens[g]? = some gs ∧ ∀ s', Wk s s' → gs.Goes (model X.prog X.w) A (Rp X pins it vs W n0) (Yp X pins it vs Qf pb n0) (n0 - i + 1) (.send .none) s'
theorem all_loop {prog : Program} {w : World} (ep : X.prog = prog) (ew : X.w = w) {A : Around} {R : Result → Shared → Prop} (hh : A.handled = none) (hd : A.depth < recursionLimit) (hpin : ∀ s, (∃ σ H, Inv X pins σ H s) → s.heap.IsGen ag g)
    (hT : ∀ s s', Here X pins it vs (W n0) s → s'.os = s.os → AllBare s'.gens → (∀ b o, s.heap.get? b = some o → s'.heap.get? b = some o) → R (.ok (.ret (.bool true))) s')
    (hF : ∀ s s', Here X pins it vs Qf s → Wk s s' → R (.ok (.ret (.bool false))) s') :
    ∀ (k i : Nat) (s : Shared), n0 - i = k → i ≤ n0 → Con X pins it vs W Qf pb n0 ag g A.in1.in1 i s → codeAny (model prog w) A (.builtin "all.loop" ⟨[.ref ag], []⟩) R s := by
  subst ep ew
  intro k
  induction k with
  | zero =>
    intro i s hk hi ⟨hg, hl, hb, gs, hgs, hgo⟩
    refine codeAny_builtin F.entry_all_loop ?_
    rw [Around.under_plainId F.plain_all_loop _]
    show wpAny _ A.in1 (pyNext (.ref ag) >>= _) _ _ s
    have go0 := hgo (s.setGen g .running) ⟨rfl, allBare_setGen hb rfl, rfl⟩
    rw [hk] at go0
    refine wpAny_bind (wpAny_pyNext_genexpQ (A := A.in1) (P := fun n _ s₁ => n = 1 ∧ Here X pins it vs (W n0) s₁) hh hl hd hg hgs go0 (fun v s₁ gs' hbare hv => ?_) (fun s₁ hp h' hk' => ?_))
    · obtain ⟨j, e, _⟩ := hv
      omega
    · obtain ⟨_, hp⟩ := hp
      refine wpAny_bind (wpAny_rule (wpAny_pure ?_))
      obtain ⟨y, H, I, _⟩ := id hp
      exact hT s₁ _ hp rfl (allBare_setGen I.bare rfl) hk'
  | succ k ih =>
    intro i s hk hi ⟨hg, hl, hb, gs, hgs, hgo⟩
    have hgl : g < s.gens.size := (Array.getElem?_eq_some_iff.mp hgs).1
    refine codeAny_builtin F.entry_all_loop ?_
    rw [Around.under_plainId F.plain_all_loop _]
    show wpAny _ A.in1 (pyNext (.ref ag) >>= _) _ _ s
    have go0 := hgo (s.setGen g .running) ⟨rfl, allBare_setGen hb rfl, rfl⟩
    rw [hk] at go0
    refine wpAny_bind (wpAny_gsz (n := g + 1) hgl (wpAny_pyNext_genexpQ (A := A.in1) (P := fun n _ s₁ => n = 1 ∧ Here X pins it vs (W n0) s₁) hh hl hd hg hgs go0 (fun v s₁ gs' hbare hv hsz => ?_) (fun s₁ hp h' hk' => ?_)))
    · obtain ⟨j, e, ev, hH, hgo'⟩ := hv
      have ej : j = i := by omega
      subst ej
      subst ev
      obtain ⟨y, H, I, q⟩ := hH
      have hsz1 : g < s₁.gens.size := by
        have z : g + 1 ≤ (s₁.setGen g gs').gens.size := hsz
        rw [setGen_size] at z
        omega
      refine wpAny_bind (wpAny_holding (wpAny_truthy_bool ?_))
      refine wpAny_bind (wpAny_letGo ?_)
      cases hb' : pb j with
      | true =>
        simp only [if_true]
        refine wpAny_pure ⟨plainId_quiet F.plain_all_loop _, ih (j + 1) _ (by omega) (by omega) ?_⟩
        refine ⟨show s₁.heap.IsGen ag g from hpin s₁ ⟨_, _, I⟩, show s₁.heap.NoLimit from I.nolimit, allBare_setGen I.bare hbare, gs', setGen_at hsz1, fun s' hw => ?_⟩
        have ek : n0 - (j + 1) + 1 = k + 1 := by omega
        rw [ek]
        exact hgo' hb' s' ⟨hw.os, hw.bare, hw.heap⟩
      | false =>
        simp only [Bool.false_eq_true, if_false]
        refine wpAny_bind (wpAny_rule (wpAny_pure ?_))
        exact hF s₁ _ ⟨y, H, I, q hb'⟩ ⟨rfl, allBare_setGen I.bare hbare, rfl⟩
    · intro _
      have z := hp.1
      omega
end
end GA
namespace GA
open PySem PySem.Spec PyProof.Rows L2 GenW
section
variable {env : Env} {scope : Scope} {x : Str}
theorem clo_at (S : GxR.GenS env scope x) {y : Str} {c : Addr} (h : (cloFrom env.cells scope.names []).lookup y = some c) : env.cells.lookup y = some c := by
  rcases cloFrom_mem (PySem.mem_of_lookup h) with z | ⟨h1, h2⟩
  · cases z
  · obtain ⟨c', e⟩ := S.free _ h1 rfl
    rw [h2, e]
    rfl
theorem clo_has (S : GxR.GenS env scope x) {y : Str} (h : scope.names.lookup y = some .free) : ∃ c, (cloFrom env.cells scope.names []).lookup y = some c ∧ env.cells.lookup y = some c := by
  obtain ⟨c, e⟩ := mem_lookup (cloFrom_has (cells := env.cells) (acc := []) (PySem.mem_of_lookup h))
  exact ⟨c, e, clo_at S e⟩
end
/-- the table at P has at most one place more, of the line gl -/
def Grew (P : Addr) (gl : Nat) (H H' : Hp) : Prop := GxR.Tabbed P H H' ∧ ∀ ps, H P = some (.tbl ps) → ∃ more : Array Value, H' P = some (.tbl (ps ++ more)) ∧ (more = #[] ∨ ∃ (col : Nat) (c : Value), more = #[rawInt gl, rawInt col, c])
/-- all(test for x in e), e a tuple xs; W: what holds ahead of the i-th test; fr: the captured names' slots -/
def tAllG (K : PySem.W.Frag) (P : Addr) (gl : Nat) (fr : List Nat) (te elr : TE) : TE := fun σ H Q => te σ H fun v H1 => ∃ (a : Addr) (xs : List V), v = .ref a ∧ SqT K H1 a xs ∧ GxR.TabG H1 P ∧ ∃ (pb : Nat → Bool) (W : Nat → Hp → Prop),
  (∀ H2, Grew P gl H1 H2 → W 0 H2) ∧ (∀ i H2, W i H2 → SqT K H2 a xs) ∧
  (∀ i v H2 it, xs[i]? = some v → W i H2 → elr (some (.ref it) :: some v :: fr.map fun j => σ.getD j none) H2 fun b H3 => b = .bl (pb i) ∧ (pb i = true → W (i + 1) H3) ∧ (pb i = false → Q (.bl false) H3)) ∧
  ∀ H2, W xs.length H2 → Q (.bl true) H2
section
variable {X : Cx}
theorem inv_gen {pins : List (Addr × Obj)} {σ : L2.St} {H : Hp} {s : Shared} {scope : Scope} {x : Str} {code : Value} {A : Around} {it : Addr} {fr : List (Str × Nat)} {h' : Heap} {G : Array GenState} {tk : Nat}
    (S : GxR.GenS X.env scope x) (I : Inv X pins σ H s) (hA : A.handled = none) (hfr : A.frames = some (genEnv scope (cloFrom X.env.cells scope.names []) s.heap.objs.size code builtinsNs X.env :: X.stack))
    (hit : it < s.heap.objs.size) (hitB : X.base.objs.size ≤ it) (hitS : it ∉ frs X.stack) (hitC : ∀ y c, X.env.cells.lookup y = some c → c ≠ it)
    (hN : ∀ p ∈ fr, X.N[p.2]? = some p.1 ∧ scope.names.lookup p.1 = some .free ∧ (X.env.kindOf p.1 = some .cell ∨ X.env.kindOf p.1 = some .free))
    (hn : h'.Ns s.heap.objs.size fun y => if y = ".0" then some (.ref it) else none) (hk : ∀ b o, s.heap.get? b = some o → h'.get? b = some o) (hG : AllBare G) :
    Inv (gx X (".0" :: x :: fr.map (·.1)) (genEnv scope (cloFrom X.env.cells scope.names []) s.heap.objs.size code builtinsNs X.env) A s H [it]) [] (some (.ref it) :: none :: fr.map fun p => σ.getD p.2 none) H { s with heap := h', gens := G, toks := tk } := by
  have e0 := I.env0
  have cellOf : ∀ {y c}, (cloFrom X.env.cells scope.names []).lookup y = some c → X.env.cells.lookup y = some c := fun h => clo_at S h
  refine ⟨⟨I.ok.mod, S.kind, I.ok.glob, rfl, Nat.le_refl _, fun y z c h1 h2 => I.ok.inj y z c (cellOf h1) (cellOf h2), fun y hy => ?_, fun y c z => absurd z (by simp [gx]), fun _ => hA, hfr, .inr ⟨rfl, rfl⟩, fun b hb => ?_, e0.bs, e0.bsz, fun b o e hb => ?_, fun b hb => ?_, e0.funs, e0.frf⟩,
    rfl, hG, Un.kept hk, ⟨_, hn, fun i y v h1 h2 h3 => ?_⟩, fun y c h => ?_, I.hok.fresh (Nat.le_refl _), fun y c h => I.freeC y c (cellOf h), fun p hp => absurd (show p ∈ ([] : List (Addr × Obj)) from hp) (by simp), I.hok.kept hk, ?_⟩
  · rcases hy with hy | hy
    · exact absurd rfl (S.cell _ (PySem.mem_of_lookup hy))
    · obtain ⟨c, e, _⟩ := clo_has S hy
      exact ⟨c, e⟩
  · obtain rfl : b = it := by simpa [gx] using hb
    exact ⟨Nat.ne_of_lt hit, fun y c e => hitC y c (cellOf e)⟩
  · obtain rfl : b = it := by simpa [gx] using hb
    exact absurd (Nat.lt_of_lt_of_le (Heap.lt_size e) hitB) (Nat.lt_irrefl _)
  · obtain rfl : b = it := by simpa [gx] using hb
    exact hitS
  · match i, h1, h2 with
    | 0, h1, h2 =>
      have ey : ".0" = y := Option.some.inj h1
      have ev : V.ref it = v := Option.some.inj (Option.some.inj h2)
      subst ey ev
      exact ⟨.ref it, rfl, .inl ⟨S.dot, by simp⟩⟩
    | 1, h1, h2 => exact absurd (show (none : Option V) = some v from Option.some.inj h2) (fun z => nomatch z)
    | j + 2, h1, h2 =>
      have h1' : (fr.map (·.1))[j]? = some y := h1
      have h2' : (fr.map fun p => σ.getD p.2 none)[j]? = some (some v) := h2
      rw [List.getElem?_map] at h1' h2'
      cases q : fr[j]? with
      | none => rw [q] at h1'; cases h1'
      | some p =>
        rw [q] at h1' h2'
        have ey : p.1 = y := Option.some.inj h1'
        have ev : σ.getD p.2 none = some v := Option.some.inj h2'
        obtain ⟨a1, a2, a3⟩ := hN p (List.mem_of_getElem? q)
        subst ey
        have ev' : σ[p.2]? = some (some v) := by
          rw [List.getD_eq_getElem?_getD] at ev
          cases z : σ[p.2]? with
          | none => rw [z] at ev; cases ev
          | some w => rw [z] at ev; exact congrArg some ev
        obtain ⟨m, _, hl⟩ := I.loc
        obtain ⟨u, ru, lk⟩ := hl p.2 p.1 v a1 ev' (by
          rcases a3 with z | z
          · exact .inr (.inl z)
          · exact .inr (.inr z))
        obtain ⟨c, ec, ec'⟩ := clo_has S a2
        rcases lk with ⟨z, _⟩ | ⟨_, c', e1, e2⟩
        · rcases a3 with w | w
          · rw [w] at z; cases z
          · rw [w] at z; cases z
        · rw [ec'] at e1
          cases e1
          obtain ⟨o, ho, hd⟩ := e2
          exact ⟨u, ru, .inr ⟨.inr a2, c, ec, o, hk _ _ ho, hd⟩⟩
  · obtain ⟨v, o, ho, hd⟩ := I.cell y c (cellOf h)
    exact ⟨v, o, hk _ _ ho, hd⟩
  · simp [gx]
end
end GA
namespace GA
open PySem PySem.Spec PyProof.Rows L2 GenW
section
variable {X : Cx}
theorem gen_around {A : Around} {elt iter : Expr} {x : Str} {px pos : Pos} {scope : Scope} {env : Env} {it : Addr} {st : List Env} (hf : A.frames = some st) :
    (A.over (.compLoop (.GeneratorExp elt [⟨.Name x px, iter, [], 0⟩] scope pos) 0 (.ref it) .none env) []).frames = some (env :: st) := by
  show pushEnvs [env] (pushEnvs [] A.frames) = _
  rw [hf]
  rfl
theorem gen_room {k : Nat} {A : Around} {elt iter : Expr} {x : Str} {px pos : Pos} {scope : Scope} {env : Env} {it : Addr} (r : Room (k + 1) A) :
    Room k (A.in1.in1.over (.compLoop (.GeneratorExp elt [⟨.Name x px, iter, [], 0⟩] scope pos) 0 (.ref it) .none env) []) := by
  have h1 := r.dp
  have h2 := r.un
  refine ⟨r.hd, ?_, ?_⟩
  · show A.depth + 0 + 1 + 3 * k + 5 < _
    omega
  · show A.units + 1 + 1 + 0 + 3 + 16 * k + 200 < _
    omega
theorem pe_allG {c P : Addr} {elt iter : Expr} {x : Str} {px p pos gpos : Pos} {scope : Scope} {te elr : TE} {k : Nat} (fr : List (Str × Nat))
    (hr : Room (k + 1) X.A) (hcalm : X.calm = true) (hg : Gl X "all") (hm : X.mg "all" = none) (TB : GxR.TabB X.base X.mg c P) (hcode : X.env.code = .ref c) (S : GxR.GenS X.env scope x) (hnd : ((".0" : Str) :: x :: fr.map (·.1)).Nodup)
    (hN : ∀ p ∈ fr, X.N[p.2]? = some p.1 ∧ scope.names.lookup p.1 = some .free ∧ (X.env.kindOf p.1 = some .cell ∨ X.env.kindOf p.1 = some .free))
    (hi : PE X iter te)
    (hel : ∀ (C : Addr) (code : Value) (A : Around) (s : Shared) (H : Hp) (ex : List Addr), Room k A →
      PE (gx X (".0" :: x :: fr.map (·.1)) (genEnv scope (cloFrom X.env.cells scope.names []) C code builtinsNs X.env) A s H ex) elt elr)
    (hs : ∀ v, genFold iter X.env v = pure v := by intro _; rfl)
    (he : starEach [.GeneratorExp elt [⟨.Name x px, iter, [], 0⟩] scope gpos] X.env = (false, eval (.GeneratorExp elt [⟨.Name x px, iter, [], 0⟩] scope gpos) X.env) :: starEach [] X.env := by rfl) :
    PE X (.Call (.Name "all" p) [.GeneratorExp elt [⟨.Name x px, iter, [], 0⟩] scope gpos] [] pos) (tAllG X.K P gpos.line (fr.map (·.2)) te elr) := by
  refine ⟨fun pins s σ H Q I h => wpAny_Call_Name_kw (ld_blt I hg hm boot_all (PyProof.Rows.callWith_builtin1 ?_ he (by rfl)))⟩
  rw [he]
  have hdp := hr.dp
  show wpAny (model X.prog X.w) X.A (spliced ((false, eval (.GeneratorExp elt [⟨.Name x px, iter, [], 0⟩] scope gpos) X.env) :: backTo pos (starEach [] X.env))) _ _ s
  refine Calls.spliced_cons (wpAny_GeneratorExp_make S.co (closure_ok S.free) S.cell S.dot S.kind (by omega) ?_ hs)
  refine thn (hi.run pins s σ H _ I h) fun xv s1 ⟨v, H1, I1, r1, q1⟩ => ?_
  obtain ⟨a, xs, rfl, hT, ⟨ps, hP, ht⟩, pb, W, w0, wT, step, fin⟩ := q1
  obtain rfl : xv = Value.ref a := r1
  obtain ⟨its, rv, pT, hz⟩ := I1.tuple hT
  refine wpAny_pyIter_tuple (show s1.heap.IsTuple a its.toArray from pT) ⟨I1.nolimit.push _, ?_⟩
  generalize ho : ({ cls := .type "tuple_iterator", data := .fields #[.ref a, .int 0 0] } : Obj) = o
  have hpush : ∀ b u, s1.heap.get? b = some u → (s1.heap.push o).get? b = some u := fun b u e => Heap.get?_push_of_some _ e
  have hsz2 : (s1.heap.push o).objs.size = s1.heap.objs.size + 1 := Heap.size_push ..
  have hit2 : (s1.heap.push o).IsTupleIter s1.heap.objs.size a 0 := by
    subst ho
    exact ⟨_, Heap.get?_push_size _ rfl, rfl, rfl⟩
  have fpo := I1.fpOk (b := s1.heap.objs.size) (Nat.le_refl _) (I1.hok.fresh (Nat.le_refl _))
  have hPs : s1.heap.get? P = some { cls := .none, data := .fields ps } := I1.hok P _ hP
  have hPlt : P < s1.heap.objs.size := Heap.lt_size hPs
  have hP2 := hpush P _ hPs
  have cd : PySem.W.CodeHd (s1.heap.push o) c P := TB.code.keeps fun b u e => hpush b u (I1.bk b u e)
  have main : ∀ (code : Value) (h3 : Heap) (tk : Nat) (more : Array Value), Heap.ExtBut P (s1.heap.push o) h3 → (s1.heap.push o).objs.size ≤ h3.objs.size → h3.get? P = some { cls := .none, data := .fields (ps ++ more) } → TriplesOk (ps ++ more).toList → (more = #[] ∨ ∃ (col : Nat) (c : Value), more = #[rawInt gpos.line, rawInt col, c]) →
      wpAny (model X.prog X.w) X.A (builtinsFor X.env.globals X.env.builtins) (fun bi s₄ =>
        ∀ h', h'.Ns s₄.heap.objs.size (fun y => if y = ".0" then some (.ref s1.heap.objs.size) else none) → Heap.SameBut s₄.heap.objs.size (s₄.heap.push { cls := .type "frame", data := .dict #[] }) h' →
          wpAny (model X.prog X.w) X.A (spliced (backTo pos (starEach [] X.env))) (fun us s' => wpAny (model X.prog X.w) X.A (call (.builtin "all") (.ref h'.objs.size :: us)) (EP X pins σ Q) X.xe s') X.xe { s₄ with
            gens := s₄.gens.push (.fresh (.compStart (.GeneratorExp elt [⟨.Name x px, iter, [], 0⟩] scope gpos) 0 (.ref s1.heap.objs.size) .none (genEnv scope (cloFrom X.env.cells scope.names []) s₄.heap.objs.size code bi X.env))),
            toks := s₄.toks + 1 + 1 + 1,
            heap := h'.push { cls := .type "generator", data := .fields #[.int s₄.gens.size 0, .str "<genexpr>" (s₄.toks + 1), .str (X.env.qual ++ "<genexpr>") (s₄.toks + 1 + 1)] } }) X.xe { s1 with heap := h3, toks := tk } := by
    intro code h3 tk more hx hge hP3 ht3 hmo
    have kb : ∀ b u, b ≠ P → s1.heap.get? b = some u → h3.get? b = some u := fun b u hb e => hx b u hb (hpush b u e)
    have I3 : Inv X pins σ (upd H1 P (.tbl (ps ++ more))) { s1 with heap := h3, gens := s1.gens, drawn := s1.drawn, toks := tk } :=
      GxR.inv_tab I1 hP kb hP3 I1.bare
    obtain ⟨bm, ob, e1, e2, e3, e4, e5, e6, e7, e8⟩ := TB.bm
    refine wpAny_builtinsFor (m := X.mg) (by rw [I1.ok.glob]; exact I3.mod.glob.keeps I3.bk) e1 e2 (I3.bk _ _ e5) e6 e7 e8 ?_
    intro h' hn hsb
    have lt1 : s1.heap.objs.size < h3.objs.size := by omega
    have hsz' : h'.objs.size = h3.objs.size + 1 := by rw [hsb.1, Heap.size_push]
    have k' : ∀ b u, h3.get? b = some u → h'.get? b = some u := fun b u e => hsb.extBut b u (Nat.ne_of_lt (Heap.lt_size e)) (Heap.get?_push_of_some _ e)
    generalize hgo : ({ cls := .type "generator", data := .fields #[.int s1.gens.size 0, .str "<genexpr>" (tk + 1), .str (X.env.qual ++ "<genexpr>") (tk + 1 + 1)] } : Obj) = go
    have k5 : ∀ b u, h3.get? b = some u → (h'.push go).get? b = some u := fun b u e => Heap.get?_push_of_some _ (k' b u e)
    have hgo5 : (h'.push go).get? h'.objs.size = some go := by subst hgo; exact Heap.get?_push_size _ rfl
    have gend : ∀ v, go.data ≠ .cell v := fun v z => by subst hgo; cases z
    have isg : ∀ h : Heap, h.get? h'.objs.size = some go → h.IsGen h'.objs.size s1.gens.size := fun h e => by
      subst hgo
      exact ⟨_, _, _, e, rfl, rfl, rfl⟩
    -- the iterator is none of what stands
    have itS : s1.heap.objs.size ∉ frs X.stack := fun hb => by
      obtain ⟨_, u, hu, _⟩ := I1.env0.funs.mem hb
      exact absurd (Heap.lt_size hu) (Nat.lt_irrefl _)
    obtain ⟨f0, f1, f2, f3, f4, f5⟩ := fpo
    obtain ⟨Ag, hAg⟩ : ∃ Ag, Ag = X.A.in1.in1.over (.compLoop (.GeneratorExp elt [⟨.Name x px, iter, [], 0⟩] scope gpos) 0 (.ref s1.heap.objs.size) .none (genEnv scope (cloFrom X.env.cells scope.names []) h3.objs.size code builtinsNs X.env)) [] := ⟨_, rfl⟩
    have rg : Room k Ag := by rw [hAg]; exact gen_room hr
    have frg : Ag.frames = some (genEnv scope (cloFrom X.env.cells scope.names []) h3.objs.size code builtinsNs X.env :: X.stack) := by
      rw [hAg]
      exact gen_around (A := X.A.in1.in1) I1.ok.frames
    have J0 := inv_gen (x := x) (fr := fr) (code := code) (A := Ag) (it := s1.heap.objs.size) (h' := h'.push go) (G := s1.gens.push (.fresh (.compStart (.GeneratorExp elt [⟨.Name x px, iter, [], 0⟩] scope gpos) 0 (.ref s1.heap.objs.size) .none (genEnv scope (cloFrom X.env.cells scope.names []) h3.objs.size code builtinsNs X.env)))) (tk := tk + 1 + 1 + 1) S I3 rg.hd frg lt1 (Nat.le_trans I1.ok.bsz I1.sz) itS f4 hN (hn.push go) k5 (I1.bare.push rfl)
    generalize hXg : gx X (".0" :: x :: fr.map (·.1)) (genEnv scope (cloFrom X.env.cells scope.names []) h3.objs.size code builtinsNs X.env) Ag { s1 with heap := h3, gens := s1.gens, drawn := s1.drawn, toks := tk } (upd H1 P (.tbl (ps ++ more))) [s1.heap.objs.size] = Xg at J0
    have J : Inv Xg [(h'.objs.size, go)] (some (.ref s1.heap.objs.size) :: none :: fr.map fun p => σ.getD p.2 none) (upd H1 P (.tbl (ps ++ more))) { s1 with heap := h'.push go, gens := s1.gens.push (.fresh (.compStart (.GeneratorExp elt [⟨.Name x px, iter, [], 0⟩] scope gpos) 0 (.ref s1.heap.objs.size) .none (genEnv scope (cloFrom X.env.cells scope.names []) h3.objs.size code builtinsNs X.env))), toks := tk + 1 + 1 + 1 } := by
      refine J0.pins_of fun q hq => ?_
      rw [List.mem_singleton.mp hq]
      refine ⟨hgo5, I3.hok.fresh (by show h3.objs.size ≤ h'.objs.size; omega), ?_, fun hb => ?_, gend⟩
      · subst hXg
        show h'.objs.size ≠ h3.objs.size
        omega
      · subst hXg
        obtain ⟨_, u, hu, _⟩ := I3.env0.funs.mem hb
        have z : h'.objs.size < h3.objs.size := Heap.lt_size hu
        omega
    have back : ∀ (b : Bool) (R : Hp → Prop) (s9 s' : Shared), (∀ H9, R H9 → Q (.bl b) H9) → Here Xg [(h'.objs.size, go)] s1.heap.objs.size (fr.map fun p => σ.getD p.2 none) R s9 → s'.os = s9.os → AllBare s'.gens → (∀ b o, s9.heap.get? b = some o → s'.heap.get? b = some o) → EP X pins σ Q (.bool b) s' := by
      intro b R s9 s' hR hH hos hb hk
      obtain ⟨y, H9, I9, q9⟩ := hH
      have hbase := I9.base
      have hos9 := I9.os
      have hok9 := I9.hok
      subst hXg
      refine ⟨.bl b, H9, I3.call' (ch := [s1.heap.objs.size]) (hos.trans hos9) ((show Un (frs X.stack) [s1.heap.objs.size] (upd H1 P (.tbl (ps ++ more))) H9 h3 s9.heap from hbase).trans (Un.kept hk)) (HOk.kept (show HOk X.prog X.w H9 s9.heap from hok9) hk) hb fun d hd => ?_, rfl, hR H9 q9⟩
      rw [List.mem_singleton.mp hd]
      exact ⟨f3, f1, f4, f5⟩
    refine Calls.spliced_nil (call_function_tree F.kind_all F.plain_all F.entry_all (F.args_all1 _) ?_)
    unfold Builtin.«all»
    refine wpAny_bind (m := oneArg "all" _) (wpAny_pure (wpAny_bind (wpAny_pyIter_gen (isg _ hgo5) (wpAny_pure ⟨plainId_quiet F.plain_all_loop _, ?_⟩))))
    have T : Turn X.prog X.w X.K (.Name x px) (Itt X.K a) [s1.heap.objs.size] s1.heap.objs.size (fun i h => h.IsTupleIter s1.heap.objs.size a i) := turn_tuple a _
    refine all_loop (X := Xg) (by subst hXg; rfl) (by subst hXg; rfl) (pins := [(h'.objs.size, go)]) (it := s1.heap.objs.size) (vs := fr.map fun p => σ.getD p.2 none) (W := W) (Qf := fun H9 => Q (.bl false) H9) (pb := pb) (n0 := xs.length) (ag := h'.objs.size) (g := s1.gens.size) hr.hd hr.depth (fun s9 h9 => ?_) (fun s9 s' h9 h1 h2 h3' => ?_) (fun s9 s' h9 hw => ?_) xs.length 0 _ (Nat.sub_zero _) (Nat.zero_le _) ?_
    · obtain ⟨σ9, H9, I9⟩ := h9
      exact isg _ (I9.pin (h'.objs.size, go) (List.mem_append_right _ (List.mem_singleton.mpr rfl))).1
    · exact back true _ s9 s' (fun H9 q => fin H9 q) h9 h1 h2 h3'
    · exact back false _ s9 s' (fun H9 q => q) h9 hw.os hw.bare fun b u e => by rw [hw.heap]; exact e
    · refine ⟨isg _ hgo5, J.nolimit, J.bare, _, Array.getElem?_push_size .., fun s' hw => ⟨rfl, ?_⟩⟩
      have hTop : Top Xg [(h'.objs.size, go)] s1.heap.objs.size (fr.map fun p => σ.getD p.2 none) [s1.heap.objs.size] (fun i h => h.IsTupleIter s1.heap.objs.size a i) W 0 s' := by
        refine Top.wake hw ⟨none, _, J, ?_, fun b hb => ?_, w0 _ ⟨⟨⟨ps ++ more, upd_same, ht3⟩, fun b hb => upd_ne hb⟩, fun qs e => by rw [hP] at e; cases e; exact ⟨more, upd_same, hmo⟩⟩⟩
        · exact (hit2.at fun u e => k5 _ u (hx _ u (Nat.ne_of_gt hPlt) e))
        · obtain rfl : b = s1.heap.objs.size := List.mem_singleton.mp hb
          subst hXg
          refine ⟨by rw [upd_ne (Nat.ne_of_gt hPlt)]; exact f0, Nat.ne_of_lt lt1, itS, .inl (List.mem_singleton.mpr rfl), fun y c e => f4 y c (clo_at S e), fun q hq => ?_⟩
          rw [List.mem_singleton.mp hq]
          show h'.objs.size ≠ s1.heap.objs.size
          omega
      have hel' := hel h3.objs.size code Ag { s1 with heap := h3, gens := s1.gens, drawn := s1.drawn, toks := tk } (upd H1 P (.tbl (ps ++ more))) [s1.heap.objs.size] rg
      rw [hXg] at hel'
      have hgn : PG Xg (.Name x px) (gName 1) := by
        subst hXg
        exact pg_name hnd rfl (.inl S.loc) (.inr S.loc)
      have e1 : Xg.prog = X.prog := by subst hXg; rfl
      have e2 : Xg.w = X.w := by subst hXg; rfl
      have e3' : Xg.K = X.K := by subst hXg; rfl
      have e4' : Xg.env = genEnv scope (cloFrom X.env.cells scope.names []) h3.objs.size code builtinsNs X.env := by subst hXg; rfl
      have e5' : Xg.A = Ag := by subst hXg; rfl
      have e6' : Xg.calm = true := by subst hXg; rfl
      have e7' : Xg.xe = fun _ _ => False := by subst hXg; rfl
      have hB := seg_begin (X := Xg) (pins := [(h'.objs.size, go)]) (it := s1.heap.objs.size) (vs := fr.map fun p => σ.getD p.2 none) (fp := [s1.heap.objs.size]) (tn := fun i h => h.IsTupleIter s1.heap.objs.size a i) (W := W) (Qf := fun H9 => Q (.bl false) H9) (pb := pb) (n0 := xs.length)
        (A := X.A.in1.in1) (elt := elt) (iter := iter) (x := x) (px := px) (pos := gpos) (scope := scope) (xs := xs) (a := a) (te := elr)
        (by rw [e4', e5', hAg]) e6' (by rw [e4']; exact S.co) e7' (by rw [e1, e2, e3']; exact T) hgn hel' rfl (fun i H9 w => by rw [e3']; exact wT i H9 w) (fun i v H9 hv w => by
          have z := step i v H9 s1.heap.objs.size hv w
          rw [List.map_map] at z
          exact z) s' s' hTop
      rw [e4'] at hB
      rw [Nat.sub_zero]
      exact hB
  cases hf : codeAmong gpos ps.toList with
  | none =>
    refine wpAny_genexprCodeX hcode (cd.code hP2 ht) (cd.tab hP2) hf fun c' h' tk hx hge hlt hco' _ htab' _ => ?_
    obtain ⟨o1, vs, f1, tf, fl, tg, inF, tx, tt, op, _, _, _, _, _, _, _, _, _, htr, _⟩ := hco'
    exact main _ h' tk _ hx (Nat.le_trans hge (Nat.le_of_lt hlt)) htab'.2 htr (.inr ⟨_, _, rfl⟩)
  | some cv =>
    refine wpAny_genexprCode_hit hcode (cd.code hP2 ht) hf ?_
    exact main cv (s1.heap.push o) s1.toks #[] (Heap.ExtBut.refl _ _) (Nat.le_refl _) (by simpa using hP2) (by simpa using ht) (.inl rfl)
end
end GA
end
section
set_option maxHeartbeats 4000000
/-! sets of tuples of ints, of any size that a program of ours reaches: the table's round -/
namespace ZS
open PySem PySem.Spec PyProof.Rows L2
/-! ### i -> 5 i + 1 by powers of two -/
def seq5 : Nat → Nat
  | 0 => 0
  | n + 1 => seq5 n * 5 + 1
theorem seq5_add (m : Nat) : ∀ n, seq5 (n + m) = 5 ^ n * seq5 m + seq5 n
  | 0 => by rw [Nat.zero_add, Nat.pow_zero, Nat.one_mul]; rfl
  | n + 1 => by
    have h := seq5_add m n
    have e : n + 1 + m = (n + m) + 1 := by omega
    rw [e]
    show seq5 (n + m) * 5 + 1 = 5 ^ (n + 1) * seq5 m + (seq5 n * 5 + 1)
    have e2 : 5 ^ (n + 1) * seq5 m = 5 ^ n * seq5 m * 5 := by
      rw [Nat.pow_succ, Nat.mul_right_comm]
    omega
theorem pow5 : ∀ n, ∃ r, 5 ^ n = 4 * r + 1
  | 0 => ⟨0, rfl⟩
  | n + 1 => by
    obtain ⟨r, h⟩ := pow5 n
    exact ⟨5 * r + 1, by rw [Nat.pow_succ]; omega⟩
theorem odd_mul (a b : Nat) : (2 * a + 1) * (2 * b + 1) = 2 * (2 * (a * b) + a + b) + 1 := by
  have h1 : (2 * a + 1) * (2 * b + 1) = 2 * a * (2 * b) + 2 * a + (2 * b) + 1 := by
    rw [Nat.add_mul, Nat.mul_add, Nat.one_mul, Nat.mul_one]
    omega
  have h2 : 2 * a * (2 * b) = 4 * (a * b) := by
    rw [Nat.mul_mul_mul_comm]
  omega
/-- the 2^e-th is 2^e times an odd number -/
theorem seq5_pow : ∀ e, ∃ q, seq5 (2 ^ e) = 2 ^ e * (2 * q + 1)
  | 0 => ⟨0, rfl⟩
  | e + 1 => by
    obtain ⟨q, h⟩ := seq5_pow e
    obtain ⟨r, hr⟩ := pow5 (2 ^ e)
    have e1 : 2 ^ (e + 1) = 2 ^ e + 2 ^ e := by rw [Nat.pow_succ]; omega
    refine ⟨2 * (r * q) + r + q, ?_⟩
    rw [e1, seq5_add, h, hr]
    have h1 : (4 * r + 1) * (2 ^ e * (2 * q + 1)) + 2 ^ e * (2 * q + 1) = 2 ^ e * (((4 * r + 1) + 1) * (2 * q + 1)) := by
      generalize 4 * r + 1 = A
      generalize 2 * q + 1 = B
      rw [Nat.mul_left_comm, ← Nat.mul_add, Nat.add_mul, Nat.one_mul]
    rw [h1]
    have h2 : ((4 * r + 1) + 1) * (2 * q + 1) = 2 * ((2 * r + 1) * (2 * q + 1)) := by
      rw [← Nat.mul_assoc]
      congr 1
      omega
    rw [h2, odd_mul, ← Nat.two_mul, Nat.mul_assoc, Nat.mul_left_comm]
theorem seq5_all : ∀ e j, ∃ b, b < 2 ^ e ∧ seq5 b % 2 ^ e = j % 2 ^ e
  | 0, j => ⟨0, by decide, by rw [Nat.pow_zero, Nat.mod_one, Nat.mod_one]⟩
  | e + 1, j => by
    obtain ⟨b, hb, h⟩ := seq5_all e j
    have e1 : 2 ^ (e + 1) = 2 * 2 ^ e := by rw [Nat.pow_succ]; omega
    have hp : 0 < 2 ^ e := Nat.pow_pos (by decide)
    by_cases c : seq5 b % 2 ^ (e + 1) = j % 2 ^ (e + 1)
    · exact ⟨b, by omega, c⟩
    · refine ⟨b + 2 ^ e, by omega, ?_⟩
      obtain ⟨q, hq⟩ := seq5_pow e
      obtain ⟨r, hr⟩ := pow5 b
      have h5 : 5 ^ b = 2 * (2 * r) + 1 := by omega
      rw [seq5_add, hq, h5]
      have h1 : (2 * (2 * r) + 1) * (2 ^ e * (2 * q + 1)) = 2 ^ e * (2 * (2 * (2 * r * q) + 2 * r + q) + 1) := by
        rw [Nat.mul_left_comm, odd_mul]
      rw [h1]
      generalize 2 * (2 * r * q) + 2 * r + q = t
      have h2 : 2 ^ e * (2 * t + 1) + seq5 b = (2 ^ e + seq5 b) + 2 * 2 ^ e * t := by
        rw [Nat.mul_add, Nat.mul_one, Nat.mul_left_comm, Nat.mul_assoc]
        omega
      rw [h2, e1, Nat.add_mul_mod_self_left]
      rw [e1] at c
      -- both by 2 * 2 ^ e
      generalize 2 ^ e = M at hp h c
      generalize seq5 b = u at h c
      have d1 := Nat.div_add_mod u (2 * M)
      have d2 := Nat.div_add_mod j (2 * M)
      have l1 := Nat.mod_lt u (show 0 < 2 * M by omega)
      have l2 := Nat.mod_lt j (show 0 < 2 * M by omega)
      have m1 : u % (2 * M) % M = u % M := Nat.mod_mul_left_mod u 2 M
      have m2 : j % (2 * M) % M = j % M := Nat.mod_mul_left_mod j 2 M
      have m3 : (M + u) % (2 * M) = (M + u % (2 * M)) % (2 * M) := by rw [Nat.add_mod_mod]
      rw [m3]
      generalize u % (2 * M) = x at c l1 m1
      generalize j % (2 * M) = y at c l2 m2
      have hxy : x % M = y % M := by rw [m1, m2, h]
      have modM : ∀ z, z < 2 * M → z % M = if z < M then z else z - M := fun z hz => by
        split
        · exact Nat.mod_eq_of_lt (by assumption)
        · rw [Nat.mod_eq_sub_mod (by omega), Nat.mod_eq_of_lt (by omega)]
      rw [modM x l1, modM y l2] at hxy
      by_cases hx : x < M
      · rw [if_pos hx] at hxy
        by_cases hy : y < M
        · rw [if_pos hy] at hxy; exact absurd hxy c
        · rw [if_neg hy] at hxy
          rw [Nat.mod_eq_of_lt (by omega)]
          omega
      · rw [if_neg hx] at hxy
        by_cases hy : y < M
        · rw [if_pos hy] at hxy
          rw [Nat.mod_eq_sub_mod (by omega), Nat.mod_eq_of_lt (by omega)]
          omega
        · rw [if_neg hy] at hxy
          exact absurd (by omega) c
theorem lcgN_seq (m : Nat) : ∀ k, lcgN m k = seq5 k % (m + 1)
  | 0 => (Nat.zero_mod _).symm
  | k + 1 => by
    show (lcgN m k * 5 + 1) % (m + 1) = (seq5 k * 5 + 1) % (m + 1)
    rw [lcgN_seq m k, Nat.add_mod, Nat.mod_mul_mod, ← Nat.add_mod]
/-- the masks that come: one less than a power of two -/
def Msk (m : Nat) : Prop := ∃ e, 3 ≤ e ∧ e ≤ 16 ∧ m + 1 = 2 ^ e
theorem Msk.bd {m : Nat} (h : Msk m) : 7 ≤ m ∧ m < 65536 := by
  obtain ⟨e, h1, h2, h3⟩ := h
  have a : 2 ^ 3 ≤ 2 ^ e := Nat.pow_le_pow_right (by decide) h1
  have b : 2 ^ e ≤ 2 ^ 16 := Nat.pow_le_pow_right (by decide) h2
  omega
theorem Msk.odd {m : Nat} (h : Msk m) : m % 2 = 1 := by
  obtain ⟨e, h1, h2, h3⟩ := h
  obtain ⟨d, rfl⟩ : ∃ d, e = d + 1 := ⟨e - 1, by omega⟩
  rw [Nat.pow_succ] at h3
  omega
theorem round_all {m : Nat} (hm : Msk m) {i j : Nat} (hi : i ≤ m) (hj : j ≤ m) : ∃ k, k ≤ m ∧ lcgI m i k = j := by
  obtain ⟨e, _, _, he⟩ := hm
  have pe : ∀ n, lcgN m (2 ^ e + n) = lcgN m n := fun n => by
    obtain ⟨q, hq⟩ := seq5_pow e
    rw [lcgN_seq, lcgN_seq, he, Nat.add_comm, seq5_add, hq, Nat.mul_left_comm, Nat.add_comm, Nat.add_mul_mod_self_left]
  obtain ⟨a, ha, ea⟩ := seq5_all e i
  obtain ⟨b, hb, eb⟩ := seq5_all e j
  have ea' : lcgN m a = i := by rw [lcgN_seq, he, ea]; exact Nat.mod_eq_of_lt (by omega)
  have eb' : lcgN m b = j := by rw [lcgN_seq, he, eb]; exact Nat.mod_eq_of_lt (by omega)
  rw [← ea']
  by_cases c : a ≤ b
  · refine ⟨b - a, by omega, ?_⟩
    rw [lcgN_add, show a + (b - a) = b by omega, eb']
  · refine ⟨2 ^ e + b - a, by omega, ?_⟩
    rw [lcgN_add, show a + (2 ^ e + b - a) = 2 ^ e + b by omega, pe, eb']
/-- within a round no slot comes twice -/
theorem round_dif {m : Nat} (hm : Msk m) {i : Nat} (hi : i ≤ m) : ((List.range (m + 1)).map (lcgI m i)).Nodup := by
  have h := perm_range (m + 1) ((List.range (m + 1)).map (lcgI m i)) (by simp) fun j hj => by
    obtain ⟨k, hk, e⟩ := round_all hm hi (Nat.le_of_lt_succ hj)
    exact List.mem_map.mpr ⟨k, List.mem_range.mpr (Nat.lt_succ_of_le hk), e⟩
  exact h.nodup_iff.mpr List.nodup_range
/-- among the first runs one begins at a slot that is not in a short list -/
theorem run_out {m : Nat} (hm : Msk m) (h : Int) (D : List Nat) (hD : D.length ≤ m) : ∃ n, n ≤ D.length + 12 ∧ runI m (SetTable.bits h) n ∉ D := by
  have dif := round_dif hm (runI_le m (SetTable.bits h) 12)
  have sub : ((List.range (D.length + 1)).map (lcgI m (runI m (SetTable.bits h) 12))).Nodup := by
    refine List.Sublist.nodup (List.Sublist.map _ ?_) dif
    exact List.range_sublist.mpr (by omega)
  refine Classical.byContradiction fun no => ?_
  have all : ∀ z ∈ (List.range (D.length + 1)).map (lcgI m (runI m (SetTable.bits h) 12)), z ∈ D := fun z hz => by
    obtain ⟨k, hk, e⟩ := List.mem_map.mp hz
    have hk' := List.mem_range.mp hk
    refine Classical.byContradiction fun w => no ⟨12 + k, by omega, ?_⟩
    rw [runI_tail (bits_lt h), e]
    exact w
  have := nat_nodup_len _ D sub all
  rw [List.length_map, List.length_range] at this
  omega
/-- every slot is the start of one of the first runs -/
theorem run_to {m : Nat} (hm : Msk m) (h : Int) {j : Nat} (hj : j ≤ m) : ∃ n, n ≤ m + 12 ∧ runI m (SetTable.bits h) n = j := by
  obtain ⟨k, hk, e⟩ := round_all hm (runI_le m (SetTable.bits h) 12) hj
  refine ⟨12 + k, by omega, ?_⟩
  rw [runI_tail (bits_lt h), e]
theorem way_out {m : Nat} (hm : Msk m) (h : Int) (D : List Nat) (hD : D.length ≤ m) : ∃ k, k ≤ 10 * (D.length + 12) ∧ way m h k ∉ D := by
  obtain ⟨n, hn, e⟩ := run_out hm h D hD
  obtain ⟨k, hk, e2⟩ := run_nth m (SetTable.bits h) n
  refine ⟨k, by omega, ?_⟩
  show (nth m (runAt m (SetTable.bits h % (m + 1)) (SetTable.bits h)) k).j ∉ D
  rw [e2]
  exact e
theorem way_in {m : Nat} (h : Int) (k : Nat) : way m h k ≤ m := by
  have h0 : SetTable.bits h % (m + 1) ≤ m := Nat.le_of_lt_succ (Nat.mod_lt _ (Nat.succ_pos _))
  obtain ⟨r1, r2, _⟩ := runEnd_bd h0
  have q := nth_in k (runAt m (SetTable.bits h % (m + 1)) (SetTable.bits h)) (m := m) (by
    show SetTable.bits h % (m + 1) + (SetTable.runEnd m (SetTable.bits h % (m + 1)) - SetTable.bits h % (m + 1)) ≤ m
    omega)
  exact Nat.le_trans (Nat.le_add_right _ _) q
end ZS
end
section
set_option maxHeartbeats 4000000
namespace ZS
open PySem PySem.Spec PyProof.Rows L2
/-- a table without dummies in which each hash's own way leads to its slot over full slots -/
structure Tab (t : SetTable) (hs : List Int) : Prop where
  up : Ris t.place.toList
  nod : t.dummies = #[]
  len : t.place.size = hs.length
  msk : Msk t.mask
  low : ∀ z ∈ t.place.toList, z ≤ t.mask
  found : ∀ (i : Nat) (h : Int) (j : Nat), hs[i]? = some h → t.place.toList[i]? = some j → ∃ k, way t.mask h k = j ∧ ∀ n, n < k → way t.mask h n ∈ t.place.toList
section
variable {t : SetTable} {hs : List Int}
theorem Tab.gap (T : Tab t hs) (room : hs.length ≤ t.mask) (h : Int) : ∃ N, N ≤ 10 * (hs.length + 12) ∧ way t.mask h N ∉ t.place.toList ∧ ∀ n, n < N → way t.mask h n ∈ t.place.toList := by
  have full : t.place.toList.length = hs.length := by rw [Array.length_toList]; exact T.len
  obtain ⟨k, hk, free⟩ := way_out T.msk h t.place.toList (by omega)
  obtain ⟨N, a, b, c⟩ := st_least (p := fun n => way t.mask h n ∉ t.place.toList) k free
  exact ⟨N, by omega, b, fun n hn => Classical.byContradiction fun z => c n hn z⟩
theorem Tab.ahead (T : Tab t hs) {h : Int} {N i j : Nat} (hN : way t.mask h N ∉ t.place.toList) (hi : hs[i]? = some h) (hj : t.place.toList[i]? = some j) : ∃ n, n < N ∧ way t.mask h n = j := by
  obtain ⟨k, ek, full⟩ := T.found i h j hi hj
  refine ⟨k, Nat.lt_of_not_le fun z => ?_, ek⟩
  rcases Nat.lt_or_eq_of_le z with z | z
  · exact hN (full N z)
  · rw [z, ek] at hN
    exact hN (List.mem_of_getElem? hj)
/-- a new hash is put into the first gap of its way -/
structure Put (t : SetTable) (hs : List Int) (h : Int) (j p : Nat) : Prop where
  at_ : (t.put j).2 = p
  le : p ≤ hs.length
  tab : Tab (t.put j).1 (hs.take p ++ h :: hs.drop p)
  mask : (t.put j).1.mask = t.mask
  led : (t.put j).1.led = t.led
  plain : (t.put j).1.plain = t.plain
  fill : (t.put j).1.fill = hs.length + 1
theorem Tab.put (T : Tab t hs) {h : Int} {N : Nat} (hN : way t.mask h N ∉ t.place.toList) (full : ∀ n, n < N → way t.mask h n ∈ t.place.toList) :
    Put t hs h (way t.mask h N) (SetTable.below t.place (way t.mask h N)) := by
  have hle := way_in (m := t.mask) h N
  generalize hj : way t.mask h N = j at hN hle ⊢
  obtain ⟨cut, _, _⟩ := below_cut T.up j
  have hnew : t.place[SetTable.below t.place j]? ≠ some j := fun e => hN (List.mem_of_getElem? (by rw [Array.getElem?_toList]; exact e))
  have hP := put_place t j
  have h2 : (t.put j).2 = SetTable.below t.place j := rfl
  have up' := ris_insert T.up hnew
  have nod' := put_dm T.nod j
  have len := T.len
  have hlist : t.place.toList.length = hs.length := by rw [Array.length_toList]; exact len
  generalize SetTable.below t.place j = p at cut hP up' h2 ⊢
  have hp : p ≤ hs.length := by omega
  have hp' : p ≤ t.place.toList.length := by omega
  have hcount : (t.put j).1.place.size = hs.length + 1 := by
    have := len_ins t.place.toList hp' j
    rw [← hP, Array.length_toList] at this
    omega
  have more : ∀ z, z ∈ t.place.toList → z ∈ (t.put j).1.place.toList := fun z hz => by rw [hP]; exact mem_ins.2 (.inr hz)
  have lift : ∀ {h' : Int} {j' : Nat}, (∃ k, way t.mask h' k = j' ∧ ∀ n, n < k → way t.mask h' n ∈ t.place.toList) → ∃ k, way t.mask h' k = j' ∧ ∀ n, n < k → way t.mask h' n ∈ (t.put j).1.place.toList :=
    fun ⟨k, a, b⟩ => ⟨k, a, fun n hn => more _ (b n hn)⟩
  refine ⟨?_, hp, ⟨by rw [hP]; rw [SetTable.toList_insertAt] at up'; exact up', nod', ?_, T.msk, fun z hz => ?_, fun i h' j' a b => ?_⟩, rfl, rfl, rfl, ?_⟩
  · exact h2
  · rw [len_ins hs hp h]; exact hcount
  · rw [hP] at hz
    rcases mem_ins.1 hz with e | e
    · rw [e]; exact hle
    · exact T.low z e
  · rw [tins_get hs hp] at a
    rw [hP, tins_get _ hp'] at b
    show ∃ k, way t.mask h' k = j' ∧ ∀ n, n < k → way t.mask h' n ∈ (t.put j).1.place.toList
    by_cases c : i < p
    · rw [if_pos c] at a b
      exact lift (T.found i h' j' a b)
    · rw [if_neg c] at a b
      by_cases d : i = p
      · rw [if_pos d] at a b
        obtain rfl : h = h' := Option.some.inj a
        obtain rfl : j = j' := Option.some.inj b
        exact lift ⟨N, hj, full⟩
      · rw [if_neg d] at a b
        exact lift (T.found (i - 1) h' j' a b)
  · show (t.put j).1.place.size + (t.put j).1.dummies.size = _
    rw [hcount, nod']
    rfl
end
/-! ### all laid anew -/
theorem spot {m : Nat} (hm : Msk m) (owner : Array (Option Nat)) (h : Int) {j : Nat} (hj : j ≤ m) (hf : oAt owner j = none) :
    ∃ N, SetTable.layClean.free m owner (SetTable.turns m) (SetTable.bits h % (m + 1)) (SetTable.bits h) = some (way m h N) ∧ oAt owner (way m h N) = none ∧ ∀ n, n < N → oAt owner (way m h n) ≠ none := by
  obtain ⟨n, hn, en⟩ := run_to hm h hj
  have at_ : way m h (off m (SetTable.bits h % (m + 1)) (SetTable.bits h) n) = j := by
    show (nth m (runAt m (SetTable.bits h % (m + 1)) (SetTable.bits h)) _).j = j
    rw [nth_off, itL_run, ← en]
    rfl
  obtain ⟨N, a, b, c⟩ := st_least (p := fun n => oAt owner (way m h n) = none) _ (show oAt owner (way m h (off m (SetTable.bits h % (m + 1)) (SetTable.bits h) n)) = none by rw [at_]; exact hf)
  have ht : SetTable.turns m = m + 15 := rfl
  refine ⟨N, free_spec m owner (SetTable.turns m) n _ _ N (by omega) a (fun k hk => ?_) ?_, b, c⟩
  · have z := c k hk
    exact Option.isNone_eq_false_iff.mpr (Option.ne_none_iff_isSome.mp z)
  · exact Option.isNone_iff_eq_none.mpr b
theorem own_next {m : Nat} (hm : Msk m) {done : List Int} {owner : Array (Option Nat)} (W : Own m done owner) (room : done.length ≤ m) (h : Int) :
    ∃ j, SetTable.layClean.free m owner (SetTable.turns m) (SetTable.bits h % (m + 1)) (SetTable.bits h) = some j ∧ Own m (done ++ [h]) (owner.setIfInBounds j (some done.length)) := by
  obtain ⟨ps, lps, hps⟩ := W.ps
  obtain ⟨f, hf, nf⟩ := st_missing ps (m + 1) (by omega)
  have empty : oAt owner f = none := Classical.byContradiction fun z => nf (hps f (Nat.le_of_lt_succ hf) z)
  obtain ⟨N, fnd, isn, full⟩ := spot hm owner h (Nat.le_of_lt_succ hf) empty
  have hw := way_in (m := m) h N
  generalize hj : way m h N = j at fnd isn hw
  have inb : j < owner.size := by have := W.sz; omega
  have here := oAt_set_self (some done.length) inb
  have there : ∀ i, i ≠ j → oAt (owner.setIfInBounds j (some done.length)) i = oAt owner i := fun i hi => oAt_set_ne _ hi
  have stay : ∀ i, oAt owner i ≠ none → oAt (owner.setIfInBounds j (some done.length)) i ≠ none := fun i hi => by
    by_cases c : i = j
    · rw [c, here]; exact Option.some_ne_none _
    · rw [there i c]; exact hi
  have llen : (done ++ [h]).length = done.length + 1 := by simp
  refine ⟨j, fnd, ?_⟩
  constructor
  · rw [Array.size_setIfInBounds]; exact W.sz
  · intro i k hi e
    by_cases c : i = j
    · rw [c, here] at e
      obtain rfl : done.length = k := Option.some.inj e
      exact ⟨h, N, by simp, by rw [hj, c], fun n hn => stay _ (full n hn)⟩
    · rw [there i c] at e
      obtain ⟨h', K, a1, a2, a3⟩ := W.at_ i k hi e
      have hk : k < done.length := (List.getElem?_eq_some_iff.mp a1).1
      exact ⟨h', K, by rw [List.getElem?_append_left hk]; exact a1, a2, fun n hn => stay _ (a3 n hn)⟩
  · intro k hk
    rw [llen] at hk
    by_cases c : k = done.length
    · exact ⟨j, hw, by rw [c]; exact here⟩
    · obtain ⟨i, hi, e⟩ := W.all k (by omega)
      refine ⟨i, hi, ?_⟩
      rw [there i fun z => by rw [z, isn] at e; cases e]
      exact e
  · refine ⟨j :: ps, by rw [llen, List.length_cons, lps], fun i hi e => ?_⟩
    by_cases c : i = j
    · rw [c]; exact List.mem_cons_self
    · rw [there i c] at e
      exact List.mem_cons_of_mem _ (hps i hi e)
theorem own_all {m : Nat} (hm : Msk m) : ∀ (rest done : List Int) (owner : Array (Option Nat)), Own m done owner → done.length + rest.length ≤ m →
    ∃ o, rest.foldl (stepF m) (some (owner, done.length)) = some (o, (done ++ rest).length) ∧ Own m (done ++ rest) o
  | [], done, owner, W, _ => ⟨owner, by simp, by rw [List.append_nil]; exact W⟩
  | h :: rest, done, owner, W, hl => by
    rw [List.length_cons] at hl
    obtain ⟨j, e, V⟩ := own_next hm W (by omega) h
    obtain ⟨o, f, U⟩ := own_all hm rest (done ++ [h]) _ V (by simp; omega)
    have ea : done ++ [h] ++ rest = done ++ h :: rest := by simp
    have el : (done ++ [h]).length = done.length + 1 := by simp
    rw [ea] at f U
    rw [el] at f
    refine ⟨o, ?_, U⟩
    rw [List.foldl_cons, stepF_some e]
    exact f
theorem laid_own {m : Nat} (hm : Msk m) {hs : Array Int} (room : hs.size ≤ m) : ∃ o, SetTable.layClean m hs = some o ∧ Own m hs.toList o := by
  obtain ⟨o, f, W⟩ := own_all hm hs.toList [] _ (Own.init m) (by simpa using room)
  refine ⟨o, ?_, W⟩
  have f2 : hs.toList.foldl (stepF m) (some (Array.replicate (m + 1) none, 0)) = some (o, hs.toList.length) := f
  rw [layClean_eq, f2]
  rfl
/-- the table anew: all hashes, in another order -/
theorem anew (t : SetTable) {hs : Array Int} {wanted M : Nat} (hw : SetTable.sizeAbove wanted - 1 = M) (hM : Msk M) (room : hs.size ≤ M) :
    ∃ t' order, t.relaid hs wanted = some (t', order) ∧ order.toList.Perm (List.range hs.size) ∧ Tab t' (order.toList.map fun i => hs.getD i 0) ∧ t'.mask = M ∧ t'.led = t.led ∧ t'.plain = t.plain := by
  obtain ⟨o, e, W⟩ := laid_own hM room
  have hr : t.relaid hs wanted = some (tabOf t M o, ((liveOf M o).map (·.2)).toArray) := by
    rw [relaid_eq, hw, e]
    rfl
  obtain ⟨up, low⟩ := ris_live (fun j => o.getD j none) (List.range (M + 1)) List.pairwise_lt_range
  have up1 : Ris ((liveOf M o).map (·.1)) := up
  have low1 : ∀ z ∈ (liveOf M o).map (·.1), z ∈ List.range (M + 1) := low
  have count : (liveOf M o).length = hs.size := by
    obtain ⟨ps, p1, p2⟩ := W.ps
    have nd1 : ((liveOf M o).map (·.1)).Nodup := (List.Pairwise.imp (fun z => Nat.ne_of_lt z) (show List.Pairwise (· < ·) ((liveOf M o).map (·.1)) from up1))
    have le1 := nat_nodup_len ((liveOf M o).map (·.1)) ps nd1 fun z hz => by
      obtain ⟨⟨y, k⟩, hq, rfl⟩ := List.mem_map.mp hz
      obtain ⟨b1, b2⟩ := (mem_live W.sz).1 hq
      exact p2 y b1 (by rw [b2]; exact Option.some_ne_none _)
    have le2 := nat_nodup_len (List.range hs.size) ((liveOf M o).map (·.2)) List.nodup_range fun k hk => by
      obtain ⟨j, b1, b2⟩ := W.all k (by simpa using hk)
      exact List.mem_map.mpr ⟨(j, k), (mem_live W.sz).2 ⟨b1, b2⟩, rfl⟩
    have : hs.toList.length = hs.size := rfl
    rw [List.length_map] at le1 le2
    rw [List.length_range] at le2
    omega
  refine ⟨_, _, hr, ?_, ⟨up1, rfl, ?_, hM, fun z hz => ?_, fun i h j a b => ?_⟩, rfl, rfl, rfl⟩
  · refine perm_range hs.size _ (by simpa using count) fun k hk => ?_
    obtain ⟨j, b1, b2⟩ := W.all k (by simpa using hk)
    exact List.mem_map.mpr ⟨(j, k), (mem_live W.sz).2 ⟨b1, b2⟩, rfl⟩
  · show ((liveOf M o).map (·.1)).toArray.size = _
    simp
  · exact Nat.le_of_lt_succ (List.mem_range.mp (low1 z hz))
  · have a' : (((liveOf M o).map (·.2)).map fun i => hs.getD i 0)[i]? = some h := a
    have b' : ((liveOf M o).map (·.1))[i]? = some j := b
    rw [List.getElem?_map, List.getElem?_map] at a'
    rw [List.getElem?_map] at b'
    cases hq : (liveOf M o)[i]? with
    | none => rw [hq] at b'; cases b'
    | some q =>
      obtain ⟨y, k⟩ := q
      rw [hq] at a' b'
      obtain rfl : y = j := Option.some.inj b'
      have eh : hs.getD k 0 = h := Option.some.inj a'
      obtain ⟨b1, b2⟩ := (mem_live W.sz).1 (List.mem_of_getElem? hq)
      obtain ⟨h0, K, a1, a2, a3⟩ := W.at_ y k b1 b2
      have e0 : h0 = h := by
        rw [← eh, Array.getD_eq_getD_getElem?, ← Array.getElem?_toList, a1]
        rfl
      subst e0
      refine ⟨K, a2, fun n hn => ?_⟩
      show way M h0 n ∈ (liveOf M o).map (·.1)
      obtain ⟨k2, z⟩ := Option.ne_none_iff_exists'.mp (a3 n hn)
      exact List.mem_map.mpr ⟨(way M h0 n, k2), (mem_live W.sz).2 ⟨way_in h0 n, z⟩, rfl⟩
end ZS
end
section
set_option maxHeartbeats 4000000
namespace ZS
open PySem PySem.Spec PyProof.Rows L2
/-- what a set may hold at addresses: keys whose search tells nothing -/
structure ZK (P : Program) (w : World) (K : Type) [DecidableEq K] where
  is : Heap → K → Addr → Prop
  hash : K → Int
  toks : K → Nat
  room : Around → Prop
  inj : ∀ {h : Heap} {a : Addr} {x y : K}, is h x a → is h y a → x = y
  keep : ∀ {h h' : Heap} {k : K} {b : Addr}, is h k b → (∀ c o vs n, h.get? c = some o → o.data = .seq vs n → h'.get? c = some o) → is h' k b
  ask : ∀ {A : Around} {E : Value → Shared → Prop} {s : Shared} {k : K} {a : Addr} {Q : Int → Shared → Prop}, room A → is s.heap k a → Q (hash k) { s with toks := s.toks + toks k } → wpAny (model P w) A (pyHash (.ref a)) Q E s
  eqB : ∀ {A : Around} {E : Value → Shared → Prop} {s : Shared} {x y : K} {a b : Addr} {Q : Bool → Shared → Prop}, room A → is s.heap x a → is s.heap y b → Q (decide (x = y)) s → wpAny (model P w) A (eqBool (.ref a) (.ref b)) Q E s
  quiet : ∀ {A : Around} {E : Value → Shared → Prop} {s : Shared} {k : K} {a : Addr} {Q : Bool → Shared → Prop}, is s.heap k a → Q true s → wpAny (model P w) A (eqIsQuiet 8 (.ref a)) Q E s
  noCls : ∀ {A : Around} {E : Value → Shared → Prop} {s : Shared} {k : K} {a : Addr} {Q : Bool → Shared → Prop}, is s.heap k a → Q false s → wpAny (model P w) A (ofAClassStatement 8 (.ref a)) Q E s
  byV : ∀ {A : Around} {E : Value → Shared → Prop} {s : Shared} {k : K} {a : Addr} {Q : Bool → Shared → Prop}, is s.heap k a → Q true s → wpAny (model P w) A (hashByValue 8 (.ref a)) Q E s
/-! ### tuples of ints, and of such -/
mutual
def nums : NestedKey → Bool
  | .none => false
  | .num _ => true
  | .text _ => false
  | .tup ks => numsAll ks
def numsAll : List NestedKey → Bool
  | [] => true
  | k :: ks => nums k && numsAll ks
end
section
variable {P : Program} {w : World}
mutual
theorem cls_key : ∀ (k : NestedKey) (v : Value) (n : Nat) (s : Shared), NestedIs s.heap k v → k.depth ≤ n → ∀ (A : Around) (E : Value → Shared → Prop) (Q : Bool → Shared → Prop), Q false s → wpAny (model P w) A (ofAClassStatement n v) Q E s
  | k, v, n, s, h, hd, A, E, Q, q => by
    cases h with
    | none => cases n <;> exact wpAny_pure q
    | bool _ => cases n <;> exact wpAny_pure q
    | int _ _ => cases n <;> exact wpAny_pure q
    | text _ _ => cases n <;> exact wpAny_pure q
    | @tup a o vs m ks ho hc hdt hall =>
      have hdk : NestedKey.depthAll ks + 1 ≤ n := by rw [NestedKey.depth] at hd; exact hd
      obtain ⟨n', rfl⟩ : ∃ n', n = n' + 1 := ⟨n - 1, by omega⟩
      unfold ofAClassStatement
      refine wpAny_bind (wpAny_typeOf (T := "tuple") ⟨o, ho, hc⟩ ?_)
      dsimp only
      simp only [show (("tuple" : String) == "tuple") = true from by decide, if_true, Bool.not_true, Bool.false_eq_true, if_false]
      try refine wpAny_bind (wpAny_pure ?_)
      try simp only [Bool.not_true, Bool.false_eq_true, if_false]
      show wpAny _ _ (seqItems? (.ref a) >>= _) _ _ s
      refine wpAny_bind (wpAny_seqItems ho hdt ?_)
      dsimp only
      refine wpAny_bind ?_
      show wpAny _ _ (forIn vs _ _) _ _ s
      rw [← Array.forIn_toList]
      refine wpAny_forIn_list _ (fun rest r s' => r.1 = none ∧ s' = s ∧ ∀ v ∈ rest, v ∈ vs.toList) _ ?_ ?_ _ _ ⟨rfl, rfl, fun _ z => z⟩
      · rintro v rest r s' ⟨hr, rfl, hm⟩
        refine wpAny_bind (cls_keys ks vs.toList n' s' hall (by omega) v (hm v List.mem_cons_self) _ _ _ ?_)
        simp only [Bool.false_eq_true, if_false]
        exact wpAny_pure ⟨rfl, rfl, fun u hu => hm u (List.mem_cons_of_mem _ hu)⟩
      · rintro ⟨r1, r2⟩ s' ⟨hr, rfl, _⟩
        simp only at hr
        subst hr
        exact wpAny_pure q
theorem cls_keys : ∀ (ks : List NestedKey) (vs : List Value) (n : Nat) (s : Shared), NestedAll s.heap ks vs → NestedKey.depthAll ks ≤ n → ∀ v ∈ vs, ∀ (A : Around) (E : Value → Shared → Prop) (Q : Bool → Shared → Prop), Q false s → wpAny (model P w) A (ofAClassStatement n v) Q E s
  | [], [], _, _, _, _, _, hv => by cases hv
  | k :: ks, v :: vs, n, s, h, hd, u, hu => by
    rw [NestedKey.depthAll] at hd
    cases h with
    | cons h1 h2 =>
      intro A E Q q
      rcases List.mem_cons.mp hu with e | e
      · rw [e]; exact cls_key k v n s h1 (by omega) A E Q q
      · exact cls_keys ks vs n s h2 (by omega) u e A E Q q
end
mutual
theorem byv_key : ∀ (k : NestedKey) (v : Value) (n : Nat) (s : Shared), NestedIs s.heap k v → k.depth ≤ n → nums k = true → ∀ (A : Around) (E : Value → Shared → Prop) (Q : Bool → Shared → Prop), Q true s → wpAny (model P w) A (hashByValue n v) Q E s
  | k, v, n, s, h, hd, hn, A, E, Q, q => by
    cases h with
    | none => exact absurd hn (by decide)
    | bool _ => cases n <;> exact wpAny_pure q
    | int _ _ => cases n <;> exact wpAny_pure q
    | text _ _ => exact absurd hn (by simp [nums])
    | @tup a o vs m ks ho hc hdt hall =>
      have hdk : NestedKey.depthAll ks + 1 ≤ n := by rw [NestedKey.depth] at hd; exact hd
      obtain ⟨n', rfl⟩ : ∃ n', n = n' + 1 := ⟨n - 1, by omega⟩
      rw [nums] at hn
      unfold hashByValue
      refine wpAny_bind (wpAny_specialOf (T := "tuple") ⟨o, ho, hc⟩ F.slot_tuple_hash.lookup ?_)
      show wpAny _ _ (seqItems? (.ref a) >>= _) _ _ s
      refine wpAny_bind (wpAny_seqItems ho hdt (wpAny_bind ?_))
      show wpAny _ _ (forIn vs _ _) _ _ s
      rw [← Array.forIn_toList]
      refine wpAny_forIn_list _ (fun rest r s' => r.1 = none ∧ s' = s ∧ ∀ v ∈ rest, v ∈ vs.toList) _ ?_ ?_ _ _ ⟨rfl, rfl, fun _ z => z⟩
      · rintro v rest r s' ⟨hr, rfl, hm⟩
        refine wpAny_bind (byv_keys ks vs.toList n' s' hall (by omega) hn v (hm v List.mem_cons_self) _ _ _ ?_)
        simp only [Bool.not_true, Bool.false_eq_true, if_false]
        exact wpAny_pure ⟨rfl, rfl, fun u hu => hm u (List.mem_cons_of_mem _ hu)⟩
      · rintro ⟨r1, r2⟩ s' ⟨hr, rfl, _⟩
        simp only at hr
        subst hr
        exact wpAny_pure q
theorem byv_keys : ∀ (ks : List NestedKey) (vs : List Value) (n : Nat) (s : Shared), NestedAll s.heap ks vs → NestedKey.depthAll ks ≤ n → numsAll ks = true → ∀ v ∈ vs, ∀ (A : Around) (E : Value → Shared → Prop) (Q : Bool → Shared → Prop), Q true s → wpAny (model P w) A (hashByValue n v) Q E s
  | [], [], _, _, _, _, _, _, hv => by cases hv
  | k :: ks, v :: vs, n, s, h, hd, hn, u, hu => by
    rw [NestedKey.depthAll] at hd
    rw [numsAll, Bool.and_eq_true] at hn
    cases h with
    | cons h1 h2 =>
      intro A E Q q
      rcases List.mem_cons.mp hu with e | e
      · rw [e]; exact byv_key k v n s h1 (by omega) hn.1 A E Q q
      · exact byv_keys ks vs n s h2 (by omega) hn.2 u e A E Q q
end
/-- the kind -/
def zk (P : Program) (w : World) : ZK P w NestedKey where
  is := fun h k a => NestedIs h k (.ref a) ∧ k.depth ≤ 8 ∧ nums k = true
  hash := fun k => k.hash w
  toks := fun k => k.draws
  room := fun A => A.units + 8 < cLine
  inj := fun hx hy => NestedIs.inj _ _ _ hx.1 hy.1
  keep := fun hx k => ⟨NestedIs.at k _ _ hx.1, hx.2⟩
  ask := fun hr hx q => pyHash_key _ _ _ _ _ hx.1 (Nat.lt_of_le_of_lt (Nat.add_le_add_left hx.2.1 _) hr) q
  eqB := fun hr hx hy q => (nestedKind P w).eqBool hr ⟨hx.1, hx.2.1⟩ ⟨hy.1, hy.2.1⟩ q
  quiet := fun hx q => (nestedKind P w).quiet ⟨hx.1, hx.2.1⟩ q
  noCls := fun hx q => cls_key _ _ 8 _ hx.1 hx.2.1 _ _ _ q
  byV := fun hx q => byv_key _ _ 8 _ hx.1 hx.2.1 hx.2.2 _ _ _ q
end
end ZS
end
section
set_option maxHeartbeats 4000000
namespace ZS
open PySem PySem.Spec PyProof.Rows L2
def zBound : Nat := 9000
def zrows {P : Program} {w : World} {K : Type} [DecidableEq K] (Z : ZK P w K) (L : List (Addr × K)) : List (Int × Value) := L.map fun p => (Z.hash p.2, Value.ref p.1)
/-- a set of such keys: its rows in the table's order -/
structure SetZ {P : Program} {w : World} {K : Type} [DecidableEq K] (Z : ZK P w K) (h : Heap) (a : Addr) (L : List (Addr × K)) (es : Array (Int × Value)) (ep : Nat) (t : SetTable) : Prop where
  obj : ∃ o, h.get? a = some o ∧ o.ExactSet ∧ o.data = .set es ep t
  row : es.toList = zrows Z L
  tab : Tab t (L.map fun p => Z.hash p.2)
  dif : (L.map (·.2)).Nodup
  tup : ∀ p ∈ L, Z.is h p.2 p.1
  pln : t.plain = true
  led : w.params.followText "set-order" = true ∨ t.led = true
  room : L.length * 5 < t.mask * 3
  few : L.length < zBound
section
variable {P : Program} {w : World} {K : Type} [DecidableEq K] {Z : ZK P w K} {A : Around} {E : Value → Shared → Prop} {s : Shared} {a : Addr} {L : List (Addr × K)} {es : Array (Int × Value)} {ep : Nat} {t : SetTable}
theorem zseen (Z : ZK P w K) {k : K} {b : Addr} {Q : Bool → Shared → Prop} (hk : Z.is s.heap k b) {ys : List Value} (hy : ∀ y ∈ ys, ∃ k' c, y = Value.ref c ∧ Z.is s.heap k' c) (h : Q false s) :
    wpAny (model P w) A (searchCouldBeSeen (.ref b) ys) Q E s := by
  unfold searchCouldBeSeen
  refine wpAny_bind (wpAny_forIn_list _ (fun rest r s' => r.1 = none ∧ s' = s ∧ ∀ y ∈ rest, ∃ k' c, y = Value.ref c ∧ Z.is s.heap k' c) _ ?_ ?_ _ _ ⟨rfl, rfl, hy⟩)
  · rintro v rest r s' ⟨hr, rfl, hall⟩
    obtain ⟨k', c, rfl, hc⟩ := hall v List.mem_cons_self
    have left := fun u hu => hall u (List.mem_cons_of_mem _ hu)
    dsimp only
    by_cases hv : (b == c || (carriedByValue (.ref b) && carriedByValue (.ref c))) = true
    · refine wp_if_pos hv ?_
      exact wpAny_pure ⟨rfl, rfl, left⟩
    · refine wp_if_neg hv (wpAny_bind (Z.quiet hk ?_))
      simp only [Bool.not_true, Bool.false_eq_true, if_false]
      refine wpAny_bind (Z.quiet hc ?_)
      simp only [Bool.not_true, Bool.false_eq_true, if_false]
      refine wpAny_bind (Z.noCls hk ?_)
      simp only [Bool.false_eq_true, if_false]
      refine wpAny_bind (Z.noCls hc ?_)
      simp only [Bool.false_eq_true, if_false]
      exact wpAny_pure ⟨rfl, rfl, left⟩
  · rintro ⟨r1, r2⟩ s' ⟨hr, rfl, _⟩
    simp only at hr
    subst hr
    exact wpAny_pure h
theorem zrows_put (L : List (Addr × K)) (p : Nat) (x : Addr) (k : K) : zrows Z (L.take p ++ (x, k) :: L.drop p) = (zrows Z L).take p ++ (Z.hash k, Value.ref x) :: (zrows Z L).drop p := by
  unfold zrows
  simp [List.map_take, List.map_drop]
theorem zsame {h h' : Heap} {k : K} {a b : Addr} {o : Obj} {es : Array (Int × Value)} {ep : Nat} {t : SetTable} (hb : Z.is h k b) (ho : h.get? a = some o) (hd : o.data = .set es ep t) (hs : Heap.SameBut a h h') : Z.is h' k b :=
  Z.keep hb fun c oc vs n hc hdc => by
    have hne : c ≠ a := fun z => by
      rw [z, ho] at hc
      cases hc
      rw [hd] at hdc
      cases hdc
    exact (hs.2 c hne).trans hc
theorem zorder (L : List (Addr × K)) (es : Array (Int × Value)) (order : Array Nat) (hr : es.toList = zrows Z L) (hp : order.toList.Perm (List.range L.length)) :
    ∃ L2, (order.filterMap (es[·]?)).toList = zrows Z L2 ∧ L2.Perm L ∧ (L2.map fun p => Z.hash p.2) = order.toList.map fun i => (es.map (·.1)).getD i 0 := by
  have cell : ∀ i (h : i < L.length), es[i]? = some (Z.hash (L[i]).2, Value.ref (L[i]).1) := fun i h => by
    rw [← Array.getElem?_toList, hr]
    show (L.map _)[i]? = _
    rw [List.getElem?_map, List.getElem?_eq_getElem h]
    rfl
  have all : ∀ l : List Nat, (∀ i ∈ l, i < L.length) → l.filterMap (fun i => es[i]?) = zrows Z (l.filterMap fun i => L[i]?) ∧ ((l.filterMap fun i => L[i]?).map fun p => Z.hash p.2) = l.map fun i => (es.map (·.1)).getD i 0 := by
    intro l
    induction l with
    | nil => intro _; exact ⟨rfl, rfl⟩
    | cons i l ih =>
      intro hl
      have hi := hl i List.mem_cons_self
      obtain ⟨e1, e2⟩ := ih fun j hj => hl j (List.mem_cons_of_mem _ hj)
      rw [List.filterMap_cons_some (cell i hi), List.filterMap_cons_some (List.getElem?_eq_getElem hi), e1]
      refine ⟨rfl, ?_⟩
      rw [List.map_cons, List.map_cons, e2]
      congr 1
      rw [Array.getD_eq_getD_getElem?, Array.getElem?_map, cell i hi]
      rfl
  obtain ⟨a1, a2⟩ := all order.toList fun i hi => List.mem_range.mp (hp.mem_iff.mp hi)
  refine ⟨_, by rw [← a1]; simp, ?_, a2⟩
  refine (hp.filterMap _).trans ?_
  have whole : ∀ n, n ≤ L.length → (List.range n).filterMap (fun i => L[i]?) = L.take n := fun n => by
    induction n with
    | zero => intro _; rfl
    | succ n ih =>
      intro hn
      have hlt : n < L.length := hn
      rw [List.range_succ, List.filterMap_append, ih (Nat.le_of_lt hlt), List.take_add_one, List.getElem?_eq_getElem hlt]
      simp [hlt]
  rw [whole _ (Nat.le_refl _), List.take_length]
theorem zrows_len {es : Array (Int × Value)} (h : es.toList = zrows Z L) : es.size = L.length := by
  rw [← Array.length_toList, h]
  exact List.length_map _
theorem SetZ.size (R : SetZ Z s.heap a L es ep t) : es.size = L.length := zrows_len R.row
theorem fits_of {n : Nat} (h1 : t.place.size = n) (h2 : t.dummies = #[]) (h3 : n ≤ t.mask) : t.fits n = true := by
  unfold SetTable.fits SetTable.fill
  rw [h2, h1]
  simp [h3]
theorem SetZ.fits (R : SetZ Z s.heap a L es ep t) : t.fits es.size = true := by
  have h1 := R.tab.len
  have h2 := R.room
  rw [List.length_map] at h1
  exact fits_of (by rw [h1, R.size]) R.tab.nod (by rw [R.size]; omega)
theorem SetZ.entry (R : SetZ Z s.heap a L es ep t) {i : Nat} {p : Addr × K} (h : L[i]? = some p) : es[i]? = some (Z.hash p.2, Value.ref p.1) := by
  rw [← Array.getElem?_toList, R.row]
  show (L.map _)[i]? = _
  rw [List.getElem?_map, h]
  rfl
theorem SetZ.steady (R : SetZ Z s.heap a L es ep t) : ¬ t.gaveWay = true := by
  unfold SetTable.gaveWay
  rw [R.tab.msk.odd]
  decide
theorem nth_dummy (m : Nat) : ∀ (n : Nat) (p : SetTable.Probe), p.dummy = none → (nth m p n).dummy = none
  | 0, _, h => h
  | n + 1, p, h => nth_dummy m n (adv m p) (by unfold adv; split <;> exact h)
/-- from the c-th step on -/
theorem hunt (R : SetZ Z s.heap a L es ep t) {x : Addr} {k : K} (hx : Z.is s.heap k x) (hu : Z.room A) {add : Bool} {N : Nat} (hN : N < 10 * SetTable.turns t.mask)
    (gap : way t.mask (Z.hash k) N ∉ t.place.toList) (full : ∀ n, n < N → way t.mask (Z.hash k) n ∈ t.place.toList) {Q : SetFound → Shared → Prop}
    (yes : k ∈ L.map (·.2) → ∀ r : Option Nat, r.isSome = !add → Q (.there r) s) (no : k ∉ L.map (·.2) → Q (.free (way t.mask (Z.hash k) N) false) s) :
    ∀ (f c : Nat) (stand : Option SetTable.Probe), stand.getD (t.probeStart (Z.hash k)) = nth t.mask (runAt t.mask (SetTable.bits (Z.hash k) % (t.mask + 1)) (SetTable.bits (Z.hash k))) c → c ≤ N → N - c < f →
      (∀ (i : Nat) p, L[i]? = some p → p.2 = k → ∃ d, c ≤ d ∧ d < N ∧ t.place.toList[i]? = some (way t.mask (Z.hash k) d)) →
      wpAny (model P w) A (setSearchFrom a (.ref x) (Z.hash k) add f stand) Q E s
  | 0, c, stand, _, _, hf, _ => absurd hf (Nat.not_lt_zero _)
  | f + 1, c, stand, hst, hc, hf, left => by
    obtain ⟨o, ho, hex, hd⟩ := R.obj
    generalize hp0 : runAt t.mask (SetTable.bits (Z.hash k) % (t.mask + 1)) (SetTable.bits (Z.hash k)) = p0 at hst
    have wayE : ∀ n, way t.mask (Z.hash k) n = (nth t.mask p0 n).j := fun n => by rw [← hp0]
    have later : ∀ q, nth t.mask (nth t.mask p0 c) q = nth t.mask p0 (c + q) := fun q => (nth_add t.mask c p0 q).symm
    have wayL : ∀ q, (nth t.mask (nth t.mask p0 c) q).j = way t.mask (Z.hash k) (c + q) := fun q => by rw [later, wayE]
    have nd : (nth t.mask p0 c).dummy = none := nth_dummy _ c p0 (by rw [← hp0]; rfl)
    have eN : c + (N - c) = N := by omega
    have spec := go_spec t R.tab.up R.tab.nod (fun i => (es[i]?.map (fun e : Int × Value => e.1)).getD 0) (Z.hash k) (10 * SetTable.turns t.mask) (N - c) _ nd (by omega) (fun q hq => by rw [wayL]; exact full _ (by omega)) (by rw [wayL, eN]; exact gap)
    have hashAt : ∀ (i : Nat) p, L[i]? = some p → (es[i]?.map (fun e : Int × Value => e.1)).getD 0 = Z.hash p.2 := fun i p hp => by rw [R.entry hp]; rfl
    have skip : ∀ {q : Nat} (hno : ∀ k' i', k' < q → t.place.toList[i']? = some (nth t.mask (nth t.mask p0 c) k').j → (fun i => (es[i]?.map (fun e : Int × Value => e.1)).getD 0) i' ≠ Z.hash k) {i : Nat} {p : Addr × K} {d : Nat},
        L[i]? = some p → p.2 = k → c ≤ d → t.place.toList[i]? = some (way t.mask (Z.hash k) d) → c + q ≤ d := fun {q} hno {i p d} hi hk hcd hpl => by
      rcases Nat.lt_or_ge d (c + q) with z | z
      · refine absurd ?_ (hno (d - c) i (by omega) (by rw [wayL, show c + (d - c) = d by omega]; exact hpl))
        show (es[i]?.map (fun e : Int × Value => e.1)).getD 0 = _
        rw [hashAt i p hi, hk]
      · exact z
    rw [setSearchFrom_succ]
    refine wpAny_bind (wpAny_setState_of ho hd R.fits ?_)
    dsimp only
    refine wp_if_neg R.steady ?_
    try refine wpAny_bind (wpAny_pure ?_)
    have probeE : t.probe (fun i => (es[i]?.map (fun e : Int × Value => e.1)).getD 0) (Z.hash k) (stand.getD (t.probeStart (Z.hash k))) = SetTable.probe.go t (fun i => (es[i]?.map (fun e : Int × Value => e.1)).getD 0) (Z.hash k) (10 * SetTable.turns t.mask) (nth t.mask p0 c) := by rw [hst]; rfl
    rw [probeE]
    rcases spec with ⟨q, i, hq, hi, hh, hno, hpr⟩ | ⟨hno, hpr⟩
    · rw [hpr]
      dsimp only
      rw [wayL] at hi ⊢
      have hil : i < L.length := by
        have h1 := (List.getElem?_eq_some_iff.mp hi).1
        have h2 := R.tab.len
        rw [List.length_map] at h2
        rw [Array.length_toList] at h1
        omega
      obtain ⟨p, hp⟩ : ∃ p, L[i]? = some p := ⟨L[i], List.getElem?_eq_getElem hil⟩
      have hmem : p ∈ L := List.mem_of_getElem? hp
      have hsl : t.slot (way t.mask (Z.hash k) (c + q)) = .live i := slot_live R.tab.up hi
      have rest : wpAny (model P w) A (searchRest a (.ref x) (Z.hash k) add f es t (way t.mask (Z.hash k) (c + q)) i (nth t.mask (nth t.mask p0 c) (q + 1))) Q E s := by
        unfold searchRest
        rw [R.entry hp]
        dsimp only
        refine wpAny_bind (wpAny_holding (Z.eqB hu (R.tup p hmem) hx ?_))
        refine wpAny_bind (wpAny_setState_of ho hd R.fits ?_)
        dsimp only
        have tail : p.2 ≠ k ∨ add = false → wpAny (model P w) A (do
            let some same := t.sameMemory t.moves t.mask | unsupported "set.changed-during-lookup:is-the-new-block-at-the-old-address"
            let still ← match (if same then t.slot (way t.mask (Z.hash k) (c + q)) else .empty) with
              | .live i' => match es[i']? with
                | some (_, y') => do pure (if ← isSame y' (.ref p.1) then some i' else none)
                | none => pure none
              | _ => pure none
            match still with
            | none => rule "set.search.anew"; setSearchFrom a (.ref x) (Z.hash k) add f none
            | some i' => if decide (p.2 = k) then return .there (some i') else setSearchFrom a (.ref x) (Z.hash k) add f (some (nth t.mask (nth t.mask p0 c) (q + 1)))) Q E s := fun hor => by
          rw [sameMem]
          dsimp only
          simp only [if_true, hsl, R.entry hp]
          refine wpAny_bind (wpAny_isSame_ref_self (wpAny_bind (wpAny_pure ?_)))
          simp only [if_true]
          by_cases hk : p.2 = k
          · refine wp_if_pos (by simp [hk]) (wpAny_pure (yes (List.mem_map.mpr ⟨p, hmem, hk⟩) _ ?_))
            rcases hor with z | z
            · exact absurd hk z
            · rw [z]; rfl
          · refine wp_if_neg (by simp [hk]) ?_
            refine hunt R hx hu hN gap full yes no f (c + (q + 1)) _ (by show nth t.mask (nth t.mask p0 c) (q + 1) = _; rw [later, hp0]) (by omega) (by omega) fun i0 p1 h1 hk1 => ?_
            obtain ⟨d, d1, d2, d3⟩ := left i0 p1 h1 hk1
            have d4 := skip hno h1 hk1 d1 d3
            refine ⟨d, ?_, d2, d3⟩
            rcases Nat.lt_or_eq_of_le d4 with z | z
            · omega
            · exfalso
              rw [← z] at d3
              have s0 := slot_live R.tab.up d3
              rw [hsl] at s0
              injection s0 with s0
              rw [← s0, hp] at h1
              exact hk ((congrArg Prod.snd (Option.some.inj h1)).trans hk1)
        cases hadd : add with
        | true =>
          by_cases hk : p.2 = k
          · refine wp_if_pos (by simp [hk]) (wpAny_pure (yes (List.mem_map.mpr ⟨p, hmem, hk⟩) none (by rw [hadd]; rfl)))
          · refine wp_if_neg (by simp [hk]) ?_
            try refine wpAny_bind (wpAny_pure ?_)
            have z := tail (.inl hk)
            rw [hadd] at z
            exact z
        | false =>
          refine wp_if_neg (by simp) ?_
          try refine wpAny_bind (wpAny_pure ?_)
          have z := tail (.inr hadd)
          rw [hadd] at z
          exact z
      by_cases hl : t.led = true
      · refine wp_if_neg (by simp [hl]) ?_
        try refine wpAny_bind (wpAny_pure ?_)
        exact rest
      · refine wp_if_pos (by simp [hl]) (wpAny_bind (zseen Z hx (fun y hy => ?_) ?_))
        · obtain ⟨e, he, ee⟩ := List.mem_map.mp hy
          have he1 : e ∈ es.toList := by
            have : e ∈ es ∧ e.1 = Z.hash k := by simpa using he
            simpa using this.1
          rw [R.row] at he1
          obtain ⟨p2, hp2, e2⟩ := List.mem_map.mp he1
          exact ⟨p2.2, p2.1, by rw [← ee, ← e2], R.tup p2 hp2⟩
        · refine wp_if_neg (by decide) ?_
          try refine wpAny_bind (wpAny_pure ?_)
          exact rest
    · rw [hpr]
      dsimp only
      rw [wayL, eN]
      refine wpAny_pure (no fun hm => ?_)
      obtain ⟨p1, h1, hk1⟩ := List.mem_map.mp hm
      obtain ⟨i0, hi0⟩ := List.mem_iff_getElem?.mp h1
      obtain ⟨d, d1, d2, d3⟩ := left i0 p1 hi0 hk1
      have d4 := skip hno hi0 hk1 d1 d3
      omega
theorem search (R : SetZ Z s.heap a L es ep t) {x : Addr} {k : K} (hx : Z.is s.heap k x) (hu : Z.room A) {add : Bool} {Q : SetFound → Shared → Prop}
    (yes : k ∈ L.map (·.2) → ∀ r : Option Nat, r.isSome = !add → Q (.there r) s)
    (no : ∀ N, k ∉ L.map (·.2) → way t.mask (Z.hash k) N ∉ t.place.toList → (∀ n, n < N → way t.mask (Z.hash k) n ∈ t.place.toList) → Q (.free (way t.mask (Z.hash k) N) false) s) :
    wpAny (model P w) A (setSearch a (.ref x) (Z.hash k) add) Q E s := by
  have room := R.room
  have few := R.few
  have hz : zBound = 9000 := rfl
  obtain ⟨N, hN, gap, full⟩ := R.tab.gap (by rw [List.length_map]; omega) (Z.hash k)
  rw [List.length_map] at hN
  have ht : SetTable.turns t.mask = t.mask + 15 := rfl
  unfold setSearch
  refine hunt R hx hu (by omega) gap full yes (fun hm => no N hm gap full) 100000 0 none rfl (Nat.zero_le _) (by omega) fun i p hp hk => ?_
  have hi : (L.map fun p => Z.hash p.2)[i]? = some (Z.hash k) := by rw [List.getElem?_map, hp, ← hk]; rfl
  have hil : i < t.place.toList.length := by
    have h1 := (List.getElem?_eq_some_iff.mp hp).1
    have h2 := R.tab.len
    rw [List.length_map] at h2
    rw [Array.length_toList]
    omega
  obtain ⟨n, hn, e⟩ := R.tab.ahead gap hi (List.getElem?_eq_getElem hil)
  exact ⟨n, Nat.zero_le _, hn, by rw [e]; exact List.getElem?_eq_getElem hil⟩
end
end ZS
end
section
set_option maxHeartbeats 4000000
namespace ZS
open PySem PySem.Spec PyProof.Rows L2
theorem above_go {n : Nat} (hn : n < 2 ^ 16) : ∀ (f e : Nat), n < 2 ^ (e + f) → e ≤ 16 → ∃ e', e ≤ e' ∧ e' ≤ 16 ∧ SetTable.sizeAbove.go n f (2 ^ e) = 2 ^ e' ∧ n < 2 ^ e'
  | 0, e, h, he => ⟨e, Nat.le_refl _, he, rfl, h⟩
  | f + 1, e, h, he => by
    unfold SetTable.sizeAbove.go
    by_cases c : 2 ^ e ≤ n
    · have e16 : e ≠ 16 := fun z => by rw [z] at c; omega
      obtain ⟨e', a1, a2, a3, a4⟩ := above_go hn f (e + 1) (by rw [show e + 1 + f = e + (f + 1) by omega]; exact h) (by omega)
      refine ⟨e', by omega, a2, ?_, a4⟩
      rw [if_pos c, ← a3, Nat.pow_succ]
    · exact ⟨e, Nat.le_refl _, he, if_neg c, by omega⟩
theorem above_ok {n : Nat} (hn : n < 2 ^ 16) : ∃ M, SetTable.sizeAbove n - 1 = M ∧ Msk M ∧ n ≤ M ∧ SetTable.sizeAbove n ≤ 2 ^ 16 := by
  have h64 : n < 2 ^ (3 + 64) := Nat.lt_trans hn (by decide)
  obtain ⟨e, a1, a2, a3, a4⟩ := above_go hn 64 3 h64 (by decide)
  have es : SetTable.sizeAbove n = 2 ^ e := a3
  have b : 2 ^ e ≤ 2 ^ 16 := Nat.pow_le_pow_right (by decide) a2
  refine ⟨2 ^ e - 1, by rw [es], ⟨e, a1, a2, by omega⟩, by omega, by omega⟩
section
variable {P : Program} {w : World} {K : Type} [DecidableEq K] {Z : ZK P w K} {A : Around} {E : Value → Shared → Prop} {s : Shared} {a : Addr} {L : List (Addr × K)} {es : Array (Int × Value)} {ep : Nat} {t : SetTable}
theorem relay {o : Obj} (ho : s.heap.get? a = some o) (hex : o.ExactSet) (hd : o.data = .set es ep t) (row : es.toList = zrows Z L) (len : t.place.size = es.size) (nod : t.dummies = #[]) (room : es.size ≤ t.mask)
    (dif : (L.map (·.2)).Nodup) (tup : ∀ p ∈ L, Z.is s.heap p.2 p.1) (pln : t.plain = true) (led : w.params.followText "set-order" = true ∨ t.led = true) (few : L.length < zBound) {n : Nat} (hn : n = L.length) {Q : Unit → Shared → Prop}
    (hQ : ∀ h' L' es' ep' t', Heap.SameBut a s.heap h' → SetZ Z h' a L' es' ep' t' → L'.Perm L → Q () { s with heap := h' }) : wpAny (model P w) A (setRelay a (SetTable.grown n)) Q E s := by
  subst hn
  have hz : zBound = 9000 := rfl
  have hl : sizeLine = 16777216 := by decide
  have sz := zrows_len row
  have hg : SetTable.grown L.length = L.length * 4 := by unfold SetTable.grown; rw [if_neg (by omega)]
  rw [hg]
  obtain ⟨M, hM, mM, leM, big⟩ := above_ok (n := L.length * 4) (by omega)
  obtain ⟨t', order, e, hp, T, em, el, epl⟩ := anew t (hs := es.map (·.1)) hM mM (by rw [Array.size_map, sz]; omega)
  rw [Array.size_map, sz] at hp
  obtain ⟨L2, r1, r2, r3⟩ := zorder L es order row hp
  rw [← r3] at T
  have s2 : (order.filterMap (es[·]?)).size = L.length := by rw [zrows_len r1, r2.length_eq]
  rw [setRelay_eq]
  refine wpAny_bind (wpAny_setState_of ho hd (fits_of len nod room) ?_)
  dsimp only
  refine wp_if_neg (by omega) ?_
  try refine wpAny_bind (wpAny_pure ?_)
  rw [e]
  dsimp only
  refine wpAny_bind (wp_if_neg (by rw [s2, sz]; simp) ?_)
  try refine wpAny_bind (wpAny_pure ?_)
  refine wpAny_pure ?_
  dsimp only
  refine wpAny_storeSet_of ho hd ?_ (by rw [s2]; omega)
  have sb : Heap.SameBut a s.heap (s.heap.update a (Obj.putSet (order.filterMap (es[·]?)) t')) := Heap.SameBut.update ..
  refine hQ _ L2 _ (ep + 1) t' sb ⟨⟨_, store_at ho hd, ⟨hex.1, hex.2.1, hex.2.2⟩, rfl⟩, r1, T, (r2.map (·.2)).nodup_iff.mpr dif, fun p h => zsame (tup p (r2.mem_iff.mp h)) ho hd sb, by rw [epl]; exact pln, by rw [el]; exact led, ?_, by rw [r2.length_eq]; exact few⟩ r2
  rw [r2.length_eq, em]
  have := mM.bd
  omega
theorem adds (R : SetZ Z s.heap a L es ep t) {x : Addr} {k : K} (hx : Z.is s.heap k x) (hu : Z.room A) (few : L.length + 1 < zBound) {Q : Bool → Shared → Prop}
    (hQ : ∀ b h' L' es' ep' t', Heap.SameBut a s.heap h' → SetZ Z h' a L' es' ep' t' → (k ∈ L.map (·.2) → L' = L) → (k ∉ L.map (·.2) → L'.Perm ((x, k) :: L)) → Q b { s with heap := h' }) :
    wpAny (model P w) A (setAddHashed a (.ref x) (Z.hash k)) Q E s := by
  obtain ⟨o, ho, hex, hd⟩ := R.obj
  have hz : zBound = 9000 := rfl
  have hl : sizeLine = 16777216 := by decide
  have sz := R.size
  have room := R.room
  unfold setAddHashed
  refine wpAny_holding ?_
  rw [show (100000 : Nat) = 99999 + 1 from rfl, setAddHashedIn_succ]
  refine wpAny_bind (wpAny_setState_of ho hd R.fits ?_)
  dsimp only
  refine wp_if_neg (by simp [byScan, Value.scannable]) ?_
  try refine wpAny_bind (wpAny_pure ?_)
  refine wpAny_bind (search R hx hu (fun hm r hr => ?_) fun N hm gap full => ?_)
  · dsimp only
    exact wpAny_pure (hQ false s.heap L es ep t (Heap.SameBut.refl a s.heap) R (fun _ => rfl) fun z => absurd hm z)
  · dsimp only
    refine wpAny_bind (wpAny_setState_of ho hd R.fits ?_)
    dsimp only
    have B := R.tab.put gap full
    obtain ⟨b1, b2, b3, b4, b5, b6, b7⟩ := B
    have pl1 : (t.put (way t.mask (Z.hash k) N)).1.plain = true := by rw [b6]; exact R.pln
    generalize t.put (way t.mask (Z.hash k) N) = tp at b1 b3 b4 b5 b6 b7 pl1 ⊢
    obtain ⟨t1, p1⟩ := tp
    dsimp only at b1 b3 b4 b5 b6 b7 pl1 ⊢
    subst b1
    refine wp_if_pos pl1 (wpAny_bind (Z.byV hx ?_))
    simp only [if_true]
    rw [List.length_map] at b2 b7
    have ins := SetTable.toList_insertAt es (SetTable.below t.place (way t.mask (Z.hash k) N)) (Z.hash k, Value.ref x)
    rw [R.row, ← zrows_put] at ins
    generalize SetTable.below t.place (way t.mask (Z.hash k) N) = p at b2 b3 ins ⊢
    have pm := put_perm L p (x, k)
    have hh : (L.take p ++ (x, k) :: L.drop p).map (fun q => Z.hash q.2) = (L.map fun q => Z.hash q.2).take p ++ Z.hash k :: (L.map fun q => Z.hash q.2).drop p := by
      simp [List.map_take, List.map_drop]
    rw [← hh] at b3
    have dif1 : ((L.take p ++ (x, k) :: L.drop p).map (·.2)).Nodup := (pm.map (·.2)).nodup_iff.mpr (List.nodup_cons.mpr ⟨hm, R.dif⟩)
    have sz1 := zrows_len ins
    have ln1 := pm.length_eq
    rw [List.length_cons] at ln1
    generalize SetTable.insertAt es p (Z.hash k, Value.ref x) = es1 at ins sz1 ⊢
    generalize L.take p ++ (x, k) :: L.drop p = L1 at pm b3 dif1 ins sz1 ln1
    refine wpAny_bind (wpAny_storeSet_of ho hd ?_ (by omega))
    have sb : Heap.SameBut a s.heap (s.heap.update a (Obj.putSet es1 t1)) := Heap.SameBut.update ..
    have ho1 := store_at (es' := es1) (t' := t1) ho hd
    generalize s.heap.update a (Obj.putSet es1 t1) = h1 at sb ho1 ⊢
    have tup1 : ∀ q ∈ L1, Z.is h1 q.2 q.1 := fun q hq => by
      rcases List.mem_cons.mp (pm.mem_iff.mp hq) with e | hq
      · rw [e]; exact zsame hx ho hd sb
      · exact zsame (R.tup q hq) ho hd sb
    have led1 : w.params.followText "set-order" = true ∨ t1.led = true := by rw [b5]; exact R.led
    have tl := b3.len
    rw [List.length_map] at tl
    have hex1 : Obj.ExactSet { o with data := .set es1 (ep + 1) t1 } := ⟨hex.1, hex.2.1, hex.2.2⟩
    by_cases hf : t1.tooFull = true
    · have tail : wpAny (model P w) A (setRelay a (SetTable.grown (es.size + 1))) (fun _ s' => wpAny (model P w) A (pure true) Q E s') E { s with heap := h1 } := by
        have hb : 7 ≤ t1.mask := (b3.msk).bd.1
        refine relay (s := { s with heap := h1 }) ho1 hex1 rfl ins (by rw [tl, sz1]) b3.nod (by omega) dif1 tup1 pl1 led1 (by omega) (by omega) fun h2 L2 es2 ep2 t2 sb2 R2 pm2 => ?_
        exact wpAny_pure (hQ true h2 L2 es2 ep2 t2 (sb.trans sb2) R2 (fun z => absurd z hm) fun _ => pm2.trans pm)
      first
        | exact wpAny_bind (wp_if_pos (by simp [hf]) tail)
        | exact wp_if_pos (by simp [hf]) (wpAny_bind tail)
    · have tail : wpAny (model P w) A (pure true) Q E { s with heap := h1 } := by
        refine wpAny_pure (hQ true h1 L1 es1 (ep + 1) t1 sb ⟨⟨_, ho1, hex1, rfl⟩, ins, b3, dif1, tup1, pl1, led1, ?_, by omega⟩ (fun z => absurd z hm) fun _ => pm)
        unfold SetTable.tooFull at hf
        rw [decide_eq_true_eq, b7] at hf
        omega
      first
        | exact wp_if_neg (by simp [hf]) tail
        | exact wpAny_bind (wp_if_neg (by simp [hf]) (wpAny_pure tail))
theorem finds (R : SetZ Z s.heap a L es ep t) {x : Addr} {k : K} (hx : Z.is s.heap k x) (hu : Z.room A) {Q : Option Nat → Shared → Prop}
    (hQ : ∀ r : Option Nat, r.isSome = decide (k ∈ L.map (·.2)) → Q r s) : wpAny (model P w) A (setFind a (.ref x) (Z.hash k)) Q E s := by
  obtain ⟨o, ho, hex, hd⟩ := R.obj
  unfold setFind setFindIn
  refine wpAny_bind (wpAny_setState_of ho hd R.fits ?_)
  dsimp only
  refine wp_if_neg (by simp [byScan, Value.scannable]) ?_
  try refine wpAny_bind (wpAny_pure ?_)
  refine wpAny_bind (search R hx hu (fun hm r hr => ?_) fun N hm gap full => ?_)
  · exact wpAny_pure (hQ r (by rw [hr, decide_eq_true hm]; rfl))
  · exact wpAny_pure (hQ none (by rw [decide_eq_false hm]; rfl))
end
end ZS
end
section
set_option maxHeartbeats 4000000
namespace ZS
open PySem PySem.Spec PyProof.Rows L2
/-- the tuples' order -/
def lexI : List Int → List Int → Bool
  | _, [] => false
  | [], _ :: _ => true
  | x :: r, y :: t => if x = y then lexI r t else decide (x < y)
theorem lexI_cons (x y : Int) (r t : List Int) : lexI (x :: r) (y :: t) = if x = y then lexI r t else decide (x < y) := rfl
theorem lexI_irr : ∀ a, lexI a a = false
  | [] => rfl
  | x :: r => by rw [lexI_cons, if_pos rfl]; exact lexI_irr r
theorem lexI_asym : ∀ a b, lexI a b = true → lexI b a = false
  | [], [], h => by cases h
  | [], _ :: _, _ => rfl
  | _ :: _, [], h => by cases h
  | x :: r, y :: t, h => by
    rw [lexI_cons] at h ⊢
    by_cases e : x = y
    · rw [if_pos e] at h
      rw [if_pos e.symm]
      exact lexI_asym r t h
    · rw [if_neg e] at h
      rw [if_neg (Ne.symm e)]
      have := of_decide_eq_true h
      exact decide_eq_false (by omega)
theorem lexI_neg : ∀ a b c, lexI b a = false → lexI c b = false → lexI c a = false
  | [], _, c, _, _ => by cases c <;> rfl
  | _ :: _, [], _, h, _ => by cases h
  | _ :: _, _ :: _, [], _, h => by cases h
  | x :: r, y :: t, z :: u, h1, h2 => by
    rw [lexI_cons] at h1 h2 ⊢
    by_cases e1 : y = x
    · rw [if_pos e1] at h1
      by_cases e2 : z = y
      · rw [if_pos e2] at h2
        rw [if_pos (e2.trans e1)]
        exact lexI_neg r t u h1 h2
      · rw [if_neg e2] at h2
        have := of_decide_eq_false h2
        rw [if_neg (by omega)]
        exact decide_eq_false (by omega)
    · rw [if_neg e1] at h1
      have h1' := of_decide_eq_false h1
      by_cases e2 : z = y
      · rw [if_neg (by omega)]
        exact decide_eq_false (by omega)
      · rw [if_neg e2] at h2
        have h2' := of_decide_eq_false h2
        rw [if_neg (by omega)]
        exact decide_eq_false (by omega)
theorem lexI_tot : ∀ a b, lexI a b = false → lexI b a = false → a = b
  | [], [], _, _ => rfl
  | [], _ :: _, h, _ => by cases h
  | _ :: _, [], _, h => by cases h
  | x :: r, y :: t, h1, h2 => by
    rw [lexI_cons] at h1 h2
    by_cases e : x = y
    · rw [if_pos e] at h1
      rw [if_pos e.symm] at h2
      rw [e, lexI_tot r t h1 h2]
    · rw [if_neg e] at h1
      rw [if_neg (Ne.symm e)] at h2
      have a1 := of_decide_eq_false h1
      have a2 := of_decide_eq_false h2
      omega
theorem lexI_tr (a b c : List Int) (h1 : lexI a b = true) (h2 : lexI b c = true) : lexI a c = true := by
  cases h : lexI a c with
  | true => rfl
  | false =>
    have := lexI_neg b c a (lexI_asym _ _ h2) h
    rw [h1] at this
    cases this
theorem swo_lexI (k : Value → List Int) : SrtO.Swo fun v u => lexI (k v) (k u) :=
  ⟨fun x y h => lexI_asym _ _ h, fun x y z h1 h2 => lexI_neg _ _ _ h1 h2⟩
section
variable {prog : Program} {w : World} {A : Around} {s : Shared}
theorem kat_ints {fin : Bool} {Q : Bool → Shared → Prop} : ∀ (ps qs : List Value) (as bs : List Int) (i : Nat), IntsAre ps as → IntsAre qs bs → fin = decide (as.length < bs.length) → Q (lexI as bs) s → PySem.W.KatLex prog w A true fin Q (ps.zip qs) i s
  | _, _, [], [], i, .nil, .nil, hf, hq => by rw [hf]; exact hq
  | _, _, [], _ :: _, i, .nil, .cons _ _ _, hf, hq => by
    rw [hf]
    exact hq
  | _, _, _ :: _, [], i, .cons _ _ _, .nil, hf, hq => by
    rw [hf]
    exact hq
  | _, _, x :: r, y :: t, i, .cons _ tx hr, .cons _ ty ht, hf, hq => by
    refine PySem.W.kat_cons (SeqAt.EqAt.int_int x tx y ty prog w _ _ ?_)
    rw [lexI_cons] at hq
    refine PySem.W.kat_go (fun e => PySem.W.kat_yes ?_) (fun e => PySem.W.kat_no ?_)
    · have e' : x = y := by simpa using e
      rw [if_pos e'] at hq
      refine kat_ints _ _ r t (i + 1) hr ht ?_ hq
      rw [hf]
      simp
    · have e' : ¬ x = y := by simpa using e
      rw [if_neg e'] at hq
      exact PyProof.Rows.oneLt_any_int hq
/-- v is a tuple of the ints k, not the empty one -/
def TupN (h : Heap) (v : Value) (k : List Int) : Prop := TS.TupInts h v k ∧ k ≠ []
theorem tups_cmp {vs : List Value} {k : Value → List Int} (hp : ∀ v ∈ vs, TupN s.heap v (k v)) : SrtO.Cmp prog w A s (tuples' true) (fun p => p.1 ∈ vs) (SrtO.lt2 fun v u => lexI (k v) (k u)) := by
  intro p q hm hm'
  obtain ⟨⟨a, xs, e, ⟨o, ho, hc, n, hd⟩, i1⟩, _⟩ := hp _ hm
  obtain ⟨⟨b, ys, e', ⟨o', ho', hc', n', hd'⟩, i2⟩, _⟩ := hp _ hm'
  show wpAny (model prog w) A (keyLt' (tuples' true) p.1 q.1) (fun r s' => s' = s ∧ r = lexI (k p.1) (k q.1)) (fun _ _ => False) s
  generalize k p.1 = as at i1 ⊢
  generalize k q.1 = bs at i2 ⊢
  rw [e, e']
  refine PySem.W.kat_lt ho hd ho' hd' (kat_ints _ _ as bs 0 i1 i2 ?_ ⟨rfl, rfl⟩)
  rw [← i1.length, ← i2.length, Array.length_toList, Array.length_toList]
theorem heads {h : Heap} {k : Value → List Int} : ∀ vs : List Value, (∀ v ∈ vs, TupN h v (k v)) → ∃ fs, PySem.W.KatTups h vs fs ∧ fs.length = vs.length ∧ ∀ f, f ∈ fs → ∃ n t, f = Value.int n t
  | [], _ => ⟨[], PySem.W.KatTups.nil, rfl, fun f hf => by cases hf⟩
  | v :: vs, x => by
    obtain ⟨fs, h1, h2, h3⟩ := heads vs fun u hu => x u (List.mem_cons_of_mem _ hu)
    obtain ⟨⟨a, xs, e, ⟨o, ho, hc, n, hd⟩, i⟩, ne⟩ := x v List.mem_cons_self
    subst e
    generalize k (.ref a) = ks at i ne
    cases hx : xs.toList with
    | nil =>
      rw [hx] at i
      cases i
      exact absurd rfl ne
    | cons f r =>
      rw [hx] at i
      cases i with
      | cons m t i' =>
        refine ⟨.int m t :: fs, PySem.W.KatTups.cons ho hc hd ?_ h1, by simp [h2], fun g hg => ?_⟩
        · rw [← Array.getElem?_toList, hx]
          rfl
        · rcases List.mem_cons.mp hg with z | z
          · exact ⟨m, t, z⟩
          · exact h3 g z
theorem tups_sortable {a : Addr} {vs : List Value} {k : Value → List Int} (h0 : 0 < vs.length) (hp : ∀ v ∈ vs, TupN s.heap v (k v)) (ha : ∀ o, s.heap.get? a = some o → o.cls ≠ .type "tuple") : SrtO.SortableO prog w A s a vs fun v u => lexI (k v) (k u) := by
  intro h' keep
  have hp' : ∀ v ∈ vs, TupN h' v (k v) := fun v hm => ⟨(hp v hm).1.keeps fun b o e c => keep b o (fun z => by subst z; exact ha o e c) e, (hp v hm).2⟩
  obtain ⟨fs, h1, h2, h3⟩ := heads vs hp'
  refine ⟨tuples' true, fun Q E hq => PySem.W.kat_kind (T := .type "int") h1 (by omega) (fun f hm => ?_) (by rfl) ?_, tups_cmp hp'⟩
  · obtain ⟨x, t, rfl⟩ := h3 f hm
    exact PySem.W.Looks.now
  · rw [show (Value.type "int" != Value.type "tuple") = true by decide +kernel]
    exact hq
end
end ZS
end
section
set_option maxHeartbeats 4000000
namespace ZS
open PySem PySem.Spec PyProof.Rows L2
abbrev NK := NestedKey
abbrev tk (k : List Int) : NK := .tup (k.map .num)
abbrev ttk (kk : List (List Int)) : NK := .tup (kk.map tk)
/-- v is a tuple of the ints k -/
def TI (K : PySem.W.Frag) (H : Hp) (v : V) (k : List Int) : Prop := ∃ a, v = .ref a ∧ SqT K H a (k.map V.int)
/-- v is a tuple of tuples of ints -/
def TTI (K : PySem.W.Frag) (H : Hp) (v : V) (kk : List (List Int)) : Prop := ∃ a xs, v = .ref a ∧ SqT K H a xs ∧ Paired (TI K H) xs kk
/-- at b stands the key k -/
def ElK (K : PySem.W.Frag) (H : Hp) (b : Addr) (k : NK) : Prop := (∃ ns, k = tk ns ∧ TI K H (.ref b) ns) ∨ (∃ kk, k = ttk kk ∧ TTI K H (.ref b) kk)
/-- tuples and what is locked stay -/
structure Tup (H H' : Hp) : Prop where
  t : ∀ b xs, H b = some (.tup xs) → H' b = some (.tup xs)
  f : ∀ b o u, H b = some (.frz o u) → H' b = some (.frz o u)
theorem Tup.refl (H : Hp) : Tup H H := ⟨fun _ _ h => h, fun _ _ _ h => h⟩
theorem Tup.trans {H H1 H2 : Hp} (a : Tup H H1) (b : Tup H1 H2) : Tup H H2 := ⟨fun c xs h => b.t c xs (a.t c xs h), fun c o u h => b.f c o u (a.f c o u h)⟩
theorem Tup.new {H : Hp} {p : Addr} {o : HO} (h : H p = none) : Tup H (upd H p o) :=
  ⟨fun b xs e => by rw [upd_ne (ne_of_none e h)]; exact e, fun b x u e => by rw [upd_ne (ne_of_none e h)]; exact e⟩
theorem Tup.put {H : Hp} {p : Addr} {o : HO} (h : Mut (H p)) : Tup H (upd H p o) := by
  refine ⟨fun b xs e => ?_, fun b x u e => ?_⟩
  · rw [upd_ne fun z => by rw [z] at e; rw [e] at h; exact h]; exact e
  · rw [upd_ne fun z => by rw [z] at e; rw [e] at h; exact h]; exact e
theorem Tup.same {H H' : Hp} (h : Same H H') : Tup H H' := ⟨fun _ _ e => h _ _ e, fun _ _ _ e => h _ _ e⟩
section
variable {K : PySem.W.Frag} {H H' : Hp}
theorem Tup.sq (z : Tup H H') {a : Addr} {xs : List V} (h : SqT K H a xs) : SqT K H' a xs := by
  rcases h with (h | ⟨o, h⟩) | h
  · exact .inl (.inl (z.t _ _ h))
  · exact .inl (.inr ⟨o, z.f _ _ _ h⟩)
  · exact .inr h
theorem Tup.ti (z : Tup H H') {v : V} {k : List Int} (h : TI K H v k) : TI K H' v k := let ⟨a, e, s⟩ := h; ⟨a, e, z.sq s⟩
theorem Tup.tti (z : Tup H H') {v : V} {kk : List (List Int)} (h : TTI K H v kk) : TTI K H' v kk := let ⟨a, xs, e, s, p⟩ := h; ⟨a, xs, e, z.sq s, Paired.mapP p fun _ _ q => z.ti q⟩
theorem Tup.el (z : Tup H H') {b : Addr} {k : NK} (h : ElK K H b k) : ElK K H' b k := by
  rcases h with ⟨ns, e, q⟩ | ⟨kk, e, q⟩
  · exact .inl ⟨ns, e, z.ti q⟩
  · exact .inr ⟨kk, e, z.tti q⟩
end
section
variable {P : Program} {w : World}
theorem all_ints {h : Heap} : ∀ {us : List Value} {k : List Int}, Vals (k.map V.int) us → NestedAll h (k.map .num) us
  | _, [], .nil => .nil
  | _, n :: k, .cons r t => by
    obtain ⟨tk, rfl⟩ := r
    exact .cons (.int n tk) (all_ints t)
theorem depth_ints : ∀ k : List Int, NestedKey.depthAll (k.map .num) = 0
  | [] => rfl
  | n :: k => by
    show max (NestedKey.depth (.num n)) (NestedKey.depthAll (k.map .num)) = 0
    rw [depth_ints k]
    rfl
theorem nums_ints : ∀ k : List Int, numsAll (k.map .num) = true
  | [] => rfl
  | n :: k => by
    show (nums (.num n) && numsAll (k.map .num)) = true
    rw [nums_ints k]
    rfl
theorem depth_tk (k : List Int) : (tk k).depth = 1 := by
  show NestedKey.depthAll (k.map .num) + 1 = 1
  rw [depth_ints]
theorem depth_tks : ∀ kk : List (List Int), NestedKey.depthAll (kk.map tk) ≤ 1
  | [] => Nat.zero_le _
  | k :: kk => by
    show max (tk k).depth (NestedKey.depthAll (kk.map tk)) ≤ 1
    have := depth_tks kk
    rw [depth_tk]
    omega
theorem nums_tks : ∀ kk : List (List Int), numsAll (kk.map tk) = true
  | [] => rfl
  | k :: kk => by
    show (nums (tk k) && numsAll (kk.map tk)) = true
    rw [nums_tks kk]
    show (numsAll (k.map .num) && true) = true
    rw [nums_ints]
    rfl
end
section
variable {X : Cx} {pins : List (Addr × Obj)} {σ : L2.St} {H : Hp} {s : Shared}
theorem ti_at (I : Inv X pins σ H s) {v : V} {u : Value} {k : List Int} (h : TI X.K H v k) (r : RelV v u) : NestedIs s.heap (tk k) u := by
  obtain ⟨a, rfl, hT⟩ := h
  obtain rfl : u = Value.ref a := r
  obtain ⟨its, rv, ⟨o, ho, hc, n, hd⟩, _⟩ := I.tuple hT
  exact .tup ho hc hd (by simpa using all_ints rv)
theorem tis_at (I : Inv X pins σ H s) : ∀ {vs : List V} {us : List Value} {kk : List (List Int)}, Paired (TI X.K H) vs kk → Vals vs us → NestedAll s.heap (kk.map tk) us
  | _, _, _, .nil, .nil => .nil
  | _, _, _, .cons a b, .cons r t => .cons (ti_at I a r) (tis_at I b t)
theorem el_at (I : Inv X pins σ H s) {b : Addr} {k : NK} (h : ElK X.K H b k) : (zk X.prog X.w).is s.heap k b := by
  rcases h with ⟨ns, rfl, h⟩ | ⟨kk, rfl, a, xs, e, hT, hp⟩
  · refine ⟨ti_at I h rfl, by rw [depth_tk]; decide, ?_⟩
    show numsAll (ns.map .num) = true
    exact nums_ints ns
  · cases e
    obtain ⟨its, rv, ⟨o, ho, hc, n, hd⟩, _⟩ := I.tuple hT
    refine ⟨.tup ho hc hd (by simpa using tis_at I hp rv), ?_, nums_tks kk⟩
    have := depth_tks kk
    show NestedKey.depthAll (kk.map tk) + 1 ≤ 8
    omega
end
/-! ### as a tracked thing -/
structure SetZ0 (P : Program) (w : World) (h : Heap) (a : Addr) (L : List (Addr × NK)) : Prop where
  ex : ∃ (es : Array (Int × Value)) (ep : Nat) (t : SetTable), (∃ o, h.get? a = some o ∧ o.ExactSet ∧ o.data = .set es ep t) ∧ es.toList = zrows (zk P w) L ∧ Tab t (L.map fun p => (zk P w).hash p.2) ∧ (L.map (·.2)).Nodup ∧ t.plain = true ∧
    (w.params.followText "set-order" = true ∨ t.led = true) ∧ L.length * 5 < t.mask * 3 ∧ L.length < zBound
def ZSet (P : Program) (w : World) (a : Addr) (L : List (Addr × NK)) : HO := .ext fun h => SetZ0 P w h a L
section
variable {P : Program} {w : World} {h h' : Heap} {a : Addr} {L : List (Addr × NK)} {es : Array (Int × Value)} {ep : Nat} {t : SetTable}
theorem SetZ.low (R : SetZ (zk P w) h a L es ep t) : SetZ0 P w h a L := ⟨es, ep, t, R.obj, R.row, R.tab, R.dif, R.pln, R.led, R.room, R.few⟩
theorem SetZ0.full (R : SetZ0 P w h a L) (ht : ∀ p ∈ L, (zk P w).is h p.2 p.1) : ∃ es ep t, SetZ (zk P w) h a L es ep t := by
  obtain ⟨es, ep, t, h1, h2, h3, h4, h5, h6, h7, h8⟩ := R.ex
  exact ⟨es, ep, t, h1, h2, h3, h4, ht, h5, h6, h7, h8⟩
theorem SetZ0.laid (R : SetZ0 P w h a L) (H : Hp) : ObjOk P w H h a (ZSet P w a L) := by
  have ⟨es, ep, t, ⟨o, ho, _⟩, _⟩ := R.ex
  refine ⟨R, ⟨o, ho⟩, fun h1 h2 p k => ?_⟩
  have ⟨es', ep', t', ⟨o', ho', r'⟩, q'⟩ := SetZ0.ex p
  exact ⟨es', ep', t', ⟨o', k o' ho', r'⟩, q'⟩
theorem SetZ0.nil (w : World) (ho : h.get? a = some { cls := .type "set", dict := none, data := .set #[] 0 (.fresh 0 0 (!w.params.followText "set-order")) }) : SetZ0 P w h a [] := by
  refine ⟨#[], 0, _, ⟨_, ho, ⟨rfl, rfl, rfl⟩, rfl⟩, rfl, ⟨List.Pairwise.nil, rfl, rfl, ⟨3, by decide, by decide, rfl⟩, fun z hz => (by cases hz), fun i h j hi => (by simp at hi)⟩, List.nodup_nil, rfl, ?_, (by show 0 * 5 < 7 * 3; decide), (by show 0 < 9000; decide)⟩
  show _ ∨ (!w.params.followText "set-order") = true
  cases w.params.followText "set-order"
  · exact .inr rfl
  · exact .inl rfl
end
section
variable {X : Cx} {pins : List (Addr × Obj)} {σ : L2.St} {H : Hp} {s : Shared} {a b : Addr} {k : NK} {L : List (Addr × NK)}
theorem zset_at (I : Inv X pins σ H s) (ha : H a = some (ZSet X.prog X.w a L)) (he : ∀ p ∈ L, ElK X.K H p.1 p.2) : ∃ es ep t, SetZ (zk X.prog X.w) s.heap a L es ep t :=
  SetZ0.full (I.hok a _ ha).1 fun p hp => el_at I (he p hp)
/-- setAdd itself -/
theorem zset_add {A : Around} {E : Value → Shared → Prop} (I : Inv X pins σ H s) (hr : A.units + 8 < cLine) (ha : H a = some (ZSet X.prog X.w a L)) (he : ∀ p ∈ L, ElK X.K H p.1 p.2) (hk : ElK X.K H b k) (few : L.length + 1 < zBound) {Q : Bool → Shared → Prop}
    (hQ : ∀ r L' s', (k ∈ L.map (·.2) → L' = L) → (k ∉ L.map (·.2) → L'.Perm ((b, k) :: L)) → Inv X pins σ (upd H a (ZSet X.prog X.w a L')) s' → Q r s') :
    wpAny (model X.prog X.w) A (setAdd a (.ref b)) Q E s := by
  obtain ⟨es, ep, t, R⟩ := zset_at I ha he
  unfold setAdd
  refine wpAny_holding (wpAny_bind ((zk X.prog X.w).ask hr (el_at I hk) ?_))
  have R' : SetZ (zk X.prog X.w) ({ s with toks := s.toks + (zk X.prog X.w).toks k } : Shared).heap a L es ep t := R
  refine adds R' (el_at I hk) hr few fun r h' L' es' ep' t' sb R2 c1 c2 => ?_
  obtain ⟨o, ho, _⟩ := R2.obj
  exact hQ r L' _ c1 c2 (I.write (e := a) (by rw [ha]; trivial) (.inl rfl) (fun c u hc hu => (sb.2 c hc).trans hu) ⟨o, ho⟩ (R2.low.laid _))
/-- x.add(k) of such a set -/
def rZAdd (K : PySem.W.Frag) (P : Program) (w : World) : V → List V → Hp → VK → Prop := fun x xs H Q => ∃ (a b : Addr) (k : NK) (L : List (Addr × NK)), x = .ref a ∧ xs = [.ref b] ∧ H a = some (ZSet P w a L) ∧ (∀ p ∈ L, ElK K H p.1 p.2) ∧ ElK K H b k ∧ L.length + 1 < zBound ∧
  ∀ L', (k ∈ L.map (·.2) → L' = L) → (k ∉ L.map (·.2) → L'.Perm ((b, k) :: L)) → Q .non (upd H a (ZSet P w a L'))
theorem mt_zadd (hu : X.A.units + 64 < cLine) : MtR X "set.add" (rZAdd X.K X.prog X.w) := by
  intro pins s σ H x xs v us Q I rx rxs h
  obtain ⟨a, b, k, L, rfl, rfl, ha, he, hk, few, q⟩ := h
  obtain rfl : v = Value.ref a := rx
  rw [Vals.ref1 rxs]
  obtain ⟨o, ho, hex, _⟩ : ∃ o, s.heap.get? a = some o ∧ o.ExactSet ∧ True := by
    obtain ⟨es, ep, t, ⟨o, ho, hex, _⟩, _⟩ := SetZ0.ex (I.hok a _ ha).1
    exact ⟨o, ho, hex, trivial⟩
  refine wpAny_call_entry F.slot_set_add ⟨o, ho, hex.1⟩ F.entry_set_add ?_ (F.args_set_add_2 _ _)
  unfold Builtin.«set.add» Builtin.Frozenset.oneOther
  simp only [List.isEmpty_nil, bind_assoc]
  unfold Builtin.Frozenset.addrOf
  refine wpAny_bind (wpAny_pure ?_)
  try dsimp only
  refine wpAny_bind (wpAny_pure ?_)
  try dsimp only
  refine wpAny_bind (zset_add I (by show X.A.units + 1 + 8 < cLine; omega) ha he hk few fun r L' s' c1 c2 I' => ?_)
  show wpAny _ _ (ret Value.none) _ _ _
  exact wpAny_pure ⟨_, rfl, .non, _, I', rfl, q L' c1 c2⟩
def tUAdd (K : PySem.W.Frag) (P : Program) (w : World) (to : TE) (t : TA) : TE := fun σ H Q => to σ H fun x H1 => ((∃ a L, x = .ref a ∧ H1 a = some (ZSet P w a L)) ∧ t σ H1 fun xs H2 => rZAdd K P w x xs H2 Q) ∨ ((∃ a S n, x = .ref a ∧ H1 a = some (SetO w a S n)) ∧ t σ H1 fun xs H2 => rSAdd w x xs H2 Q)
variable {o e : Expr} {es : List Expr} {to : TE} {t : TA} {apos cpos : Pos}
/-- o.add(e), o a set of ints or of such keys -/
theorem pe_uadd (hu : X.A.units + 64 < cLine) (ho : PE X o to) (ha : PA X (e :: es) t)
    (hbase : attributeBase o "add" X.env (eval o X.env) = eval o X.env := by rfl)
    (hfew : ((backTo cpos (starEach (e :: es) X.env)).all (fun x => !x.1) && (backToKw cpos (keywordEach [] X.env)).all (fun x => x.1.isSome) && decide ((e :: es).length + ([] : List Keyword).length + (if ([] : List Keyword).isEmpty then 0 else 1) < 30)) = true := by rfl)
    (hline : (apos.endLine == cpos.line) = true := by rfl) (hs : starEach (e :: es) X.env = (false, eval e X.env) :: starEach es X.env := by rfl) (hplain : (backTo cpos (starEach es X.env)).any (·.1) = false := by rfl) :
    PE X (.Call (.Attribute o "add" apos) (e :: es) [] cpos) (tUAdd X.K X.prog X.w to t) := by
  refine ⟨fun pins s σ H Q I h => wpAny_Call_method_late hbase hfew hline rfl (thn (ho.run pins s σ H _ I h) fun v s1 ⟨x, H1, I1, r1, q1⟩ => ?_)⟩
  obtain ⟨a, r, ex, ⟨ob, hob, hex⟩, hm, q⟩ : ∃ (a : Addr) (r : V → List V → Hp → VK → Prop), x = .ref a ∧ (∃ ob, s1.heap.get? a = some ob ∧ ob.ExactSet) ∧ MtR X "set.add" r ∧ t σ H1 fun xs H2 => r x xs H2 Q := by
    rcases q1 with ⟨⟨a, L, ex, hka⟩, q1⟩ | ⟨⟨a, S, n, ex, hka⟩, q1⟩
    · obtain ⟨es, ep, t, ⟨ob, hob, hex, _⟩, _⟩ := SetZ0.ex (I1.hok a _ hka).1
      exact ⟨a, _, ex, ⟨ob, hob, hex⟩, mt_zadd hu, q1⟩
    · obtain ⟨ob, _, _, _, hob, hex, _⟩ := setO_get I1 hka
      exact ⟨a, _, ex, ⟨ob, hob, hex⟩, mt_sadd, q1⟩
  subst ex
  obtain rfl : v = Value.ref a := r1
  refine ⟨"set", "set.add", F.plainAttrs_set, F.slot_set_add, F.type_set_add, ⟨ob, hob, hex.1⟩, fun b e => (by injection e with e; subst e; exact ⟨ob, hob, hex.2.1⟩), ?_⟩
  have hA := ha.run cpos pins s1 σ H1 _ I1 q
  rw [hs] at hA ⊢
  exact Calls.callWith_builtin (by show (false || (backTo cpos (starEach es X.env)).any (·.1)) = false; rw [hplain]; rfl) (Calls.evalArgs_plain (thn hA fun us s2 ⟨vs, H2, I2, r2, q2⟩ => hm pins s2 σ H2 (.ref a) vs (.ref a) us Q I2 rfl r2 q2))
/-- k in x, k not in x -/
def rZIn (K : PySem.W.Frag) (P : Program) (w : World) (neg : Bool) : V → V → Hp → VK → Prop := fun x y H Q => ∃ (a b : Addr) (k : NK) (L : List (Addr × NK)), x = .ref b ∧ y = .ref a ∧ H a = some (ZSet P w a L) ∧ (∀ p ∈ L, ElK K H p.1 p.2) ∧ ElK K H b k ∧
  Q (.bl (if neg then !decide (k ∈ L.map (·.2)) else decide (k ∈ L.map (·.2)))) H
theorem zset_has {A : Around} {E : Value → Shared → Prop} (hu : A.units + 64 < cLine) (I : Inv X pins σ H s) (ha : H a = some (ZSet X.prog X.w a L)) (he : ∀ p ∈ L, ElK X.K H p.1 p.2) (hk : ElK X.K H b k) {Q : Bool → Shared → Prop}
    (hQ : ∀ s', Inv X pins σ H s' → Q (decide (k ∈ L.map (·.2))) s') : wpAny (model X.prog X.w) A (contains (.ref a) (.ref b)) Q E s := by
  obtain ⟨es, ep, t, R⟩ := zset_at I ha he
  obtain ⟨o, ho, hex, _⟩ := R.obj
  have hT : s.TypeIs (.ref a) "set" := ⟨o, ho, hex.1⟩
  unfold contains
  try with_reducible refine wpAny_holding ?_
  refine wpAny_bind (wpAny_specialOf hT F.slot_set_contains.lookup ?_)
  show wpAny _ _ (if (some (Value.builtin "set.__contains__") == some Value.none) = true then _ else _) _ E s
  rw [if_neg (by rw [beq_builtin_none]; exact Bool.false_ne_true)]
  refine wpAny_bind (wpAny_callSpecialUnlessNone?_slot (name := Str.ofString "__contains__") hT F.slot_set_contains (wpAny_call_entry F.slot_set_contains hT entry_set_contains ?_ (F.args_set_contains_2 _ _)))
  unfold Builtin.«frozenset.__contains__» Builtin.Frozenset.oneOther
  simp only [List.isEmpty_nil, bind_assoc]
  unfold Builtin.Frozenset.addrOf Builtin.Frozenset.withSetAsKey setContains
  refine wpAny_bind (wpAny_pure ?_)
  try dsimp only
  refine wpAny_bind (wpAny_pure ?_)
  try dsimp only
  refine wpAny_bind (wpAny_tryCatch ?_)
  refine wpAny_holding (wpAny_bind ((zk X.prog X.w).ask (by show A.units + 1 + 8 < cLine; omega) (el_at I hk) ?_))
  have R' : SetZ (zk X.prog X.w) ({ s with toks := s.toks + (zk X.prog X.w).toks k } : Shared).heap a L es ep t := R
  refine wpAny_bind (finds R' (el_at I hk) (by show A.units + 1 + 8 < cLine; omega) fun r hr => wpAny_pure ?_)
  show wpAny _ _ (ret _) _ _ _
  rw [hr]
  exact wpAny_pure ⟨_, rfl, wpAny_truthy_bool (hQ _ (I.tok _))⟩
theorem or_znotin (hu : X.A.units + 64 < cLine) : OpR X (compareOp .NotIn) (rZIn X.K X.prog X.w true) := by
  intro pins s σ H x y v u Q I rx ry h
  obtain ⟨a, b, k, L, rfl, rfl, ha, he, hk, q⟩ := h
  obtain rfl : v = Value.ref b := rx
  obtain rfl : u = Value.ref a := ry
  show wpAny _ _ (do return Value.bool (!(← contains (.ref a) (.ref b)))) _ _ s
  exact wpAny_bind (zset_has hu I ha he hk fun s' I' => wpAny_pure ⟨.bl _, H, I', rfl, q⟩)
theorem OpR.either {f : Value → Value → Sem Value} {r r' : R2} (h : OpR X f r) (h' : OpR X f r') : OpR X f (fun x y H Q => r x y H Q ∨ r' x y H Q) := by
  intro pins s σ H x y v u Q I rx ry z
  rcases z with z | z
  · exact h pins s σ H x y v u Q I rx ry z
  · exact h' pins s σ H x y v u Q I rx ry z
theorem CallR.either {f : Value} {r r' : List V → Hp → VK → Prop} (h : CallR X f r) (h' : CallR X f r') : CallR X f (fun xs H Q => r xs H Q ∨ r' xs H Q) := by
  intro pins s σ H xs us Q I r z
  rcases z with z | z
  · exact h pins s σ H xs us Q I r z
  · exact h' pins s σ H xs us Q I r z
end
end ZS
end
section
set_option maxHeartbeats 4000000
namespace ZS
open PySem PySem.Spec PyProof.Rows L2
abbrev setO0 (w : World) : Obj := { cls := .type "set", dict := none, data := .set #[] 0 (.fresh 0 0 (!w.params.followText "set-order")) }
section
variable {P : Program} {w : World} {A : Around} {E : Value → Shared → Prop} {s : Shared}
/-- {e} -/
theorem display1 {road : DisplayRoad} {b : Bool} {t : Sem Value} {Q : Value → Shared → Prop} (h1 : (road == .constants) = false) (h2 : (road == .unsure) = false)
    (h : wpAny (model P w) A t (fun v s' => wpAny (model P w) A (setAdd s.heap.objs.size v) (fun _ s'' => Q (.ref s.heap.objs.size) s'') E s') E { s with heap := s.heap.push (setO0 w) }) :
    wpAny (model P w) A (setDisplay road b [(false, t)]) Q E s := by
  unfold setDisplay
  try dsimp only
  rw [if_neg (by rw [h1]; exact Bool.false_ne_true)]
  refine wpAny_bind (PpSet.newSet_ok ?_)
  dsimp only
  have e1 : (if ([(false, t)] : List (Bool × Sem Value)).length > 30 then 0 else (([(false, t)] : List (Bool × Sem Value)).findIdx? (·.1)).getD ([(false, t)] : List (Bool × Sem Value)).length) = 1 := rfl
  rw [e1]
  show wpAny _ _ (holding [Value.ref s.heap.objs.size] _ >>= _) _ _ _
  refine wpAny_bind (wpAny_holding ?_)
  show wpAny _ _ (evalAll [t] >>= _) _ _ _
  refine wpAny_bind ?_
  show wpAny _ _ (t >>= fun v => holding [v] (evalAll []) >>= fun r => pure (v :: r)) _ _ _
  refine wpAny_bind (wpAny_mono h (fun v s' h' => ?_) fun _ _ x => x)
  refine wpAny_bind (wpAny_holding (wpAny_pure (wpAny_pure ?_)))
  refine wpAny_bind (wpAny_holding ?_)
  simp only [List.forIn_cons, List.forIn_nil, bind_assoc, pure_bind, h2, Bool.false_eq_true, if_false, List.drop_one, List.tail_cons]
  refine wpAny_bind (wpAny_mono h' (fun _ s2 q => ?_) fun _ _ x => x)
  exact wpAny_pure (wpAny_pure (wpAny_pure q))
theorem int_add {a : Addr} {S : Int → Bool} {n : Nat} {k : Int} {tk : Tok} {Q : Bool → Shared → Prop} (R : SetR w s.heap a S n) (room : n + 1 < scanBound)
    (hQ : ∀ r h' t', Heap.SameBut a s.heap h' → SetR w h' a (fun j => S j || decide (j = k)) (if S k = true then n else n + 1) → Q r { s with heap := h', toks := t' }) : wpAny (model P w) A (setAdd a (.int k tk)) Q E s := by
  unfold setAdd
  refine wpAny_holding (wpAny_bind ((intKind P w).pyHash (k := k) (intKind_is _ _ _ _) ?_))
  exact setR_add_hashed (s := { s with toks := s.toks + 1 }) R room fun h' sb R' => hQ _ h' _ sb R'
end
section
variable {X : Cx} {pins : List (Addr × Obj)} {σ : L2.St} {H : Hp} {s : Shared}
/-- what was only pinned is tracked from now on -/
theorem track {D : Addr} {ob : Obj} {o : HO} (I : Inv X (pins ++ [(D, ob)]) σ H s) (hf : FpOk X pins H D) (ok : ∀ H', ObjOk X.prog X.w H' s.heap D o) : Inv X pins σ (upd H D o) s := by
  obtain ⟨f0, f1, f2, f3, f4, f5⟩ := hf
  have I0 : Inv X pins σ H s := I.unpinned
  have nD : ∀ b u, H b = some u → b ≠ D := fun b u e z => by rw [z, f0] at e; cases e
  have J := I0.step (h' := s.heap) (g' := s.gens) (d' := s.drawn) (t' := s.toks) (ch := [D]) (H' := upd H D o) (fun b hb => by rw [List.mem_singleton.mp hb]; exact ⟨f3, f1, f4, f5⟩)
    (fun b u _ _ _ e _ => e) (fun b u _ _ _ e _ => ⟨u.slots, e⟩) (fun b u hb _ n => by rw [upd_ne (fun z => hb (by rw [z]; exact List.mem_singleton.mpr rfl))]; exact n) (fun b u _ e => ⟨u, e⟩)
    (fun b xs e => by rw [upd_ne (nD b _ e)]; exact e) (fun b u z e => by rw [upd_ne (nD b _ e)]; exact e) (fun b ps e => ⟨#[], by rw [upd_ne (nD b _ e), e]; simp⟩) (fun m hm => hm) (fun b u e => ?_) I0.bare
  · exact J
  · by_cases hb : b = D
    · rw [hb, upd_same] at e
      cases e
      rw [hb]
      exact ok _
    · rw [upd_ne hb] at e
      exact (I0.hok b u e).stay (fun c v _ q => q) (fun c q => by rw [upd_ne (nD c _ q)]; exact q) fun c xs q => by rw [upd_ne (nD c _ q)]; exact q
/-- {e}, e an int or a key -/
def tSet1 (K : PySem.W.Frag) (P : Program) (w : World) (te : TE) : TE := fun σ H Q => te σ H fun v H1 => (∃ b k, v = .ref b ∧ ElK K H1 b k ∧ ∀ p, H1 p = none → Q (.ref p) (upd H1 p (ZSet P w p [(b, k)]))) ∨
  (∃ i, v = .int i ∧ ∀ p, H1 p = none → Q (.ref p) (upd H1 p (SetO w p (fun j => decide (j = i)) 1)))
theorem pe_set1 {e : Expr} {te : TE} {pos : Pos} (hu : X.A.units + 64 < cLine) (hcd : PySem.W.kdsCode X.K X.env.code = true) (he : PE X e te) (hp : PySem.W.kdsPlain e = true := by rfl) : PE X (.Set [e] 0 pos) (tSet1 X.K X.prog X.w te) := by
  refine ⟨fun pins s σ H Q I h => ?_⟩
  rw [arm_eval_Set]
  refine wpAny_bind (wpAny_standAt (wpAny_bind (PySem.W.kds_main I.kIn hcd fun b => ?_)))
  rw [PySem.W.kds_star [e] (by simp [hp])]
  refine display1 (by rfl) (by rfl) ?_
  have hob : (s.heap.push (setO0 X.w)).get? s.heap.objs.size = some (setO0 X.w) := Heap.get?_push_size _ rfl
  have I1 : Inv X pins σ H { s with heap := s.heap.push (setO0 X.w) } := I.kept (t' := s.toks) fun b u e => Heap.get?_push_of_some _ e
  have f1 := I.fpOk (b := s.heap.objs.size) (Nat.le_refl _) (I.hok.fresh (Nat.le_refl _))
  have I2 : Inv X (pins ++ [(s.heap.objs.size, setO0 X.w)]) σ H { s with heap := s.heap.push (setO0 X.w) } := I1.pins_of fun p hp => by
    rcases List.mem_append.mp hp with z | z
    · exact I1.pin p (List.mem_append_right _ z)
    · rw [List.mem_singleton.mp z]
      exact ⟨hob, f1.1, f1.2.1, f1.2.2.1, fun v q => by cases q⟩
  show wpAny _ _ (eval e X.env >>= fun v => standAt pos >>= fun _ => pure v) _ _ _
  refine wpAny_bind (thn (he.run _ _ _ _ _ I2 h) fun v s1 ⟨x, H1, I3, r3, q3⟩ => wpAny_bind (wpAny_standAt (wpAny_pure ?_)))
  obtain ⟨p1, p2, p3, p4, _⟩ := I3.pin (s.heap.objs.size, setO0 X.w) (List.mem_append_right _ (List.mem_append_right _ (List.mem_singleton.mpr rfl)))
  have f3 : FpOk X pins H1 s.heap.objs.size := ⟨p2, f1.2⟩
  rcases q3 with ⟨b, k, ex, hk, q⟩ | ⟨i, ex, q⟩
  · subst ex
    obtain rfl : v = Value.ref b := r3
    have J := track (o := ZSet X.prog X.w s.heap.objs.size []) I3 f3 fun H' => (SetZ0.nil X.w p1).laid H'
    have hk' : ElK X.K (upd H1 s.heap.objs.size (ZSet X.prog X.w s.heap.objs.size [])) b k := (Tup.new p2).el hk
    refine zset_add J (by omega) upd_same (fun p hp => by cases hp) hk' (by decide) fun r L' s' c1 c2 I' => ?_
    have eL : L' = [(b, k)] := List.perm_singleton.mp (c2 (by simp))
    rw [eL, upd_upd] at I'
    exact ⟨.ref _, _, I', rfl, q _ p2⟩
  · subst ex
    obtain ⟨tk, rfl⟩ := (show ∃ t, v = Value.int i t from r3)
    have J := track (o := SetO X.w s.heap.objs.size (fun _ => false) 0) I3 f3 fun H' => setO_new (setR_new_at (ns := []) p1 |>.congr fun k => by simp)
    refine int_add (setO_get J upd_same) (by decide) fun r h' t' sb R' => ?_
    obtain ⟨ob, _, _, _, hob', _⟩ := id R'
    have J' := J.write (x := s.heap.objs.size) (e := s.heap.objs.size) (h' := h') (t' := t') (o := SetO X.w s.heap.objs.size (fun j => decide (j = i)) 1) (by rw [upd_same]; trivial) (.inl rfl) (fun b u hb hu => (sb.2 b hb).trans hu) ⟨_, hob'⟩ (setO_new (R'.congr fun k => by simp))
    rw [upd_upd] at J'
    exact ⟨.ref _, _, J', rfl, q _ p2⟩
/-- len of such a set -/
def rZLen (K : PySem.W.Frag) (P : Program) (w : World) : List V → Hp → VK → Prop := fun vs H Q => ∃ (a : Addr) (L : List (Addr × NK)), vs = [.ref a] ∧ H a = some (ZSet P w a L) ∧ Q (.int L.length) H
theorem cr_zlen : CallR X (.builtin "len") (rZLen X.K X.prog X.w) := by
  intro pins s σ H vs us Q I r h
  obtain ⟨a, L, rfl, ha, q⟩ := h
  rw [Vals.ref1 r]
  obtain ⟨es, ep, t, ⟨o, ho, hex, hd⟩, row, tab, _, _, _, room, few⟩ := SetZ0.ex (I.hok a _ ha).1
  have sz := zrows_len row
  have tl := tab.len
  rw [List.length_map] at tl
  have hz : zBound = 9000 := rfl
  refine call_len_set ho hex hd (fits_of (by rw [tl, sz]) tab.nod (by omega)) (by omega) ⟨.int L.length, H, I.tok _, ⟨_, by rw [sz]⟩, q⟩
/-- sorted of a set of tuples of ints, none of them empty -/
def rZSort (K : PySem.W.Frag) (P : Program) (w : World) : List V → Hp → VK → Prop := fun vs H Q => ∃ (a : Addr) (L : List (Addr × List Int)), vs = [.ref a] ∧ H a = some (ZSet P w a (L.map fun p => (p.1, tk p.2))) ∧ (∀ p ∈ L, TI K H (.ref p.1) p.2 ∧ p.2 ≠ []) ∧ L.length < scanBound ∧
  ∀ (L' : List (Addr × List Int)) (p : Addr), L'.Perm L → L'.Pairwise (fun q r => lexI q.2 r.2 = true) → H p = none → Q (.ref p) (upd H p (.lst (L'.map fun q => V.ref q.1)))
theorem tk_inj {a b : List Int} (h : tk a = tk b) : a = b := by
  have e : a.map NestedKey.num = b.map NestedKey.num := by injection h
  exact List.map_inj_right (fun x y e => by injection e) |>.mp e
theorem cr_zsort (hc : X.calm = true) : CallR X (.builtin "sorted") (rZSort X.K X.prog X.w) := by
  intro pins s σ H vs us Q I r h
  obtain ⟨a, L, rfl, ha, hk, few, q⟩ := h
  rw [Vals.ref1 r]
  obtain ⟨es, ep, t, R⟩ := zset_at I ha fun p hp => by
    obtain ⟨p0, h0, rfl⟩ := List.mem_map.mp hp
    exact .inl ⟨p0.2, rfl, (hk p0 h0).1⟩
  obtain ⟨o, ho, hex, hd⟩ := R.obj
  have sz := R.size
  rw [List.length_map] at sz
  refine Calls.call_function_entry kind_sorted plain_sorted entry_sorted (args_sorted1 _) ?_
  unfold Builtin.«sorted»
  refine wpAny_bind (m := checkCount "sorted" 1 1 _) (wpAny_pure ?_)
  refine wpAny_bind (collect_set (I.ok.hd hc) ⟨o, ho, hex.1, hd⟩ R.fits (by omega) R.tab.up R.led fun s1 us k1 hz g1 o1 pm => ?_)
  have dat : es.toList.map (·.2) = L.map fun q => Value.ref q.1 := by
    rw [R.row]
    show (List.map _ _).map _ = _
    rw [List.map_map, List.map_map]
    rfl
  rw [dat] at pm
  have tin : ∀ q ∈ L, TS.TupInts s.heap (.ref q.1) q.2 := fun q hq => by
    obtain ⟨⟨b, e, hT⟩, _⟩ := hk q hq
    cases e
    obtain ⟨its, rv, hT', _⟩ := I.tuple hT
    exact ⟨q.1, its.toArray, rfl, hT', by simpa using rv.ints⟩
  have s1sz : sizeLine = 16777216 := by decide
  have sb : scanBound = 4096 := rfl
  have ul : us.length = L.length := by rw [pm.length_eq, List.length_map]
  refine wpAny_bind (wpAny_newList ?_ (by omega))
  have hoL : (s1.heap.push (seqObj "list" us.toArray 0)).get? s1.heap.objs.size = some (seqObj "list" us.toArray 0) := Heap.get?_push_size _ rfl
  have mem : ∀ v ∈ us, ∃ q ∈ L, v = Value.ref q.1 := fun v hv => by
    obtain ⟨q, hq, e⟩ := List.mem_map.mp (pm.mem_iff.mp hv)
    exact ⟨q, hq, e.symm⟩
  have tup : ∀ v ∈ us, TupN (s1.heap.push (seqObj "list" us.toArray 0)) v (TS.intsOf s.heap v) := fun v hv => by
    obtain ⟨q, hq, rfl⟩ := mem v hv
    have z := tin q hq
    rw [z.ints]
    exact ⟨z.keeps fun b o e _ => Heap.get?_push_of_some _ (k1 b o e), (hk q hq).2⟩
  refine wpAny_bind (wpAny_holding (wpAny_call_entry slot_list_sort ⟨_, hoL, rfl⟩ entry_list_sort (SrtO.list_sort_ord (s := { s1 with heap := s1.heap.push (seqObj "list" us.toArray 0) }) (swo_lexI (TS.intsOf s.heap)) hoL (by omega) (fun h2 => tups_sortable (by omega) tup fun o' e => ?_) fun out a1 a2 => ⟨_, rfl, ?_⟩) (args_list_sort _)))
  · have e' : some o' = some (seqObj "list" us.toArray 0) := e.symm.trans hoL
    cases e'
    intro z
    exact absurd (Value.type.inj z) (by decide)
  -- the rows in the new order
  have rows : ∀ vs : List Value, (∀ v ∈ vs, ∃ q ∈ L, v = Value.ref q.1) → ∃ L1 : List (Addr × List Int), vs = L1.map (fun q => Value.ref q.1) ∧ ∀ q ∈ L1, q ∈ L := by
    intro vs
    induction vs with
    | nil => intro _; exact ⟨[], rfl, fun q hq => by cases hq⟩
    | cons v vs ih =>
      intro hv
      obtain ⟨q, hq, e⟩ := hv v List.mem_cons_self
      obtain ⟨L1, e1, h1⟩ := ih fun u hu => hv u (List.mem_cons_of_mem _ hu)
      exact ⟨q :: L1, by rw [List.map_cons, e, e1], fun r hr => (List.mem_cons.mp hr).elim (fun z => by rw [z]; exact hq) (h1 r)⟩
  obtain ⟨L', eo, hsub⟩ := rows out fun v hv => mem v (a2.perm.mem_iff.mp hv)
  have one : ∀ q ∈ L, ∀ r ∈ L, q.1 = r.1 → q = r := fun q hq r hr e => by
    have z1 := (tin q hq).ints
    have z2 := (tin r hr).ints
    rw [e, z2] at z1
    exact Prod.ext e z1.symm
  have ndL : L.Nodup := by
    have z := R.dif
    rw [List.map_map] at z
    exact nodup_of_map z
  have pL : L'.Perm L := by
    have pm1 : (L'.map fun q => Value.ref q.1).Perm (L.map fun q => Value.ref q.1) := by rw [← eo]; exact a2.perm.trans pm
    have nref : (L.map fun q => Value.ref q.1).Nodup := List.pairwise_map.mpr (List.Pairwise.imp_of_mem (fun {q r} hq hr hne e => hne (one q hq r hr (by injection e))) ndL)
    have n1 : L'.Nodup := nodup_of_map (pm1.nodup_iff.mpr nref)
    refine (List.perm_ext_iff_of_nodup n1 ndL).mpr fun q => ⟨hsub q, fun hq => ?_⟩
    obtain ⟨r, hr, e⟩ := List.mem_map.mp (pm1.mem_iff.mpr (List.mem_map.mpr ⟨q, hq, rfl⟩))
    rw [← one r (hsub r hr) q hq (by injection e)]
    exact hr
  have pw : L'.Pairwise fun q r => lexI q.2 r.2 = true := by
    rw [eo] at a1
    have z : (L'.map (·.2)).Nodup := (pL.map (·.2)).nodup_iff.mpr (by
      have z := R.dif
      rw [List.map_map] at z
      have e : L.map ((fun x : Addr × NK => x.2) ∘ fun p : Addr × List Int => (p.1, tk p.2)) = (L.map (·.2)).map tk := by rw [List.map_map]; rfl
      rw [e] at z
      exact nodup_of_map z)
    refine List.Pairwise.imp_of_mem (fun {q r} hq hr hh => ?_) ((List.pairwise_map.mp a1).and (List.pairwise_map.mp z))
    obtain ⟨h1, h2⟩ := hh
    have f1 := (tin q (hsub q hq)).ints
    have f2 := (tin r (hsub r hr)).ints
    have h1 : lexI (TS.intsOf s.heap (Value.ref r.fst)) (TS.intsOf s.heap (Value.ref q.fst)) = false := h1
    rw [f1, f2] at h1
    cases hb : lexI q.2 r.2 with
    | true => rfl
    | false => exact absurd (lexI_tot _ _ hb h1) h2
  obtain ⟨c, hc'⟩ := sortedHeap_at (vs := us) (out := out.toArray) hoL
  have keep : ∀ b u, s.heap.get? b = some u → (sortedHeap (s1.heap.push (seqObj "list" us.toArray 0)) s1.heap.objs.size us out.toArray).get? b = some u := fun b u e => by
    have e1 := k1 b u e
    have hlt := Heap.lt_size e1
    rw [sortedHeap_old (Nat.ne_of_lt hlt) (by rw [size_push']; exact Nat.lt_succ_of_lt hlt)]
    exact Heap.get?_push_of_some _ e1
  have vals : ∀ l : List (Addr × List Int), Vals (l.map fun q => V.ref q.1) (l.map fun q => Value.ref q.1) := fun l => by
    induction l with
    | nil => exact .nil
    | cons q l ih => exact .cons rfl ih
  have hn : H s1.heap.objs.size = none := I.hok.fresh hz
  have ok : ObjOk X.prog X.w (upd H s1.heap.objs.size (.lst (L'.map fun q => V.ref q.1))) (sortedHeap (s1.heap.push (seqObj "list" us.toArray 0)) s1.heap.objs.size us out.toArray) s1.heap.objs.size (.lst (L'.map fun q => V.ref q.1)) := by
    refine ⟨by rw [List.length_map, pL.length_eq]; omega, out, c, by rw [eo]; exact vals L', ?_⟩
    rw [hc']
  refine wpAny_pure ⟨_, rfl, .ref s1.heap.objs.size, upd H s1.heap.objs.size (.lst (L'.map fun q => V.ref q.1)), ?_, rfl, q L' _ pL pw hn⟩
  exact I.call' (ch := []) o1 (Un.laid keep hz hn) (I.hok.laid keep hz ok) (by show AllBare s1.gens; rw [g1]; exact I.bare) (fun _ z => nomatch z)
end
end ZS
end
section
set_option maxHeartbeats 4000000
namespace ZS
open PySem PySem.Spec PyProof.Rows L2 PpSet
/-- {elt for x in iter}, elt a key: D the new set -/
def tZsc (K : PySem.W.Frag) (P : Program) (w : World) (wi : L2.TI) (i0 : Nat) (te : TE) (vs : List Nat) : TE := fun σ H Q => wi σ H fun J H1 => ∀ D, H1 D = none → ∃ W : Nat → Nat → Hp → Prop, (∃ m, W 0 m (upd H1 D (ZSet P w D []))) ∧ ∀ i m H2, W i m H2 →
  (J.stop i H2 ∧ Q (.ref D) H2) ∨ (J.go i H2 ∧ ∀ x H3, J.yld i H2 x H3 → te ((wipe σ vs).set i0 (some x)) H3 fun y H4 => ∃ b k L, y = .ref b ∧ H4 D = some (ZSet P w D L) ∧ (∀ p ∈ L, ElK K H4 p.1 p.2) ∧ ElK K H4 b k ∧ L.length + 1 < zBound ∧
    ∀ L', (k ∈ L.map (·.2) → L' = L) → (k ∉ L.map (·.2) → L'.Perm ((b, k) :: L)) → ∃ m', m' < m ∧ W (i + 1) m' (upd H4 D (ZSet P w D L')))
section
variable {X : Cx}
theorem pe_zsc {elt iter : Expr} {x : Str} {px : Pos} {scope : Scope} {own : List (PySem.Str × Nat)} {pos : Pos} {wi : L2.TI} {i0 : Nat} {te : TE} (hu : X.A.units + 64 < cLine) (hc : X.calm = true) (hN : X.N.Nodup) (hi : PI X (.Name x px) iter wi) (ok : BlkOk X.N X.env.scope scope own) (h0 : i0 ∈ own.map (·.2))
    (hg : ∀ (s : Shared) (H : Hp) (C : Addr) (cl : List (PySem.Str × Addr)) (fp : List Addr), PG (X.blk s H scope (compEnvC scope cl C X.env) fp) (.Name x px) (gName i0))
    (he : ∀ (s : Shared) (H : Hp) (C : Addr) (cl : List (PySem.Str × Addr)) (fp : List Addr), PE (X.blk s H scope (compEnvC scope cl C X.env) fp) elt te) (hs : ∀ x, foldedSetIterable iter X.env x = pure x := by intro _; rfl) :
    PE X (.SetComp elt [⟨.Name x px, iter, [], 0⟩] scope pos) (tZsc X.K X.prog X.w wi i0 te (own.map (·.2))) := by
  refine ⟨fun pins s σ H Q I h => ?_⟩
  rw [eval_SetComp]
  have hfree : ∀ y ∈ scope.names, y.2 = .free → ∃ c, X.env.cells.lookup y.1 = some c := fun y hy e => I.ok.has _ (ok.free y hy e)
  refine wpAny_comprehension_free (use := none) rfl hs (closure_ok hfree) ok.kind (fun y hy e => by rw [ok.uniq y hy, e]) (thn (hi.run pins s σ H _ I h) fun xv s1 hx => thn hx fun itv s2 h2 => ?_)
  obtain ⟨it, fp, tn, J, H2, rfl, I2, T, st2, f2, q⟩ := h2
  refine newSet_ok (newEnv_comp ?_)
  obtain ⟨D, hD⟩ : ∃ D, D = s2.heap.objs.size := ⟨_, rfl⟩
  rw [← hD]
  have hDn : H2 D = none := I2.hok.fresh (Nat.le_of_eq hD.symm)
  obtain ⟨W, ⟨m0, w0⟩, turn⟩ := q D hDn
  obtain ⟨s3, hs3⟩ : ∃ s3 : Shared, s3 = { s2 with heap := s2.heap.push (setO0 X.w) } := ⟨_, rfl⟩
  obtain ⟨H3, hH3⟩ : ∃ H3, H3 = upd H2 D (ZSet X.prog X.w D []) := ⟨_, rfl⟩
  have h3 : s3.heap = s2.heap.push (setO0 X.w) := by rw [hs3]
  have k3 : ∀ b u, s2.heap.get? b = some u → s3.heap.get? b = some u := fun b u e => by rw [h3]; exact Heap.get?_push_of_some _ e
  have sz3 : s3.heap.objs.size = D + 1 := by rw [h3, Heap.size_push, hD]
  have I3 : Inv X pins σ H3 s3 := by
    rw [hs3, hH3]
    refine I2.laid (t' := s2.toks) (fun b u e => Heap.get?_push_of_some _ e) (Nat.le_of_eq hD.symm) ((SetZ0.nil X.w ?_).laid _)
    rw [hD]
    exact Heap.get?_push_size _ rfl
  have fD : ∀ b ∈ fp, b < D := fun b hb => by
    obtain ⟨u, e, _⟩ := T.obj _ _ st2 b hb
    rw [hD]
    exact Heap.lt_size e
  have f3 : ∀ b ∈ fp, FpOk X pins H3 b ∧ b < s3.heap.objs.size := fun b hb => by
    have hlt := fD b hb
    refine ⟨⟨?_, (f2 b hb).2⟩, by rw [sz3]; exact Nat.lt_succ_of_lt hlt⟩
    rw [hH3, upd_ne (Nat.ne_of_lt hlt)]
    exact (f2 b hb).1
  have st3 : tn 0 s3.heap := T.keep _ _ _ st2 fun b _ u e => k3 b u e
  have I4 := block_start I3 ok hN f3
  have pg := hg s3 H3 s3.heap.objs.size (cellsFrom (s3.heap.objs.size + 1) scope.names (cloFrom X.env.cells scope.names [])) fp
  have pe := he s3 H3 s3.heap.objs.size (cellsFrom (s3.heap.objs.size + 1) scope.names (cloFrom X.env.cells scope.names [])) fp
  rw [← hs3, hD, ← hD]
  show codeAny _ _ (.compStart (.SetComp elt [⟨.Name x px, iter, [], 0⟩] scope pos) 0 (.ref it) (.ref D) (compEnvC scope (cellsFrom (s3.heap.objs.size + 1) scope.names (cloFrom X.env.cells scope.names [])) s3.heap.objs.size X.env)) (compPost (model X.prog X.w) X.A X.xe none _ (.ref D) s3.heap.objs.size) { s3 with heap := pushCells (s3.heap.push { cls := .type "dict", data := .dict #[] }) scope.names }
  generalize hce : compEnvC scope (cellsFrom (s3.heap.objs.size + 1) scope.names (cloFrom X.env.cells scope.names [])) s3.heap.objs.size X.env = ce at I4 pg pe ⊢
  have locE : ce.locals = s3.heap.objs.size := by rw [← hce]; rfl
  generalize hs4 : ({ s3 with heap := pushCells (s3.heap.push { cls := .type "dict", data := .dict #[] }) scope.names } : Shared) = s4 at I4 ⊢
  have st4 : tn 0 s4.heap := T.keep _ _ _ st3 fun b _ u e => by rw [← hs4]; exact pushCells_keeps _ _ _ _ (Heap.get?_push_of_some _ e)
  obtain ⟨σw, hσw⟩ : ∃ σw, σw = wipe σ (own.map (·.2)) := ⟨_, rfl⟩
  rw [← hσw] at I4 turn
  have still : ∀ {σ' : L2.St} {H' : Hp} {s' : Shared}, Inv (X.blk s3 H3 scope ce fp) [] σ' H' s' → (∀ b ∈ fp, H' b = none) → ∀ b ∈ fp, FpOk (X.blk s3 H3 scope ce fp) [] H' b := fun {σ' H' s'} I' hn b hb =>
    ⟨hn b hb, (I'.ok.exf b hb).1, I'.ok.exfs b hb, .inl hb, fun y c e => (I'.ok.exf b hb).2 y c e, fun p hp => absurd (show p ∈ ([] : List (Addr × Obj)) ++ [] from hp) (by simp)⟩
  have uB : (X.blk s3 H3 scope ce fp).A.units + 64 < cLine := hu
  have loop : codeAny (model X.prog X.w) X.A (.compLoop (.SetComp elt [⟨.Name x px, iter, [], 0⟩] scope pos) 0 (.ref it) (.ref D) ce) (compPost (model X.prog X.w) X.A X.xe none (EP X pins σ Q) (.ref D) s3.heap.objs.size) s4 := by
    refine compLoopS_any (fun n s' => ∃ i H', Inv (X.blk s3 H3 scope ce fp) [] σw H' s' ∧ tn i s'.heap ∧ (∀ b ∈ fp, H' b = none) ∧ W i n H') ?_ m0 ⟨0, H3, I4, st4, fun b hb => (f3 b hb).1.1, by rw [hH3]; exact w0⟩
    rintro n s5 ⟨i, H5, I5, st5, n5, w5⟩
    rcases turn i n H5 w5 with ⟨stop, fin⟩ | ⟨go, step⟩
    · refine thnF (T.done (X.blk s3 H3 scope ce fp) rfl rfl rfl hc i [] s5 _ H5 (fun _ _ => False) I5 (still I5 n5) st5 stop) fun r s6 ⟨hr, I6⟩ => ?_
      subst hr
      have I7 : Inv X pins σ H5 s6 := I3.call' (ch := fp) I6.os I6.base I6.hok I6.bare fun b hb => let ⟨_, b1, _, b3, b4, b5⟩ := (f3 b hb).1; ⟨b3, b1, b4, b5⟩
      obtain ⟨m, hn, _⟩ := I6.loc
      have hn' : s6.heap.Ns s3.heap.objs.size m := by rw [← locE]; exact hn
      have nC : H5 s3.heap.objs.size = none := by rw [← locE]; exact I6.free
      obtain ⟨f0, f1, f2', f3', f4, f5⟩ := I3.fpOk (Nat.le_refl _) nC
      exact ⟨m, hn', fun h'' sb => ⟨.ref D, H5, I7.turned (t' := s6.toks) (fun b u hb e => (sb.2 b hb).trans e) f0 f1 f3' f4 f5, rfl, fin⟩⟩
    · refine thnF (T.item (X.blk s3 H3 scope ce fp) rfl rfl rfl hc i [] s5 _ H5 (fun _ _ => False) I5 (still I5 n5) st5 go) fun r s6 ⟨u, hr, h6⟩ => ?_
      subst hr
      refine thnF h6 fun _ s7 ⟨y, H7, I7, r7, y7, st7, n7⟩ => ?_
      have I7' := I7.pinned (still I7 n7) (T.obj _ _ st7)
      refine thnF (pg.run _ s7 _ H7 y u (fun σ' H' => σ' = σw.set i0 (some y) ∧ H' = H7) I7' r7 ⟨rfl, rfl⟩) fun _ s8 ⟨σ8, H8, I8, e8, eH8⟩ => ?_
      subst e8 eH8
      simp only [List.forIn_nil]
      refine wpAny_pure ?_
      simp only [if_true]
      refine thnF (pe.run _ s8 _ H8 _ I8 (step y H8 y7)) fun z s10 ⟨yv, H10, I10, r10, b, k, L, ey, hD10, hL, hk, few, nx⟩ => ?_
      subst ey
      obtain rfl : z = Value.ref b := r10
      refine thnF (mt_zadd (X := X.blk s3 H3 scope ce fp) uB _ s10 _ H10 (.ref D) [.ref b] (.ref D) [.ref b] (fun _ H' => ∃ m', m' < n ∧ W (i + 1) m' H') I10 rfl (.cons rfl .nil) ⟨D, b, k, L, rfl, rfl, hD10, hL, hk, few, nx⟩) fun _ s11 ⟨_, H11, I11, _, m', hm, w11⟩ => ?_
      have pin' : ∀ b ∈ fp, ∀ o, s7.heap.get? b = some o → s11.heap.get? b = some o ∧ H11 b = none := fun b hb o e =>
        let z := I11.pin (b, o) (List.mem_append_right _ (List.mem_append_right _ (mem_pinsAt hb e)))
        ⟨z.1, z.2.1⟩
      refine ⟨m', hm, i + 1, H11, (I11.unpinned (pins := [])).weak (by rw [List.length_set]) (fun j v e => ?_), T.keep _ _ _ st7 fun b hb o e => (pin' b hb o e).1, fun b hb => ?_, w11⟩
      · have hj : j ≠ i0 := fun z => by
          rw [hσw] at e
          exact (wipe_some e).2 (by rw [z]; exact h0)
        rw [List.getElem?_set_ne (Ne.symm hj)]
        exact e
      · obtain ⟨o, e, _⟩ := T.obj _ _ st7 b hb
        exact (pin' b hb o e).2
  exact codeAny_compStart_set loop (T.self X.A 0 _ _ _ st4 loop)
end
end ZS
end
section
set_option maxHeartbeats 4000000
namespace ZS
open PySem PySem.Spec PyProof.Rows L2 PpSet
section
variable {P : Program} {w : World} {A : Around} {E : Value → Shared → Prop} {s : Shared}
/-- set(l), l a list: the loop over the new set is what the caller knows -/
theorem set_of_list {l : Addr} {items : Array Value} {Rz : Shared → Prop} {Q : Value → Shared → Prop} (hl : s.heap.IsList l items)
    (loop : codeAny (model P w) A.in1.in1 (.builtin "set.update.loop" ⟨[.ref s.heap.objs.size, .ref (s.heap.push (setO0 w)).objs.size], []⟩) (fun r s' => r = .ok (.ret .none) ∧ Rz s')
      { s with heap := (s.heap.push (setO0 w)).push { cls := .type "list_iterator", data := .fields #[.ref l, .int 0 0] } })
    (h : ∀ s', Rz s' → Q (.ref s.heap.objs.size) s') : wpAny (model P w) A (call (.type "set") [.ref l]) Q E s := by
  obtain ⟨cl0, tl0, hmro⟩ := F.called_set.mro
  have hm1 := F.called_set.made
  have hs1 := F.called_set.sub
  refine wpAny_call (codeAny_of_tree ?_)
  show wpAny _ _ (callAny (.type "set") _) _ _ _
  refine wpAny_pure ⟨Code.quiet_builtin _ (by decide +kernel), codeAny_builtin F.entry_type_call ?_⟩
  rw [Around.under_plain (weight_type_call_type "set" [.ref l] []) rfl]
  have hn1 := F.called_set.notType
  have hn2 := F.called_set.canCreate
  have hn3 := F.typeCall_set_1 (.ref l)
  repeat (any_goals (first | assumption | wp_step))
  refine codeAny_mono (code_set_led1 (.ref l) (E := E) (Q₁ := fun z s₁ => z = .ref s.heap.objs.size ∧ s₁ = { s with heap := s.heap.push (setO0 w) }) ⟨rfl, rfl⟩) fun r s₁ hr => ?_
  match r, hr with
  | .error e, hr => exact hr
  | .ok (.ret z), hr =>
    obtain ⟨rfl, rfl⟩ := hr
    have hS : (s.heap.push (setO0 w)).get? s.heap.objs.size = some (setO0 w) := Heap.get?_push_size _ rfl
    have hT : Shared.TypeIs { s with heap := s.heap.push (setO0 w) } (.ref s.heap.objs.size) "set" := ⟨_, hS, rfl⟩
    have hi1 := F.called_set.init.lookup
    have hi2 := F.called_set.init.bind (.ref s.heap.objs.size)
    repeat (any_goals (first | assumption | wp_step))
    refine codeAny_mono (codeAny_call_builtin (R := wants (fun z s₂ => z = .none ∧ Rz s₂) E) F.called_set.init.plain F.entry_set_init (check_set_init_1 hT ?_)) fun r₂ s₂ hr₂ => ?_
    · obtain ⟨⟨ocls, odict, odata, oslots⟩, hol, hcl, nl, hdl⟩ := hl
      simp only at hcl hdl
      subst hcl
      subst hdl
      have hol' : (s.heap.push (setO0 w)).get? l = some { cls := .type "list", dict := odict, data := .seq items nl, slots := oslots } := Heap.get?_push_of_some _ hol
      have k1 := F.sub_list_set
      have k2 := F.sub_list_frozenset
      have k3 : (Value.type "list" == Value.type "dict") = false := by decide
      unfold Builtin.«set.__init__» noKeywords Builtin.Frozenset.updateFrom
      generalize hPI : pyIter = PI
      wp_walk
      subst hPI
      refine wpAny_pyIter_list ⟨_, hol', rfl, nl, rfl⟩ (wpAny_bind (wpAny_runValue (codeAny_mono loop fun r s' hr => ?_)))
      obtain ⟨rfl, hz⟩ := hr
      show wpAny _ _ _ _ _ _
      refine wpAny_pure ?_
      show wpAny _ _ (ret Value.none) _ _ _
      exact wpAny_pure ⟨rfl, hz⟩
    · match r₂, hr₂ with
      | .error e, hr₂ => exact hr₂
      | .ok (.ret z), hr₂ =>
        obtain ⟨rfl, hz⟩ := hr₂
        repeat (any_goals (first | assumption | wp_step))
        exact h _ hz
      | .ok .next, hr₂ => exact hr₂.elim
      | .ok .brk, hr₂ => exact hr₂.elim
      | .ok .cont, hr₂ => exact hr₂.elim
  | .ok .next, hr => exact hr.elim
  | .ok .brk, hr => exact hr.elim
  | .ok .cont, hr => exact hr.elim
end
/-- what came from the first i items -/
structure Came (ks : List (Addr × NK)) (i : Nat) (L : List (Addr × NK)) : Prop where
  from_ : ∀ p ∈ L, p ∈ ks.take i
  in_ : ∀ p ∈ ks.take i, p.2 ∈ L.map (·.2)
  few : L.length ≤ i
theorem Came.none (ks : List (Addr × NK)) : Came ks 0 [] := ⟨fun p h => (by cases h), fun p h => (by simp at h), Nat.le_refl _⟩
theorem Came.next {ks L L' : List (Addr × NK)} {i : Nat} {x : Addr × NK} (g : Came ks i L) (h : ks[i]? = some x) (c1 : x.2 ∈ L.map (·.2) → L' = L) (c2 : x.2 ∉ L.map (·.2) → L'.Perm (x :: L)) : Came ks (i + 1) L' := by
  have e : ks.take (i + 1) = ks.take i ++ [x] := by rw [List.take_add_one, h]; rfl
  by_cases c : x.2 ∈ L.map (·.2)
  · rw [c1 c]
    refine ⟨fun p hp => by rw [e]; exact List.mem_append_left _ (g.from_ p hp), fun p hp => ?_, Nat.le_succ_of_le g.few⟩
    rw [e] at hp
    rcases List.mem_append.mp hp with z | z
    · exact g.in_ p z
    · rw [List.mem_singleton.mp z]; exact c
  · have pm := c2 c
    refine ⟨fun p hp => ?_, fun p hp => ?_, by rw [pm.length_eq, List.length_cons]; exact Nat.succ_le_succ g.few⟩
    · rw [e]
      rcases List.mem_cons.mp (pm.mem_iff.mp hp) with z | z
      · rw [z]; exact List.mem_append_right _ (List.mem_singleton.mpr rfl)
      · exact List.mem_append_left _ (g.from_ p z)
    · rw [(pm.map (·.2)).mem_iff, List.map_cons]
      rw [e] at hp
      rcases List.mem_append.mp hp with z | z
      · exact List.mem_cons_of_mem _ (g.in_ p z)
      · rw [List.mem_singleton.mp z]; exact List.mem_cons_self
section
variable {X : Cx} {pins : List (Addr × Obj)} {σ : L2.St} {H : Hp}
/-- set(xs), xs a list or a tuple of ints -/
def rISetOf (K : PySem.W.Frag) (w : World) : List V → Hp → VK → Prop := fun xs H Q => ∃ (l : Addr) (ns : List Int), xs = [V.ref l] ∧ (SqL K H l (ns.map V.int) ∨ SqT K H l (ns.map V.int)) ∧ ns.length + 1 < scanBound ∧
  ∀ a n, H a = none → n ≤ ns.length → Q (.ref a) (upd H a (SetO w a (fun j => decide (j ∈ ns)) n))
theorem cr_isetOf (hc : X.calm = true) : CallR X (.type "set") (rISetOf X.K X.w) := by
  intro pins s σ H xs us Q I r h
  obtain ⟨l, ns, rfl, hl, few, q⟩ := h
  rw [Vals.ref1 r]
  have hn : H s.heap.objs.size = none := I.hok.fresh (Nat.le_refl _)
  rcases hl with hl | hl
  · obtain ⟨its, rv, pl, hz⟩ := I.list hl
    have ii := rv.ints
    have hsz : its.toArray.size = ns.length := by rw [List.size_toArray, ← rv.length, List.length_map]
    have hob := pl.isList
    have k1 : ∀ b u, s.heap.get? b = some u → (s.heap.push (setO0 X.w)).get? b = some u := fun b u e => Heap.get?_push_of_some _ e
    have szS : (s.heap.push (setO0 X.w)).objs.size = s.heap.objs.size + 1 := Heap.size_push ..
    have hlt : l < s.heap.objs.size := by obtain ⟨o, e, _⟩ := id hob; exact Heap.lt_size e
    have hneI : l ≠ (s.heap.push (setO0 X.w)).objs.size := by rw [szS]; exact Nat.ne_of_lt (Nat.lt_succ_of_lt hlt)
    have hl1 : (s.heap.push (setO0 X.w)).IsList l its.toArray := by obtain ⟨o, e, r⟩ := id hob; exact ⟨o, k1 _ _ e, r⟩
    have hval : ∀ (i : Nat) (v : Value), its.toArray[i]? = some v → ∃ k t, ns[i]? = some k ∧ v = .int k t := fun i v hv => by
      have hi : i < ns.length := by rw [← hsz]; exact (Array.getElem?_eq_some_iff.mp hv).1
      obtain ⟨u, hu, ru⟩ := rv.get (i := i) (x := .int ns[i]) (by rw [List.getElem?_map, List.getElem?_eq_getElem hi]; rfl)
      have hv' : its[i]? = some v := by simpa using hv
      rw [hu] at hv'
      cases hv'
      obtain ⟨t, e⟩ := ru
      exact ⟨_, t, List.getElem?_eq_getElem hi, e⟩
    refine set_of_list hob (Rz := fun s' => ∃ c, c ≤ ns.length ∧ Moved (s.heap.objs.size :: [(s.heap.push (setO0 X.w)).objs.size]) (fun a b => b = a) { s with heap := (s.heap.push (setO0 X.w)).push { cls := .type "list_iterator", data := .fields #[.ref l, .int 0 0] } } s' ∧ SetR X.w s'.heap s.heap.objs.size (fun j => decide (j ∈ ns)) c) ?_ fun s' hz' => ?_
    · have W := (Walks.list (prog := X.prog) (w := X.w) (A := X.A.in1.in1.in1) (show X.A.in1.in1.in1.handled = none from I.ok.hd hc) _ l hneI its.toArray).toS
      refine set_update_ints (A := X.A.in1.in1) W s.heap.objs.size (by rw [szS]; simp only [List.mem_cons, List.mem_singleton, List.not_mem_nil, or_false, not_or]; exact ⟨Nat.ne_of_lt (Nat.lt_succ_self _), Nat.ne_of_gt hlt⟩) ns hsz few hval ns.length 0 _ (by omega) (Nat.zero_le _) ⟨⟨_, Heap.get?_push_size _ rfl, rfl, rfl⟩, hl1.push _⟩
        ⟨0, Nat.le_refl _, setR_new_at (Heap.get?_push_of_some _ (Heap.get?_push_size _ rfl))⟩ fun s' c hm hc' hS => ⟨rfl, c, by omega, hm, hS⟩
    · obtain ⟨c, hc', hm, hS⟩ := hz'
      have kk : ∀ b u, s.heap.get? b = some u → s'.heap.get? b = some u := fun b u e => by
        have hb := Heap.lt_size e
        refine hm.heap b u (by rw [szS]; simp only [List.mem_cons, List.mem_singleton, List.not_mem_nil, or_false, not_or]; exact ⟨Nat.ne_of_lt hb, Nat.ne_of_lt (Nat.lt_succ_of_lt hb)⟩) (Heap.get?_push_of_some _ (k1 b u e))
      refine ⟨.ref _, upd H s.heap.objs.size (SetO X.w s.heap.objs.size (fun j => decide (j ∈ ns)) c), ?_, rfl, q _ c hn hc'⟩
      exact I.call' (ch := []) hm.os (Un.laid kk (Nat.le_refl _) hn) (I.hok.laid kk (Nat.le_refl _) (setO_new hS)) (by rw [hm.gens]; exact I.bare) (fun _ z => nomatch z)
  · obtain ⟨its, rv, pl, hz⟩ := I.tuple hl
    refine call_set_tupI ns (I.ok.hd hc) (show s.heap.IsTuple l its.toArray from pl) (by simpa using rv.ints) few fun h' tk c hS hc' kk => ?_
    exact ⟨.ref _, upd H s.heap.objs.size (SetO X.w s.heap.objs.size (fun j => decide (j ∈ ns)) c), I.laid kk (Nat.le_refl _) (setO_new hS), rfl, q _ c hn hc'⟩
end
end ZS
end
section
set_option maxHeartbeats 4000000
namespace ZS
open PySem PySem.Spec PyProof.Rows L2
/-! ### enumerate(tuple) -/
section
variable {prog : Program} {w : World} {A : Around} {E : Value → Shared → Prop} {s : Shared}
theorem tup_next {it l : Addr} {i : Nat} {items : Array Value} {x : Value} {Q : Value → Shared → Prop} (hit : s.heap.IsTupleIter it l i) (hl : s.heap.IsTuple l items) (hx : items[i]? = some x)
    (hQ : ∀ h', h'.IsTupleIter it l (i + 1) → Heap.SameBut it s.heap h' → Q x { s with heap := h' }) : wpAny (model prog w) A (Builtin.SmallTypes.nextOf (.ref it)) Q E s := by
  obtain ⟨o, ho, hc, hd⟩ := id hit
  obtain ⟨ol, hol, _, nl, hdl⟩ := hl
  unfold Builtin.SmallTypes.nextOf
  refine wpAny_bind (wpAny_callSpecial?_slot (name := Str.ofString "__next__") ⟨o, ho, hc⟩ F.slot_tuple_iterator_next (wpAny_call_entry F.slot_tuple_iterator_next ⟨o, ho, hc⟩ F.entry_tuple_iterator_next ?_ (F.args_tuple_iterator_next_1 _)))
  show wpAny _ _ (field (.ref it) 0 >>= _) _ _ s
  refine wpAny_bind (wpAny_field ho hd (x := .ref l) rfl ?_)
  show wpAny _ _ (if (Value.ref l == Value.none) = true then _ else _) _ _ s
  rw [if_neg (show ¬ ((Value.ref l == Value.none) = true) from Bool.false_ne_true)]
  show wpAny _ _ (field (.ref it) 1 >>= _) _ _ s
  refine wpAny_bind (wpAny_field ho hd (x := .int i 0) rfl ?_)
  show wpAny _ _ (seqItems? (.ref l) >>= _) _ _ s
  refine wpAny_bind (wpAny_seqItems hol hdl ?_)
  simp only [Int.toNat_natCast, hx]
  refine wpAny_bind (wpAny_setField ho hd (by simp) (wpAny_pure ⟨x, rfl, wpAny_pure (hQ _ ⟨_, Heap.get?_update_self _ ho (Obj.isFreed_of_fields (Obj.data_mapFields hd _)), (Obj.cls_mapFields ..).trans hc, ?_⟩ (Heap.SameBut.update ..))⟩))
  rw [Obj.data_mapFields hd]
  simp [rawInt]
theorem tup_last {it l : Addr} {i : Nat} {items : Array Value} {Q : Value → Shared → Prop} (hh : A.handled = none) (hit : s.heap.IsTupleIter it l i) (hl : s.heap.IsTuple l items) (hx : items[i]? = none)
    (hE : ∀ h' e, Heap.ExtBut it s.heap h' → (∃ o, h'.get? e = some o ∧ o.cls = .type "StopIteration") → E (.ref e) { s with heap := h' }) : wpAny (model prog w) A (Builtin.SmallTypes.nextOf (.ref it)) Q E s := by
  obtain ⟨o, ho, hc, hd⟩ := id hit
  obtain ⟨ol, hol, _, nl, hdl⟩ := hl
  unfold Builtin.SmallTypes.nextOf
  refine wpAny_bind (wpAny_callSpecial?_slot (name := Str.ofString "__next__") ⟨o, ho, hc⟩ F.slot_tuple_iterator_next (wpAny_call_entry F.slot_tuple_iterator_next ⟨o, ho, hc⟩ F.entry_tuple_iterator_next ?_ (F.args_tuple_iterator_next_1 _)))
  show wpAny _ _ (field (.ref it) 0 >>= _) _ _ s
  refine wpAny_bind (wpAny_field ho hd (x := .ref l) rfl ?_)
  show wpAny _ _ (if (Value.ref l == Value.none) = true then _ else _) _ _ s
  rw [if_neg (show ¬ ((Value.ref l == Value.none) = true) from Bool.false_ne_true)]
  show wpAny _ _ (field (.ref it) 1 >>= _) _ _ s
  refine wpAny_bind (wpAny_field ho hd (x := .int i 0) rfl ?_)
  show wpAny _ _ (seqItems? (.ref l) >>= _) _ _ s
  refine wpAny_bind (wpAny_seqItems hol hdl ?_)
  simp only [Int.toNat_natCast, hx]
  refine wpAny_bind (wpAny_rule (wpAny_bind (wpAny_setField ho hd (by simp) ?_)))
  show wpAny _ _ (newExc (.type "StopIteration") [] >>= _) _ _ _
  refine wpAny_bind ?_
  simp only [newExc, newTuple]
  refine wpAny_bind (wpAny_newObj_type ?_ (by size_fits))
  refine wpAny_bind (m := firstArgMember _ _) (wpAny_of_eq (a := Value.none) (by first | rfl | (simp only [firstArgMember]; rfl)) ?_)
  refine wpAny_newObj_type ?_ (by size_fits)
  simp only [raiseNew]
  refine wpAny_bind (wpAny_handled ?_)
  first | rw [show A.in1.handled = none from hh] | rw [hh]
  refine wpAny_bind (wpAny_pure (wpAny_throw (hE _ _ (((Heap.SameBut.update ..).extBut.push _).push _) ⟨_, Heap.get?_push_size _ rfl, rfl⟩)))
theorem Draws.tup (hh : A.handled = none) (it l : Addr) (hne : l ≠ it) (items : Array Value) : Draws prog w A it [it, l] items.size (fun i v => items[i]? = some v) (fun i h => h.IsTupleIter it l i ∧ h.IsTuple l items) where
  live := fun _ _ st => let ⟨o, ho, _⟩ := st.1; ⟨o, ho⟩
  frame := fun _ _ _ st hk => ⟨st.1.at fun o e => hk it (by simp) o e, let ⟨o, e, r⟩ := st.2; ⟨o, hk l (by simp) o e, r⟩⟩
  item := fun i s Q E hi st hQ => tup_next st.1 st.2 (x := items[i]) (by simp [hi]) fun h' hit' hs' => hQ _ h' s.toks (by simp [hi]) ⟨hit', let ⟨o, e, r⟩ := st.2; ⟨o, hs'.extBut l o hne e, r⟩⟩ hs'
  done := fun s Q E st hE => tup_last hh st.1 st.2 (by simp) hE
end
end ZS
end
section
set_option maxHeartbeats 4000000
namespace ZS
open PySem PySem.Spec PyProof.Rows L2
/-- v is an int, a tuple of ints or a tuple of such: the key k -/
def VKy (K : PySem.W.Frag) (H : Hp) (v : V) (k : NK) : Prop := (∃ i, v = .int i ∧ k = .num i) ∨ ∃ b, v = .ref b ∧ ElK K H b k
section
variable {X : Cx} {pins : List (Addr × Obj)} {σ : L2.St} {H : Hp} {s : Shared}
theorem vky_at (I : Inv X pins σ H s) {v : V} {u : Value} {k : NK} (h : VKy X.K H v k) (r : RelV v u) : NestedIs s.heap k u ∧ k.depth ≤ 8 := by
  rcases h with ⟨i, rfl, rfl⟩ | ⟨b, rfl, h⟩
  · obtain ⟨t, rfl⟩ := r
    exact ⟨.int i t, Nat.zero_le _⟩
  · obtain rfl : u = Value.ref b := r
    obtain ⟨a, b, _⟩ := el_at I h
    exact ⟨a, b⟩
theorem vkys_at (I : Inv X pins σ H s) : ∀ {vs : List V} {us : List Value} {ks : List NK}, Paired (VKy X.K H) vs ks → Vals vs us → Paired (fun u k => NestedIs s.heap k u ∧ k.depth ≤ 8) us ks
  | _, _, _, .nil, .nil => .nil
  | _, _, _, .cons a b, .cons r t => .cons (vky_at I a r) (vkys_at I b t)
open Classical in
theorem any_keys {h : Heap} {k : NK} : ∀ {us : List Value} {ks : List NK}, Paired (fun u k => NestedIs h k u ∧ k.depth ≤ 8) us ks → us.any (fun u => decide (NestedIs h k u)) = decide (k ∈ ks)
  | _, _, .nil => by simp
  | u :: us, k' :: ks, .cons r t => by
    rw [List.any_cons, any_keys t]
    by_cases e : k = k'
    · subst e
      simp [r.1]
    · have n : ¬ NestedIs h k u := fun z => e (NestedIs.inj _ _ _ z r.1)
      simp [n, e]
open Classical in
theorem eq_keys {A : Around} {s : Shared} {k : NK} {v : Value} (hv : NestedIs s.heap k v ∧ k.depth ≤ 8) (hu : A.units + 8 < cLine) : ∀ {us : List Value} {ks : List NK}, Paired (fun u k => NestedIs s.heap k u ∧ k.depth ≤ 8) us ks → ∀ u ∈ us, SeqAt.EqAt A s u v (decide (NestedIs s.heap k u))
  | _, _, .nil => fun u hu => by cases hu
  | u :: us, k' :: ks, .cons r t => fun u' hu' => by
    rcases List.mem_cons.mp hu' with e | e
    · rw [e]
      have z := eqAt_key k' k A s u v r.1 hv.1 (by have := hv.2; have := r.2; omega)
      have eb : NestedKey.beq k' k = decide (NestedIs s.heap k u) := by
        rw [← NestedKey.decide_eq]
        by_cases c : k' = k
        · subst c
          simp [r.1]
        · have n : ¬ NestedIs s.heap k u := fun z => c (NestedIs.inj _ _ _ r.1 z)
          simp [c, n]
      rw [← eb]
      exact z
    · exact eq_keys hv hu t u' e
/-- x in ys, ys a list or a tuple of keys -/
def rKIn (K : PySem.W.Frag) (neg : Bool) : R2 := fun x y H Q => ∃ (p : Addr) (ys : List V) (ks : List NK) (k : NK), y = .ref p ∧ (SqL K H p ys ∨ SqT K H p ys) ∧ Paired (VKy K H) ys ks ∧ VKy K H x k ∧ Q (.bl (if neg then !decide (k ∈ ks) else decide (k ∈ ks))) H
open Classical in
theorem op_knotin (hu : X.A.units + 64 < cLine) : OpR X (compareOp .NotIn) (rKIn X.K true) := by
  intro pins s σ H x y v u Q I rx ry h
  obtain ⟨p, ys, ks, k, rfl, hq, hp, hk, q⟩ := h
  obtain rfl : u = Value.ref p := ry
  have hv := vky_at I hk rx
  have hu' : X.A.in1.units + 8 < cLine := by show X.A.units + 1 + 8 < cLine; omega
  rcases hq with hq | hq
  · obtain ⟨its, r, pl, hz⟩ := I.list hq
    have kk := vkys_at I hp r
    refine SeqAt.notIn_listAt (fun u => decide (NestedIs s.heap k u)) pl.isList (fun z hz => eq_keys hv hu' kk z (by simpa using hz)) ⟨.bl _, H, I, rfl, ?_⟩
    rw [show its.toArray.any (fun u => decide (NestedIs s.heap k u)) = its.any (fun u => decide (NestedIs s.heap k u)) by simp, any_keys kk]
    exact q
  · obtain ⟨its, r, pl, hz⟩ := I.tuple hq
    have kk := vkys_at I hp r
    refine SeqAt.notIn_tupleAt (fun u => decide (NestedIs s.heap k u)) pl (fun z hz => eq_keys hv hu' kk z (by simpa using hz)) ⟨.bl _, H, I, rfl, ?_⟩
    rw [show its.toArray.any (fun u => decide (NestedIs s.heap k u)) = its.any (fun u => decide (NestedIs s.heap k u)) by simp, any_keys kk]
    exact q
theorem perm_lift {α β : Type} {f : α → β} {l m : List β} (h : l.Perm m) : ∀ ps : List α, m = ps.map f → ∃ ps' : List α, l = ps'.map f ∧ ps'.Perm ps := by
  induction h with
  | nil => intro ps e; exact ⟨ps, e, List.Perm.refl _⟩
  | @cons x l m h ih =>
    intro ps e
    match ps, e with
    | p :: ps, e =>
      obtain ⟨ps', e1, h1⟩ := ih ps (List.cons.inj e).2
      exact ⟨p :: ps', by rw [e1, (List.cons.inj e).1]; rfl, h1.cons p⟩
  | swap x y l =>
    intro ps e
    match ps, e with
    | [], e => cases e
    | [p], e => cases e
    | p :: p' :: ps, e =>
      obtain ⟨e1, e2⟩ := List.cons.inj e
      obtain ⟨e3, e4⟩ := List.cons.inj e2
      exact ⟨p' :: p :: ps, by rw [e1, e3, e4]; rfl, List.Perm.swap p p' ps⟩
  | trans h1 h2 ih1 ih2 =>
    intro ps e
    obtain ⟨ps', e1, p1⟩ := ih2 ps e
    obtain ⟨ps'', e2, p2⟩ := ih1 ps' e1
    exact ⟨ps'', e2, p2.trans p1⟩
end
end ZS
end
section
set_option maxHeartbeats 4000000
/-! D0: the program's defs as they stand; what a call leaves -/
namespace NS
open PySem PySem.Spec PyProof.Rows L2 ZS
abbrev FnP (K : PySem.W.Frag) (x : Str) (st : Stmt) (f : Addr) (fd : FuncData) : Prop := FunD K x x (defArgs st) (defBody st) (defScope st) [] [] f fd
/-- the built-in names that the program reads are no globals -/
structure Bl (mg : Str → Option Value) : Prop where
  tuple : mg "tuple" = none
  list : mg "list" = none
  len : mg "len" = none
  range : mg "range" = none
  isinstance : mg "isinstance" = none
  set : mg "set" = none
  sorted : mg "sorted" = none
  all : mg "all" = none
  sum : mg "sum" = none
  enumerate : mg "enumerate" = none
  int : mg "int" = none
  bool : mg "bool" = none
  str : mg "str" = none
  any : mg "any" = none
  min : mg "min" = none
/-- a code table has grown: the places of the lines behind 150 are as they were -/
def TabUp (ps ps' : Array Value) : Prop := (TriplesOk ps.toList → TriplesOk ps'.toList) ∧ (TriplesOk ps.toList → ∀ p : Pos, 150 < p.line → codeAmong p ps'.toList = codeAmong p ps.toList)
theorem TabUp.refl (ps : Array Value) : TabUp ps ps := ⟨id, fun _ _ _ => rfl⟩
theorem TabUp.trans {a b c : Array Value} (h : TabUp a b) (h' : TabUp b c) : TabUp a c := ⟨fun z => h'.1 (h.1 z), fun z p hp => (h'.2 (h.1 z) p hp).trans (h.2 z p hp)⟩
theorem among_else {p : Pos} {gl col : Nat} {c : Value} (hp : gl ≠ p.line) : ∀ l : List Value, TriplesOk l → codeAmong p (l ++ [rawInt gl, rawInt col, c]) = codeAmong p l := by
  intro l h
  fun_induction TriplesOk l with
  | case1 =>
    simp only [List.nil_append, rawInt, codeAmong]
    rw [if_neg (by simp; omega)]
  | case2 a t b u x rest ih =>
    simp only [List.cons_append, codeAmong]
    split
    · rfl
    · exact ih h
  | case3 l h1 h2 => exact h.elim
theorem TabUp.grew {gl : Nat} (hg : gl ≤ 150) {ps more : Array Value} (ht : TriplesOk (ps ++ more).toList) (h : more = #[] ∨ ∃ (col : Nat) (c : Value), more = #[rawInt gl, rawInt col, c]) : TabUp ps (ps ++ more) := by
  refine ⟨fun _ => ht, fun z p hp => ?_⟩
  rcases h with rfl | ⟨col, c, rfl⟩
  · simp
  · rw [show (ps ++ #[rawInt gl, rawInt col, c]).toList = ps.toList ++ [rawInt gl, rawInt col, c] by simp]
    exact among_else (by omega) _ z
/-- what stood still stands, tables grow -/
structure Kp (H H' : Hp) : Prop where
  k : ∀ b o, H b = some o → (∀ ps, o ≠ .tbl ps) → H' b = some o
  t : ∀ b ps, H b = some (.tbl ps) → ∃ ps' : Array Value, H' b = some (.tbl ps') ∧ TabUp ps ps'
theorem Kp.refl (H : Hp) : Kp H H := ⟨fun _ _ h _ => h, fun _ ps h => ⟨ps, h, .refl ps⟩⟩
theorem Kp.trans {H H1 H2 : Hp} (a : Kp H H1) (b : Kp H1 H2) : Kp H H2 := ⟨fun c o h n => b.k c o (a.k c o h n) n, fun c ps h => by
  obtain ⟨p1, h1, t1⟩ := a.t c ps h
  obtain ⟨p2, h2, t2⟩ := b.t c p1 h1
  exact ⟨p2, h2, t1.trans t2⟩⟩
theorem Kp.same {H H' : Hp} (h : Same H H') : Kp H H' := ⟨fun _ _ e _ => h _ _ e, fun _ ps e => ⟨ps, h _ _ e, .refl ps⟩⟩
theorem Kp.none {H H' : Hp} (z : Kp H H') {p : Addr} (h : H' p = none) : H p = none := by
  cases e : H p with
  | none => rfl
  | some o =>
    by_cases q : ∃ ps, o = .tbl ps
    · obtain ⟨ps, rfl⟩ := q
      obtain ⟨ps', h', _⟩ := z.t p ps e
      rw [h] at h'
      cases h'
    · have := z.k p o e (fun ps w => q ⟨ps, w⟩)
      rw [h] at this
      cases this
theorem Kp.put {H0 H : Hp} (z : Kp H0 H) {p : Addr} (n : H0 p = Option.none) {o : HO} : Kp H0 (upd H p o) := by
  have ne : ∀ b u, H0 b = some u → b ≠ p := fun b u e q => by rw [q, n] at e; cases e
  exact ⟨fun b u e q => by rw [upd_ne (ne b u e)]; exact z.k b u e q, fun b ps e => by rw [upd_ne (ne b _ e)]; exact z.t b ps e⟩
theorem Kp.new {H0 H : Hp} (z : Kp H0 H) {p : Addr} (n : H p = Option.none) {o : HO} : Kp H0 (upd H p o) := z.put (z.none n)
theorem Kp.tab {H H' : Hp} {P : Addr} (g : GxR.TabG H P) {gl : Nat} (hg : gl ≤ 150) (z : GA.Grew P gl H H') : Kp H H' := by
  obtain ⟨ps, hP, hT⟩ := g
  obtain ⟨⟨⟨ps', hP', hT'⟩, ho⟩, hm⟩ := z
  obtain ⟨more, hP2, hmo⟩ := hm ps hP
  rw [hP'] at hP2
  cases hP2
  refine ⟨fun b u e q => ?_, fun b qs e => ?_⟩
  · have nb : b ≠ P := fun w => by rw [w, hP] at e; exact q ps (Option.some.inj e).symm
    rw [ho b nb]
    exact e
  · by_cases nb : b = P
    · subst nb
      rw [hP] at e
      cases e
      exact ⟨_, hP', .grew hg hT' hmo⟩
    · exact ⟨qs, by rw [ho b nb]; exact e, .refl qs⟩
theorem Kp.tabG {H H' : Hp} (z : Kp H H') {P : Addr} (g : GxR.TabG H P) : GxR.TabG H' P := by
  obtain ⟨ps, hP, hT⟩ := g
  obtain ⟨ps', h', t⟩ := z.t P ps hP
  exact ⟨ps', h', t.1 hT⟩
theorem Kp.tup {H H' : Hp} (z : Kp H H') : Tup H H' := ⟨fun c xs h => z.k c _ h (fun _ q => by cases q), fun c o u h => z.k c _ h (fun _ q => by cases q)⟩
theorem Kp.lst {H H' : Hp} (z : Kp H H') {a : Addr} {xs : List V} (h : H a = some (.lst xs)) : H' a = some (.lst xs) := z.k a _ h (fun _ q => by cases q)
theorem Kp.sqT {K : PySem.W.Frag} {H H' : Hp} (z : Kp H H') {a : Addr} {xs : List V} (h : SqT K H a xs) : SqT K H' a xs := z.tup.sq h
theorem Kp.sqL {K : PySem.W.Frag} {H H' : Hp} (z : Kp H H') {a : Addr} {xs : List V} (h : SqL K H a xs) : SqL K H' a xs := by
  rcases h with (h | ⟨o, h⟩) | h
  · exact .inl (.inl (z.lst h))
  · exact .inl (.inr ⟨o, z.k _ _ h (fun _ q => by cases q)⟩)
  · exact .inr h
theorem Kp.ti {K : PySem.W.Frag} {H H' : Hp} (z : Kp H H') {v : V} {k : List Int} (h : TI K H v k) : TI K H' v k := z.tup.ti h
theorem Kp.tti {K : PySem.W.Frag} {H H' : Hp} (z : Kp H H') {v : V} {k : List (List Int)} (h : TTI K H v k) : TTI K H' v k := z.tup.tti h
/-- a def at the module's name x keeps a promise: dvs the defaults that fill up -/
structure Has (P : Program) (w : World) (K : PySem.W.Frag) (mg : Str → Option Value) (base : Heap) (x : Str) (k : Nat) (dvs : List V) (sp : Sp) : Prop where
  ex : ∃ (f : Addr) (fd : FuncData) (ps : List Str) (ds : List Value), mg x = some (.ref f) ∧ PySem.W.keepIn K (.ref f) = true ∧ Binds K fd ps ds ∧ Vals dvs ds ∧ FnOk P w K mg base CX0 k f fd ps sp
section
variable {X : Cx} {k j : Nat} {sp : Sp} {dvs : List V} {x : Str} {p pos : Pos} {e : Expr} {es : List Expr} {t : TA}
theorem pe_has (h : Has X.prog X.w X.K X.mg X.base x j dvs sp) (hr : Room k X.A) (hk : j ≤ k) (ha : PA X (e :: es) t) (hg : Gl X x := by rfl)
    (hdb : (x == ("__debug__" : Str)) = false := by decide) (he : starEach (e :: es) X.env = (false, eval e X.env) :: starEach es X.env := by rfl) (hpl : (backTo pos (starEach es X.env)).any (·.1) = false := by rfl) :
    PE X (.Call (.Name x p) (e :: es) [] pos) (tCall sp dvs E0 t) := by
  obtain ⟨f, fd, ps, ds, h1, h2, h3, h4, h5⟩ := h.ex
  exact pe_call h5 (hr.mono hk) hg h1 h2 h3 h4 pass0 ha hdb he hpl
theorem pe_has0 (h : Has X.prog X.w X.K X.mg X.base x j dvs sp) (hr : Room k X.A) (hk : j ≤ k) (hg : Gl X x := by rfl)
    (hdb : (x == ("__debug__" : Str)) = false := by decide) :
    PE X (.Call (.Name x p) [] [] pos) (tCall sp dvs E0 tNil) := by
  obtain ⟨f, fd, ps, ds, h1, h2, h3, h4, h5⟩ := h.ex
  exact pe_call0 h5 (hr.mono hk) hg h1 h2 h3 h4 pass0 hdb
end
section
variable {P : Program} {w : World} {K : PySem.W.Frag} {mg : Str → Option Value} {base : Heap} {x : Str} {k : Nat} {sp : Sp}
theorem Has.held {f : Addr} (h : Has P w K mg base x k [] sp) (e : mg x = some (.ref f)) : Held P w K mg base k f sp := by
  obtain ⟨g, fd, ps, ds, h1, h2, h3, h4, h5⟩ := h.ex
  cases h4
  rw [e] at h1
  cases h1
  exact ⟨fd, ps, h5, h2, h3⟩
theorem Has.imp {sp' : Sp} {dvs : List V} (h : Has P w K mg base x k dvs sp) (q : ∀ vs H Q E, sp' vs H Q E → sp vs H Q E) : Has P w K mg base x k dvs sp' := by
  obtain ⟨g, fd, ps, ds, h1, h2, h3, h4, h5⟩ := h.ex
  exact ⟨g, fd, ps, ds, h1, h2, h3, h4, h5.imp q⟩
/-- the rule for a def; cdv is the def's own code -/
theorem ok_code {qual : Str} {params : Arguments} {body : List Stmt} {scope : Scope} {dvs : List V} {kws : List (Str × V)} {f : Addr} {fd : FuncData} {CX : CXT} {N ps : List Str} (F : FunD K x qual params body scope dvs kws f fd) (S : FnScope N ps scope) (len : ∀ vs H Q E, sp vs H Q E → vs.length = ps.length)
    (hbody : ∀ (cdv : Value) (A : Around) (outer : List Env) (s : Shared) (H : Hp) (vs : List V) (Q : VK) (E : XK), cdv = fd.code → Room k (A.deeper (envOfC qual scope s.heap.objs.size f cdv)) → sp vs H Q E →
      ∃ t, PSs (cxOf CX P w K mg base N qual scope f cdv A outer s H E) body t ∧ t { nx := fun _ H' => Q .non H', rt := Q } (start N vs) H) : FnOk P w K mg base CX (k + 1) f fd ps sp := by
  obtain ⟨oc, od, dV, kV, doc, pm, an, cdv, ct, osl, rfl, lk, hcd, _, _⟩ := F.ex
  exact fn_of lk hcd S len fun A outer s H vs Q E hr hsp => hbody cdv A outer s H vs Q E rfl hr hsp
end
end NS
end
section
/-! P1: turns as lists of whole numbers -/
namespace NS
/-- the second turn behind the first -/
def comp (a b : List Int) : List Int := a.map fun x => b.getD x.toNat 0
def idt (n : Nat) : List Int := (List.range n).map fun (i : Nat) => (i : Int)
def inv (a : List Int) : List Int := (List.range a.length).map fun (i : Nat) => ((a.idxOf (i : Int) : Nat) : Int)
/-- the items are places below n -/
def Low (n : Nat) (a : List Int) : Prop := ∀ x ∈ a, 0 ≤ x ∧ x < n
structure IsT (n : Nat) (a : List Int) : Prop where
  len : a.length = n
  low : Low n a
  nd : a.Nodup
/-- the hall to which hall i is led -/
def at' (a : List Int) (i : Nat) : Nat := (a.getD i 0).toNat
theorem getD_of {α : Type} {l : List α} {i : Nat} {x d : α} (h : l[i]? = some x) : l.getD i d = x := by rw [List.getD_eq_getElem?_getD, h]; rfl
theorem map_some {α β : Type} {f : α → β} {l : List α} {i : Nat} {y : β} (h : (l.map f)[i]? = some y) : ∃ x, l[i]? = some x ∧ y = f x := by
  rw [List.getElem?_map] at h
  cases e : l[i]? with
  | none => rw [e] at h; cases h
  | some x => rw [e] at h; exact ⟨x, rfl, (Option.some.inj h).symm⟩
theorem map_range_getD {α : Type} (xs : List α) (d : α) : (List.range xs.length).map (fun i => xs.getD i d) = xs := by
  refine List.ext_getElem (by simp) fun i h1 h2 => ?_
  simp [List.getD_eq_getElem?_getD, List.getElem?_eq_getElem h2]
/-- two lists with the same items at all places -/
theorem ext_at {α : Type} {d : α} {a b : List α} (hl : a.length = b.length) (h : ∀ i, i < a.length → a.getD i d = b.getD i d) : a = b := by
  rw [← map_range_getD a d, ← map_range_getD b d, hl]
  exact List.map_congr_left fun i hi => h i (by rw [hl]; exact List.mem_range.mp hi)
theorem erase_len {α : Type} [BEq α] [LawfulBEq α] {x : α} {b : List α} (h : x ∈ b) : (b.erase x).length + 1 = b.length := by
  have := List.length_erase_of_mem h
  have := List.length_pos_of_mem h
  omega
theorem nd_le {α : Type} [BEq α] [LawfulBEq α] : ∀ {a b : List α}, a.Nodup → (∀ x ∈ a, x ∈ b) → a.length ≤ b.length
  | [], _, _, _ => Nat.zero_le _
  | x :: a, b, nd, sub => by
    obtain ⟨h1, h2⟩ := List.nodup_cons.mp nd
    have hx := sub x (List.mem_cons_self ..)
    have := nd_le (a := a) (b := b.erase x) h2 fun y hy => (List.mem_erase_of_ne (fun e => h1 (by rw [← e]; exact hy))).mpr (sub y (List.mem_cons_of_mem _ hy))
    have := erase_len hx
    simp only [List.length_cons]
    omega
/-- as many different items as there may be: all of them -/
theorem nd_all {α : Type} [BEq α] [LawfulBEq α] {a b : List α} (nd : a.Nodup) (sub : ∀ x ∈ a, x ∈ b) (hl : b.length ≤ a.length) : ∀ x ∈ b, x ∈ a := fun x hx => by
  by_cases h : x ∈ a
  · exact h
  · have := nd_le (a := x :: a) (b := b) (List.nodup_cons.mpr ⟨h, nd⟩) fun y hy => by
      rcases List.mem_cons.mp hy with e | e
      · rw [e]; exact hx
      · exact sub y e
    simp only [List.length_cons] at this
    omega
theorem nodup_map {α β : Type} {f : α → β} : ∀ {l : List α}, l.Nodup → (∀ x ∈ l, ∀ y ∈ l, f x = f y → x = y) → (l.map f).Nodup
  | [], _, _ => List.nodup_nil
  | a :: l, nd, inj => by
    obtain ⟨h1, h2⟩ := List.nodup_cons.mp nd
    rw [List.map_cons, List.nodup_cons]
    refine ⟨fun hm => ?_, nodup_map h2 fun x hx y hy => inj x (List.mem_cons_of_mem _ hx) y (List.mem_cons_of_mem _ hy)⟩
    obtain ⟨y, hy, e⟩ := List.mem_map.mp hm
    have := inj y (List.mem_cons_of_mem _ hy) a (List.mem_cons_self ..) e
    rw [this] at hy
    exact h1 hy
theorem idt_len (n : Nat) : (idt n).length = n := by unfold idt; simp
theorem idt_at {n i : Nat} (h : i < n) : (idt n).getD i 0 = (i : Int) := by
  refine getD_of ?_
  unfold idt
  rw [List.getElem?_map, List.getElem?_range h]
  rfl
theorem mem_idt {n : Nat} {x : Int} : x ∈ idt n ↔ 0 ≤ x ∧ x < n := by
  unfold idt
  rw [List.mem_map]
  constructor
  · rintro ⟨i, hi, rfl⟩
    have := List.mem_range.mp hi
    omega
  · rintro ⟨h0, h1⟩
    exact ⟨x.toNat, List.mem_range.mpr (by omega), by omega⟩
theorem idt_isT (n : Nat) : IsT n (idt n) := ⟨idt_len n, fun x hx => mem_idt.mp hx, nodup_map List.nodup_range fun x _ y _ e => by omega⟩
theorem comp_len (a b : List Int) : (comp a b).length = a.length := List.length_map ..
theorem inv_len (a : List Int) : (inv a).length = a.length := by unfold inv; simp
theorem comp_at {a b : List Int} {i : Nat} {k : Int} (h : a[i]? = some k) : (comp a b).getD i 0 = b.getD k.toNat 0 := by
  refine getD_of ?_
  unfold comp
  rw [List.getElem?_map, h]
  rfl
theorem inv_at {a : List Int} {i : Nat} (h : i < a.length) : (inv a).getD i 0 = ((a.idxOf (i : Int) : Nat) : Int) := by
  refine getD_of ?_
  unfold inv
  rw [List.getElem?_map, List.getElem?_range h]
  rfl
theorem get_some {α : Type} {l : List α} {i : Nat} (h : i < l.length) (d : α) : l[i]? = some (l.getD i d) := by
  rw [List.getD_eq_getElem?_getD, List.getElem?_eq_getElem h]
  rfl
theorem mem_getD {α : Type} {l : List α} {i : Nat} (h : i < l.length) (d : α) : l.getD i d ∈ l := List.mem_of_getElem? (get_some h d)
theorem comp_getD {a : List Int} (b : List Int) {i : Nat} (h : i < a.length) : (comp a b).getD i 0 = b.getD (at' a i) 0 := comp_at (get_some h 0)
section
variable {n : Nat} {a b c : List Int}
theorem IsT.getD (h : IsT n a) {i : Nat} (hi : i < n) : a.getD i 0 = (at' a i : Int) ∧ at' a i < n := by
  have := h.low _ (mem_getD (l := a) (i := i) (by rw [h.len]; exact hi) 0)
  unfold at'
  omega
theorem IsT.lt (h : IsT n a) {i : Nat} (hi : i < n) : at' a i < n := (h.getD hi).2
theorem IsT.mem (h : IsT n a) {i : Nat} (hi : i < n) : (i : Int) ∈ a :=
  nd_all (b := idt n) h.nd (fun x hx => mem_idt.mpr (h.low x hx)) (by rw [idt_len, h.len]; exact Nat.le_refl _) _ (mem_idt.mpr (by omega))
theorem IsT.ext (ha : IsT n a) (hb : IsT n b) (h : ∀ i, i < n → at' a i = at' b i) : a = b :=
  ext_at (d := 0) (by rw [ha.len, hb.len]) fun i hi => by
    have hi' : i < n := by rw [← ha.len]; exact hi
    rw [(ha.getD hi').1, (hb.getD hi').1, h i hi']
theorem IsT.inj (h : IsT n a) {i j : Nat} (hi : i < n) (hj : j < n) (e : at' a i = at' a j) : i = j := by
  have e' : a.getD i 0 = a.getD j 0 := by rw [(h.getD hi).1, (h.getD hj).1, e]
  have hi' : i < a.length := by rw [h.len]; exact hi
  have hj' : j < a.length := by rw [h.len]; exact hj
  have e2 : a[i] = a[j] := by
    have e3 := e'
    rw [List.getD_eq_getElem?_getD, List.getD_eq_getElem?_getD, List.getElem?_eq_getElem hi', List.getElem?_eq_getElem hj'] at e3
    exact e3
  have pw := List.pairwise_iff_getElem.mp h.nd
  rcases Nat.lt_trichotomy i j with q | q | q
  · exact absurd e2 (pw i j hi' hj' q)
  · exact q
  · exact absurd e2.symm (pw j i hj' hi' q)
theorem at_idt {i : Nat} (h : i < n) : at' (idt n) i = i := by unfold at'; rw [idt_at h]; rfl
theorem at_comp (h : IsT n a) (b : List Int) {i : Nat} (hi : i < n) : at' (comp a b) i = at' b (at' a i) := by
  unfold at'
  rw [comp_getD b (by rw [h.len]; exact hi)]
  rfl
theorem isT_of (hl : a.length = n) (f : Nat → Nat) (hf : ∀ i, i < n → a.getD i 0 = (f i : Int)) (lt : ∀ i, i < n → f i < n) (inj : ∀ i, i < n → ∀ j, j < n → f i = f j → i = j) : IsT n a := by
  have e : a = (List.range n).map fun i => (f i : Int) := by
    refine ext_at (d := 0) (by simp [hl]) fun i hi => ?_
    rw [hl] at hi
    rw [hf i hi]
    refine (getD_of ?_).symm
    rw [List.getElem?_map, List.getElem?_range hi]
    rfl
  refine ⟨hl, fun x hx => ?_, ?_⟩
  · rw [e] at hx
    obtain ⟨i, hi, rfl⟩ := List.mem_map.mp hx
    have := lt i (List.mem_range.mp hi)
    omega
  · rw [e]
    exact nodup_map List.nodup_range fun x hx y hy q => inj x (List.mem_range.mp hx) y (List.mem_range.mp hy) (by omega)
theorem IsT.comp (ha : IsT n a) (hb : IsT n b) : IsT n (comp a b) :=
  isT_of (by rw [comp_len, ha.len]) (fun i => at' b (at' a i)) (fun i hi => by rw [comp_getD b (by rw [ha.len]; exact hi), (hb.getD (ha.lt hi)).1]) (fun i hi => hb.lt (ha.lt hi))
    fun i hi j hj e => ha.inj hi hj (hb.inj (ha.lt hi) (ha.lt hj) e)
theorem idx_of (ha : IsT n a) {i : Nat} (hi : i < n) : a.idxOf (i : Int) < n ∧ at' a (a.idxOf (i : Int)) = i := by
  have hm := ha.mem hi
  have hlt : a.idxOf (i : Int) < a.length := List.idxOf_lt_length_of_mem hm
  refine ⟨by rw [← ha.len]; exact hlt, ?_⟩
  unfold at'
  have e : a.getD (a.idxOf (i : Int)) 0 = (i : Int) := by
    refine getD_of ?_
    rw [List.getElem?_eq_getElem hlt, List.getElem_idxOf]
  rw [e]
  rfl
theorem at_inv (ha : IsT n a) {i : Nat} (hi : i < n) : at' (inv a) i = a.idxOf (i : Int) := by
  unfold at'
  rw [inv_at (by rw [ha.len]; exact hi)]
  rfl
theorem IsT.inv (ha : IsT n a) : IsT n (inv a) :=
  isT_of (by rw [inv_len, ha.len]) (fun i => a.idxOf (i : Int)) (fun i hi => inv_at (by rw [ha.len]; exact hi)) (fun i hi => (idx_of ha hi).1)
    fun i hi j hj e => by rw [← (idx_of ha hi).2, ← (idx_of ha hj).2, e]
theorem inv_comp (ha : IsT n a) : NS.comp (NS.inv a) a = idt n :=
  (ha.inv.comp ha).ext (idt_isT n) fun i hi => by rw [at_comp ha.inv a hi, at_inv ha hi, at_idt hi]; exact (idx_of ha hi).2
theorem comp_inv (ha : IsT n a) : NS.comp a (NS.inv a) = idt n :=
  (ha.comp ha.inv).ext (idt_isT n) fun i hi => by
    rw [at_comp ha _ hi, at_inv ha (ha.lt hi), at_idt hi]
    exact ha.inj (idx_of ha (ha.lt hi)).1 hi (idx_of ha (ha.lt hi)).2
theorem comp_assoc (ha : IsT n a) (hb : IsT n b) (c : List Int) : NS.comp (NS.comp a b) c = NS.comp a (NS.comp b c) :=
  ext_at (d := 0) (by simp only [comp_len]) fun i hi => by
    rw [comp_len, comp_len, ha.len] at hi
    rw [comp_getD c (by rw [comp_len, ha.len]; exact hi), at_comp ha b hi, comp_getD _ (by rw [ha.len]; exact hi), comp_getD c (by rw [hb.len]; exact ha.lt hi)]
theorem idt_comp (ha : IsT n a) : NS.comp (idt n) a = a := ((idt_isT n).comp ha).ext ha fun i hi => by rw [at_comp (idt_isT n) a hi, at_idt hi]
theorem comp_idt (ha : IsT n a) : NS.comp a (idt n) = a := (ha.comp (idt_isT n)).ext ha fun i hi => by rw [at_comp ha _ hi, at_idt (ha.lt hi)]
end
end NS
end
section
set_option maxHeartbeats 4000000
/-! D1: comprehensions whose items stay -/
namespace NS
open PySem PySem.Spec PyProof.Rows L2 ZS
theorem filter_succ (pb : Nat → Bool) (i : Nat) : (List.range (i + 1)).filter pb = (List.range i).filter pb ++ (if pb i = true then [i] else []) := by
  rw [List.range_succ, List.filter_append]
  congr 1
  cases e : pb i <;> simp [List.filter, e]
theorem filter_le (pb : Nat → Bool) (i : Nat) : ((List.range i).filter pb).length ≤ i := by
  have := List.length_filter_le pb (List.range i)
  simpa using this
/-- a walk that yields Y i at turn i, n in all, as long as what stood stands -/
structure Wlk (J : It) (H : Hp) (n : Nat) (Y : Nat → V → Hp → Prop) : Prop where
  go : ∀ i H', Kp H H' → i < n → J.go i H'
  stop : ∀ H', Kp H H' → J.stop n H'
  yld : ∀ i H1 x H2, Kp H H1 → i < n → J.yld i H1 x H2 → Kp H1 H2 ∧ Y i x H2
theorem Wlk.tup {K : PySem.W.Frag} {H : Hp} {a : Addr} {xs : List V} (h : SqT K H a xs) : Wlk (Itt K a) H xs.length (fun i x _ => xs[i]? = some x) where
  go := fun i H' z hi => ⟨xs, xs[i], z.sqT h, by simp [hi]⟩
  stop := fun H' z => ⟨xs, z.sqT h, Nat.le_refl _⟩
  yld := fun i H1 x H2 z hi y => by
    obtain ⟨e, y⟩ := y
    subst e
    exact ⟨Kp.refl _, y xs (z.sqT h)⟩
theorem Wlk.lst {K : PySem.W.Frag} {H : Hp} {a : Addr} {xs : List V} (h : SqL K H a xs) : Wlk (Itl K a) H xs.length (fun i x _ => xs[i]? = some x) where
  go := fun i H' z hi => ⟨xs, xs[i], z.sqL h, by simp [hi]⟩
  stop := fun H' z => ⟨xs, z.sqL h, Nat.le_refl _⟩
  yld := fun i H1 x H2 z hi y => by
    obtain ⟨e, y⟩ := y
    subst e
    exact ⟨Kp.refl _, y xs (z.sqL h)⟩
theorem Wlk.rng {H : Hp} (lo : Int) (n : Nat) : Wlk (Itr lo n) H n (fun i x _ => x = .int (lo + i)) where
  go := fun i H' z hi => hi
  stop := fun H' z => Nat.le_refl _
  yld := fun i H1 x H2 z hi y => by
    obtain ⟨e, y⟩ := y
    subst e
    exact ⟨Kp.refl _, y⟩
theorem lcG {J : It} {g : TG} {tt : TT} {te : TE} {vs : List Nat} {σ : L2.St} {H : Hp} {D : Addr} {Qd : Hp → Prop} {n : Nat} {Y : Nat → V → Hp → Prop} (wk : Wlk J H n Y) (hD : H D = none) (hz : n < sizeLine)
    (pb : Nat → Bool) (R : Nat → V → Hp → Prop) (st : ∀ i y H1 H2, Tup H1 H2 → R i y H1 → R i y H2)
    (el : ∀ i x H' (Q1 : V → Hp → Prop) (Q0 : Hp → Prop), i < n → Kp H H' → Y i x H' → (∀ y H4, pb i = true → Kp H' H4 → R i y H4 → Q1 y H4) → (∀ H3, pb i = false → Kp H' H3 → Q0 H3) →
      g x (wipe σ vs) H' fun σ2 H2 => wipe σ2 vs = wipe σ vs ∧ tt σ2 H2 fun b H3 => if b = true then te σ2 H3 Q1 else Q0 H3)
    (fin : ∀ ys H', Kp H H' → H' D = some (.lst ys) → Paired (fun i y => R i y H') ((List.range n).filter pb) ys → Qd H') :
    ∃ W : Nat → Nat → Hp → Prop, (∃ m, W 0 m (upd H D (.lst []))) ∧ ∀ i m H, W i m H →
      (J.stop i H ∧ Qd H) ∨ (J.go i H ∧ ∃ Nx : Hp → Prop, (∀ H', Nx H' → ∃ m', m' < m ∧ W (i + 1) m' H') ∧ ∀ x H', J.yld i H x H' → g x (wipe σ vs) H' fun σ2 H2 => wipe σ2 vs = wipe σ vs ∧ tt σ2 H2 fun b H3 =>
        if b = true then te σ2 H3 fun y H4 => ∃ acc, H4 D = some (.lst acc) ∧ acc.length < sizeLine ∧ Nx (upd H4 D (.lst (acc ++ [y]))) else Nx H3) := by
  refine ⟨fun i m H' => m = n - i ∧ i ≤ n ∧ Kp H H' ∧ ∃ ys, H' D = some (.lst ys) ∧ Paired (fun i y => R i y H') ((List.range i).filter pb) ys, ⟨n, by simp, Nat.zero_le _, (Kp.refl H).new hD, [], upd_same, .nil⟩, ?_⟩
  rintro i m H1 ⟨rfl, hi, z, ys, hy, hp⟩
  by_cases hlt : i < n
  · refine .inr ⟨wk.go i H1 z hlt, fun H' => Kp H H' ∧ ∃ ys, H' D = some (.lst ys) ∧ Paired (fun i y => R i y H') ((List.range (i + 1)).filter pb) ys, fun H' ⟨p1, p2⟩ => ⟨n - (i + 1), by omega, rfl, hlt, p1, p2⟩, fun x H' y => ?_⟩
    obtain ⟨zy, yy⟩ := wk.yld i H1 x H' z hlt y
    have hl : ys.length < sizeLine := by
      have := filter_le pb i
      rw [hp.length] at this
      omega
    refine el i x H' _ _ hlt (z.trans zy) yy (fun v H4 hb z4 r4 => ?_) (fun H3 hb z3 => ?_)
    · have z14 := zy.trans z4
      have hD4 := z14.lst hy
      refine ⟨ys, hD4, hl, (z.trans z14).put hD, _, upd_same, ?_⟩
      have tz : Tup H4 (upd H4 D (.lst (ys ++ [v]))) := Tup.put (by rw [hD4]; trivial)
      rw [filter_succ, if_pos hb]
      exact Paired.snoc (hp.mono (fun a b q => st _ _ _ _ (z14.tup.trans tz) q)) (st _ _ _ _ tz r4)
    · have z13 := zy.trans z3
      refine ⟨z.trans z13, ys, z13.lst hy, ?_⟩
      rw [filter_succ, if_neg (by rw [hb]; exact Bool.false_ne_true), List.append_nil]
      exact hp.mono (fun a b q => st _ _ _ _ z13.tup q)
  · have e : i = n := by omega
    subst e
    exact .inl ⟨wk.stop H1 z, fin ys H1 z hy hp⟩
/-- no test -/
theorem lcF {J : It} {g : TG} {te : TE} {vs : List Nat} {σ : L2.St} {H : Hp} {D : Addr} {Qd : Hp → Prop} {n : Nat} {Y : Nat → V → Hp → Prop} (wk : Wlk J H n Y) (hD : H D = none) (hz : n < sizeLine)
    (R : Nat → V → Hp → Prop) (st : ∀ i y H1 H2, Tup H1 H2 → R i y H1 → R i y H2)
    (el : ∀ i x H' (Q1 : V → Hp → Prop), i < n → Kp H H' → Y i x H' → (∀ y H4, Kp H' H4 → R i y H4 → Q1 y H4) →
      g x (wipe σ vs) H' fun σ2 H2 => wipe σ2 vs = wipe σ vs ∧ te σ2 H2 Q1)
    (mono : ∀ x H' (Q Q' : L2.St → Hp → Prop), (∀ s h, Q s h → Q' s h) → g x (wipe σ vs) H' Q → g x (wipe σ vs) H' Q')
    (fin : ∀ ys H', Kp H H' → H' D = some (.lst ys) → Paired (fun i y => R i y H') (List.range n) ys → Qd H') :
    ∃ W : Nat → Nat → Hp → Prop, (∃ m, W 0 m (upd H D (.lst []))) ∧ ∀ i m H, W i m H →
      (J.stop i H ∧ Qd H) ∨ (J.go i H ∧ ∃ Nx : Hp → Prop, (∀ H', Nx H' → ∃ m', m' < m ∧ W (i + 1) m' H') ∧ ∀ x H', J.yld i H x H' → g x (wipe σ vs) H' fun σ2 H2 => wipe σ2 vs = wipe σ vs ∧ tYes σ2 H2 fun b H3 =>
        if b = true then te σ2 H3 fun y H4 => ∃ acc, H4 D = some (.lst acc) ∧ acc.length < sizeLine ∧ Nx (upd H4 D (.lst (acc ++ [y]))) else Nx H3) :=
  lcG wk hD hz (fun _ => true) R st (fun i x H' Q1 Q0 hi z y q1 _ => mono x H' _ _ (fun s h q => ⟨q.1, iteT (B := Q0 h) q.2⟩) (el i x H' Q1 hi z y fun y H4 z4 r4 => q1 y H4 rfl z4 r4)) fun ys H' z hy hp => fin ys H' z hy (by
    have e : (List.range n).filter (fun _ => true) = List.range n := List.filter_eq_self.mpr fun _ _ => rfl
    rwa [e] at hp)
/-- for, over a walk -/
theorem forG {J : It} {g : TG} {tb : TS} {D : Ends} {σ : L2.St} {H0 H : Hp} {n : Nat} {Y : Nat → V → Hp → Prop} (wk : Wlk J H0 n Y) (Pv : Nat → L2.St → Hp → Prop) (h0 : Pv 0 σ H) (kp : ∀ i σ H', i ≤ n → Pv i σ H' → Kp H0 H')
    (hs : ∀ i x σ H1 H2, i < n → Pv i σ H1 → Kp H1 H2 → Y i x H2 → g x σ H2 fun σ2 H3 => tb { D with nx := Pv (i + 1), ct := Pv (i + 1), bk := D.nx } σ2 H3) (hd : ∀ σ H', Pv n σ H' → D.nx σ H') :
    ∃ W : Nat → Nat → L2.St → Hp → Prop, (∃ m, W 0 m σ H) ∧ ∀ i m σ H, W i m σ H →
      (J.stop i H ∧ D.nx σ H) ∨ (J.go i H ∧ ∃ N : L2.St → Hp → Prop, (∀ σ' H', N σ' H' → ∃ m', m' < m ∧ W (i + 1) m' σ' H') ∧ ∀ x H', J.yld i H x H' → g x σ H' fun σ2 H2 => tb { D with nx := N, ct := N, bk := D.nx } σ2 H2) := by
  refine ⟨fun i m σ H => m = n - i ∧ i ≤ n ∧ Pv i σ H, ⟨n, by simp, Nat.zero_le _, h0⟩, ?_⟩
  rintro i m σ H ⟨rfl, hi, p⟩
  have z := kp i σ H hi p
  by_cases hlt : i < n
  · refine .inr ⟨wk.go i H z hlt, Pv (i + 1), fun σ' H' p' => ⟨n - (i + 1), by omega, rfl, hlt, p'⟩, fun x H' y => ?_⟩
    obtain ⟨zy, yy⟩ := wk.yld i H x H' z hlt y
    exact hs i x σ H H' hlt p zy yy
  · have e : i = n := by omega
    subst e
    exact .inl ⟨wk.stop H z, hd σ H p⟩
theorem pr_get {α β : Type} {F : α → β → Prop} : ∀ {xs : List α} {ys : List β}, Paired F xs ys → ∀ {i : Nat} {x : α}, xs[i]? = some x → ∃ y, ys[i]? = some y ∧ F x y
  | _, _, .nil, i, x, e => by simp at e
  | _, _, .cons p t, 0, x, e => by
    cases e
    exact ⟨_, rfl, p⟩
  | _, _, .cons p t, i + 1, x, e => pr_get t (i := i) (x := x) e
theorem paired_map {α β : Type} {F : α → β → Prop} {f : α → β} (h : ∀ a b, F a b → b = f a) : ∀ {l : List α} {m : List β}, Paired F l m → m = l.map f
  | _, _, .nil => rfl
  | _, _, .cons p t => by rw [List.map_cons, h _ _ p, paired_map h t]
theorem paired_at {α β : Type} {F : α → β → Prop} : ∀ {xs : List α} {ys : List β}, Paired F xs ys → ∀ {i : Nat} {y : β}, ys[i]? = some y → ∃ x, xs[i]? = some x ∧ F x y
  | _, _, .nil, i, y, e => by simp at e
  | _, _, .cons p t, 0, y, e => by
    cases e
    exact ⟨_, rfl, p⟩
  | _, _, .cons p t, i + 1, y, e => paired_at t (i := i) (y := y) e
theorem at_ints {ys : List Int} {x : Int} (h0 : 0 ≤ x) (h1 : x < ys.length) : atI (ys.map V.int) x = some (.int (ys.getD x.toNat 0)) := by
  obtain ⟨j, rfl⟩ := Int.eq_ofNat_of_zero_le h0
  have hj : j < ys.length := by omega
  refine atI_nat ?_
  rw [List.getElem?_map, List.getElem?_eq_getElem hj]
  simp [List.getD_eq_getElem?_getD, List.getElem?_eq_getElem hj]
theorem paired_ints {l : List Int} {n : Nat} {ys : List V} (hl : l.length = n) (h : Paired (fun i y => y = V.int (l.getD i 0)) (List.range n) ys) : ys = l.map V.int := by
  rw [paired_map (f := fun i => V.int (l.getD i 0)) (fun _ _ e => e) h, ← hl]
  conv => rhs; rw [← map_range_getD l 0, List.map_map]
  rfl
theorem ifF {c : Bool} {A B : Prop} (h : c = false) (b : B) : if c = true then A else B := by rw [h, if_neg Bool.false_ne_true]; exact b
theorem ifT {c : Bool} {A B : Prop} (h : c = true) (a : A) : if c = true then A else B := by rw [if_pos h]; exact a
end NS
end
section
set_option maxHeartbeats 4000000
/-! T0: new tuples that have no dict of their own; t.index -/
namespace NS
open PySem PySem.Spec PyProof.Rows L2 ZS
/-- v is a tuple of the ints k, made plainly -/
def PT (H : Hp) (v : V) (k : List Int) : Prop := ∃ a o, v = .ref a ∧ H a = some (.frz o (.tup (k.map V.int))) ∧ o.dict = none
theorem PT.ti {K : PySem.W.Frag} {H : Hp} {v : V} {k : List Int} (h : PT H v k) : TI K H v k := let ⟨a, o, e, x, _⟩ := h; ⟨a, e, .inl (.inr ⟨o, x⟩)⟩
theorem Kp.pt {H H' : Hp} (z : Kp H H') {v : V} {k : List Int} (h : PT H v k) : PT H' v k := let ⟨a, o, e, x, d⟩ := h; ⟨a, o, e, z.k _ _ x (fun _ q => by cases q), d⟩
theorem Tup.pt {H H' : Hp} (z : Tup H H') {v : V} {k : List Int} (h : PT H v k) : PT H' v k := let ⟨a, o, e, x, d⟩ := h; ⟨a, o, e, z.f _ _ _ x, d⟩
theorem PT.of {H : Hp} {a : Addr} {o : Obj} {k : List Int} (h : H a = some (.frz o (.tup (k.map V.int)))) (d : o.dict = none) : PT H (.ref a) k := ⟨a, o, rfl, h, d⟩
section
variable {X : Cx}
theorem Inv.newT {pins : List (Addr × Obj)} {σ : L2.St} {H : Hp} {s : Shared} {t' : Nat} {xs : List V} {its : List Value} (I : Inv X pins σ H s) (hz : xs.length ≤ sizeLine) (r : Vals xs its) :
    Inv X pins σ (upd H s.heap.objs.size (.frz { cls := .type "tuple", data := .seq its.toArray } (.tup xs))) { s with heap := s.heap.push { cls := .type "tuple", data := .seq its.toArray }, toks := t' } :=
  I.laid (fun b o e => Heap.get?_push_of_some _ e) (Nat.le_refl _) ⟨Heap.get?_push_size _ rfl, hz, its, r, IsTup.new _ _⟩
/-- tuple(xs), xs a list -/
theorem cr_tupP : CallR X (.type "tuple") (fun xs H Q => ∃ p ys, xs = [.ref p] ∧ SqL X.K H p ys ∧ ∀ l o, H l = none → o.dict = none → Q (.ref l) (upd H l (.frz o (.tup ys)))) := by
  intro pins s σ H xs us Q I r h
  obtain ⟨p, ys, rfl, hq, q⟩ := h
  obtain ⟨u, rfl, rx⟩ := vals1 r
  cases rx
  obtain ⟨its, r', pl, hz⟩ := I.list hq
  have hlen := r'.length
  refine call_tuple_list pl.isList (fun h' kp => ?_) (by simp only [List.size_toArray] <;> omega)
  have I1 : Inv X pins σ H { s with heap := h' } := I.kept (t' := s.toks) kp
  exact ⟨.ref h'.objs.size, _, NS.Inv.newT (s := { s with heap := h' }) (t' := s.toks) I1 hz r', rfl, q _ _ (I1.hok.fresh (Nat.le_refl _)) rfl⟩
/-- (a, b) -/
def tTupP (t : TA) : TE := fun σ H Q => t σ H fun xs H1 => xs.length ≤ sizeLine ∧ ∀ p o, H1 p = none → o.dict = none → Q (.ref p) (upd H1 p (.frz o (.tup xs)))
theorem pe_tupP {x1} {es : List Expr} {t : TA} {pos : Pos} (h : PA X es t) : PE X (.Tuple es x1 pos) (tTupP t) := by
  refine ⟨fun pins s σ H Q I hq => ?_⟩
  refine wpAny_Tuple_spliced (thn (h.run pos pins s σ H _ I hq) fun us s1 ⟨xs, H1, I1, r, z, q⟩ => ⟨by rw [← r.length]; exact z, ?_⟩)
  have hf : H1 s1.heap.objs.size = none := I1.hok.fresh (Nat.le_refl _)
  exact ⟨.ref s1.heap.objs.size, _, NS.Inv.newT (t' := s1.toks) I1 z r, rfl, q _ _ hf rfl⟩
/-- tuple(range(..)) -/
def tTupRgP (te : L2.St → Hp → (Int → Int → Hp → Prop) → Prop) : TE := fun σ H Q => te σ H fun a b H1 => RgOk a b ∧ ∀ q o, H1 q = none → o.dict = none → Q (.ref q) (upd H1 q (.frz o (.tup (rgV a b))))
theorem pe_tupRgP {e : Expr} {te : L2.St → Hp → (Int → Int → Hp → Prop) → Prop} {p pos : Pos} (hc : X.calm = true) (hg : Gl X "tuple") (hm : X.mg "tuple" = none) (he : PRg X e te) (na : starEach [e] X.env = (false, eval e X.env) :: starEach [] X.env := by rfl) : PE X (.Call (.Name "tuple" p) [e] [] pos) (tTupRgP te) := by
  refine ⟨fun pins s σ H Q I h => ?_⟩
  refine Call_ (ld_blt I hg hm PyProof.Rows.boot_tuple (PyProof.Rows.callWith_type1 (args_cons (thn (he pins s σ H _ I h) fun x s1 ⟨r, a, b, t, u, v, H1, ex, hr, I1, ok, q⟩ => args_nil ?_) na) na))
  subst ex
  obtain ⟨b1, b2, b3, b4, b5⟩ := ok
  refine call_tuple_range (n := (b - a).toNat) (I1.ok.hd hc) hr (small_one b1 b2 b3 b4) (rangeSize_nat a b) b5 fun h' tk acc hk hi => ?_
  have I2 : Inv X pins σ H1 { s1 with heap := h', toks := tk } := I1.kept hk
  have hz : (rgV a b).length ≤ sizeLine := by rw [rgV_length, sizeLine_eq]; omega
  have I3 := NS.Inv.newT (s := { s1 with heap := h', toks := tk }) (t' := tk) I2 hz (vals_rg hi)
  rw [Array.toArray_toList] at I3
  exact ⟨.ref h'.objs.size, _, I3, rfl, q _ _ (I2.hok.fresh (Nat.le_refl _)) rfl⟩
/-- t + u, u not empty -/
def rCatP (K : PySem.W.Frag) : R2 := fun x y H Q => ∃ a b xs ys, x = .ref a ∧ y = .ref b ∧ SqT K H a xs ∧ SqT K H b ys ∧ xs.length + ys.length ≤ sizeLine ∧ ys ≠ [] ∧
  (xs = [] → Q (.ref b) H) ∧ (xs ≠ [] → ∀ p o, H p = none → o.dict = none → Q (.ref p) (upd H p (.frz o (.tup (xs ++ ys)))))
theorem op_catP : OpR X (binaryOp .Add) (rCatP X.K) := by
  intro pins s σ H x y v u Q I rx ry h
  obtain ⟨a, b, xs, ys, rfl, rfl, ha, hb, hz, hy, q0, q2⟩ := h
  by_cases hx : xs = []
  · subst hx
    exact op_catA pins s σ H _ _ v u Q I rx ry ⟨a, b, [], ys, rfl, rfl, ha, hb, hz, fun _ => q0 rfl, fun z => absurd rfl z, fun z => absurd rfl z⟩
  · cases rx
    cases ry
    obtain ⟨its, r1, p1, _⟩ := I.tuple ha
    obtain ⟨its2, r2, p2, _⟩ := I.tuple hb
    refine HT.cat_tup p1 p2 (fun z => hx (r1.nil_iff.mp z)) (fun z => absurd (r2.nil_iff.mp z) hy) (fun z => ?_) (by rw [← r1.length, ← r2.length]; exact hz)
    exact ⟨.ref s.heap.objs.size, _, NS.Inv.newT (t' := s.toks) I (by rw [List.length_append]; exact hz) (r1.append r2), rfl, q2 hx _ _ (I.hok.fresh (Nat.le_refl _)) rfl⟩
variable {o e : Expr} {es : List Expr} {to : TE} {t : TA} {apos cpos : Pos}
/-- len of a set of ints -/
def rSLen (w : World) : List V → Hp → VK → Prop := fun vs H Q => ∃ (a : Addr) (S : Int → Bool) (n : Nat) (ns : List Int), vs = [.ref a] ∧ H a = some (SetO w a S n) ∧ ns.Nodup ∧ (∀ k, S k = true ↔ k ∈ ns) ∧ Q (.int ns.length) H
theorem cr_slen : CallR X (.builtin "len") (rSLen X.w) := by
  intro pins s σ H vs us Q I r h
  obtain ⟨a, S, n, ns, rfl, ha, nd, mem, q⟩ := h
  rw [Vals.ref1 r]
  obtain ⟨ob, es, ep, t, ho, hex, hd, _, nd2, m2, hb, hf, hn, _⟩ := setO_get I ha
  have e : (es.toList.map L2.keyOf).length = ns.length := Nat.le_antisymm (nd_le nd2 fun x hx => (mem x).mp ((m2 x).mpr hx)) (nd_le nd fun x hx => (m2 x).mp ((mem x).mpr hx))
  rw [List.length_map, Array.length_toList] at e
  have hz : scanBound = 4096 := rfl
  exact call_len_set ho hex hd hf (by omega) ⟨.int ns.length, H, I.tok _, ⟨_, by rw [e]⟩, q⟩
theorem tyx_T {K : PySem.W.Frag} {H : Hp} {a : Addr} {xs : List V} (h : SqT K H a xs) : TyX K H (.ref a) (.type "tuple") := by
  rcases h with (h | ⟨o, h⟩) | ⟨o, _, _, h1, h2, _⟩
  · exact .base (.tup h)
  · exact .fTuple h
  · exact .kTuple h1 h2
end
end NS
end
section
set_option maxHeartbeats 4000000
/-! G1: still, then, undone, hall_led, pair_led, like -/
namespace NS
open PySem PySem.Spec PyProof.Rows L2 ZS
theorem scStill : FnScope ["halls"] ["halls"] (defScope sStill) := ⟨rfl, rfl, rfl, by decide +kernel, rfl, by decide +kernel, by decide +kernel⟩
theorem scThen : FnScope ["first", "second", "hall"] ["first", "second"] (defScope sThen) := ⟨rfl, rfl, rfl, by decide +kernel, rfl, by decide +kernel, by decide +kernel⟩
theorem scHall : FnScope ["hall", "turn"] ["hall", "turn"] (defScope sHall) := ⟨rfl, rfl, rfl, by decide +kernel, rfl, by decide +kernel, by decide +kernel⟩
theorem scPair : FnScope ["pair", "turn", "first", "second"] ["pair", "turn"] (defScope sPair) := ⟨rfl, rfl, rfl, by decide +kernel, rfl, by decide +kernel, by decide +kernel⟩
theorem big : (1000000 : Nat) < sizeLine := by rw [sizeLine_eq]; decide
theorem TI.of {K : PySem.W.Frag} {H : Hp} {a : Addr} {k : List Int} (h : H a = some (.tup (k.map V.int))) : TI K H (.ref a) k := ⟨a, rfl, SqT.of h⟩
theorem rgV_idt (n : Nat) : rgV 0 n = (idt n).map V.int := by
  unfold rgV idt
  rw [List.map_map]
  have e : ((n : Int) - 0).toNat = n := by omega
  rw [e]
  refine List.map_congr_left fun i _ => ?_
  show V.int (0 + (i : Int)) = V.int (i : Int)
  rw [Int.zero_add]
def spStill : Sp := fun vs H Q _ => ∃ n : Nat, vs = [.int n] ∧ n ≤ 1000 ∧ ∀ v H', Kp H H' → PT H' v (idt n) → Q v H'
def spThen (K : PySem.W.Frag) : Sp := fun vs H Q _ => ∃ (u v : V) (a b : List Int), vs = [u, v] ∧ TI K H u a ∧ TI K H v b ∧ Low b.length a ∧ a.length ≤ 1000 ∧ ∀ r H', Kp H H' → PT H' r (comp a b) → Q r H'
def spHall (K : PySem.W.Frag) : Sp := fun vs H Q _ => ∃ (i : Int) (v : V) (b : List Int), vs = [.int i, v] ∧ TI K H v b ∧ (0 ≤ i ∧ i < b.length) ∧ Q (.int (b.getD i.toNat 0)) H
def spPair (K : PySem.W.Frag) : Sp := fun vs H Q _ => ∃ (u v : V) (a b : List Int), vs = [u, v] ∧ TI K H u a ∧ TI K H v b ∧ Low b.length a ∧ a.length = 2 ∧ ∀ r H', Kp H H' → PT H' r (comp a b) → Q r H'
section
variable {P : Program} {w : World} {K : PySem.W.Frag} {mg : Str → Option Value} {base : Heap} {f : Addr} {fd : FuncData}
theorem has_then (F : FnP K "then" sThen f fd) (m : mg "then" = some (.ref f)) (B : Bl mg) : Has P w K mg base "then" 1 [] (spThen K) := by
  refine ⟨f, fd, ["first", "second"], [], m, F.kp, F.bindsN (fun _ _ _ _ _ _ us hl => match us, hl with | [_, _], _ => rfl), .nil, ?_⟩
  refine F.ok scThen (fun vs H Q E h => ?_) (fun cdv A outer s H vs Q E hr h => ⟨_, PSs.nox (pss_one (ps_ret (pe_callTy cr_tupP rfl B.tuple PyProof.Rows.boot_tuple (pa_cons
    (pe_lc (own := [("hall", 2)]) (g := gName 2) (tt := tYes) rfl scThen.nd (pi_tup (pv 0)) (blkOk_by (N := ["first", "second", "hall"]) (sc := defScope sThen) (by decide +kernel))
      (fun _ _ _ _ _ => pg_name (i := 2) scThen.nd rfl (Or.inl rfl)) (fun _ _ _ _ _ => pts_nil) (fun _ _ _ _ _ => pe_ix (r := rIxT K) ix_tup (pv 1) (pv 2) (fun _ _ => rfl))) pa_nil)))), ?_⟩)
  · obtain ⟨u, v, a, b, rfl, _⟩ := h
    rfl
  · obtain ⟨u, v, a, b, rfl, ⟨pa, rfl, ha⟩, ⟨pb, rfl, hb⟩, lo, hz, q⟩ := h
    refine ⟨_, rfl, pa, rfl, ⟨_, ha⟩, fun D hD => ?_⟩
    refine lcF (Wlk.tup ha) hD (by rw [List.length_map]; have := big; omega) (fun i y _ => y = .int ((comp a b).getD i 0)) (fun _ _ _ _ _ h => h) (fun i x H' Q1 hi z hx q1 => ?_) (fun x H' Q Q' h q => h _ _ q) (fun ys H' z hD' hp => ?_)
    · obtain ⟨k, e, rfl⟩ := map_some hx
      obtain ⟨h0, h1⟩ := lo k (List.mem_of_getElem? e)
      refine ⟨rfl, _, rfl, _, rfl, pb, _, k, _, rfl, rfl, z.sqT hb, at_ints h0 h1, q1 _ _ (Kp.refl _) ?_⟩
      rw [comp_at e]
    · rw [List.length_map] at hp
      refine ⟨D, _, rfl, SqL.of hD', fun l o hl ho => ?_⟩
      rw [paired_ints (comp_len a b) hp]
      exact q _ _ (z.new hl) (.of upd_same ho)
theorem has_still (F : FnP K "still" sStill f fd) (m : mg "still" = some (.ref f)) (B : Bl mg) : Has P w K mg base "still" 1 [] spStill := by
  refine ⟨f, fd, ["halls"], [], m, F.kp, F.bindsN (fun _ _ _ _ _ _ us hl => match us, hl with | [_], _ => rfl), .nil, ?_⟩
  refine F.ok scStill (fun vs H Q E h => ?_) (fun cdv A outer s H vs Q E hr h => ⟨_, PSs.nox (pss_one (ps_ret (pe_tupRgP rfl rfl B.tuple (prg_1 rfl B.range (pv 0))))), ?_⟩)
  · obtain ⟨n, rfl, _⟩ := h
    rfl
  · obtain ⟨n, rfl, hn, q⟩ := h
    refine ⟨_, rfl, _, rfl, RgOk.of_le (by decide) (by omega) (by decide) (by omega), fun p o hp ho => q _ _ ((Kp.refl _).new hp) (.of ?_ ho)⟩
    rw [upd_same, rgV_idt]
theorem has_hall (F : FnP K "hall_led" sHall f fd) (m : mg "hall_led" = some (.ref f)) : Has P w K mg base "hall_led" 1 [] (spHall K) := by
  refine ⟨f, fd, ["hall", "turn"], [], m, F.kp, F.bindsN (fun _ _ _ _ _ _ us hl => match us, hl with | [_, _], _ => rfl), .nil, ?_⟩
  refine F.ok scHall (fun vs H Q E h => ?_) (fun cdv A outer s H vs Q E hr h => ⟨_, PSs.nox (pss_one (ps_ret (pe_ix (r := rIxT K) ix_tup (pv 1) (pv 0) (fun _ _ => rfl)))), ?_⟩)
  · obtain ⟨i, v, b, rfl, _⟩ := h
    rfl
  · obtain ⟨i, v, b, rfl, ⟨pb, rfl, hb⟩, hi, q⟩ := h
    exact ⟨_, rfl, _, rfl, pb, _, _, _, rfl, rfl, hb, at_ints hi.1 hi.2, q⟩
theorem has_pair (F : FnP K "pair_led" sPair f fd) (m : mg "pair_led" = some (.ref f)) : Has P w K mg base "pair_led" 1 [] (spPair K) := by
  refine ⟨f, fd, ["pair", "turn"], [], m, F.kp, F.bindsN (fun _ _ _ _ _ _ us hl => match us, hl with | [_, _], _ => rfl), .nil, ?_⟩
  refine F.ok scPair (fun vs H Q E h => ?_) (fun cdv A outer s H vs Q E hr h => ⟨_, PSs.nox (pss_cons (ps_asg (pv 0) (pg_tup rfl (pgs_cons (pg_name (i := 2) scPair.nd rfl (Or.inl rfl)) (pgs_cons (pg_name (i := 3) scPair.nd rfl (Or.inl rfl)) pgs_nil))))
    (pss_one (ps_ret (pe_tupP (pa_cons (pe_ix (r := rIxT K) ix_tup (pv 1) (pv 2) (fun _ _ => rfl)) (pa_cons (pe_ix (r := rIxT K) ix_tup (pv 1) (pv 3) (fun _ _ => rfl)) pa_nil)))))), ?_⟩)
  · obtain ⟨u, v, a, b, rfl, _⟩ := h
    rfl
  · obtain ⟨u, v, a, b, rfl, ⟨pa, rfl, ha⟩, ⟨pb, rfl, hb⟩, lo, hl, q⟩ := h
    match a, hl with
    | [x, y], _ =>
      obtain ⟨x0, x1⟩ := lo x (by simp)
      obtain ⟨y0, y1⟩ := lo y (by simp)
      refine ⟨_, rfl, pa, _, rfl, ha, rfl, _, _, rfl, _, _, rfl, rfl, ?_⟩
      refine ⟨_, rfl, _, rfl, pb, _, _, _, rfl, rfl, hb, at_ints x0 x1, _, rfl, _, rfl, pb, _, _, _, rfl, rfl, hb, at_ints y0 y1, (by show 2 ≤ sizeLine; decide), fun p o hp ho => ?_⟩
      exact q _ _ ((Kp.refl _).new hp) (.of upd_same ho)
end
end NS
end
section
set_option maxHeartbeats 4000000
/-! C1: checks, where all is as it should be -/
namespace NS
open PySem PySem.Spec PyProof.Rows L2 ZS
theorem scNumber : FnScope ["value", "least", "most"] ["value", "least", "most"] (defScope sNumber) := ⟨rfl, rfl, rfl, by decide +kernel, rfl, by decide +kernel, by decide +kernel⟩
theorem scIsTurn : FnScope ["halls", "value"] ["halls", "value"] (defScope sIsTurn) := ⟨rfl, rfl, rfl, by decide +kernel, rfl, by decide +kernel, by decide +kernel⟩
theorem scAreTurns : FnScope ["halls", "value"] ["halls", "value"] (defScope sAreTurns) := ⟨rfl, rfl, rfl, by decide +kernel, rfl, by decide +kernel, by decide +kernel⟩
theorem scFault : FnScope ["value", "halls", "turns"] ["value"] (defScope sFault) := ⟨rfl, rfl, rfl, by decide +kernel, rfl, by decide +kernel, by decide +kernel⟩
theorem scCheckHouse : FnScope ["house", "fault"] ["house"] (defScope sCheckHouse) := ⟨rfl, rfl, rfl, by decide +kernel, rfl, by decide +kernel, by decide +kernel⟩
/-- v is a tuple of plain tuples -/
def PTS (K : PySem.W.Frag) (H : Hp) (v : V) (ts : List (List Int)) : Prop := ∃ b xs, v = .ref b ∧ SqT K H b xs ∧ Paired (TI K H) xs ts
/-- v is a house of n halls and these turns -/
def HouseAt (K : PySem.W.Frag) (H : Hp) (v : V) (n : Nat) (ts : List (List Int)) : Prop := ∃ a tv, v = .ref a ∧ SqT K H a [.int n, tv] ∧ PTS K H tv ts
structure IsH (n : Nat) (ts : List (List Int)) : Prop where
  n1 : 1 ≤ n
  n8 : n ≤ 8
  t1 : 1 ≤ ts.length
  t6 : ts.length ≤ 6
  is : ∀ t ∈ ts, IsT n t
theorem Kp.pts {K : PySem.W.Frag} {H H' : Hp} (z : Kp H H') {v : V} {ts : List (List Int)} (h : PTS K H v ts) : PTS K H' v ts := let ⟨b, xs, e, s, p⟩ := h; ⟨b, xs, e, z.sqT s, p.mono fun _ _ q => z.ti q⟩
theorem Kp.house {K : PySem.W.Frag} {H H' : Hp} (z : Kp H H') {v : V} {n : Nat} {ts : List (List Int)} (h : HouseAt K H v n ts) : HouseAt K H' v n ts := let ⟨a, tv, e, s, p⟩ := h; ⟨a, tv, e, z.sqT s, z.pts p⟩
theorem free1 {names : List (Str × NameKind)} {cells : List (Str × Addr)} {x : Str} {c : Addr} (h : (names.all fun y => decide (y.2 = .free → y.1 = x)) = true) (hc : cells.lookup x = some c) : ∀ y ∈ names, y.2 = .free → ∃ c, cells.lookup y.1 = some c := fun y hy e => by
  have := of_decide_eq_true (List.all_eq_true.mp h y hy) e
  exact ⟨c, by rw [this]; exact hc⟩
theorem cap1 {N : List Str} {names : List (Str × NameKind)} {kd : Str → Option NameKind} {x : Str} {i : Nat} (h1 : N[i]? = some x) (h2 : names.lookup x = some .free) (h3 : kd x = some .cell ∨ kd x = some .free) :
    ∀ p ∈ [(x, i)], N[p.2]? = some p.1 ∧ names.lookup p.1 = some .free ∧ (kd p.1 = some .cell ∨ kd p.1 = some .free) := fun p hp => by
  rw [List.mem_singleton.mp hp]
  exact ⟨h1, h2, h3⟩
def spNumber : Sp := fun vs H Q _ => ∃ i lo hi : Int, vs = [.int i, .int lo, .int hi] ∧ Q (.bl (decide (lo ≤ i ∧ i ≤ hi))) H
def spIsTurn (P : Addr) : Sp := fun vs H Q _ => ∃ (n : Nat) (v : V) (t : List Int), vs = [.int n, v] ∧ PT H v t ∧ IsT n t ∧ n ≤ 1000 ∧ GxR.TabG H P ∧ ∀ H', Kp H H' → Q (.bl true) H'
def spHouse (K : PySem.W.Frag) (P P2 : Addr) : Sp := fun vs H Q _ => ∃ (v : V) (n : Nat) (ts : List (List Int)), vs = [v] ∧ HouseAt K H v n ts ∧ IsH n ts ∧ GxR.TabG H P ∧ GxR.TabG H P2 ∧ ∀ H', Kp H H' → Q .non H'
section
variable {P : Program} {w : World} {K : PySem.W.Frag} {mg : Str → Option Value} {base : Heap} {f : Addr} {fd : FuncData}
theorem has_number (F : FnP K "is_number" sNumber f fd) (m : mg "is_number" = some (.ref f)) (B : Bl mg) : Has P w K mg base "is_number" 1 [] spNumber := by
  refine ⟨f, fd, ["value", "least", "most"], [], m, F.kp, F.bindsN (fun _ _ _ _ _ _ us hl => match us, hl with | [_, _, _], _ => rfl), .nil, ?_⟩
  refine F.ok scNumber (fun vs H Q E h => ?_) (fun cdv A outer s H vs Q E hr h => ⟨_, PSs.nox (pss_one (ps_ret
    (pe_and (pe_callB call_isi rfl B.isinstance PyProof.Rows.boot_isinstance (pa_cons (pv 0) (pa_cons (pe_bltn (v := .ty "int") rfl B.int PyProof.Rows.boot_int rfl) pa_nil)))
    (pe_and (pe_not (pe_callB call_isi rfl B.isinstance PyProof.Rows.boot_isinstance (pa_cons (pv 0) (pa_cons (pe_bltn (v := .ty "bool") rfl B.bool PyProof.Rows.boot_bool rfl) pa_nil))))
    (pe_one (pe_chain op_le op_le (pv 1) (pv 0) (pv 2))))))), ?_⟩)
  · obtain ⟨i, lo, hi, rfl, _⟩ := h
    rfl
  · obtain ⟨i, lo, hi, rfl, q⟩ := h
    refine ⟨_, rfl, _, _, _, _, true, rfl, .ty "int", .base (.int i), kit_ty (by decide +kernel), _, rfl, ?_⟩
    refine iteT (B := _) ⟨_, rfl, _, _, _, _, false, rfl, .ty "bool", .base (.int i), kit_ty (by decide +kernel), _, rfl, _, rfl, ?_⟩
    refine iteT (B := _) ⟨_, rfl, _, rfl, _, _, rfl, rfl, _, rfl, ?_⟩
    by_cases h1 : lo ≤ i
    · rw [if_pos (decide_eq_true h1)]
      refine ⟨_, rfl, _, _, rfl, rfl, ?_⟩
      have e : decide (lo ≤ i ∧ i ≤ hi) = decide (i ≤ hi) := by simp [h1]
      rw [e] at q
      exact q
    · rw [if_neg (by simp [h1])]
      have e : decide (lo ≤ i ∧ i ≤ hi) = false := by simp [h1]
      rw [← e]
      exact q
theorem has_isturn (F : FnP K "is_turn" sIsTurn f fd) (m : mg "is_turn" = some (.ref f)) (B : Bl mg) (hN : Has P w K mg base "is_number" 1 [] spNumber) {c PT : Addr} (ec : fd.code = .ref c) (TB : GxR.TabB base mg c PT) : Has P w K mg base "is_turn" 3 [] (spIsTurn PT) := by
  refine ⟨f, fd, ["halls", "value"], [], m, F.kp, F.bindsN (fun _ _ _ _ _ _ us hl => match us, hl with | [_, _], _ => rfl), .nil, ?_⟩
  refine ok_code F scIsTurn (fun vs H Q E h => ?_) (fun cdv A outer s H vs Q E hcd hr h => ⟨_, PSs.nox (pss_cons (ps_if
      (PW.pt (pw_or (pt_not (pt_val (pe_callB call_isi rfl B.isinstance PyProof.Rows.boot_isinstance (pa_cons (pv 1) (pa_cons (pe_bltn (v := .ty "tuple") rfl B.tuple PyProof.Rows.boot_tuple rfl) pa_nil)))))
        (pw_or1 (pt_cmpR op_ne (pe_callB call_len_seq rfl B.len PySem.boot_len (pa_cons (pv 1) pa_nil)) (pv 0) (nomark _)))))
      (pss_one (ps_ret pe_bl)) pss_nil)
    (pss_one (ps_ret (pe_and (GA.pe_allG [("halls", 0)] hr rfl rfl B.all TB (hcd.trans ec) ⟨rfl, rfl, by decide +kernel, rfl, rfl, ?_⟩ (by decide +kernel) ?_ (pv 1) (fun C code A s H ex hr' => pe_has hN hr' (by decide) (pa_cons (pv 1) (pa_cons pe_int (pa_cons (pe_op op_sub (pv 2) pe_int) pa_nil)))))
      (pe_one (pe_cmpR op_eq (pe_callB cr_slen rfl B.len PySem.boot_len (pa_cons (pe_callTy (cr_isetOf rfl) rfl B.set PyProof.Rows.boot_set (pa_cons (pv 1) pa_nil)) pa_nil)) (pv 0) (nomark _))))))), ?_⟩)
  · obtain ⟨n, v, t, rfl, _⟩ := h
    rfl
  · exact free1 (x := "halls") (by decide +kernel) rfl
  · exact cap1 rfl rfl (.inl rfl)
  · obtain ⟨n, v, t, rfl, hp, ht, hn, hG, q⟩ := h
    obtain ⟨a, o, rfl, ha, hd⟩ := id hp
    have hT : SqT K H a (t.map V.int) := .inl (.inr ⟨o, ha⟩)
    have hl : (t.map V.int).length = n := by rw [List.length_map, ht.len]
    refine ⟨_, rfl, _, _, _, _, true, rfl, .ty "tuple", tyx_T hT, kit_ty (by decide +kernel), _, rfl, ?_⟩
    refine iteF (A := _) ⟨_, rfl, a, _, rfl, .inr hT, _, rfl, rfl, _, rfl, ?_⟩
    rw [hl]
    refine ifF (A := _) (B := _) (by simp) ?_
    refine ⟨_, rfl, a, t.map V.int, rfl, hT, hG, fun _ => true, fun _ H' => Kp H H', fun H2 z => Kp.tab hG (by decide) z, fun i H2 z => z.sqT hT, fun i v H2 it hv z => ?_, fun H2 z => ⟨true, rfl, iteT (B := _) ?_⟩⟩
    · obtain ⟨k, hk, rfl⟩ := map_some hv
      have := ht.low k (List.mem_of_getElem? hk)
      refine ⟨_, rfl, _, rfl, _, _, rfl, rfl, k, 0, (n : Int) - 1, rfl, ?_, fun _ => z, fun e => by cases e⟩
      rw [decide_eq_true (by omega)]
    · refine ⟨_, rfl, a, t, rfl, .inr (z.sqT hT), by have : scanBound = 4096 := rfl; have := ht.len; omega, fun b m hb hm => ?_⟩
      refine ⟨b, _, m, t, rfl, upd_same, ht.nd, fun k => by simp, _, rfl, rfl, ?_⟩
      rw [ht.len]
      show Q (.bl (decide (V.int (n : Int) = V.int (n : Int)))) _
      rw [decide_eq_true rfl]
      exact q _ (z.new hb)
theorem has_checkhouse (F : FnP K "check_house" sCheckHouse f fd) (m : mg "check_house" = some (.ref f)) {pT PA : Addr} (hN : Has P w K mg base "house_fault" 6 [] (spHouse K pT PA)) :
    Has P w K mg base "check_house" 7 [] (spHouse K pT PA) := by
  refine ⟨f, fd, ["house"], [], m, F.kp, F.bindsN (fun _ _ _ _ _ _ us hl => match us, hl with | [_], _ => rfl), .nil, ?_⟩
  refine F.ok scCheckHouse (fun vs H Q E h => ?_) (fun cdv A outer s H vs Q E hr h => ⟨_, PSs.nox (pss_cons (ps_set (i := 1) scCheckHouse.nd rfl (Or.inl rfl) (pe_has hN hr (by decide) (pa_cons (pv 0) pa_nil)))
    (pss_one (ps_if (pt_cmp (pc_notN (pv 1))) (pss_one ps_never) pss_nil))), ?_⟩)
  · obtain ⟨v, n, ts, rfl, _⟩ := h
    rfl
  · obtain ⟨v, n, ts, rfl, hv, hi, gT, gA, q⟩ := h
    exact ⟨_, rfl, v, n, ts, rfl, hv, hi, gT, gA, fun H' z => ⟨_, rfl, _, rfl, ifF (A := _) (B := _) (by decide +kernel) (q H' z)⟩⟩
end
end NS
end
section
set_option maxHeartbeats 4000000
/-! R1: sets of ints, and of tuples of ints, in one form -/
namespace NS
open PySem PySem.Spec PyProof.Rows L2 ZS
structure One (K : PySem.W.Frag) (P : Program) (w : World) (v : V) (H : Hp) (Q : VK) : Prop where
  h : (∃ b k, v = .ref b ∧ ElK K H b k ∧ ∀ p, H p = none → Q (.ref p) (upd H p (ZSet P w p [(b, k)]))) ∨ (∃ i, v = .int i ∧ ∀ p, H p = none → Q (.ref p) (upd H p (SetO w p (fun j => decide (j = i)) 1)))
structure Nin (K : PySem.W.Frag) (P : Program) (w : World) (x y : V) (H : Hp) (Q : VK) : Prop where
  h : rZIn K P w true x y H Q ∨ rSNotIn w x y H Q
structure Add (K : PySem.W.Frag) (P : Program) (w : World) (s : Addr) (v : V) (H : Hp) (Q : VK) : Prop where
  h : ((∃ a' L', V.ref s = .ref a' ∧ H a' = some (ZSet P w a' L')) ∧ rZAdd K P w (.ref s) [v] H Q) ∨ ((∃ a' S n, V.ref s = .ref a' ∧ H a' = some (SetO w a' S n)) ∧ rSAdd w (.ref s) [v] H Q)
structure Len (K : PySem.W.Frag) (P : Program) (w : World) (xs : List V) (H : Hp) (Q : VK) : Prop where
  h : rZLen K P w xs H Q ∨ rSLen w xs H Q
structure Sor (K : PySem.W.Frag) (P : Program) (w : World) (xs : List V) (H : Hp) (Q : VK) : Prop where
  h : rZSort K P w xs H Q ∨ rSortedSet w xs H Q
theorem pe_imp {X : Cx} {e : Expr} {t t' : TE} (h : PE X e t) (q : ∀ σ H Q, t' σ H Q → t σ H Q) : PE X e t' := ⟨fun pins s σ H Q I w => h.run pins s σ H Q I (q σ H Q w)⟩
theorem op_imp {X : Cx} {f : Value → Value → Sem Value} {r r' : R2} (h : OpR X f r) (q : ∀ x y H Q, r' x y H Q → r x y H Q) : OpR X f r' := fun pins s σ H x y v u Q I rx ry w => h pins s σ H x y v u Q I rx ry (q _ _ _ _ w)
theorem cr_imp {X : Cx} {f : Value} {r r' : List V → Hp → VK → Prop} (h : CallR X f r) (q : ∀ xs H Q, r' xs H Q → r xs H Q) : CallR X f r' := fun pins s σ H xs us Q I rx w => h pins s σ H xs us Q I rx (q _ _ _ w)
def tOne (K : PySem.W.Frag) (P : Program) (w : World) (i : Nat) : TE := fun σ H Q => ∃ v, σ[i]? = some (some v) ∧ One K P w v H Q
def tAdd' (K : PySem.W.Frag) (P : Program) (w : World) (i j : Nat) : TE := fun σ H Q => ∃ s v, σ[i]? = some (some (.ref s)) ∧ σ[j]? = some (some v) ∧ Add K P w s v H Q
structure Rep (K : PySem.W.Frag) (P : Program) (w : World) (α : Type) where
  El : Hp → V → α → Prop
  St : Hp → Addr → List α → Prop
  lt : α → α → Prop
  lim : Nat
  big : lim ≤ 5000
  el_tup : ∀ {H H' : Hp} {v : V} {a : α}, Tup H H' → El H v a → El H' v a
  st_tup : ∀ {H H' : Hp} {s : Addr} {L : List α}, Tup H H' → H' s = H s → St H s L → St H' s L
  st_some : ∀ {H : Hp} {s : Addr} {L : List α}, St H s L → ∃ o, H s = some o ∧ (∀ ps, o ≠ .tbl ps) ∧ L.Nodup
  one : ∀ {H : Hp} {v : V} {a : α} {Q : VK}, El H v a → (∀ p o, H p = none → St (upd H p o) p [a] → Q (.ref p) (upd H p o)) → One K P w v H Q
  notin : ∀ {H : Hp} {v : V} {a : α} {s : Addr} {L : List α} {Q : VK}, El H v a → St H s L → (∀ b, (b = true ↔ a ∉ L) → Q (.bl b) H) → Nin K P w v (.ref s) H Q
  add : ∀ {H : Hp} {v : V} {a : α} {s : Addr} {L : List α} {Q : VK}, El H v a → St H s L → a ∉ L → L.length + 1 < lim → (∀ o, Tup H (upd H s o) → St (upd H s o) s (a :: L) → Q .non (upd H s o)) → Add K P w s v H Q
  len : ∀ {H : Hp} {s : Addr} {L : List α} {Q : VK}, St H s L → Q (.int L.length) H → Len K P w [.ref s] H Q
  sort : ∀ {H : Hp} {s : Addr} {L : List α} {Q : VK}, St H s L → L.length < lim → (∀ p vs L', L'.Perm L → L'.Pairwise lt → H p = none → Paired (El H) vs L' → Q (.ref p) (upd H p (.lst vs))) → Sor K P w [.ref s] H Q
theorem nd1 {α : Type} (a : α) : [a].Nodup := List.nodup_cons.mpr ⟨List.not_mem_nil, List.nodup_nil⟩
theorem pr_ints : ∀ ns : List Int, Paired (fun v a => v = V.int a) (ns.map V.int) ns
  | [] => .nil
  | _ :: r => .cons rfl (pr_ints r)
section
variable {K : PySem.W.Frag} {P : Program} {w : World} {H : Hp} {v : V} {s : Addr} {Q : VK}
def StI (w : World) (H : Hp) (s : Addr) (L : List Int) : Prop := L.Nodup ∧ ∃ S, H s = some (SetO w s S L.length) ∧ ∀ j, S j = true ↔ j ∈ L
theorem stI_add {a : Int} {L : List Int} (e : v = .int a) (h : StI w H s L) (na : a ∉ L) (hl : L.length + 1 < 64) (q : ∀ o, Tup H (upd H s o) → StI w (upd H s o) s (a :: L) → Q .non (upd H s o)) :
    ((∃ a' L', V.ref s = .ref a' ∧ H a' = some (ZSet P w a' L')) ∧ rZAdd K P w (.ref s) [v] H Q) ∨ ((∃ a' S n, V.ref s = .ref a' ∧ H a' = some (SetO w a' S n)) ∧ rSAdd w (.ref s) [v] H Q) := by
  obtain ⟨nd, S, h, m⟩ := h
  subst e
  have sf : S a = false := by
    cases x : S a with
    | false => rfl
    | true => exact absurd ((m a).mp x) na
  refine .inr ⟨⟨s, S, _, rfl, h⟩, s, a, S, _, rfl, rfl, h, by have : scanBound = 4096 := rfl; omega, ?_⟩
  refine q _ (Tup.put (by rw [h]; trivial)) ⟨List.nodup_cons.mpr ⟨na, nd⟩, fun j => S j || decide (j = a), ?_, fun j => ?_⟩
  · rw [upd_same, if_neg (by rw [sf]; exact Bool.false_ne_true)]
    rfl
  · show (S j || decide (j = a)) = true ↔ _
    rw [Bool.or_eq_true, decide_eq_true_iff, m, List.mem_cons]
    exact ⟨fun h => h.symm, fun h => h.symm⟩
theorem stI_sort {L : List Int} (h : StI w H s L) (hl : L.length < 64) (q : ∀ p vs L', L'.Perm L → L'.Pairwise (· < ·) → H p = none → Paired (fun v a => v = V.int a) vs L' → Q (.ref p) (upd H p (.lst vs))) : rSortedSet w [.ref s] H Q := by
  obtain ⟨nd, S, h, m⟩ := h
  refine ⟨s, S, _, rfl, h, hl, fun ns p pw mem _ hp => q p _ ns ?_ pw hp (pr_ints ns)⟩
  have nd2 : ns.Nodup := pw.imp fun h e => by omega
  exact (List.perm_ext_iff_of_nodup nd2 nd).mpr fun x => (mem x).trans (m x)
variable (K P w)
def repI : Rep K P w Int where
  El := fun _ v a => v = .int a
  St := StI w
  lt := (· < ·)
  lim := 64
  big := by decide
  el_tup := fun _ h => h
  st_tup := fun _ e ⟨nd, S, h, m⟩ => ⟨nd, S, by rw [e]; exact h, m⟩
  st_some := fun ⟨nd, S, h, m⟩ => ⟨_, h, (fun _ q => by cases q), nd⟩
  one := fun {H v a Q} e q => ⟨.inr ⟨a, e, fun p hp => q p _ hp ⟨nd1 a, _, upd_same, fun j => by simp⟩⟩⟩
  notin := fun {H v a s L Q} e ⟨nd, S, h, m⟩ q => ⟨.inr ⟨a, s, S, _, e, rfl, h, q _ (by rw [← m]; simp)⟩⟩
  add := fun e h na hl q => ⟨stI_add e h na hl q⟩
  len := fun {H s L Q} ⟨nd, S, h, m⟩ q => ⟨.inr ⟨s, S, _, L, rfl, h, nd, m, q⟩⟩
  sort := fun h hl q => ⟨.inr (stI_sort h hl q)⟩
end
section
variable {K : PySem.W.Frag} {P : Program} {w : World} {H : Hp} {v : V} {s : Addr} {Q : VK}
def ElT (K : PySem.W.Frag) (H : Hp) (v : V) (k : List Int) : Prop := TI K H v k ∧ k ≠ [] ∧ PT H v k
theorem elT {k : List Int} (p : PT H v k) (h : k ≠ []) : ElT K H v k := ⟨p.ti, h, p⟩
abbrev keys (L : List (Addr × List Int)) : List (Addr × NK) := L.map fun p => (p.1, tk p.2)
def StT (K : PySem.W.Frag) (P : Program) (w : World) (H : Hp) (s : Addr) (L : List (List Int)) : Prop := L.Nodup ∧ ∃ L' : List (Addr × List Int), H s = some (ZSet P w s (keys L')) ∧ (L'.map (·.2)).Perm L ∧ ∀ p ∈ L', ElT K H (.ref p.1) p.2
theorem ElT.el {a : Addr} {k : List Int} (h : ElT K H (.ref a) k) : ElK K H a (tk k) := .inl ⟨k, rfl, h.1⟩
theorem keys_el {L : List (Addr × List Int)} (h : ∀ p ∈ L, ElT K H (.ref p.1) p.2) : ∀ p ∈ keys L, ElK K H p.1 p.2 := fun p hp => by
  obtain ⟨q, hq, rfl⟩ := List.mem_map.mp hp
  exact (h q hq).el
theorem keys_snd (L : List (Addr × List Int)) : (keys L).map (·.2) = (L.map (·.2)).map tk := by unfold keys; rw [List.map_map, List.map_map]; rfl
theorem tk_mem {k : List Int} {L : List (List Int)} : tk k ∈ L.map tk ↔ k ∈ L := by
  rw [List.mem_map]
  exact ⟨fun ⟨x, hx, e⟩ => tk_inj e ▸ hx, fun h => ⟨k, h, rfl⟩⟩
theorem ElT.tup {H' : Hp} {k : List Int} (z : Tup H H') (h : ElT K H v k) : ElT K H' v k := ⟨z.ti h.1, h.2.1, NS.Tup.pt z h.2.2⟩
theorem stT_add {a : List Int} {L : List (List Int)} (e : ElT K H v a) (h : StT K P w H s L) (na : a ∉ L) (hl : L.length + 1 < 4096) (q : ∀ o, Tup H (upd H s o) → StT K P w (upd H s o) s (a :: L) → Q .non (upd H s o)) :
    ((∃ a' L', V.ref s = .ref a' ∧ H a' = some (ZSet P w a' L')) ∧ rZAdd K P w (.ref s) [v] H Q) ∨ ((∃ a' S n, V.ref s = .ref a' ∧ H a' = some (SetO w a' S n)) ∧ rSAdd w (.ref s) [v] H Q) := by
  obtain ⟨nd, L', h, pm, el⟩ := h
  obtain ⟨b, rfl, hb⟩ := id e.1
  have hlen := pm.length_eq
  rw [List.length_map] at hlen
  have nk : tk a ∉ (keys L').map (·.2) := by
    rw [keys_snd, tk_mem]
    exact fun h => na (pm.mem_iff.mp h)
  refine .inl ⟨⟨s, _, rfl, h⟩, s, b, tk a, keys L', rfl, rfl, h, keys_el el, e.el, by have : zBound = 9000 := rfl; rw [List.length_map]; omega, fun L2 _ h2 => ?_⟩
  obtain ⟨L3, rfl, p3⟩ := ZS.perm_lift (f := fun p : Addr × List Int => (p.1, tk p.2)) (h2 nk) ((b, a) :: L') rfl
  have z : Tup H (upd H s (ZSet P w s (keys L3))) := Tup.put (by rw [h]; trivial)
  refine q _ z ⟨List.nodup_cons.mpr ⟨na, nd⟩, L3, upd_same, (p3.map _).trans (List.Perm.cons a pm), fun p hp => ?_⟩
  rcases List.mem_cons.mp (p3.mem_iff.mp hp) with rfl | hp
  · exact e.tup z
  · exact (el p hp).tup z
theorem stT_sort {L : List (List Int)} (h : StT K P w H s L) (hl : L.length < 4096) (q : ∀ p vs L', L'.Perm L → L'.Pairwise (fun a b => lexI a b = true) → H p = none → Paired (ElT K H) vs L' → Q (.ref p) (upd H p (.lst vs))) : rZSort K P w [.ref s] H Q := by
  obtain ⟨nd, L', h, pm, el⟩ := h
  have hlen := pm.length_eq
  rw [List.length_map] at hlen
  refine ⟨s, L', rfl, h, fun p hp => ⟨(el p hp).1, (el p hp).2.1⟩, by have : scanBound = 4096 := rfl; omega, fun L2 p p2 pw hp => q p _ (L2.map (·.2)) ((p2.map _).trans pm) ?_ hp ?_⟩
  · exact List.pairwise_map.mpr pw
  · have go : ∀ l : List (Addr × List Int), (∀ p ∈ l, ElT K H (.ref p.1) p.2) → Paired (ElT K H) (l.map fun q => V.ref q.1) (l.map (·.2)) := fun l => by
      induction l with
      | nil => exact fun _ => .nil
      | cons x r ih => exact fun h => .cons (h x (List.mem_cons_self ..)) (ih fun p hp => h p (List.mem_cons_of_mem _ hp))
    exact go L2 fun p hp => el p (p2.mem_iff.mp hp)
variable (K P w)
def repT : Rep K P w (List Int) where
  El := ElT K
  St := StT K P w
  lt := fun a b => lexI a b = true
  lim := 4096
  big := by decide
  el_tup := ElT.tup
  st_tup := fun z e ⟨nd, L', h, pm, el⟩ => ⟨nd, L', by rw [e]; exact h, pm, fun p hp => (el p hp).tup z⟩
  st_some := fun ⟨nd, L', h, _⟩ => ⟨_, h, (fun _ q => by cases q), nd⟩
  one := fun {H v a Q} e q => by
    obtain ⟨b, rfl, hb⟩ := id e.1
    refine ⟨.inl ⟨b, tk a, rfl, e.el, fun p hp => q p _ hp ⟨nd1 a, [(b, a)], upd_same, List.Perm.refl _, fun x hx => ?_⟩⟩⟩
    rw [List.mem_singleton.mp hx]
    exact e.tup (Tup.new hp)
  notin := fun {H v a s L Q} e ⟨nd, L', h, pm, el⟩ q => by
    obtain ⟨b, rfl, hb⟩ := id e.1
    refine ⟨.inl ⟨s, b, tk a, _, rfl, rfl, h, keys_el el, e.el, ?_⟩⟩
    rw [if_pos rfl]
    refine q _ ?_
    rw [keys_snd]
    simp only [Bool.not_eq_true', decide_eq_false_iff_not, tk_mem]
    rw [pm.mem_iff]
  add := fun e h na hl q => ⟨stT_add e h na hl q⟩
  len := fun {H s L Q} ⟨nd, L', h, pm, el⟩ q => ⟨.inl ⟨s, _, rfl, h, by
    have := pm.length_eq
    rw [List.length_map] at this
    rw [List.length_map, this]
    exact q⟩⟩
  sort := fun h hl q => ⟨.inl (stT_sort h hl q)⟩
end
section
variable {X : Cx}
theorem pe_one' {i : Nat} {e : Expr} {pos : Pos} (hu : X.A.units + 64 < cLine) (hcd : PySem.W.kdsCode X.K X.env.code = true) (he : PE X e (tVar i)) (hp : PySem.W.kdsPlain e = true := by rfl) : PE X (.Set [e] 0 pos) (tOne X.K X.prog X.w i) :=
  pe_imp (pe_set1 hu hcd he hp) fun _ _ _ ⟨v, h, o⟩ => ⟨v, h, o.h⟩
theorem op_nin (hu : X.A.units + 64 < cLine) : OpR X (compareOp .NotIn) (Nin X.K X.prog X.w) := op_imp (OpR.either (or_znotin hu) or_snotin) fun _ _ _ _ h => h.h
theorem cr_len' : CallR X (.builtin "len") (Len X.K X.prog X.w) := cr_imp (CallR.either cr_zlen cr_slen) fun _ _ _ h => h.h
theorem cr_sor (hc : X.calm = true) : CallR X (.builtin "sorted") (Sor X.K X.prog X.w) := cr_imp (CallR.either (cr_zsort hc) (cr_sortedSet hc)) fun _ _ _ h => h.h
theorem uadd_of {K : PySem.W.Frag} {P : Program} {w : World} {σ : L2.St} {H : Hp} {Q : VK} {i j : Nat} (h : tAdd' K P w i j σ H Q) : tUAdd K P w (tVar i) (tCons (tVar j) tNil) σ H Q :=
  let ⟨s, v, hi, hj, h⟩ := h
  ⟨_, hi, h.h.elim (fun h => .inl ⟨h.1, _, hj, h.2⟩) (fun h => .inr ⟨h.1, _, hj, h.2⟩)⟩
end
end NS
end
section
/-! P2: halls called otherwise -/
namespace NS
/-- t with its halls called by m -/
def conj (m t : List Int) : List Int := comp (comp (inv m) t) m
section
variable {n : Nat} {m t : List Int}
theorem IsT.conj (hm : IsT n m) (ht : IsT n t) : IsT n (conj m t) := (hm.inv.comp ht).comp hm
theorem at_conj (hm : IsT n m) (ht : IsT n t) {k : Nat} (hk : k < n) : at' (conj m t) (at' m k) = at' m (at' t k) := by
  unfold NS.conj
  have h := hm.lt hk
  rw [at_comp (hm.inv.comp ht) m h, at_comp hm.inv t h, at_inv hm h]
  have e : m.idxOf (at' m k : Int) = k := by
    obtain ⟨h1, h2⟩ := idx_of hm h
    exact hm.inj h1 hk h2
  rw [e]
theorem conj_eq (hm : IsT n m) (ht : IsT n t) {fl : List Int} (hl : fl.length = n) (h : ∀ k, k < n → fl.getD (at' m k) 0 = m.getD (at' t k) 0) : fl = conj m t := by
  refine ext_at (d := 0) (by rw [hl, (hm.conj ht).len]) fun p hp => ?_
  rw [hl] at hp
  obtain ⟨h1, h2⟩ := idx_of hm hp
  have e := h _ h1
  rw [h2] at e
  rw [e, (hm.getD (ht.lt h1)).1, ((hm.conj ht).getD hp).1]
  have := at_conj hm ht h1
  rw [h2] at this
  rw [this]
theorem conj_comp (hm : IsT n m) {a b : List Int} (ha : IsT n a) (hb : IsT n b) : conj m (comp a b) = comp (conj m a) (conj m b) :=
  (hm.conj (ha.comp hb)).ext ((hm.conj ha).comp (hm.conj hb)) fun p hp => by
    obtain ⟨h1, h2⟩ := idx_of hm hp
    have e := at_conj hm (ha.comp hb) h1
    have e2 := at_conj hm ha h1
    have e3 := at_conj hm hb (ha.lt h1)
    rw [h2] at e e2
    rw [e, at_comp (hm.conj ha) _ hp, e2, e3, at_comp ha b h1]
theorem conj_idt (hm : IsT n m) : conj m (idt n) = idt n := by
  unfold NS.conj
  rw [comp_idt hm.inv, inv_comp hm]
end
end NS
end
section
/-! M2: what is reached leads back -/
namespace NS
theorem nd_of {α : Type} [DecidableEq α] : ∀ l : List α, ∃ L : List α, L.Nodup ∧ ∀ x, x ∈ L ↔ x ∈ l
  | [] => ⟨[], List.nodup_nil, fun _ => Iff.rfl⟩
  | a :: l => by
    obtain ⟨L, nd, mem⟩ := nd_of l
    by_cases h : a ∈ L
    · exact ⟨L, nd, fun x => ⟨fun hx => List.mem_cons_of_mem _ ((mem x).mp hx), fun hx => by
        rcases List.mem_cons.mp hx with e | e
        · rw [e]; exact h
        · exact (mem x).mpr e⟩⟩
    · exact ⟨a :: L, List.nodup_cons.mpr ⟨h, nd⟩, fun x => by rw [List.mem_cons, List.mem_cons, mem x]⟩
/-- what the turns make of a start -/
inductive Rch {α : Type} (step : α → List Int → α) (ts : List (List Int)) (a0 : α) : α → Prop
  | base : Rch step ts a0 a0
  | next {a : α} {t : List Int} : Rch step ts a0 a → t ∈ ts → Rch step ts a0 (step a t)
section
variable {α : Type} {step : α → List Int → α} {ts : List (List Int)} {a0 a b : α} {U : List α}
theorem Rch.inU (h0 : a0 ∈ U) (hc : ∀ a ∈ U, ∀ t ∈ ts, step a t ∈ U) (h : Rch step ts a0 a) : a ∈ U := by
  induction h with
  | base => exact h0
  | next _ ht ih => exact hc _ ih _ ht
theorem Rch.trans (h : Rch step ts a0 a) (h' : Rch step ts a b) : Rch step ts a0 b := by
  induction h' with
  | base => exact h
  | next _ ht ih => exact .next ih ht
theorem Rch.back (hc : ∀ a ∈ U, ∀ t ∈ ts, step a t ∈ U) (inj : ∀ t ∈ ts, ∀ a ∈ U, ∀ b ∈ U, step a t = step b t → a = b) (ha : a ∈ U) {t : List Int} (ht : t ∈ ts) : Rch step ts (step a t) a := by
  classical
  -- the list of what the later one reaches
  obtain ⟨L, nd, mem0⟩ := nd_of (U.filter fun y => decide (Rch step ts (step a t) y))
  have mem : ∀ y, y ∈ L ↔ y ∈ U ∧ Rch step ts (step a t) y := fun y => by rw [mem0, List.mem_filter, decide_eq_true_iff]
  have xU := hc a ha t ht
  have nd2 : (L.map fun y => step y t).Nodup := nodup_map nd fun x hx y hy e => inj t ht x ((mem x).mp hx).1 y ((mem y).mp hy).1 e
  have sub : ∀ x ∈ L.map (fun y => step y t), x ∈ L := fun x hx => by
    obtain ⟨y, hy, rfl⟩ := List.mem_map.mp hx
    exact (mem _).mpr ⟨hc y ((mem y).mp hy).1 t ht, .next ((mem y).mp hy).2 ht⟩
  have all := nd_all nd2 sub (by rw [List.length_map]; exact Nat.le_refl _) (step a t) ((mem _).mpr ⟨xU, .base⟩)
  obtain ⟨y, hy, e⟩ := List.mem_map.mp all
  have := inj t ht y ((mem y).mp hy).1 a ha e
  have h2 := ((mem y).mp hy).2
  rw [this] at h2
  exact h2
theorem Rch.symm (hc : ∀ a ∈ U, ∀ t ∈ ts, step a t ∈ U) (inj : ∀ t ∈ ts, ∀ a ∈ U, ∀ b ∈ U, step a t = step b t → a = b) (h0 : a0 ∈ U) (h : Rch step ts a0 a) : Rch step ts a a0 := by
  induction h with
  | base => exact .base
  | next h ht ih => exact (Rch.back hc inj (h.inU h0 hc) ht).trans ih
end
end NS
end
section
set_option maxHeartbeats 4000000
/-! R2: reached -/
namespace NS
open PySem PySem.Spec PyProof.Rows L2 ZS
def spReached (K : PySem.W.Frag) (P : Program) (w : World) (S : Addr → Option Sp) : Sp := fun vs H Q _ => ∃ (α : Type) (R : Rep K P w α) (step : α → List Int → α) (a0 : α) (ts : List (List Int)) (U : List α) (start tv most : V) (fl : Addr) (spl : Sp),
  vs = [start, tv, .ref fl, most] ∧ R.El H start a0 ∧ PTS K H tv ts ∧ S fl = some spl ∧
  a0 ∈ U ∧ (∀ a ∈ U, ∀ t ∈ ts, step a t ∈ U) ∧ U.length + 1 < R.lim ∧ (most = .non ∨ ∃ m : Int, most = .int m ∧ (U.length : Int) ≤ m) ∧
  (∀ H1 thing tw a t Q1, Kp H H1 → R.El H1 thing a → a ∈ U → TI K H1 tw t → t ∈ ts → (∀ v H2, Kp H1 H2 → R.El H2 v (step a t) → Q1 v H2) → spl [thing, tw] H1 Q1 (fun _ _ _ => False)) ∧
  ∀ p o H' vs' L, Kp H H' → H' p = some (.frz o (.tup vs')) → o.dict = none → Paired (R.El H') vs' L → L.Pairwise R.lt → L.Nodup → (∀ a, a ∈ L ↔ Rch step ts a0 a) → Q (.ref p) H'
/-- reached: all of it, or some and more than most -/
def spReachedM (K : PySem.W.Frag) (P : Program) (w : World) (S : Addr → Option Sp) : Sp := fun vs H Q _ => ∃ (α : Type) (R : Rep K P w α) (step : α → List Int → α) (a0 : α) (ts : List (List Int)) (U : List α) (start tv most : V) (fl : Addr) (spl : Sp),
  vs = [start, tv, .ref fl, most] ∧ R.El H start a0 ∧ PTS K H tv ts ∧ S fl = some spl ∧
  a0 ∈ U ∧ (∀ a ∈ U, ∀ t ∈ ts, step a t ∈ U) ∧ U.length + 1 < R.lim ∧ (most = .non ∨ ∃ m : Int, most = .int m) ∧
  (∀ H1 thing tw a t Q1, Kp H H1 → R.El H1 thing a → a ∈ U → TI K H1 tw t → t ∈ ts → (∀ v H2, Kp H1 H2 → R.El H2 v (step a t) → Q1 v H2) → spl [thing, tw] H1 Q1 (fun _ _ _ => False)) ∧
  ∀ p o H' vs' L, Kp H H' → H' p = some (.frz o (.tup vs')) → o.dict = none → Paired (R.El H') vs' L → L.Pairwise R.lt → L.Nodup → (∀ a ∈ L, Rch step ts a0 a) → ((∀ a, Rch step ts a0 a → a ∈ L) ∨ ∃ m : Int, most = .int m ∧ m < (L.length : Int)) → Q (.ref p) H'
theorem spReached_M {K : PySem.W.Frag} {P : Program} {w : World} {S : Addr → Option Sp} (vs : List V) (H : Hp) (Q : VK) (E : XK) (h : spReached K P w S vs H Q E) : spReachedM K P w S vs H Q E := by
  classical
  obtain ⟨α, R, step, a0, ts, U, start, tv, most, fl, spl, rfl, h0, hT, hS, u0, uc, ul, hm, hl, q⟩ := h
  refine ⟨α, R, step, a0, ts, U, start, tv, most, fl, spl, rfl, h0, hT, hS, u0, uc, ul, hm.imp id (fun ⟨m, e, _⟩ => ⟨m, e⟩), hl, fun p o H' vs' L zk hp ho hpr hpw hnd hr hall => q p o H' vs' L zk hp ho hpr hpw hnd fun a => ⟨hr a, fun ha => ?_⟩⟩
  rcases hall with h | ⟨m, e, hlt⟩
  · exact h a ha
  · exfalso
    rcases hm with h | ⟨m', e', hle⟩
    · rw [h] at e; cases e
    · rw [e'] at e
      cases e
      have := nd_le hnd (fun b hb => (hr b hb).inU u0 uc)
      omega
theorem scReached : FnScope ["start", "turns", "lead", "most", "seen", "waiting", "thing", "turn", "after"] ["start", "turns", "lead", "most"] (defScope sReached) := ⟨rfl, rfl, rfl, by decide +kernel, rfl, by decide +kernel, by decide +kernel⟩
theorem kds_of {K : PySem.W.Frag} {cd : Value} {q : Str} (h : PySem.W.codeIn K cd q = true) : PySem.W.kdsCode K cd = true := by
  unfold PySem.W.codeIn at h
  unfold PySem.W.kdsCode
  split at h
  · rename_i c
    split at h
    · rename_i heq
      simp only [heq]
    · cases h
  · cases h
theorem codeD {K : PySem.W.Frag} {x qual : Str} {params : Arguments} {body : List Stmt} {scope : Scope} {dvs : List V} {kws : List (Str × V)} {f : Addr} {fd : FuncData} (F : FunD K x qual params body scope dvs kws f fd) : PySem.W.codeIn K fd.code qual = true := by
  obtain ⟨oc, od, dV, kV, doc, pm, an, cdv, ct, osl, rfl, lk, hcd, _, _⟩ := F.ex
  exact hcd
theorem pair_el {K : PySem.W.Frag} {P : Program} {w : World} {α : Type} (R : Rep K P w α) {H H' : Hp} (z : Tup H H') {vs : List V} {as : List α} (h : Paired (R.El H) vs as) : Paired (R.El H') vs as := h.mono fun _ _ q => R.el_tup z q
theorem pr_append {α β : Type} {F : α → β → Prop} : ∀ {xs : List α} {ys : List β}, Paired F xs ys → xs ≠ [] → ∃ x y xs' ys', xs = xs' ++ [x] ∧ ys = ys' ++ [y] ∧ F x y ∧ Paired F xs' ys'
  | _, _, .nil, h => absurd rfl h
  | [x], [y], .cons p .nil, _ => ⟨x, y, [], [], rfl, rfl, p, .nil⟩
  | x :: x2 :: xs, y :: y2 :: ys, .cons p t, _ => by
    obtain ⟨u, v, xs', ys', e1, e2, q, r⟩ := pr_append t (by simp)
    exact ⟨u, v, x :: xs', y :: ys', by rw [e1]; rfl, by rw [e2]; rfl, q, .cons p r⟩
/-- ahead of each turn of the while -/
def WR {K : PySem.W.Frag} {P : Program} {w : World} {α : Type} (R : Rep K P w α) (step : α → List Int → α) (ts : List (List Int)) (a0 : α) (U : List α) (H : Hp) (start : V) (tb fl : Addr) (most : V) (sa wa : Addr) (m : Nat) (σ : L2.St) (H' : Hp) : Prop :=
  ∃ (L : List α) (ws : List V) (as : List α) (x y z : Option V), σ = [some start, some (.ref tb), some (.ref fl), some most, some (.ref sa), some (.ref wa), x, y, z] ∧ Kp H H' ∧ R.St H' sa L ∧ H' wa = some (.lst ws) ∧ Paired (R.El H') ws as ∧
    (∀ a ∈ as, a ∈ L) ∧ (∀ a ∈ L, Rch step ts a0 a) ∧ a0 ∈ L ∧ (∀ a ∈ L, a ∉ as → ∀ t ∈ ts, step a t ∈ L) ∧ m = 2 * (U.length - L.length) + as.length ∧ m ≤ 2 * U.length + 1
/-- ahead of each turn of the for -/
def FR {K : PySem.W.Frag} {P : Program} {w : World} {α : Type} (R : Rep K P w α) (step : α → List Int → α) (ts : List (List Int)) (a0 : α) (U : List α) (H : Hp) (start : V) (tb fl : Addr) (most : V) (sa wa : Addr) (v : V) (a : α) (m : Nat) (i : Nat) (σ : L2.St) (H' : Hp) : Prop :=
  ∃ (L : List α) (ws : List V) (as : List α) (y z : Option V), σ = [some start, some (.ref tb), some (.ref fl), some most, some (.ref sa), some (.ref wa), some v, y, z] ∧ Kp H H' ∧ R.El H' v a ∧ a ∈ L ∧ R.St H' sa L ∧ H' wa = some (.lst ws) ∧ Paired (R.El H') ws as ∧
    (∀ a ∈ as, a ∈ L) ∧ (∀ a ∈ L, Rch step ts a0 a) ∧ a0 ∈ L ∧ (∀ b ∈ L, b ∉ as → b ≠ a → ∀ t ∈ ts, step b t ∈ L) ∧ (∀ j, j < i → ∀ t, ts[j]? = some t → step a t ∈ L) ∧ 2 * (U.length - L.length) + as.length < m
theorem FR.kp {K : PySem.W.Frag} {P : Program} {w : World} {α : Type} {R : Rep K P w α} {step : α → List Int → α} {ts : List (List Int)} {a0 : α} {U : List α} {H : Hp} {start : V} {tb fl : Addr} {most : V} {sa wa : Addr} {v : V} {a : α} {m i : Nat} {σ : L2.St} {H' : Hp} (h : FR R step ts a0 U H start tb fl most sa wa v a m i σ H') : Kp H H' := by
  obtain ⟨L, ws, as, y, z, _, zk, _⟩ := h
  exact zk
section
variable {P : Program} {w : World} {K : PySem.W.Frag} {mg : Str → Option Value} {base : Heap} {f : Addr} {fd : FuncData}
theorem ok_reachedM (F : FunD K "reached" "reached" (defArgs sReached) (defBody sReached) (defScope sReached) [.non] [] f fd) (B : Bl mg) {S : Addr → Option Sp} (A : ∀ f sp, S f = some sp → Held P w K mg base 2 f sp) :
    FnOk P w K mg base CX0 3 f fd ["start", "turns", "lead", "most"] (spReachedM K P w S) := by
  refine ok_code F scReached (fun vs H Q E h => ?_) (fun cdv A' outer s H vs Q E hcd hr h => ⟨_, PSs.nox (
    pss_cons (ps_set (i := 4) scReached.nd rfl (Or.inl rfl) (pe_one' hr.units (show PySem.W.kdsCode K cdv = true by rw [hcd]; exact kds_of (codeD F)) (pv 0)))
    (pss_cons (ps_set (i := 5) scReached.nd rfl (Or.inl rfl) (pe_lst (pa_cons (pv 0) pa_nil)))
    (pss_cons (ps_while PassesOwn.never (PW.pt (pw_and (pt_truth (pv 5) (fun _ => rfl)) (pw_and1 (PW.pt (pw_or (pt_cmp (pc_isN (pv 3))) (pw_or1 (pt_cmpR op_le (pe_callB cr_len' rfl B.len PySem.boot_len (pa_cons (pv 4) pa_nil)) (pv 3) (nomark _)))))))) 
      (pss_cons (ps_set (i := 6) scReached.nd rfl (Or.inl rfl) (pe_bm0 PySem.F.plainAttrs_list PySem.F.slot_list_pop PySem.F.type_list_pop mt_pop (pv 5)))
      (pss_one (ps_for PassesOwn.never rfl (pi_tup (pv 1)) (pg_name (i := 7) scReached.nd rfl (Or.inl rfl))
        (pss_cons (ps_set (i := 8) scReached.nd rfl (Or.inl rfl) (pe_callA (i := 2) A hr rfl (.inl rfl) (pa_cons (pv 6) (pa_cons (pv 7) pa_nil))))
        (pss_one (ps_if (pt_cmpR (op_nin hr.units) (pv 8) (pv 4) rfl)
          (pss_cons (ps_expr (pe_imp (pe_uadd hr.units (pv 4) (pa_cons (pv 8) pa_nil)) (fun _ _ _ h => uadd_of h))) (pss_one (ps_expr (pe_bm PySem.F.plainAttrs_list PySem.F.slot_list_append PySem.F.type_list_append mt_append (pv 5) (pa_cons (pv 8) pa_nil))))) pss_nil)))))))
    (pss_one (ps_ret (pe_callTy cr_tupP rfl B.tuple PyProof.Rows.boot_tuple (pa_cons (pe_callB (cr_sor rfl) rfl B.sorted PyProof.Rows.boot_sorted (pa_cons (pv 4) pa_nil)) pa_nil))))))), ?_⟩)
  · obtain ⟨α, R, step, a0, ts, U, start, tv, most, fl, spl, rfl, _⟩ := h
    rfl
  · classical
    obtain ⟨α, R, step, a0, ts, U, start, tv, most, fl, spl, rfl, h0, ⟨tb, tvs, rfl, hT, hp⟩, hS, u0, uc, ul, hm, hl, q⟩ := h
    refine ⟨_, rfl, R.one h0 fun sa o hsa st1 => ?_⟩
    refine ⟨_, rfl, (by show 1 ≤ sizeLine; decide), fun wa hwa => ?_⟩
    have nws : wa ≠ sa := fun e => by rw [e, upd_same] at hwa; cases hwa
    have hwa0 : H wa = none := by rw [upd_ne nws] at hwa; exact hwa
    have tl := hp.length
    have Rb := R.big
    have inU : ∀ L : List α, (∀ b ∈ L, Rch step ts a0 b) → ∀ b ∈ L, b ∈ U := fun L h b hb => (h b hb).inU u0 uc
    refine ⟨WR R step ts a0 U H start tb fl most sa wa, ⟨2 * (U.length - 1) + 1, [a0], [start], [a0], none, none, none, rfl, ((Kp.refl H).new hsa).put hwa0, R.st_tup (Tup.new hwa) (upd_ne nws.symm) st1, upd_same, .cons (R.el_tup ((Tup.new hsa).trans (Tup.new hwa)) h0) .nil, fun a h => h, fun a h => by rw [List.mem_singleton.mp h]; exact .base, List.mem_singleton.mpr rfl, fun a h h' => absurd h h', rfl, by omega⟩, ?_⟩
    rintro m σ H' ⟨L, ws, as, x, y, z, rfl, zk, st, hw, hp2, sub, rch, m0, cl, rfl, mle⟩
    obtain ⟨os, hos, nos, ndL⟩ := R.st_some st
    have lU : L.length ≤ U.length := nd_le ndL (inU L rch)
    have hor : ∀ Qw : Bool → Hp → Prop, Qw true H' → ((∃ m : Int, most = .int m ∧ m < (L.length : Int)) → Qw false H') → tOr (tB (tIsN (tVar 3))) (tTest (tOp (rI0 fun i j => .bl (decide (i ≤ j))) (tCB (Len K P w) (tCons (tVar 4) tNil)) (tVar 3))) [some start, some (.ref tb), some (.ref fl), some most, some (.ref sa), some (.ref wa), x, y, z] H' Qw := fun Qw hq hf => by
      rcases hm with rfl | ⟨mm, rfl⟩
      · exact ⟨_, rfl, _, rfl, ifT (A := _) (B := _) (decide_eq_true rfl) hq⟩
      · refine ⟨_, rfl, _, rfl, ifF (A := _) (B := _) (decide_eq_false (fun e => by cases e)) ⟨_, rfl, R.len st ⟨_, rfl, _, _, rfl, rfl, _, rfl, ?_⟩⟩⟩
        by_cases hle : (L.length : Int) ≤ mm
        · rw [decide_eq_true hle]
          exact hq
        · rw [decide_eq_false hle]
          exact hf ⟨mm, rfl, by omega⟩
    have fin : ((∀ a, Rch step ts a0 a → a ∈ L) ∨ ∃ m : Int, most = .int m ∧ m < (L.length : Int)) → tCB (fun xs H Q => ∃ p ys, xs = [.ref p] ∧ SqL K H p ys ∧ ∀ l o, H l = none → o.dict = none → Q (.ref l) (upd H l (.frz o (.tup ys)))) (tCons (tCB (Sor K P w) (tCons (tVar 4) tNil)) tNil) [some start, some (.ref tb), some (.ref fl), some most, some (.ref sa), some (.ref wa), x, y, z] H' Q := fun hall => by
      refine ⟨_, rfl, R.sort st (by omega) fun p vs' L' pm pw hpn hpr => ⟨p, vs', rfl, SqL.of upd_same, fun l o2 hl2 ho2 => ?_⟩⟩
      exact q l o2 _ vs' L' ((zk.new hpn).new hl2) upd_same ho2 (pair_el R ((Tup.new hpn).trans (Tup.new hl2)) hpr) pw (pm.nodup_iff.mpr ndL) (fun a ha => rch a (pm.mem_iff.mp ha)) (hall.imp (fun h a ha => pm.mem_iff.mpr (h a ha)) (fun ⟨m, e, hlt⟩ => ⟨m, e, by rw [pm.length_eq]; exact hlt⟩))
    refine ⟨_, rfl, _, .inl ⟨ws, SqL.of hw, rfl⟩, ?_⟩
    by_cases hws : ws = []
    · subst hws
      cases hp2
      refine ifF (A := _) (B := _) rfl (ifF (A := _) (B := _) rfl (fin (.inl fun a h => ?_)))
      induction h with
      | base => exact m0
      | next _ ht ih => exact cl _ ih List.not_mem_nil _ ht
    · refine ifT (A := _) (B := _) (by cases ws with | nil => exact absurd rfl hws | cons _ _ => rfl) (hor _ (ifT (A := _) (B := _) rfl ?_) fun hm => ifF (A := _) (B := _) rfl (fin (.inr hm)))
      obtain ⟨v, a, ws', as', rfl, rfl, hva, hp3⟩ := pr_append hp2 hws
      refine ⟨fun σ' H'' => ∃ m', m' < 2 * (U.length - L.length) + (as' ++ [a]).length ∧ WR R step ts a0 U H start tb fl most sa wa m' σ' H'', fun σ' H'' h => h, ?_⟩
      refine ⟨_, rfl, .inl ⟨rfl, _, SqL.of hw⟩, wa, _, v, rfl, rfl, hw, by simp, ?_⟩
      rw [List.dropLast_concat]
      have tz : Tup H' (upd H' wa (.lst ws')) := Tup.put (by rw [hw]; trivial)
      refine ⟨_, rfl, tb, rfl, ⟨_, (zk.put hwa0).sqT hT⟩, ?_⟩
      refine forG (Wlk.tup hT) (FR R step ts a0 U H start tb fl most sa wa v a (2 * (U.length - L.length) + (as' ++ [a]).length)) ⟨L, ws', as', y, z, rfl, zk.put hwa0, R.el_tup tz hva, sub a (by simp), R.st_tup tz (upd_ne nws.symm) st, upd_same, pair_el R tz hp3, fun b hb => sub b (by simp [hb]), rch, m0, fun b hb h1 h2 => cl b hb (by simp [h1, h2]), fun j hj => absurd hj (Nat.not_lt_zero _), by rw [List.length_append]; simp⟩
        (fun i σ' H1 _ h => h.kp) (fun i tw σ' H1 H2 hi hpv z12 hx => ?_) (fun σ' H1 hpv => ?_)
      · obtain ⟨L4, ws4, as4, y4, z4, rfl, zk4, el4, ma, st4, hw4, hp4, sub4, rch4, m04, cl4, done4, ms⟩ := hpv
        obtain ⟨os4, hos4, nos4, nd4⟩ := R.st_some st4
        obtain ⟨t, ht, pt⟩ := pr_get hp hx
        have mt := List.mem_of_getElem? ht
        have lU4 : L4.length ≤ U.length := nd_le nd4 (inU L4 rch4)
        refine ⟨fl, spl, rfl, hS, _, rfl, _, rfl, hl _ _ _ a t _ (zk4.trans z12) (R.el_tup z12.tup el4) (inU L4 rch4 a ma) ((zk4.trans z12).ti pt) mt fun v' H4 z24 e4 => ?_⟩
        have zz := z12.trans z24
        have st5 := R.st_tup zz.tup ((zz.k _ _ hos4 nos4).trans hos4.symm) st4
        have hw5 := zz.lst hw4
        refine ⟨_, rfl, _, rfl, R.notin e4 st5 fun b hb => ⟨_, rfl, ?_⟩⟩
        by_cases hb1 : b = true
        · have na := hb.mp hb1
          have lU5 : (step a t :: L4).length ≤ U.length := nd_le (List.nodup_cons.mpr ⟨na, nd4⟩) (inU _ fun b hb => by
            rcases List.mem_cons.mp hb with e | e
            · rw [e]; exact .next (rch4 a ma) mt
            · exact rch4 b e)
          simp only [List.length_cons] at lU5
          refine ifT (A := _) (B := _) hb1 ⟨_, _, rfl, rfl, R.add e4 st5 na (by omega) fun o5 z5 st6 => ?_⟩
          have hw6 : (upd H4 sa o5) wa = some (.lst ws4) := by rw [upd_ne nws]; exact hw5
          have pl := hp4.length
          refine ⟨_, rfl, .inl ⟨rfl, _, SqL.of hw6⟩, _, rfl, wa, ws4, v', rfl, rfl, hw6, by rw [sizeLine_eq]; omega, ?_⟩
          have z6 : Tup (upd H4 sa o5) (upd (upd H4 sa o5) wa (.lst (ws4 ++ [v']))) := Tup.put (by rw [hw6]; trivial)
          have z46 := z5.trans z6
          refine ⟨step a t :: L4, ws4 ++ [v'], as4 ++ [step a t], _, _, rfl, ((zk4.trans zz).put hsa).put hwa0, R.el_tup (zz.tup.trans z46) el4, List.mem_cons_of_mem _ ma, R.st_tup z6 (upd_ne nws.symm) st6, upd_same, Paired.snoc (pair_el R (zz.tup.trans z46) hp4) (R.el_tup z46 e4), fun b hb => ?_, fun b hb => ?_, List.mem_cons_of_mem _ m04, fun b hb h1 h2 t' ht' => ?_, fun j hj t' ht' => ?_, ?_⟩
          · rcases List.mem_append.mp hb with e | e
            · exact List.mem_cons_of_mem _ (sub4 b e)
            · rw [List.mem_singleton.mp e]; exact List.mem_cons_self ..
          · rcases List.mem_cons.mp hb with e | e
            · rw [e]; exact .next (rch4 a ma) mt
            · exact rch4 b e
          · rcases List.mem_cons.mp hb with e | e
            · exact absurd (by rw [e]; simp) h1
            · exact List.mem_cons_of_mem _ (cl4 b e (fun h => h1 (by simp [h])) h2 t' ht')
          · rcases Nat.lt_succ_iff_lt_or_eq.mp hj with e | e
            · exact List.mem_cons_of_mem _ (done4 j e t' ht')
            · rw [e, ht] at ht'
              cases ht'
              exact List.mem_cons_self ..
          · rw [List.length_append, List.length_cons, List.length_singleton]
            omega
        · refine ifF (A := _) (B := _) (by simpa using hb1) ?_
          have ina : step a t ∈ L4 := Classical.not_not.mp fun h => hb1 (hb.mpr h)
          refine ⟨L4, ws4, as4, _, _, rfl, zk4.trans zz, R.el_tup zz.tup el4, ma, st5, hw5, pair_el R zz.tup hp4, sub4, rch4, m04, cl4, fun j hj t' ht' => ?_, ms⟩
          rcases Nat.lt_succ_iff_lt_or_eq.mp hj with e | e
          · exact done4 j e t' ht'
          · rw [e, ht] at ht'
            cases ht'
            exact ina
      · obtain ⟨L4, ws4, as4, y4, z4, rfl, zk4, el4, ma, st4, hw4, hp4, sub4, rch4, m04, cl4, done4, ms⟩ := hpv
        refine ⟨_, ms, L4, ws4, as4, _, _, _, rfl, zk4, st4, hw4, hp4, sub4, rch4, m04, fun b hb h1 t ht => ?_, rfl, by omega⟩
        by_cases e : b = a
        · obtain ⟨j, hj, e2⟩ := List.mem_iff_getElem.mp ht
          rw [e]
          exact done4 j (by rw [tl]; exact hj) t (by rw [List.getElem?_eq_getElem hj, e2])
        · exact cl4 b hb h1 e t ht
theorem ok_reached (F : FunD K "reached" "reached" (defArgs sReached) (defBody sReached) (defScope sReached) [.non] [] f fd) (B : Bl mg) {S : Addr → Option Sp} (A : ∀ f sp, S f = some sp → Held P w K mg base 2 f sp) :
    FnOk P w K mg base CX0 3 f fd ["start", "turns", "lead", "most"] (spReached K P w S) := (ok_reachedM F B A).imp spReached_M
end
end NS
end
section
set_option maxHeartbeats 4000000
/-! G2: members, order, is_member, made, likes -/
namespace NS
open PySem PySem.Spec PyProof.Rows L2 ZS
/-- v is a tuple of the things of L -/
def TupEl (H : Hp) (El : V → α → Prop) (v : V) (L : List α) : Prop := ∃ p o vs, v = .ref p ∧ H p = some (.frz o (.tup vs)) ∧ o.dict = none ∧ Paired El vs L
/-- a turn of the group -/
abbrev Grp (n : Nat) (ts : List (List Int)) : List Int → Prop := Rch comp ts (idt n)
def likeS (a t : List Int) : List Int := comp (comp (inv t) a) t
/-- U holds a0 and all that the turns make of what it holds; few turns of n halls -/
structure Room' (n : Nat) (step : List Int → List Int → List Int) (ts : List (List Int)) (a0 : List Int) (U : List (List Int)) : Prop where
  a0 : a0 ∈ U
  cl : ∀ a ∈ U, ∀ t ∈ ts, step a t ∈ U
  is : ∀ a ∈ U, IsT n a
  few : U.length ≤ 4000
/-- the ascending list of what is reached -/
structure Asc {α : Type} (lt : α → α → Prop) (G : α → Prop) (L : List α) : Prop where
  pw : L.Pairwise lt
  nd : L.Nodup
  mem : ∀ a, a ∈ L ↔ G a
abbrev ltT (a b : List Int) : Prop := lexI a b = true
theorem ne_len {n : Nat} {a : List Int} (h : IsT n a) (hn : 1 ≤ n) : a ≠ [] := fun e => by
  have := h.len
  rw [e] at this
  simp at this
  omega
section
variable {P : Program} {w : World} {K : PySem.W.Frag} {mg : Str → Option Value} {base : Heap} {f : Addr} {fd : FuncData} {pT pA : Addr} {S : Addr → Option Sp}
end
end NS
end
section
set_option maxHeartbeats 4000000
/-! D2: set comprehensions of keys -/
namespace NS
open PySem PySem.Spec PyProof.Rows L2 ZS
theorem zscG {K : PySem.W.Frag} {P : Program} {w : World} {J : It} {te : TE} {vs : List Nat} {σ : L2.St} {H : Hp} {D : Addr} {i0 : Nat} {Qd : Hp → Prop} {n : Nat} {Y : Nat → V → Hp → Prop} (wk : Wlk J H n Y) (hD : H D = none) (few : n < 5000)
    (Ky : Nat → NK → Prop) (fn : ∀ i k k', Ky i k → Ky i k' → k = k') (Xp : Addr → NK → Hp → Prop) (xt : ∀ a k H1 H2, Tup H1 H2 → Xp a k H1 → Xp a k H2) (xe : ∀ a k H1, Xp a k H1 → ElK K H1 a k)
    (el : ∀ i x H' (Q1 : VK), i < n → Kp H H' → Y i x H' → (∀ b k H4, Kp H' H4 → Ky i k → Xp b k H4 → Q1 (.ref b) H4) → te ((wipe σ vs).set i0 (some x)) H' Q1)
    (fin : ∀ L H', Kp H H' → H' D = some (ZSet P w D L) → (L.map (·.2)).Nodup → (∀ k, k ∈ L.map (·.2) ↔ ∃ i, i < n ∧ Ky i k) → (∀ p ∈ L, Xp p.1 p.2 H') → Qd H') :
    ∃ W : Nat → Nat → Hp → Prop, (∃ m, W 0 m (upd H D (ZSet P w D []))) ∧ ∀ i m H2, W i m H2 →
      (J.stop i H2 ∧ Qd H2) ∨ (J.go i H2 ∧ ∀ x H3, J.yld i H2 x H3 → te ((wipe σ vs).set i0 (some x)) H3 fun y H4 => ∃ b k L, y = .ref b ∧ H4 D = some (ZSet P w D L) ∧ (∀ p ∈ L, ElK K H4 p.1 p.2) ∧ ElK K H4 b k ∧ L.length + 1 < zBound ∧
        ∀ L', (k ∈ L.map (·.2) → L' = L) → (k ∉ L.map (·.2) → L'.Perm ((b, k) :: L)) → ∃ m', m' < m ∧ W (i + 1) m' (upd H4 D (ZSet P w D L'))) := by
  refine ⟨fun i m H' => m = n - i ∧ i ≤ n ∧ Kp H H' ∧ ∃ L, H' D = some (ZSet P w D L) ∧ L.length ≤ i ∧ (L.map (·.2)).Nodup ∧ (∀ k, k ∈ L.map (·.2) ↔ ∃ j, j < i ∧ Ky j k) ∧ ∀ p ∈ L, Xp p.1 p.2 H',
    ⟨n, by simp, Nat.zero_le _, (Kp.refl H).new hD, [], upd_same, Nat.le_refl _, List.nodup_nil, fun k => ⟨fun h => by simp at h, fun ⟨j, hj, _⟩ => absurd hj (Nat.not_lt_zero _)⟩, fun p h => by cases h⟩, ?_⟩
  rintro i m H1 ⟨rfl, hi, z, L, hL, hl, nd, mem, hx⟩
  by_cases hlt : i < n
  · refine .inr ⟨wk.go i H1 z hlt, fun x H' y => ?_⟩
    obtain ⟨zy, yy⟩ := wk.yld i H1 x H' z hlt y
    refine el i x H' _ hlt (z.trans zy) yy fun b k H4 z4 hk xk => ?_
    have z14 := zy.trans z4
    have hD4 : H4 D = some (ZSet P w D L) := z14.k _ _ hL (fun _ q => by cases q)
    refine ⟨b, k, L, rfl, hD4, fun p hp => xe _ _ _ (xt _ _ _ _ z14.tup (hx p hp)), xe _ _ _ xk, by have : zBound = 9000 := rfl; omega, fun L' h1 h2 => ⟨n - (i + 1), by omega, rfl, hlt, (z.trans z14).put hD, L', upd_same, ?_⟩⟩
    have tz : Tup H4 (upd H4 D (ZSet P w D L')) := Tup.put (by rw [hD4]; trivial)
    by_cases hm : k ∈ L.map (·.2)
    · obtain rfl := h1 hm
      refine ⟨by omega, nd, fun k' => ⟨fun h => ?_, fun ⟨j, hj, q⟩ => ?_⟩, fun p hp => xt _ _ _ _ (z14.tup.trans tz) (hx p hp)⟩
      · obtain ⟨j, hj, q⟩ := (mem k').mp h
        exact ⟨j, by omega, q⟩
      · rcases Nat.lt_succ_iff_lt_or_eq.mp hj with e | e
        · exact (mem k').mpr ⟨j, e, q⟩
        · subst e
          rw [fn _ _ _ q hk]
          exact hm
    · have pm := h2 hm
      have pm2 := pm.map (·.2)
      refine ⟨by rw [pm.length_eq]; simp only [List.length_cons]; omega, pm2.nodup_iff.mpr (List.nodup_cons.mpr ⟨hm, nd⟩), fun k' => ?_, fun p hp => ?_⟩
      · rw [pm2.mem_iff, List.map_cons, List.mem_cons]
        constructor
        · rintro (h | h)
          · exact ⟨i, by omega, by rw [h]; exact hk⟩
          · obtain ⟨j, hj, q⟩ := (mem k').mp h
            exact ⟨j, by omega, q⟩
        · rintro ⟨j, hj, q⟩
          rcases Nat.lt_succ_iff_lt_or_eq.mp hj with e | e
          · exact .inr ((mem k').mpr ⟨j, e, q⟩)
          · subst e
            exact .inl (fn _ _ _ q hk)
      · rcases List.mem_cons.mp (pm.mem_iff.mp hp) with e | e
        · rw [e]
          exact xt _ _ _ _ tz xk
        · exact xt _ _ _ _ (z14.tup.trans tz) (hx p e)
  · have e : i = n := by omega
    subst e
    exact .inl ⟨wk.stop H1 z, fin L H1 z hL nd mem hx⟩
theorem keys_of {G : Addr → List Int → Prop} : ∀ {L : List (Addr × NK)}, (∀ p ∈ L, ∃ ns, p.2 = tk ns ∧ G p.1 ns) → ∃ L' : List (Addr × List Int), L = keys L' ∧ ∀ q ∈ L', G q.1 q.2
  | [], _ => ⟨[], rfl, fun _ h => by cases h⟩
  | (a, k) :: L, h => by
    obtain ⟨ns, e, g⟩ := h (a, k) (List.mem_cons_self ..)
    obtain ⟨L', e', g'⟩ := keys_of (L := L) fun p hp => h p (List.mem_cons_of_mem _ hp)
    refine ⟨(a, ns) :: L', ?_, fun q hq => ?_⟩
    · rw [e']
      show (a, k) :: keys L' = (a, tk ns) :: keys L'
      rw [show k = tk ns from e]
    · rcases List.mem_cons.mp hq with e | e
      · rw [e]; exact g
      · exact g' q e
/-- ascending lists of the same things are one -/
theorem asc_unique {α : Type} {lt : α → α → Prop} (irr : ∀ a, ¬ lt a a) (tr : ∀ a b, lt a b → ¬ lt b a) : ∀ {l m : List α}, l.Pairwise lt → m.Pairwise lt → (∀ a, a ∈ l ↔ a ∈ m) → l = m
  | [], [], _, _, _ => rfl
  | [], b :: m, _, _, h => by have := (h b).mpr (List.mem_cons_self ..); cases this
  | a :: l, [], _, _, h => by have := (h a).mp (List.mem_cons_self ..); cases this
  | a :: l, b :: m, hl, hm, h => by
    obtain ⟨l1, l2⟩ := List.pairwise_cons.mp hl
    obtain ⟨m1, m2⟩ := List.pairwise_cons.mp hm
    have e : a = b := by
      rcases List.mem_cons.mp ((h a).mp (List.mem_cons_self ..)) with q | q
      · exact q
      · rcases List.mem_cons.mp ((h b).mpr (List.mem_cons_self ..)) with q2 | q2
        · exact q2.symm
        · exact absurd (l1 b q2) (tr _ _ (m1 a q))
    subst e
    congr 1
    refine asc_unique irr tr l2 m2 fun x => ⟨fun hx => ?_, fun hx => ?_⟩
    · rcases List.mem_cons.mp ((h x).mp (List.mem_cons_of_mem _ hx)) with q | q
      · rw [q] at hx
        exact absurd (l1 a hx) (irr a)
      · exact q
    · rcases List.mem_cons.mp ((h x).mpr (List.mem_cons_of_mem _ hx)) with q | q
      · rw [q] at hx
        exact absurd (m1 a hx) (irr a)
      · exact q
theorem Asc.uniq {α : Type} {lt : α → α → Prop} (irr : ∀ a, ¬ lt a a) (tr : ∀ a b, lt a b → ¬ lt b a) {G : α → Prop} {l m : List α} (hl : Asc lt G l) (hm : Asc lt G m) : l = m := asc_unique irr tr hl.pw hm.pw fun a => (hl.mem a).trans (hm.mem a).symm
theorem ltT_irr (a : List Int) : ¬ ltT a a := fun h => by rw [ltT, lexI_irr] at h; cases h
theorem ltT_tr (a b : List Int) (h : ltT a b) : ¬ ltT b a := fun h2 => by rw [ltT, lexI_asym a b h] at h2; cases h2
/-- the pairs of places, row by row -/
def grid (n m : Nat) : List (Nat × Nat) := (List.range n).flatMap fun i => (List.range m).map fun j => (i, j)
theorem grid_succ (n m : Nat) : grid (n + 1) m = grid n m ++ (List.range m).map fun j => (n, j) := by
  unfold grid
  rw [List.range_succ, List.flatMap_append]
  simp
theorem grid_len (n m : Nat) : (grid n m).length = n * m := by
  induction n with
  | zero => simp [grid]
  | succ n ih => rw [grid_succ, List.length_append, ih, List.length_map, List.length_range, Nat.succ_mul]
/-- two ranges, no tests -/
theorem lc2F {te : TE} {wi1 : L2.TI} {vs vs1 : List Nat} {σ : L2.St} {H : Hp} {D : Addr} {Qd : Hp → Prop} {a b n m : Nat} (hD : H D = none) (hz : n * m < sizeLine)
    (R : Nat → Nat → V → Hp → Prop) (st : ∀ i j y H1 H2, Tup H1 H2 → R i j y H1 → R i j y H2)
    (hs : ∀ v, wipe ((wipe σ vs).set a (some v)) vs = wipe σ vs) (hs1 : ∀ u v, wipe ((wipe ((wipe σ vs).set a (some u)) vs1).set b (some v)) vs1 = wipe ((wipe σ vs).set a (some u)) vs1)
    (hw1 : ∀ i H' Rr, i < n → Kp H H' → Rr (Itr 0 m) H' → wi1 ((wipe σ vs).set a (some (.int (0 + (i : Nat))))) H' Rr)
    (el : ∀ i j H' (Q1 : VK), i < n → j < m → Kp H H' → (∀ y H4, Kp H' H4 → R i j y H4 → Q1 y H4) → te ((wipe ((wipe σ vs).set a (some (.int (0 + (i : Nat))))) vs1).set b (some (.int (0 + (j : Nat))))) H' Q1)
    (fin : ∀ ys H', Kp H H' → H' D = some (.lst ys) → Paired (fun p y => R p.1 p.2 y H') (grid n m) ys → Qd H') :
    ∃ W : Nat → Nat → Hp → Prop, (∃ m, W 0 m (upd H D (.lst []))) ∧ ∀ i m H, W i m H →
      ((Itr 0 n).stop i H ∧ Qd H) ∨ ((Itr 0 n).go i H ∧ ∃ Nx : Hp → Prop, (∀ H', Nx H' → ∃ m', m' < m ∧ W (i + 1) m' H') ∧ ∀ x H', (Itr 0 n).yld i H x H' → gName a x (wipe σ vs) H' fun σ2 H2 => wipe σ2 vs = wipe σ vs ∧ tYes σ2 H2 fun c H3 =>
        if c = true then wi1 σ2 H3 fun J1 H4 => ∃ W1 : Nat → Nat → Hp → Prop, (∃ m, W1 0 m H4) ∧ ∀ j k H, W1 j k H →
          (J1.stop j H ∧ Nx H) ∨ (J1.go j H ∧ ∃ Nx1 : Hp → Prop, (∀ H', Nx1 H' → ∃ k', k' < k ∧ W1 (j + 1) k' H') ∧ ∀ x H', J1.yld j H x H' → gName b x (wipe σ2 vs1) H' fun σ3 H5 => wipe σ3 vs1 = wipe σ2 vs1 ∧ tYes σ3 H5 fun c H6 =>
            if c = true then te σ3 H6 fun y H7 => ∃ acc, H7 D = some (.lst acc) ∧ acc.length < sizeLine ∧ Nx1 (upd H7 D (.lst (acc ++ [y]))) else Nx1 H6)
        else Nx H3) := by
  let G : List (Nat × Nat) → Hp → Prop := fun l H' => Kp H H' ∧ ∃ ys, H' D = some (.lst ys) ∧ Paired (fun p y => R p.1 p.2 y H') l ys
  refine ⟨fun i k H' => k = n - i ∧ i ≤ n ∧ G (grid i m) H', ⟨n, by simp, Nat.zero_le _, (Kp.refl H).new hD, [], upd_same, .nil⟩, ?_⟩
  rintro i k H1 ⟨rfl, hi, z, ys, hy, hp⟩
  by_cases hlt : i < n
  · refine .inr ⟨hlt, G (grid (i + 1) m), fun H' p => ⟨n - (i + 1), by omega, rfl, hlt, p⟩, fun x H' y => ?_⟩
    obtain ⟨e, y⟩ := y
    subst e y
    refine ⟨hs _, ifT (B := G (grid (i + 1) m) H') rfl (hw1 i _ _ hlt z ?_)⟩
    refine ⟨fun j k H' => k = m - j ∧ j ≤ m ∧ G (grid i m ++ (List.range j).map fun j => (i, j)) H', ⟨m, by simp, Nat.zero_le _, z, ys, hy, by simpa using hp⟩, ?_⟩
    rintro j k H2 ⟨rfl, hj, z2, ys2, hy2, hp2⟩
    by_cases hjt : j < m
    · refine .inr ⟨hjt, G (grid i m ++ (List.range (j + 1)).map fun j => (i, j)), fun H' p => ⟨m - (j + 1), by omega, rfl, hjt, p⟩, fun x H' y => ?_⟩
      obtain ⟨e, y⟩ := y
      subst e y
      refine ⟨hs1 _ _, ifT (B := G (grid i m ++ (List.range (j + 1)).map fun j => (i, j)) H') rfl (el i j _ _ hlt hjt z2 fun y H4 z4 r4 => ?_)⟩
      have hD4 := z4.lst hy2
      have hl : ys2.length < sizeLine := by
        have e1 := hp2.length
        rw [List.length_append, grid_len, List.length_map, List.length_range] at e1
        have : (i + 1) * m ≤ n * m := Nat.mul_le_mul_right m hlt
        rw [Nat.succ_mul] at this
        omega
      have tz : Tup H4 (upd H4 D (.lst (ys2 ++ [y]))) := Tup.put (by rw [hD4]; trivial)
      refine ⟨ys2, hD4, hl, (z2.trans z4).put hD, _, upd_same, ?_⟩
      rw [List.range_succ, List.map_append, ← List.append_assoc]
      exact Paired.snoc (hp2.mono fun p y q => st _ _ _ _ _ (z4.tup.trans tz) q) (st _ _ _ _ _ tz r4)
    · have e : j = m := by omega
      subst e
      refine .inl ⟨Nat.le_refl _, z2, ys2, hy2, ?_⟩
      rw [grid_succ]
      exact hp2
  · have e : i = n := by omega
    subst e
    exact .inl ⟨Nat.le_refl _, fin ys H1 z hy hp⟩
end NS
end
section
set_option maxHeartbeats 4000000
/-! G3: parts, is_transitive, rank -/
namespace NS
open PySem PySem.Spec PyProof.Rows L2 ZS
theorem scParts : FnScope ["house", "halls", "turns", "hall"] ["house"] (defScope sParts) := ⟨rfl, rfl, rfl, by decide +kernel, rfl, by decide +kernel, by decide +kernel⟩
theorem scTrans : FnScope ["house"] ["house"] (defScope sTrans) := ⟨rfl, rfl, rfl, by decide +kernel, rfl, by decide +kernel, by decide +kernel⟩
theorem scRank : FnScope ["house", "halls", "turns", "pairs", "first", "second", "pair"] ["house"] (defScope sRank) := ⟨rfl, rfl, rfl, by decide +kernel, rfl, by decide +kernel, by decide +kernel⟩
def hallS (a : Int) (t : List Int) : Int := t.getD a.toNat 0
/-- the halls to which hall h is led -/
abbrev Orb (ts : List (List Int)) (h : Int) : Int → Prop := Rch hallS ts h
/-- k is the ascending lot of hall h -/
abbrev Lot (ts : List (List Int)) (h : Int) (k : List Int) : Prop := Asc (· < ·) (Orb ts h) k
theorem lot_uniq {ts : List (List Int)} {h : Int} {k k' : List Int} (a : Lot ts h k) (b : Lot ts h k') : k = k' := Asc.uniq (fun a => Int.lt_irrefl a) (fun a b h1 h2 => by omega) a b
/-- all lots of halls -/
abbrev Lots (n : Nat) (ts : List (List Int)) (k : List Int) : Prop := ∃ i : Nat, i < n ∧ Lot ts i k
/-- the pairs of halls to which a pair is led -/
abbrev Lot2 (ts : List (List Int)) (p : List Int) (k : List (List Int)) : Prop := Asc ltT (Rch comp ts p) k
theorem lot2_uniq {ts : List (List Int)} {p : List Int} {k k' : List (List Int)} (a : Lot2 ts p k) (b : Lot2 ts p k') : k = k' := Asc.uniq ltT_irr ltT_tr a b
def pr2 (p : Nat × Nat) : List Int := [(p.1 : Int), (p.2 : Int)]
abbrev Lots2 (n : Nat) (ts : List (List Int)) (k : List (List Int)) : Prop := ∃ p, p ∈ grid n n ∧ Lot2 ts (pr2 p) k
theorem few_of {α : Type} {L : List α} {n : Nat} {G : Nat → α → Prop} (nd : L.Nodup) (e : ∀ k ∈ L, ∃ i, i < n ∧ G i k) (fn : ∀ i a b, G i a → G i b → a = b) : L.length ≤ n := by
  classical
  let f : α → Nat := fun k => if h : ∃ i, i < n ∧ G i k then Classical.choose h else 0
  have hf : ∀ k ∈ L, f k < n ∧ G (f k) k := fun k hk => by
    have h := e k hk
    have q : f k = Classical.choose h := dif_pos h
    rw [q]
    exact Classical.choose_spec h
  have h1 : (L.map f).Nodup := nodup_map nd fun x hx y hy q => fn _ _ _ (hf x hx).2 (by rw [q]; exact (hf y hy).2)
  have h2 := nd_le (b := List.range n) h1 fun x hx => by
    obtain ⟨k, hk, rfl⟩ := List.mem_map.mp hx
    exact List.mem_range.mpr (hf k hk).1
  rwa [List.length_map, List.length_range] at h2
def spParts (K : PySem.W.Frag) (pT pA : Addr) : Sp := fun vs H Q _ => ∃ (v : V) (n : Nat) (ts : List (List Int)), vs = [v] ∧ HouseAt K H v n ts ∧ IsH n ts ∧ GxR.TabG H pT ∧ GxR.TabG H pA ∧
  ∀ r H' LL, Kp H H' → TupEl H' (ElT K H') r LL → Asc ltT (Lots n ts) LL → LL.length ≤ n → Q r H'
def spTrans (K : PySem.W.Frag) (pT pA : Addr) : Sp := fun vs H Q _ => ∃ (v : V) (n : Nat) (ts : List (List Int)), vs = [v] ∧ HouseAt K H v n ts ∧ IsH n ts ∧ GxR.TabG H pT ∧ GxR.TabG H pA ∧
  ∀ H' LL, Kp H H' → Asc ltT (Lots n ts) LL → Q (.bl (decide (LL.length = 1))) H'
def spRank (K : PySem.W.Frag) (pT pA : Addr) : Sp := fun vs H Q _ => ∃ (v : V) (n : Nat) (ts : List (List Int)), vs = [v] ∧ HouseAt K H v n ts ∧ IsH n ts ∧ GxR.TabG H pT ∧ GxR.TabG H pA ∧
  ∀ H' (LL : List (List (List Int))), Kp H H' → LL.Nodup → (∀ k, k ∈ LL ↔ Lots2 n ts k) → Q (.int LL.length) H'
theorem hall_in {n : Nat} {ts : List (List Int)} (hi : IsH n ts) : ∀ a ∈ idt n, ∀ t ∈ ts, hallS a t ∈ idt n := fun a ha t ht => by
  have tt := hi.is t ht
  have h := mem_idt.mp ha
  have h2 := tt.getD (i := a.toNat) (by omega)
  refine mem_idt.mpr ?_
  show 0 ≤ t.getD a.toNat 0 ∧ t.getD a.toNat 0 < n
  omega
section
variable {P : Program} {w : World} {K : PySem.W.Frag} {mg : Str → Option Value} {base : Heap} {f : Addr} {fd : FuncData} {pT pA : Addr} {S : Addr → Option Sp}
theorem has_parts (F : FnP K "parts" sParts f fd) (m : mg "parts" = some (.ref f)) (B : Bl mg) {fH : Addr} (mH : mg "hall_led" = some (.ref fH)) (sH : S fH = some (spHall K))
    (hC : Has P w K mg base "check_house" 7 [] (spHouse K pT pA)) (hR : Has P w K mg base "reached" 3 [.non] (spReached K P w S)) : Has P w K mg base "parts" 8 [] (spParts K pT pA) := by
  refine ⟨f, fd, ["house"], [], m, F.kp, F.bindsN (fun _ _ _ _ _ _ us hl => match us, hl with | [_], _ => rfl), .nil, ?_⟩
  refine F.ok scParts (fun vs H Q E h => ?_) (fun cdv A outer s H vs Q E hr h => ⟨_, PSs.nox (
    pss_cons (ps_expr (pe_has hC hr (by decide) (pa_cons (pv 0) pa_nil)))
    (pss_cons (ps_asg (pv 0) (pg_tup rfl (pgs_cons (pg_name (i := 1) scParts.nd rfl (Or.inl rfl)) (pgs_cons (pg_name (i := 2) scParts.nd rfl (Or.inr rfl)) pgs_nil))))
    (pss_one (ps_ret (pe_callTy cr_tupP rfl B.tuple PyProof.Rows.boot_tuple (pa_cons (pe_callB (cr_sor rfl) rfl B.sorted PyProof.Rows.boot_sorted (pa_cons
      (pe_zsc (own := [("hall", 3)]) (i0 := 3) hr.units rfl scParts.nd (pi_range1 rfl B.range (pa_cons (pv 1) pa_nil)) (blkOk_by (N := ["house", "halls", "turns", "hall"]) (sc := defScope sParts) (by decide +kernel)) (by decide)
        (fun _ _ _ _ _ => pg_name (i := 3) scParts.nd rfl (Or.inl rfl)) (fun _ _ _ _ _ => pe_has hR hr (by decide) (pa_cons (pv 3) (pa_cons (pv 2) (pa_cons (pe_glob (v := .ref fH) rfl mH rfl) pa_nil)))))
      pa_nil)) pa_nil)))))), ?_⟩)
  · obtain ⟨v, n, ts, rfl, _⟩ := h
    rfl
  · obtain ⟨v, n, ts, rfl, hv, hi, gT, gA, q⟩ := h
    have h1 := hi.n1
    have h8 := hi.n8
    refine ⟨_, rfl, v, n, ts, rfl, hv, hi, gT, gA, fun H1 z1 => ?_⟩
    obtain ⟨a, tv, rfl, hT, hp⟩ := z1.house hv
    refine ⟨_, rfl, a, _, rfl, hT, rfl, _, _, rfl, _, _, rfl, rfl, ?_⟩
    refine ⟨_, rfl, (n : Int), rfl, by omega, by omega, fun D hD => ?_⟩
    show ∃ W, _
    refine zscG (J := Itr 0 n) (Wlk.rng 0 n) hD (by omega) (fun i k => ∃ ns, k = tk ns ∧ Lot ts (i : Int) ns) (fun i k k' ⟨a, e1, h1⟩ ⟨b, e2, h2⟩ => by rw [e1, e2, lot_uniq h1 h2])
      (fun b k H' => ∃ ns, k = tk ns ∧ ElT K H' (.ref b) ns) (fun b k H1 H2 z ⟨ns, e, h⟩ => ⟨ns, e, h.tup z⟩) (fun b k H1 ⟨ns, e, h⟩ => by rw [e]; exact h.el) (fun i x H2 Q1 hlt z2 hx q1 => ?_) (fun L H2 z2 hL nd mem hx => ?_)
    · subst hx
      rw [Int.zero_add]
      refine ⟨_, rfl, _, rfl, ?_⟩
      refine ⟨Int, repI K P w, hallS, (i : Int), ts, idt n, _, tv, _, fH, _, rfl, rfl, z2.pts hp, sH, mem_idt.mpr (by omega), hall_in hi, by rw [idt_len]; show n + 1 < 64; omega, .inl rfl, fun H3 th tw b t Q2 z3 el bU pt ht q2 => ?_, fun p o H3 vs' L z3 e3 d3 pr pw nd mem => ?_⟩
      · have tt := hi.is t ht
        have := mem_idt.mp bU
        exact ⟨b, tw, t, by rw [show th = V.int b from el], pt, by rw [tt.len]; exact this, q2 _ _ (Kp.refl _) rfl⟩
      · have e : vs' = L.map V.int := by
          clear pw nd mem e3
          induction pr with
          | nil => rfl
          | cons p _ ih => rw [List.map_cons, ← ih]; rw [show _ = _ from p]
        rw [e] at e3
        have ne : L ≠ [] := fun e => by
          have := (mem (i : Int)).mpr .base
          rw [e] at this
          cases this
        exact q1 p (tk L) H3 z3 ⟨L, rfl, pw, nd, mem⟩ ⟨L, rfl, elT (PT.of e3 d3) ne⟩
    · obtain ⟨L', rfl, hx'⟩ := keys_of (G := fun a ns => ElT K H2 (.ref a) ns) hx
      rw [keys_snd] at nd mem
      have nd' : (L'.map (·.2)).Nodup := (List.pairwise_map.mp nd).imp fun h e => h (by rw [e])
      have mem' : ∀ k, k ∈ L'.map (·.2) ↔ Lots n ts k := fun k => by
        rw [← tk_mem, mem]
        constructor
        · rintro ⟨i, hlt, ns, e, h⟩
          rw [← tk_inj e] at h
          exact ⟨i, hlt, h⟩
        · rintro ⟨i, hlt, h⟩
          exact ⟨i, hlt, k, rfl, h⟩
      have hlen : (L'.map (·.2)).length ≤ n := by
        classical
        have e1 : ∀ k ∈ L'.map (·.2), ∃ i : Nat, i < n ∧ Lot ts i k := fun k hk => (mem' k).mp hk
        exact few_of nd' e1 (fun i a b h1 h2 => lot_uniq h1 h2)
      refine (repT K P w).sort (L := L'.map (·.2)) ⟨nd', L', hL, List.Perm.refl _, hx'⟩ (by show _ < 4096; omega) fun p vs' LL pm pw hpn hpr => ⟨p, vs', rfl, SqL.of upd_same, fun l o hl ho => ?_⟩
      refine q _ _ LL (((z1.trans z2).new hpn).new hl) ⟨l, o, vs', rfl, upd_same, ho, pair_el (repT K P w) ((Tup.new hpn).trans (Tup.new hl)) hpr⟩ ⟨pw, pm.nodup_iff.mpr nd', fun k => pm.mem_iff.trans (mem' k)⟩ (by rw [pm.length_eq]; exact hlen)
theorem has_trans (F : FnP K "is_transitive" sTrans f fd) (m : mg "is_transitive" = some (.ref f)) (B : Bl mg) (hM : Has P w K mg base "parts" 8 [] (spParts K pT pA)) : Has P w K mg base "is_transitive" 9 [] (spTrans K pT pA) := by
  refine ⟨f, fd, ["house"], [], m, F.kp, F.bindsN (fun _ _ _ _ _ _ us hl => match us, hl with | [_], _ => rfl), .nil, ?_⟩
  refine F.ok scTrans (fun vs H Q E h => ?_) (fun cdv A outer s H vs Q E hr h => ⟨_, PSs.nox (pss_one (ps_ret (pe_cmpR op_eq (pe_callB call_len_seq rfl B.len PySem.boot_len (pa_cons (pe_has hM hr (by decide) (pa_cons (pv 0) pa_nil)) pa_nil)) pe_int (nomark _)))), ?_⟩)
  · obtain ⟨v, n, ts, rfl, _⟩ := h
    rfl
  · obtain ⟨v, n, ts, rfl, hv, hi, gT, gA, q⟩ := h
    refine ⟨_, rfl, v, n, ts, rfl, hv, hi, gT, gA, fun r H1 LL z1 ⟨p, o, vs', e, h1, d1, pr⟩ as _ => ⟨p, vs', by rw [e], .inr (.inl (.inr ⟨o, h1⟩)), rfl, ?_⟩⟩
    rw [pr.length]
    have e : decide (V.int (LL.length : Int) = V.int 1) = decide (LL.length = 1) := decide_eq_decide.mpr ⟨fun e => by injection e; omega, fun e => by rw [e]; rfl⟩
    show Q (.bl (decide (V.int (LL.length : Int) = V.int 1))) H1
    rw [e]
    exact q H1 LL z1 as
theorem has_rank (F : FnP K "rank" sRank f fd) (m : mg "rank" = some (.ref f)) (B : Bl mg) {fH : Addr} (mH : mg "pair_led" = some (.ref fH)) (sH : S fH = some (spPair K))
    (hC : Has P w K mg base "check_house" 7 [] (spHouse K pT pA)) (hR : Has P w K mg base "reached" 3 [.non] (spReached K P w S)) : Has P w K mg base "rank" 8 [] (spRank K pT pA) := by
  refine ⟨f, fd, ["house"], [], m, F.kp, F.bindsN (fun _ _ _ _ _ _ us hl => match us, hl with | [_], _ => rfl), .nil, ?_⟩
  refine F.ok scRank (fun vs H Q E h => ?_) (fun cdv A outer s H vs Q E hr h => ⟨_, PSs.nox (
    pss_cons (ps_expr (pe_has hC hr (by decide) (pa_cons (pv 0) pa_nil)))
    (pss_cons (ps_asg (pv 0) (pg_tup rfl (pgs_cons (pg_name (i := 1) scRank.nd rfl (Or.inr rfl)) (pgs_cons (pg_name (i := 2) scRank.nd rfl (Or.inr rfl)) pgs_nil))))
    (pss_cons (ps_setLc2 (i := 3) (own := [("first", 4), ("second", 5)]) (vs1 := [5]) (g := gName 4) (tt := tYes) (g1 := gName 5) (tt1 := tYes) rfl scRank.nd rfl rfl (sw_true rfl rfl rfl (by decide +kernel)) (pi_range1 rfl B.range (pa_cons (pv 1) pa_nil))
      (blkOk_by (N := ["house", "halls", "turns", "pairs", "first", "second", "pair"]) (sc := defScope sRank) (by decide +kernel)) (by decide) (fun _ _ _ _ _ => pg_name (i := 4) scRank.nd rfl (Or.inl rfl)) (fun _ _ _ _ _ => pts_nil)
      (fun _ _ _ _ _ => pi_range1 rfl B.range (pa_cons (pv 1) pa_nil)) (fun _ _ _ _ _ => pg_name (i := 5) scRank.nd rfl (Or.inl rfl)) (fun _ _ _ _ _ => pts_nil) (fun _ _ _ _ _ => pe_tupP (pa_cons (pv 4) (pa_cons (pv 5) pa_nil))))
    (pss_one (ps_ret (pe_callB cr_zlen rfl B.len PySem.boot_len (pa_cons
      (pe_zsc (own := [("pair", 6)]) (i0 := 6) hr.units rfl scRank.nd (pi_list (pv 3)) (blkOk_by (N := ["house", "halls", "turns", "pairs", "first", "second", "pair"]) (sc := defScope sRank) (by decide +kernel)) (by decide)
        (fun _ _ _ _ _ => pg_name (i := 6) scRank.nd rfl (Or.inl rfl)) (fun _ _ _ _ _ => pe_has hR hr (by decide) (pa_cons (pv 6) (pa_cons (pv 2) (pa_cons (pe_glob (v := .ref fH) rfl mH rfl) pa_nil)))))
      pa_nil))))))), ?_⟩)
  · obtain ⟨v, n, ts, rfl, _⟩ := h
    rfl
  · obtain ⟨v, n, ts, rfl, hv, hi, gT, gA, q⟩ := h
    have h1 := hi.n1
    have h8 := hi.n8
    refine ⟨_, rfl, v, n, ts, rfl, hv, hi, gT, gA, fun H1 z1 => ?_⟩
    obtain ⟨a, tv, rfl, hT, hp⟩ := z1.house hv
    refine ⟨_, rfl, a, _, rfl, hT, rfl, _, _, rfl, _, _, rfl, rfl, ?_⟩
    refine ⟨_, rfl, (n : Int), rfl, by omega, by omega, fun D hD => ?_⟩
    show ∃ W, _
    have nn : n * n ≤ 64 := Nat.mul_le_mul h8 h8
    refine lc2F (a := 4) (b := 5) (n := n) (m := n) hD (by rw [sizeLine_eq]; omega) (fun i j y H' => PT H' y [(i : Int), (j : Int)]) (fun i j y H1 H2 z h => NS.Tup.pt z h) (fun _ => rfl) (fun _ _ => rfl) (fun i H2 R hlt z2 r => ⟨_, rfl, (n : Int), rfl, by omega, by omega, r⟩)
      (fun i j H2 Q1 hlt hjt z2 q1 => ⟨_, rfl, _, rfl, (by show 2 ≤ sizeLine; decide), fun p o hp ho => q1 _ _ ((Kp.refl _).new hp) (.of (by rw [upd_same, Int.zero_add, Int.zero_add]; rfl) ho)⟩) (fun ys H2 z2 hys hpr => ?_)
    refine ⟨_, rfl, D, rfl, ⟨_, SqL.of hys⟩, fun D2 hD2 => ?_⟩
    have yl := hpr.length
    have gl : ys.length ≤ 64 := by rw [← yl, grid_len]; exact nn
    refine zscG (Wlk.lst (SqL.of hys)) hD2 (by omega) (fun i k => ∃ p kk, (grid n n)[i]? = some p ∧ k = ttk kk ∧ Lot2 ts (pr2 p) kk) (fun i k k' ⟨p, a, e1, e2, h1⟩ ⟨p', b, e3, e4, h2⟩ => by
        rw [e1] at e3
        cases e3
        rw [e2, e4, lot2_uniq h1 h2])
      (fun b k H' => ElK K H' b k) (fun b k H1 H2 z h => z.el h) (fun b k H1 h => h) (fun i x H3 Q1 hlt z3 hx q1 => ?_) (fun L H3 z3 hL nd mem hx => ?_)
    · obtain ⟨p, hgp, pt0⟩ := paired_at hpr hx
      have mg : p.1 < n ∧ p.2 < n := by
        have := List.mem_of_getElem? hgp
        obtain ⟨i, hi, e⟩ := List.mem_flatMap.mp this
        obtain ⟨j, hj, rfl⟩ := List.mem_map.mp e
        exact ⟨List.mem_range.mp hi, List.mem_range.mp hj⟩
      refine ⟨_, rfl, _, rfl, ?_⟩
      have lowU : ∀ b ∈ (grid n n).map pr2, Low n b ∧ b.length = 2 := fun b hb => by
        obtain ⟨p, hp, rfl⟩ := List.mem_map.mp hb
        obtain ⟨i, hi, e⟩ := List.mem_flatMap.mp hp
        obtain ⟨j, hj, rfl⟩ := List.mem_map.mp e
        have := List.mem_range.mp hi
        have := List.mem_range.mp hj
        refine ⟨fun x hx => ?_, rfl⟩
        rcases List.mem_cons.mp hx with e | e
        · rw [e]
          show (0 : Int) ≤ (i : Int) ∧ (i : Int) < n
          omega
        · rw [List.mem_singleton.mp e]
          show (0 : Int) ≤ (j : Int) ∧ (j : Int) < n
          omega
      have inU : ∀ b : List Int, Low n b → b.length = 2 → b ∈ (grid n n).map pr2 := fun b lo hb => by
        match b, hb with
        | [x, y], _ =>
          have hx := lo x (by simp)
          have hy := lo y (by simp)
          refine List.mem_map.mpr ⟨(x.toNat, y.toNat), List.mem_flatMap.mpr ⟨x.toNat, List.mem_range.mpr (by omega), List.mem_map.mpr ⟨y.toNat, List.mem_range.mpr (by omega), rfl⟩⟩, ?_⟩
          show [((x.toNat : Nat) : Int), ((y.toNat : Nat) : Int)] = [x, y]
          rw [Int.toNat_of_nonneg hx.1, Int.toNat_of_nonneg hy.1]
      have clU : ∀ b ∈ (grid n n).map pr2, ∀ t ∈ ts, comp b t ∈ (grid n n).map pr2 := fun b hb t ht => by
        obtain ⟨lo, l2⟩ := lowU b hb
        have tt := hi.is t ht
        refine inU _ (fun x hx => ?_) (by rw [comp_len, l2])
        obtain ⟨k, hk, rfl⟩ := List.mem_map.mp hx
        have hk' := lo k hk
        exact tt.low _ (mem_getD (by rw [tt.len]; omega) 0)
      refine ⟨List Int, repT K P w, comp, pr2 p, ts, (grid n n).map pr2, x, tv, _, fH, _, rfl, elT (z3.pt pt0) (by unfold pr2; simp), (z2.trans z3).pts hp, sH, inU _ (fun x hx => ?_) rfl, clU, by rw [List.length_map, grid_len]; show _ < 4096; omega, .inl rfl, fun H4 th tw b t Q2 z4 el bU pt ht q2 => ?_, fun p' o H4 vs' L z4 e4 d4 pr pw nd mem => ?_⟩
      · rcases List.mem_cons.mp hx with e | e
        · rw [e]; omega
        · rw [List.mem_singleton.mp e]; omega
      · obtain ⟨lo, l2⟩ := lowU b bU
        have tt := hi.is t ht
        refine ⟨th, tw, b, t, rfl, el.1, pt, by rw [tt.len]; exact lo, l2, fun r H5 z5 p5 => q2 r H5 z5 (elT p5 fun e => ?_)⟩
        have := comp_len b t
        rw [e, l2] at this
        cases this
      · have ek : ElK K H4 p' (ttk L) := .inr ⟨L, rfl, p', vs', rfl, .inl (.inr ⟨o, e4⟩), pr.mono fun _ _ q => q.1⟩
        exact q1 p' _ H4 z4 ⟨p, L, hgp, rfl, pw, nd, mem⟩ ek
    · refine ⟨D2, L, rfl, hL, ?_⟩
      have key : ∀ l : List (Addr × NK), (∀ k ∈ l.map (·.2), ∃ kk, k = ttk kk) → ∃ LL : List (List (List Int)), l.map (·.2) = LL.map ttk := fun l => by
        induction l with
        | nil => exact fun _ => ⟨[], rfl⟩
        | cons p r ih =>
          intro h
          obtain ⟨kk, e⟩ := h p.2 (by simp)
          obtain ⟨LL, e2⟩ := ih fun k hk => h k (by simp only [List.map_cons, List.mem_cons]; exact .inr hk)
          exact ⟨kk :: LL, by rw [List.map_cons, List.map_cons, e, e2]⟩
      obtain ⟨LL, eL⟩ := key L fun k hk => by
        obtain ⟨i, _, p, kk, _, e, _⟩ := (mem k).mp hk
        exact ⟨kk, e⟩
      have inj : ∀ a b : List (List Int), ttk a = ttk b → a = b := fun a b h => by
        have e : a.map tk = b.map tk := by injection h
        exact (List.map_inj_right fun x y e => tk_inj e).mp e
      have e1 : L.length = LL.length := by
        have := congrArg List.length eL
        rwa [List.length_map, List.length_map] at this
      rw [e1]
      rw [eL] at nd mem
      refine q H3 LL ((z1.trans z2).trans z3) ((List.pairwise_map.mp nd).imp fun h e => h (by rw [e])) fun k => ?_
      have e2 : k ∈ LL ↔ ttk k ∈ LL.map ttk := by
        rw [List.mem_map]
        exact ⟨fun h => ⟨k, h, rfl⟩, fun ⟨x, hx, e⟩ => inj _ _ e ▸ hx⟩
      rw [e2, mem]
      constructor
      · rintro ⟨i, hlt, p, kk, hgp, e, h⟩
        rw [← inj _ _ e] at h
        exact ⟨p, List.mem_of_getElem? hgp, h⟩
      · rintro ⟨p, hpg, h⟩
        obtain ⟨i, hi', e⟩ := List.mem_iff_getElem.mp hpg
        exact ⟨i, by rw [← yl]; exact hi', p, k, by rw [List.getElem?_eq_getElem hi', e], rfl, h⟩
end
end NS
end
section
set_option maxHeartbeats 4000000
/-! G4: stays -/
namespace NS
open PySem PySem.Spec PyProof.Rows L2 ZS
/-- the halls that a turn leaves in place -/
def keptL (t : List Int) : List Int := ((List.range t.length).filter fun i => decide (t.getD i 0 = (i : Int))).map fun (i : Nat) => (i : Int)
theorem kept_len (t : List Int) : (keptL t).length ≤ t.length := by
  unfold keptL
  rw [List.length_map]
  exact filter_le _ _
theorem take_succ_of {α : Type} {L : List α} {i : Nat} {k : α} (h : L[i]? = some k) : L.take (i + 1) = L.take i ++ [k] := by
  rw [List.take_add_one, h]
  rfl
theorem set_getD {α : Type} {l : List α} {j m : Nat} {v d : α} (hj : j < l.length) : (l.set j v).getD m d = if m = j then v else l.getD m d := by
  rw [List.getD_eq_getElem?_getD, List.getElem?_set]
  by_cases h : j = m
  · subst h
    rw [if_pos rfl, if_pos rfl, if_pos hj]
    rfl
  · rw [if_neg h, if_neg (fun e => h e.symm), List.getD_eq_getElem?_getD]
theorem ixN_nat {n j : Nat} (h : j < n) : ixN n (j : Int) = some j := by
  unfold ixN
  rw [if_pos (by omega), if_pos (by omega)]
  rfl
section
variable {P : Program} {w : World} {K : PySem.W.Frag} {mg : Str → Option Value} {base : Heap} {f : Addr} {fd : FuncData} {pT pA : Addr}
end
end NS
end
section
set_option maxHeartbeats 4000000
/-! DD: a dict whose keys are tuples of ints, all values True -/
namespace NS
open PySem PySem.Spec PyProof.Rows L2 ZS
abbrev dl (L : List (Addr × List Int)) : List (NK × Addr × Value) := L.map fun p => (tk p.2, p.1, Value.bool true)
structure Dd0 (P : Program) (w : World) (h : Heap) (d : Addr) (L : List (Addr × List Int)) : Prop where
  few : L.length ≤ 100000
  sm : (d == sysModules) = false
  nd : (L.map (·.2)).Nodup
  ex : ∃ o es ep, h.get? d = some o ∧ o.ExactDict ∧ o.data = .dict es ep ∧ es.toList = (dl L).map (entryOfKey (nestedKind P w))
def DDict (P : Program) (w : World) (d : Addr) (L : List (Addr × List Int)) : HO := .ext fun h => Dd0 P w h d L
theorem dl_fst (L : List (Addr × List Int)) : (dl L).map (·.1) = (L.map (·.2)).map tk := by unfold dl; rw [List.map_map, List.map_map]; rfl
theorem nd_tk {l : List (List Int)} (h : l.Nodup) : (l.map tk).Nodup := nodup_map h fun _ _ _ _ e => tk_inj e
section
variable {P : Program} {w : World} {h : Heap} {d : Addr} {L : List (Addr × List Int)}
theorem Dd0.laid (R : Dd0 P w h d L) (H : Hp) : ObjOk P w H h d (DDict P w d L) := by
  obtain ⟨o, es, ep, ho, r⟩ := R.ex
  exact ⟨R, ⟨o, ho⟩, fun h1 h2 p k => ⟨p.few, p.sm, p.nd, let ⟨o, es, ep, ho, r⟩ := p.ex; ⟨o, es, ep, k o ho, r⟩⟩⟩
theorem Dd0.full (R : Dd0 P w h d L) (ht : ∀ p ∈ L, NestedIs h (tk p.2) (.ref p.1)) : h.DictOfH (nestedKind P w) d (dl L) := by
  obtain ⟨o, es, ep, ho, he, hd, hs⟩ := R.ex
  refine ⟨o, es, ep, ho, he, hd, hs, fun x hx => ?_, by rw [dl_fst]; exact nd_tk R.nd⟩
  obtain ⟨p, hp, rfl⟩ := List.mem_map.mp hx
  exact ⟨ht p hp, by rw [show NestedKey.depth (tk p.2) = 1 from depth_tk p.2]; decide⟩
theorem Dd0.of (sm : (d == sysModules) = false) (few : L.length ≤ 100000) (x : h.DictOfH (nestedKind P w) d (dl L)) : Dd0 P w h d L := by
  obtain ⟨o, es, ep, ho, he, hd, hs, _, nd⟩ := x
  rw [dl_fst] at nd
  exact ⟨few, sm, (List.pairwise_map.mp nd).imp fun h e => h (by rw [e]), o, es, ep, ho, he, hd, hs⟩
theorem at_dl (k : List Int) : ∀ L : List (Addr × List Int), (atKey (dl L) (tk k)).isSome = decide (k ∈ L.map (·.2))
  | [] => rfl
  | p :: L => by
    have ih := at_dl k L
    unfold atKey at ih ⊢
    rw [show dl (p :: L) = (tk p.2, p.1, Value.bool true) :: dl L from rfl, List.find?_cons]
    by_cases e : p.2 = k
    · have e1 : decide (tk p.2 = tk k) = true := decide_eq_true (by rw [e])
      simp only [e1, List.map_cons]
      rw [e]
      simp
    · have e1 : decide (tk p.2 = tk k) = false := decide_eq_false fun q => e (tk_inj q)
      simp only [e1, List.map_cons]
      rw [ih]
      refine decide_eq_decide.mpr ⟨fun h => List.mem_cons_of_mem _ h, fun h => ?_⟩
      rcases List.mem_cons.mp h with h | h
      · exact absurd h.symm e
      · exact h
end
section
variable {X : Cx} {pins : List (Addr × Obj)} {σ : L2.St} {H : Hp} {s : Shared}
theorem dd_at (I : Inv X pins σ H s) {d : Addr} {L : List (Addr × List Int)} (hd : H d = some (DDict X.prog X.w d L)) (he : ∀ p ∈ L, TI X.K H (.ref p.1) p.2) : s.heap.DictOfH (nestedKind X.prog X.w) d (dl L) :=
  (I.hok d _ hd).1.full fun p hp => ti_at I (he p hp) rfl
/-- {e: True}; the new dict stands empty while e is read -/
def tDD1 (K : PySem.W.Frag) (P : Program) (w : World) (te : TE) : TE := fun σ H Q => ∀ D, H D = none → te σ (upd H D (DDict P w D [])) fun v H1 => ∃ b k, v = .ref b ∧ TI K H1 v k ∧ H1 D = some (DDict P w D []) ∧ Q (.ref D) (upd H1 D (DDict P w D [(b, k)]))
theorem pe_dd1 {e : Expr} {te : TE} {j : Nat} {p1 pos : Pos} (hu : X.A.units + 64 < cLine) (he : PE X e te) : PE X (.Dict [some e] [.Constant (.bool true) j p1] pos) (tDD1 X.K X.prog X.w te) := by
  refine ⟨fun pins s σ H Q I q => ?_⟩
  have hn := I.hok.fresh (Nat.le_refl s.heap.objs.size)
  have new : (s.heap.push { cls := .type "dict", data := .dict #[] }).DictOfH (nestedKind X.prog X.w) s.heap.objs.size (dl []) := Heap.DictOfH.new s.heap
  have sm : (s.heap.objs.size == sysModules) = false := (dk_empty s.heap I.big (P := X.prog) (w := X.w) (H := H)).2.1
  have I1 := I.laid (a := s.heap.objs.size) (h' := s.heap.push { cls := .type "dict", data := .dict #[] }) (t' := s.toks) (fun _ _ q => Heap.get?_push_of_some _ q) (Nat.le_refl _) ((Dd0.of sm (by decide) new).laid _)
  rw [arm_eval_Dict, zip_pairTrees [some e] [.Constant (.bool true) j p1] X.env pos rfl rfl, dictDisplay_pairs (pairTrees [some e] [.Constant (.bool true) j p1] X.env pos) (by intro z; cases z) (by show 1 < 17; decide)]
  refine wpAny_bind (wpAny_standAt (wpAny_bind (wpAny_subDictH (knd := nestedKind X.prog X.w) (by show X.A.units + 8 < cLine; omega) (by show 1 ≤ 15; decide) ?_)))
  refine pairTrees_cons_walk (thn (he.run pins _ σ _ _ I1 (q _ hn)) fun u s2 ⟨v, H2, I2, r2, b, k, ev, ti, hD, q2⟩ => ?_)
  subst ev
  obtain rfl : u = Value.ref b := r2
  refine Constant_bool (pairTrees_nil_walk ⟨[(tk k, b, .bool true)], ⟨rfl, rfl, ⟨ti_at I2 ti rfl, by rw [show NestedKey.depth (tk k) = 1 from depth_tk k]; decide⟩, trivial⟩, dd_at I2 hD (fun p h => by cases h), fun h' tk' dd' hs => wpAny_pure ?_⟩)
  have hd1 : Dd0 X.prog X.w h' s.heap.objs.size [(b, k)] := Dd0.of sm (by show 1 ≤ 100000; decide) dd'
  refine ⟨.ref s.heap.objs.size, _, I2.write (e := s.heap.objs.size) (t' := tk') (by rw [hD]; trivial) (.inl rfl) (fun b u hb hu => (hs.2 b hb).trans hu) ?_ (hd1.laid _), rfl, q2⟩
  obtain ⟨o, es, ep, ho, _⟩ := hd1.ex
  exact ⟨o, ho⟩
/-- k not in d -/
def rDNotIn (K : PySem.W.Frag) (P : Program) (w : World) : R2 := fun x y H Q => ∃ (d : Addr) (k : List Int) (L : List (Addr × List Int)), TI K H x k ∧ y = .ref d ∧ H d = some (DDict P w d L) ∧ (∀ p ∈ L, TI K H (.ref p.1) p.2) ∧ Q (.bl (!decide (k ∈ L.map (·.2)))) H
theorem or_ddnotin (hu : X.A.units + 64 < cLine) : OpR X (compareOp .NotIn) (rDNotIn X.K X.prog X.w) := by
  intro pins s σ H x y v u Q I rx ry h
  obtain ⟨d, k, L, ti, rfl, hd, he, q⟩ := h
  obtain ⟨b, rfl, hb⟩ := id ti
  cases rx
  cases ry
  refine wpAny_notIn_heap (knd := nestedKind X.prog X.w) (k := tk k) (by show X.A.in1.units + 8 < cLine; show X.A.units + 1 + 8 < cLine; omega) ⟨ti_at I ti rfl, by rw [show NestedKey.depth (tk k) = 1 from depth_tk k]; decide⟩ (I.hok d _ hd).1.sm (dd_at I hd he) ⟨.bl (!decide (k ∈ L.map (·.2))), H, I.tok _, ?_, q⟩
  rw [at_dl]
  rfl
/-- d[k] = True, k new -/
def rDSet (K : PySem.W.Frag) (P : Program) (w : World) : TSet := fun o i v H Q => ∃ (d b : Addr) (k : List Int) (L : List (Addr × List Int)), o = .ref d ∧ i = .ref b ∧ v = .bl true ∧ TI K H i k ∧ H d = some (DDict P w d L) ∧ (∀ p ∈ L, TI K H (.ref p.1) p.2) ∧ k ∉ L.map (·.2) ∧ L.length < 100000 ∧ Q (upd H d (DDict P w d (L ++ [(b, k)])))
theorem set_dd (hu : X.A.units + 64 < cLine) : PSet X (rDSet X.K X.prog X.w) := by
  intro pins s σ H o i v ov iv u Q I ro ri rv h
  obtain ⟨d, b, k, L, rfl, rfl, rfl, ti, hd, he, nk, few, q⟩ := h
  cases ro
  cases ri
  obtain rfl : u = Value.bool true := rv
  have full := dd_at I hd he
  have e0 : atKey (dl L) (tk k) = none := by
    have := at_dl k L
    rw [decide_eq_false nk] at this
    cases q : atKey (dl L) (tk k) with
    | none => rfl
    | some _ => rw [q] at this; cases this
  refine wpAny_setItem_heap (knd := nestedKind X.prog X.w) (k := tk k) (by show X.A.units + 1 + 8 < cLine; omega) ⟨ti_at I ti rfl, by rw [show NestedKey.depth (tk k) = 1 from depth_tk k]; decide⟩ full (fun h' dd' hs => ?_) (by rw [List.length_map, sizeLine_eq]; omega)
  rw [storedH_new e0] at dd'
  have e1 : dl L ++ [(tk k, b, Value.bool true)] = dl (L ++ [(b, k)]) := by unfold dl; rw [List.map_append]; rfl
  rw [e1] at dd'
  have hd1 : Dd0 X.prog X.w h' d (L ++ [(b, k)]) := Dd0.of (I.hok d _ hd).1.sm (by rw [List.length_append]; show L.length + 1 ≤ _; omega) dd'
  refine ⟨_, I.write (e := d) (t' := s.toks + _) (by rw [hd]; trivial) (.inl rfl) (fun b u hb hu => (hs.2 b hb).trans hu) ?_ (hd1.laid _), q⟩
  obtain ⟨o, es, ep, ho, _⟩ := hd1.ex
  exact ⟨o, ho⟩
/-- list(d) -/
def rDList (P : Program) (w : World) : List V → Hp → VK → Prop := fun xs H Q => ∃ (d : Addr) (L : List (Addr × List Int)), xs = [.ref d] ∧ H d = some (DDict P w d L) ∧ ∀ q, H q = none → Q (.ref q) (upd H q (.lst (L.map fun p => V.ref p.1)))
theorem cr_ddlist (hc : X.calm = true) : CallR X (.type "list") (rDList X.prog X.w) := by
  intro pins s σ H xs us Q I r h
  obtain ⟨d, L, rfl, hd, q⟩ := h
  rw [Vals.ref1 r]
  have R : Dd0 X.prog X.w s.heap d L := (I.hok d _ hd).1
  have few := R.few
  obtain ⟨o, es, ep, ho, hx, hda, hs⟩ := R.ex
  have el : es.size = L.length := by rw [← Array.length_toList, hs, List.length_map, List.length_map]
  refine PySem.W.kdl_call (kdl_raw R.sm hx hda) (I.ok.hd hc) ho (by rw [el, sizeLine_eq]; omega) fun h' tk acc' c' hkeep hS hacc => ?_
  refine ⟨.ref s.heap.objs.size, _, I.laid (o := .lst (L.map fun p => V.ref p.1)) hkeep (Nat.le_refl _) ⟨?_, acc'.toList, c', ?_, ?_⟩, rfl, q _ (I.hok.fresh (Nat.le_refl _))⟩
  · rw [List.length_map, sizeLine_eq]; omega
  · have ea : acc'.toList.length = acc'.size := by simp
    refine vals_of_at (by rw [List.length_map, ea, hacc.1, el]) fun j x u h1 h2 => ?_
    obtain ⟨p, hp, rfl⟩ := map_some h1
    obtain ⟨en, hen, rfl⟩ := hacc.2 j u (by rw [← Array.getElem?_toList]; exact h2)
    rw [← Array.getElem?_toList, hs, List.getElem?_map, List.getElem?_map, hp] at hen
    cases hen
    rfl
  · rw [Array.toArray_toList]; exact hS
end
end NS
end
section
set_option maxHeartbeats 4000000
/-! LT: what the law's own defs want: x != [], a row of draws -/
namespace NS
open PySem PySem.Spec PyProof.Rows L2 ZS
section
variable {X : Cx}
/-- x != [], x == [] of a list -/
def rNilB (K : PySem.W.Frag) (f : Bool → Bool) : R2 := fun x y H Q => ∃ (a b : Addr) (xs : List V), x = .ref a ∧ y = .ref b ∧ SqL K H a xs ∧ SqL K H b [] ∧ Q (.bl (f xs.isEmpty)) H
theorem op_neNil (hu : X.A.units + 64 < cLine) : OpR X (compareOp .NotEq) (rNilB X.K not) := by
  intro pins s σ H x y v u Q I rx ry h
  obtain ⟨a, b, xs, rfl, rfl, ha, hb, q⟩ := h
  cases rx
  cases ry
  obtain ⟨its, r1, p1, _⟩ := I.list ha
  obtain ⟨its2, r2, p2, _⟩ := I.list hb
  cases r2
  cases r1 with
  | nil => exact SeqAt.RcNeAt.lists (e := fun _ => true) p1.isList p2.isList rfl (by omega) (fun j h1 h2 => absurd h1 (Nat.not_lt_zero _)) X.prog X.w _ _ ⟨.bl false, H, I, rfl, q⟩
  | cons r t => exact SeqAt.RcNeAt.lists_lengths p1.isList p2.isList (by simp) (by omega) X.prog X.w _ _ ⟨.bl true, H, I, rfl, q⟩
theorem op_eqNil (hu : X.A.units + 64 < cLine) : OpR X (compareOp .Eq) (rNilB X.K id) := by
  intro pins s σ H x y v u Q I rx ry h
  obtain ⟨a, b, xs, rfl, rfl, ha, hb, q⟩ := h
  cases rx
  cases ry
  obtain ⟨its, r1, p1, _⟩ := I.list ha
  obtain ⟨its2, r2, p2, _⟩ := I.list hb
  cases r2
  cases r1 with
  | nil => exact SeqAt.RcAt.lists (e := fun _ => true) p1.isList p2.isList rfl (by omega) (fun j h1 h2 => absurd h1 (Nat.not_lt_zero _)) X.prog X.w _ _ ⟨.bl true, H, I, rfl, q⟩
  | cons r t => exact SeqAt.RcAt.lists_lengths p1.isList p2.isList (by simp) (by omega) X.prog X.w _ _ ⟨.bl false, H, I, rfl, q⟩
end
/-- all stands but the list at r -/
structure KpB (r : Addr) (H H' : Hp) : Prop where
  k : ∀ b o, H b = some o → (∀ ps, o ≠ .tbl ps) → (∀ xs, o = .lst xs → b ≠ r) → H' b = some o
  t : ∀ b ps, H b = some (.tbl ps) → ∃ ps' : Array Value, H' b = some (.tbl ps') ∧ TabUp ps ps'
  r : ∀ xs, H r = some (.lst xs) → ∃ ys, H' r = some (.lst ys)
section
variable {r : Addr} {H H1 H2 : Hp}
theorem Kp.b (z : Kp H H1) : KpB r H H1 := ⟨fun b o e n _ => z.k b o e n, z.t, fun xs e => ⟨xs, z.lst e⟩⟩
theorem KpB.refl (H : Hp) : KpB r H H := (Kp.refl H).b
theorem KpB.trans (a : KpB r H H1) (b : KpB r H1 H2) : KpB r H H2 where
  k := fun c o e n m => b.k c o (a.k c o e n m) n m
  t := fun c ps e => by
    obtain ⟨p1, h1, t1⟩ := a.t c ps e
    obtain ⟨p2, h2, t2⟩ := b.t c p1 h1
    exact ⟨p2, h2, t1.trans t2⟩
  r := fun xs e => let ⟨ys, e1⟩ := a.r xs e; b.r ys e1
theorem KpB.none (z : KpB r H H1) {p : Addr} (h : H1 p = Option.none) : H p = Option.none := by
  cases e : H p with
  | none => rfl
  | some o =>
    by_cases q : ∃ ps, o = .tbl ps
    · obtain ⟨ps, rfl⟩ := q
      obtain ⟨ps', h', _⟩ := z.t p ps e
      rw [h] at h'
      cases h'
    · by_cases l : ∃ xs, o = .lst xs ∧ p = r
      · obtain ⟨xs, rfl, rfl⟩ := l
        obtain ⟨ys, e2⟩ := z.r xs e
        rw [h] at e2
        cases e2
      · have := z.k p o e (fun ps w => q ⟨ps, w⟩) (fun xs e1 e2 => l ⟨xs, e1, e2⟩)
        rw [h] at this
        cases this
theorem KpB.put (z : KpB r H H1) {p : Addr} (n : H p = Option.none) {o : HO} (hr : p ≠ r) : KpB r H (upd H1 p o) := by
  have ne : ∀ b u, H b = some u → b ≠ p := fun b u e q => by rw [q, n] at e; cases e
  refine ⟨fun b u e q m => by rw [upd_ne (ne b u e)]; exact z.k b u e q m, fun b ps e => by rw [upd_ne (ne b _ e)]; exact z.t b ps e, fun xs e => ?_⟩
  obtain ⟨ys, e2⟩ := z.r xs e
  exact ⟨ys, by rw [upd_ne hr.symm]; exact e2⟩
/-- the row itself changes -/
theorem KpB.row (z : KpB r H H1) {xs : List V} (h : H r = some (.lst xs)) {ys : List V} : KpB r H (upd H1 r (.lst ys)) := by
  refine ⟨fun b u e q m => ?_, fun b ps e => ?_, fun xs e => ⟨ys, upd_same⟩⟩
  · have : b ≠ r := fun w => by
      rw [w, h] at e
      exact m xs (Option.some.inj e).symm w
    rw [upd_ne this]
    exact z.k b u e q m
  · have : b ≠ r := fun w => by rw [w, h] at e; cases e
    rw [upd_ne this]
    exact z.t b ps e
theorem KpB.tup (z : KpB r H H1) : Tup H H1 := ⟨fun c xs h => z.k c _ h (fun _ q => by cases q) (fun _ q => by cases q), fun c o u h => z.k c _ h (fun _ q => by cases q) (fun _ q => by cases q)⟩
theorem KpB.lst (z : KpB r H H1) {a : Addr} {xs : List V} (h : H a = some (.lst xs)) (hr : a ≠ r) : H1 a = some (.lst xs) := z.k a _ h (fun _ q => by cases q) (fun _ _ => hr)
theorem KpB.ext (z : KpB r H H1) {a : Addr} {f : Heap → Prop} (h : H a = some (.ext f)) : H1 a = some (.ext f) := z.k a _ h (fun _ q => by cases q) (fun _ q => by cases q)
theorem KpB.tabG (z : KpB r H H1) {P : Addr} (g : GxR.TabG H P) : GxR.TabG H1 P := by
  obtain ⟨ps, hP, hT⟩ := g
  obtain ⟨ps', h', t⟩ := z.t P ps hP
  exact ⟨ps', h', t.1 hT⟩
theorem KpB.sqL {K : PySem.W.Frag} (z : KpB r H H1) {a : Addr} {xs : List V} (h : SqL K H a xs) (hr : a ≠ r) : SqL K H1 a xs := by
  rcases h with (h | ⟨o, h⟩) | h
  · exact .inl (.inl (z.lst h hr))
  · exact .inl (.inr ⟨o, z.tup.f _ _ _ h⟩)
  · exact .inr h
theorem Tup.pts {K : PySem.W.Frag} (z : Tup H H1) {v : V} {ts : List (List Int)} (h : PTS K H v ts) : PTS K H1 v ts := let ⟨b, xs, e, s, p⟩ := h; ⟨b, xs, e, z.sq s, p.mono fun _ _ q => z.ti q⟩
theorem Tup.house {K : PySem.W.Frag} (z : Tup H H1) {v : V} {n : Nat} {ts : List (List Int)} (h : HouseAt K H v n ts) : HouseAt K H1 v n ts := let ⟨a, tv, e, s, p⟩ := h; ⟨a, tv, e, z.sq s, NS.Tup.pts z p⟩
end
/-- the row of draws at r over the script at sa -/
def RowAt (H : Hp) (r sa : Addr) : Prop := ∃ (i : Nat) (sd rest : Int), H r = some (.lst [.ref sa, .int i, .int sd, .int rest]) ∧ 0 ≤ rest
theorem Kp.rowAt {H H' : Hp} (z : Kp H H') {r sa : Addr} (h : RowAt H r sa) : RowAt H' r sa := let ⟨i, sd, rest, e, p⟩ := h; ⟨i, sd, rest, z.lst e, p⟩
theorem RowAt.lst {H : Hp} {r sa : Addr} (h : RowAt H r sa) : ∃ xs, H r = some (.lst xs) := let ⟨i, sd, rest, e, p⟩ := h; ⟨_, e⟩
theorem RowAt.put {H : Hp} {r sa p : Addr} {o : HO} (h : RowAt H r sa) (n : p ≠ r) : RowAt (upd H p o) r sa := let ⟨i, sd, rest, e, q⟩ := h; ⟨i, sd, rest, by rw [upd_ne n.symm]; exact e, q⟩
end NS
end
section
set_option maxHeartbeats 4000000
/-! L1: the law's draws and turns -/
namespace NS
open PySem PySem.Spec PyProof.Rows L2 ZS
theorem scTaken : FnScope ["row", "many", "found", "cell"] ["row", "many"] (defScope sTaken) := ⟨rfl, rfl, rfl, by decide +kernel, rfl, by decide +kernel, by decide +kernel⟩
theorem scPick : FnScope ["row", "things"] ["row", "things"] (defScope sPick) := ⟨rfl, rfl, rfl, by decide +kernel, rfl, by decide +kernel, by decide +kernel⟩
theorem scLTurn : FnScope ["row", "halls", "found", "left"] ["row", "halls"] (defScope sLTurn) := ⟨rfl, rfl, rfl, by decide +kernel, rfl, by decide +kernel, by decide +kernel⟩
theorem at4_0 {a b c d : V} : atI [a, b, c, d] 0 = some a := rfl
theorem at4_1 {a b c d : V} : atI [a, b, c, d] 1 = some b := rfl
theorem at4_2 {a b c d : V} : atI [a, b, c, d] 2 = some c := rfl
theorem at4_3 {a b c d : V} : atI [a, b, c, d] 3 = some d := rfl
theorem erase_map {α β : Type} (f : α → β) : ∀ (l : List α) (i : Nat), (l.map f).eraseIdx i = (l.eraseIdx i).map f
  | [], _ => rfl
  | _ :: _, 0 => rfl
  | a :: l, i + 1 => by
    show f a :: (l.map f).eraseIdx i = f a :: (l.eraseIdx i).map f
    rw [erase_map f l i]
theorem erase_perm {α : Type} : ∀ (l : List α) (i : Nat) (x : α), l[i]? = some x → (x :: l.eraseIdx i).Perm l
  | [], i, x, h => by simp at h
  | a :: l, 0, x, h => by cases h; exact List.Perm.refl _
  | a :: l, i + 1, x, h => (List.Perm.swap a x _).trans ((erase_perm l i x h).cons a)
theorem low_perm {n : Nat} {fs : List Int} (h : fs.Perm (idt n)) : IsT n fs := ⟨by rw [h.length_eq, idt_len], fun x hx => mem_idt.mp (h.mem_iff.mp hx), h.nodup_iff.mpr (idt_isT n).nd⟩
/-- a list of ints is no row -/
theorem KpB.sqI {K : PySem.W.Frag} {r sa a : Addr} {H H1 : Hp} (z : KpB r H H1) (ra : RowAt H r sa) {ns : List Int} (h : SqL K H a (ns.map V.int)) : SqL K H1 a (ns.map V.int) := by
  rcases h with (h | ⟨o, h⟩) | h
  · refine .inl (.inl (z.lst h fun e => ?_))
    obtain ⟨i, sd, rest, e2, _⟩ := ra
    rw [← e, h] at e2
    have e3 := Option.some.inj e2
    injection e3 with e3
    cases ns with
    | nil => cases e3
    | cons n ns =>
      rw [List.map_cons] at e3
      injection e3 with e4 _
      cases e4
  · exact .inl (.inr ⟨o, z.tup.f _ _ _ h⟩)
  · exact .inr h
/-- r is the row of draws over a script -/
def Draws (K : PySem.W.Frag) (H : Hp) (r sa : Addr) : Prop := RowAt H r sa ∧ ∃ ns : List Int, SqL K H sa (ns.map V.int)
theorem Draws.b {K : PySem.W.Frag} {H H' : Hp} {r sa : Addr} (h : Draws K H r sa) (z : KpB r H H') (ra : RowAt H' r sa) : Draws K H' r sa := let ⟨ro, ns, e⟩ := h; ⟨ra, ns, z.sqI ro e⟩
theorem Draws.k {K : PySem.W.Frag} {H H' : Hp} {r sa : Addr} (h : Draws K H r sa) (z : Kp H H') : Draws K H' r sa := h.b z.b (z.rowAt h.1)
def spTaken (K : PySem.W.Frag) : Sp := fun vs H Q _ => ∃ (r sa : Addr) (m : Int), vs = [.ref r, .int m] ∧ Draws K H r sa ∧ 0 < m ∧ m < 1073741824 ∧ ∀ v H', KpB r H H' → RowAt H' r sa → 0 ≤ v → v < m → Q (.int v) H'
def spPick (K : PySem.W.Frag) : Sp := fun vs H Q _ => ∃ (r sa t : Addr) (xs : List V), vs = [.ref r, .ref t] ∧ Draws K H r sa ∧ t ≠ r ∧ SqL K H t xs ∧ xs ≠ [] ∧ xs.length < 1073741824 ∧ ∀ x H', KpB r H H' → RowAt H' r sa → x ∈ xs → Q x H'
def spLTurn (K : PySem.W.Frag) : Sp := fun vs H Q _ => ∃ (r sa : Addr) (n : Nat), vs = [.ref r, .int n] ∧ Draws K H r sa ∧ 1 ≤ n ∧ n ≤ 1000 ∧ ∀ v H' t, KpB r H H' → RowAt H' r sa → PT H' v t → IsT n t → Q v H'
section
variable {P : Program} {w : World} {K : PySem.W.Frag} {mg : Str → Option Value} {base : Heap} {f : Addr} {fd : FuncData}
theorem has_taken (F : FnP K "_law_taken" sTaken f fd) (m : mg "_law_taken" = some (.ref f)) (B : Bl mg) : Has P w K mg base "_law_taken" 1 [] (spTaken K) := by
  refine ⟨f, fd, ["row", "many"], [], m, F.kp, F.bindsN (fun _ _ _ _ _ _ us hl => match us, hl with | [_, _], _ => rfl), .nil, ?_⟩
  refine F.ok scTaken (fun vs H Q E h => ?_) (fun cdv A outer s H vs Q E hr h => ⟨_, PSs.nox (
    pss_cons (ps_if (pt_cmpR op_gt (pe_ix (r := rIxL K) ix_list (pv 0) pe_int (fun _ _ => rfl)) pe_int (nomark _))
      (pss_cons (ps_set (i := 2) scTaken.nd rfl (Or.inl rfl) (pe_op op_mod (pe_callTy call_int1 rfl B.int PyProof.Rows.boot_int (pa_cons (pe_ix (r := rIxL K) ix_list (pv 0) pe_int (fun _ _ => rfl)) pa_nil)) (pv 1)))
      (pss_cons (ps_asg (pe_op op_fdiv (pe_ix (r := rIxL K) ix_list (pv 0) pe_int (fun _ _ => rfl)) (pv 1)) (pg_sub (pv 0) pe_int set_list))
      (pss_one (ps_ret (pv 2))))) pss_nil)
    (pss_cons (ps_asg (pe_op op_add (pe_ix (r := rIxL K) ix_list (pv 0) pe_int (fun _ _ => rfl)) pe_int) (pg_sub (pv 0) pe_int set_list))
    (pss_cons (ps_if (pt_cmpR op_gt (pe_ix (r := rIxL K) ix_list (pv 0) pe_int (fun _ _ => rfl)) (pe_callB call_len_seq rfl B.len PySem.boot_len (pa_cons (pe_ix (r := rIxL K) ix_list (pv 0) pe_int (fun _ _ => rfl)) pa_nil)) (nomark _))
      (pss_cons (ps_asg (pe_op op_mod (pe_callTy call_int1 rfl B.int PyProof.Rows.boot_int (pa_cons (pe_op op_add (pe_op op_mul (pe_ix (r := rIxL K) ix_list (pv 0) pe_int (fun _ _ => rfl)) pe_int) pe_int) pa_nil)) pe_int) (pg_sub (pv 0) pe_int set_list))
      (pss_one (ps_ret (pe_op op_mod (pe_callTy call_int1 rfl B.int PyProof.Rows.boot_int (pa_cons (pe_op op_fdiv (pe_ix (r := rIxL K) ix_list (pv 0) pe_int (fun _ _ => rfl)) pe_int) pa_nil)) (pv 1))))) pss_nil)
    (pss_cons (ps_set (i := 3) scTaken.nd rfl (Or.inl rfl) (pe_ix (r := rIxL K) ix_list (pe_ix (r := rIxL K) ix_list (pv 0) pe_int (fun _ _ => rfl)) (pe_op op_sub (pe_ix (r := rIxL K) ix_list (pv 0) pe_int (fun _ _ => rfl)) pe_int) (fun _ _ => rfl)))
    (pss_cons (ps_asg (pe_op op_mod (pe_callTy call_int1 rfl B.int PyProof.Rows.boot_int (pa_cons (pe_op op_add (pe_op op_add (pe_op op_mul (pe_ix (r := rIxL K) ix_list (pv 0) pe_int (fun _ _ => rfl)) pe_int) (pv 3)) pe_int) pa_nil)) pe_int) (pg_sub (pv 0) pe_int set_list))
    (pss_cons (ps_if (pt_cmpR op_ge (pv 3) (pe_op op_pow pe_int pe_int) (nomark _)) (pss_one (ps_asg (pe_op op_fdiv (pv 3) (pv 1)) (pg_sub (pv 0) pe_int set_list))) pss_nil)
    (pss_one (ps_ret (pe_op op_mod (pe_callTy call_int1 rfl B.int PyProof.Rows.boot_int (pa_cons (pv 3) pa_nil)) (pv 1)))))))))), ?_⟩)
  · obtain ⟨r, sa, m, rfl, _⟩ := h
    rfl
  · obtain ⟨r, sa, mm, rfl, ⟨⟨i, sd, rest, hrow, hrest⟩, ns, hns⟩, m0, m1, q⟩ := h
    refine ⟨_, rfl, ⟨r, _, _, _, rfl, rfl, SqL.of hrow, at4_3, ⟨_, _, rfl, rfl, _, rfl, ?_⟩⟩⟩
    by_cases hp : 0 < rest
    · refine ifT (A := _) (B := _) (decide_eq_true hp) ?_
      refine ⟨_, rfl, ⟨r, _, _, _, rfl, rfl, SqL.of hrow, at4_3, (.inl ⟨_, rfl, _, rfl, _, _, rfl, rfl, m0, ?_⟩)⟩⟩
      refine ⟨_, rfl, ⟨r, _, _, _, rfl, rfl, SqL.of hrow, at4_3, ⟨_, rfl, _, _, rfl, rfl, ⟨m0, m1⟩, ?_⟩⟩⟩
      refine ⟨_, rfl, r, _, 3, 3, rfl, rfl, hrow, rfl, ?_⟩
      have hm := Int.emod_lt_of_pos rest m0
      have hm0 := Int.emod_nonneg rest (Int.ne_of_gt m0)
      exact ⟨_, rfl, q _ _ ((KpB.refl H).row hrow) ⟨i, sd, rest / mm, upd_same, Int.ediv_nonneg (by omega) (by omega)⟩ hm0 hm⟩
    · refine ifF (A := _) (B := _) (decide_eq_false hp) ?_
      have h0 : rest = 0 := by omega
      subst h0
      refine ⟨_, rfl, ⟨r, _, _, _, rfl, rfl, SqL.of hrow, at4_1, ⟨_, _, rfl, rfl, ?_⟩⟩⟩
      refine ⟨_, rfl, r, _, 1, 1, rfl, rfl, hrow, rfl, ?_⟩
      have z1 : KpB r H (upd H r (.lst [.ref sa, .int ((i : Int) + 1), .int sd, .int 0])) := (KpB.refl H).row hrow
      have hrow1 : (upd H r (.lst [.ref sa, .int ((i : Int) + 1), .int sd, .int 0])) r = some (.lst [.ref sa, .int ((i : Int) + 1), .int sd, .int 0]) := upd_same
      have hns1 := z1.sqI ⟨i, sd, 0, hrow, Int.le_refl _⟩ hns
      refine ⟨_, rfl, ⟨r, _, _, _, rfl, rfl, SqL.of hrow1, at4_1, ⟨_, rfl, ⟨r, _, _, _, rfl, rfl, SqL.of hrow1, at4_0, ⟨sa, _, rfl, .inl hns1, _, _, rfl, rfl, _, rfl, ?_⟩⟩⟩⟩⟩
      rw [List.length_map]
      by_cases hl : (ns.length : Int) < (i : Int) + 1
      · refine ifT (A := _) (B := _) (decide_eq_true hl) ?_
        refine ⟨_, rfl, ⟨r, _, _, _, rfl, rfl, SqL.of hrow1, at4_2, ⟨_, _, rfl, rfl, .inr ⟨by decide, by decide⟩, _, _, rfl, rfl, .inl ⟨_, rfl, _, _, rfl, rfl, (by show (0 : Int) < 2147483647; decide), ?_⟩⟩⟩⟩
        refine ⟨_, rfl, r, _, 2, 2, rfl, rfl, hrow1, rfl, ?_⟩
        rw [upd_upd]
        refine ⟨_, rfl, ⟨r, _, _, _, rfl, rfl, SqL.of upd_same, at4_2, ⟨_, _, rfl, rfl, ⟨by decide, by decide⟩, .inl ⟨_, rfl, _, rfl, _, _, rfl, rfl, m0, ?_⟩⟩⟩⟩
        exact q _ _ ((KpB.refl H).row hrow) ⟨i + 1, _, 0, by rw [upd_same]; rfl, by omega⟩ (Int.emod_nonneg _ (Int.ne_of_gt m0)) (Int.emod_lt_of_pos _ m0)
      · refine ifF (A := _) (B := _) (decide_eq_false hl) ?_
        have hi : i < ns.length := by omega
        refine ⟨_, rfl, ⟨r, _, _, _, rfl, rfl, SqL.of hrow1, at4_0, ⟨_, rfl, ⟨r, _, _, _, rfl, rfl, SqL.of hrow1, at4_1, ⟨_, _, rfl, rfl, sa, _, _, .int (ns.getD i 0), rfl, rfl, hns1, ?_, ?_⟩⟩⟩⟩⟩
        · have e : (i : Int) + 1 - 1 = (i : Int) := by omega
          rw [e]
          exact atI_nat (by rw [List.getElem?_map, get_some hi 0]; rfl)
        generalize ns.getD i 0 = cell
        refine ⟨_, rfl, ⟨r, _, _, _, rfl, rfl, SqL.of hrow1, at4_2, ⟨_, _, rfl, rfl, .inr ⟨by decide, by decide⟩, _, rfl, _, _, rfl, rfl, _, _, rfl, rfl, .inl ⟨_, rfl, _, _, rfl, rfl, (by show (0 : Int) < 2147483647; decide), ?_⟩⟩⟩⟩
        refine ⟨_, rfl, r, _, 2, 2, rfl, rfl, hrow1, rfl, ?_⟩
        rw [upd_upd]
        refine ⟨_, rfl, _, _, rfl, rfl, ⟨by decide, by decide, by decide⟩, _, _, rfl, rfl, _, rfl, ?_⟩
        by_cases hc : (10 : Int) ^ (18 : Int).toNat ≤ cell
        · refine ifT (A := _) (B := _) (decide_eq_true hc) ?_
          refine ⟨_, rfl, _, rfl, _, _, rfl, rfl, ⟨m0, m1⟩, ?_⟩
          refine ⟨_, rfl, r, _, 3, 3, rfl, rfl, upd_same, rfl, ?_⟩
          have c0 : 0 ≤ cell := Int.le_trans (by decide) hc
          exact ⟨_, rfl, .inl ⟨_, rfl, _, rfl, _, _, rfl, rfl, m0, q _ _ (((KpB.refl H).row hrow).row hrow) ⟨i + 1, _, cell / mm, by rw [upd_same]; rfl, Int.ediv_nonneg c0 (by omega)⟩ (Int.emod_nonneg _ (Int.ne_of_gt m0)) (Int.emod_lt_of_pos _ m0)⟩⟩
        · refine ifF (A := _) (B := _) (decide_eq_false hc) ?_
          exact ⟨_, rfl, .inl ⟨_, rfl, _, rfl, _, _, rfl, rfl, m0, q _ _ ((KpB.refl H).row hrow) ⟨i + 1, _, 0, by rw [upd_same]; rfl, by omega⟩ (Int.emod_nonneg _ (Int.ne_of_gt m0)) (Int.emod_lt_of_pos _ m0)⟩⟩
theorem has_pick (F : FnP K "_law_pick" sPick f fd) (m : mg "_law_pick" = some (.ref f)) (B : Bl mg) (hT : Has P w K mg base "_law_taken" 1 [] (spTaken K)) : Has P w K mg base "_law_pick" 2 [] (spPick K) := by
  refine ⟨f, fd, ["row", "things"], [], m, F.kp, F.bindsN (fun _ _ _ _ _ _ us hl => match us, hl with | [_, _], _ => rfl), .nil, ?_⟩
  refine F.ok scPick (fun vs H Q E h => ?_) (fun cdv A outer s H vs Q E hr h => ⟨_, PSs.nox (
    pss_one (ps_ret (pe_ix (r := rIxL K) ix_list (pv 1) (pe_has hT hr (by decide) (pa_cons (pv 0) (pa_cons (pe_callB call_len_seq rfl B.len PySem.boot_len (pa_cons (pv 1) pa_nil)) pa_nil))) (fun _ _ => rfl)))), ?_⟩)
  · obtain ⟨r, sa, t, xs, rfl, _⟩ := h
    rfl
  · obtain ⟨r, sa, t, xs, rfl, hd, ne, hx, hne, hl, q⟩ := h
    have hpos : 0 < xs.length := List.length_pos_iff.mpr hne
    refine ⟨_, rfl, _, rfl, _, rfl, t, xs, rfl, .inl hx, r, sa, _, rfl, hd, by omega, by omega, fun v H1 z1 ra h0 h1 => ?_⟩
    obtain ⟨j, rfl⟩ := Int.eq_ofNat_of_zero_le h0
    have hj : j < xs.length := by omega
    exact ⟨t, xs, _, xs[j], rfl, rfl, z1.sqL hx ne, atI_nat (List.getElem?_eq_getElem hj), q _ _ z1 ra (List.getElem_mem hj)⟩
theorem has_lturn (F : FnP K "_law_turn" sLTurn f fd) (m : mg "_law_turn" = some (.ref f)) (B : Bl mg) (hT : Has P w K mg base "_law_taken" 1 [] (spTaken K)) : Has P w K mg base "_law_turn" 2 [] (spLTurn K) := by
  refine ⟨f, fd, ["row", "halls"], [], m, F.kp, F.bindsN (fun _ _ _ _ _ _ us hl => match us, hl with | [_, _], _ => rfl), .nil, ?_⟩
  refine F.ok scLTurn (fun vs H Q E h => ?_) (fun cdv A outer s H vs Q E hr h => ⟨_, PSs.nox (
    pss_cons (ps_par (i := 2) (j := 3) (by rfl) scLTurn.nd rfl rfl (by decide) rfl rfl (pa_cons (pe_tup pa_nil) (pa_cons (pe_listRg rfl rfl B.list (prg_1 rfl B.range (pv 1))) pa_nil)) (by rfl))
    (pss_cons (ps_while PassesOwn.never (pt_cmpR (op_neNil hr.units) (pv 3) (pe_lst pa_nil) (nomark _))
      (pss_one (ps_set (i := 2) scLTurn.nd rfl (Or.inl rfl) (pe_op op_catP (pv 2) (pe_tupP (pa_cons (pe_bm PySem.F.plainAttrs_list PySem.F.slot_list_pop PySem.F.type_list_pop mt_popAt (pv 3) (pa_cons (pe_has hT hr (by decide) (pa_cons (pv 0) (pa_cons (pe_callB call_len_seq rfl B.len PySem.boot_len (pa_cons (pv 3) pa_nil)) pa_nil))) pa_nil)) pa_nil))))))
    (pss_one (ps_ret (pv 2))))), ?_⟩)
  · obtain ⟨r, sa, n, rfl, _⟩ := h
    rfl
  · obtain ⟨r, sa, n, rfl, hd, hn1, hn2, q⟩ := h
    obtain ⟨xr, hxr⟩ := hd.1.lst
    refine ⟨Nat.zero_le _, fun e he => ⟨_, rfl, n, rfl, RgOk.of_le (by decide) (by omega) (by decide) (by omega), fun l hl => ⟨_, _, rfl, ?_⟩⟩⟩
    have ner : e ≠ r := fun w => by rw [w, hxr] at he; cases he
    have nel : e ≠ l := fun w => by rw [← w, upd_same] at hl; cases hl
    have hl0 : H l = none := by rw [upd_ne nel.symm] at hl; exact hl
    have nlr : l ≠ r := fun w => by rw [w, hxr] at hl0; cases hl0
    refine ⟨fun m σ H' => ∃ (fv : V) (fs ls : List Int), σ = [some (.ref r), some (.int (n : Int)), some fv, some (.ref l)] ∧ KpB r H H' ∧ RowAt H' r sa ∧ H' l = some (.lst (ls.map V.int)) ∧ TI K H' fv fs ∧ (fs ≠ [] → PT H' fv fs) ∧ (fs ++ ls).Perm (idt n) ∧ m = ls.length,
      ⟨_, .ref e, [], idt n, rfl, ((KpB.refl H).put he ner).put hl0 nlr, (hd.1.put ner).put nlr, by rw [upd_same, rgV_idt], TI.of (by rw [upd_ne nel, upd_same]; rfl), fun h => absurd rfl h, List.Perm.refl _, rfl⟩, ?_⟩
    rintro m σ H' ⟨fv, fs, ls, rfl, z, ra, hl', tf, pf, pm, rfl⟩
    obtain ⟨xr', hxr'⟩ := ra.lst
    refine ⟨_, rfl, Nat.zero_le _, fun p hp => ?_⟩
    have npr : p ≠ r := fun w => by rw [w, hxr'] at hp; cases hp
    have npl : p ≠ l := fun w => by rw [w, hl'] at hp; cases hp
    have z2 := z.put (z.none hp) npr (o := .lst [])
    have zp := (Kp.refl H').new hp (o := .lst [])
    have hl2 : (upd H' p (.lst [])) l = some (.lst (ls.map V.int)) := by rw [upd_ne npl.symm]; exact hl'
    refine ⟨l, p, ls.map V.int, rfl, rfl, SqL.of hl2, SqL.of upd_same, _, rfl, ?_⟩
    by_cases hls : ls = []
    · subst hls
      refine ifF (A := _) (B := _) rfl ?_
      rw [List.append_nil] at pm
      have it := low_perm pm
      exact ⟨_, rfl, q _ _ fs z2 (ra.put npr) (zp.pt (pf (ne_len it hn1))) it⟩
    · refine ifT (A := _) (B := _) (by cases ls with | nil => exact absurd rfl hls | cons _ _ => rfl) ?_
      refine ⟨fun σ' H'' => ∃ m', m' < ls.length ∧ ∃ (fv : V) (fs ls : List Int), σ' = [some (.ref r), some (.int (n : Int)), some fv, some (.ref l)] ∧ KpB r H H'' ∧ RowAt H'' r sa ∧ H'' l = some (.lst (ls.map V.int)) ∧ TI K H'' fv fs ∧ (fs ≠ [] → PT H'' fv fs) ∧ (fs ++ ls).Perm (idt n) ∧ m' = ls.length, fun σ' H'' h => h, ?_⟩
      have lp : 0 < ls.length := List.length_pos_iff.mpr hls
      have ll : ls.length ≤ n := by
        have := pm.length_eq
        rw [List.length_append, idt_len] at this
        omega
      refine ⟨_, rfl, _, rfl, .inl ⟨rfl, _, SqL.of hl2⟩, _, rfl, _, rfl, l, _, rfl, .inl (SqL.of hl2), r, sa, _, rfl, hd.b z2 (ra.put npr), by rw [List.length_map]; omega, by rw [List.length_map]; omega, fun v H3 z3 ra3 v0 v1 => ?_⟩
      rw [List.length_map] at v1
      obtain ⟨j, rfl⟩ := Int.eq_ofNat_of_zero_le v0
      have hj : j < ls.length := by omega
      have hl3 : H3 l = some (.lst (ls.map V.int)) := z3.lst hl2 nlr
      refine ⟨l, _, _, j, .int ls[j], rfl, rfl, hl3, by omega, by omega, by rw [seqIndex_of (by omega) (by rw [List.length_map]; omega)]; rfl, by rw [List.getElem?_map, List.getElem?_eq_getElem hj]; rfl, (by show 1 ≤ sizeLine; decide), fun b o hb ho => ?_⟩
      rw [erase_map] at hb ⊢
      have nbl : b ≠ l := fun w => by rw [w, upd_same] at hb; cases hb
      have hb3 : H3 b = none := by rw [upd_ne nbl] at hb; exact hb
      obtain ⟨xr3, hxr3⟩ := ra3.lst
      have nbr : b ≠ r := fun w => by rw [w, hxr3] at hb3; cases hb3
      have z13 := z2.trans z3
      have t4 : Tup H3 (upd H3 l (.lst ((ls.eraseIdx j).map V.int))) := Tup.put (by rw [hl3]; trivial)
      have t5 : Tup H3 (upd (upd H3 l (.lst ((ls.eraseIdx j).map V.int))) b (.frz o (.tup [.int ls[j]]))) := t4.trans (Tup.new hb)
      have t6 : Tup H' (upd (upd H3 l (.lst ((ls.eraseIdx j).map V.int))) b (.frz o (.tup [.int ls[j]]))) := zp.tup.trans (z3.tup.trans t5)
      obtain ⟨pa, rfl, hpa⟩ := id tf
      have fl : fs.length ≤ n := by
        have := pm.length_eq
        rw [List.length_append, idt_len] at this
        omega
      have zz := (z13.put hl0 nlr (o := .lst ((ls.eraseIdx j).map V.int))).put (z13.none hb3) nbr (o := .frz o (.tup [.int ls[j]]))
      have rr := (ra3.put nlr (o := .lst ((ls.eraseIdx j).map V.int))).put nbr (o := .frz o (.tup [.int ls[j]]))
      have el : (ls.eraseIdx j).length < ls.length := by rw [List.length_eraseIdx_of_lt hj]; omega
      have pm2 : ((fs ++ [ls[j]]) ++ ls.eraseIdx j).Perm (idt n) := by
        rw [List.append_assoc]
        exact ((erase_perm ls j _ (List.getElem?_eq_getElem hj)).append_left fs).trans pm
      refine ⟨pa, b, _, [.int ls[j]], rfl, rfl, t6.sq hpa, .inl (.inr ⟨o, upd_same⟩), by rw [List.length_map, sizeLine_eq]; simp only [List.length_singleton]; omega, by simp, fun hx => ?_, fun hx p3 o3 hp3 ho3 => ?_⟩
      · have hfs : fs = [] := by simpa using hx
        subst hfs
        have pt : PT (upd (upd H3 l (.lst ((ls.eraseIdx j).map V.int))) b (.frz o (.tup [.int ls[j]]))) (.ref b) [ls[j]] := .of upd_same ho
        exact ⟨_, el, .ref b, [ls[j]], ls.eraseIdx j, rfl, zz, rr, by rw [upd_ne nbl.symm, upd_same], pt.ti, fun _ => pt, pm2, rfl⟩
      · have np3 : p3 ≠ l := fun w => by rw [w, upd_ne nbl.symm, upd_same] at hp3; cases hp3
        have p3r : p3 ≠ r := fun w => by
          obtain ⟨x4, hx4⟩ := rr.lst
          rw [w, hx4] at hp3
          cases hp3
        have pt : PT (upd (upd (upd H3 l (.lst ((ls.eraseIdx j).map V.int))) b (.frz o (.tup [.int ls[j]]))) p3 (.frz o3 (.tup (fs.map V.int ++ [.int ls[j]])))) (.ref p3) (fs ++ [ls[j]]) := .of (by rw [upd_same, List.map_append]; rfl) ho3
        exact ⟨_, el, .ref p3, fs ++ [ls[j]], ls.eraseIdx j, rfl, zz.put (zz.none hp3) p3r, rr.put p3r, by rw [upd_ne np3.symm, upd_ne nbl.symm, upd_same], pt.ti, fun _ => pt, pm2, rfl⟩
end
end NS
end
section
set_option maxHeartbeats 4000000
/-! DT: nested values; written ones -/
namespace NS
open PySem PySem.Spec PyProof.Rows L2 ZS
inductive Dt where
  | int (i : Int) | bl (b : Bool) | tup (xs : List Dt) | lst (xs : List Dt)
mutual
/-- v stands for d -/
def IsDt (K : PySem.W.Frag) (H : Hp) : Dt → V → Prop
  | .int i, v => v = .int i
  | .bl b, v => v = .bl b
  | .tup ds, v => ∃ a xs, v = .ref a ∧ SqT K H a xs ∧ IsDts K H ds xs
  | .lst ds, v => ∃ a xs, v = .ref a ∧ SqL K H a xs ∧ IsDts K H ds xs
def IsDts (K : PySem.W.Frag) (H : Hp) : List Dt → List V → Prop
  | [], vs => vs = []
  | d :: ds, vs => ∃ v r, vs = v :: r ∧ IsDt K H d v ∧ IsDts K H ds r
end
mutual
def Dt.depth : Dt → Nat
  | .int _ => 0
  | .bl _ => 0
  | .tup ds => Dt.depths ds + 1
  | .lst ds => Dt.depths ds + 1
def Dt.depths : List Dt → Nat
  | [] => 0
  | d :: ds => max (Dt.depth d) (Dt.depths ds)
end
section
variable {K : PySem.W.Frag} {H H' : Hp}
mutual
theorem IsDt.kp (z : Kp H H') : ∀ (d : Dt) (v : V), IsDt K H d v → IsDt K H' d v
  | .int i, v, h => by unfold IsDt at h ⊢; exact h
  | .bl b, v, h => by unfold IsDt at h ⊢; exact h
  | .tup ds, v, h => by
    unfold IsDt at h ⊢
    obtain ⟨a, xs, e, s, r⟩ := h
    exact ⟨a, xs, e, z.sqT s, IsDts.kp z ds xs r⟩
  | .lst ds, v, h => by
    unfold IsDt at h ⊢
    obtain ⟨a, xs, e, s, r⟩ := h
    exact ⟨a, xs, e, z.sqL s, IsDts.kp z ds xs r⟩
theorem IsDts.kp (z : Kp H H') : ∀ (ds : List Dt) (vs : List V), IsDts K H ds vs → IsDts K H' ds vs
  | [], vs, h => by unfold IsDts at h ⊢; exact h
  | d :: ds, vs, h => by
    unfold IsDts at h ⊢
    obtain ⟨v, r, e, h1, h2⟩ := h
    exact ⟨v, r, e, IsDt.kp z d v h1, IsDts.kp z ds r h2⟩
end
theorem IsDts.len : ∀ {ds : List Dt} {vs : List V}, IsDts K H ds vs → vs.length = ds.length
  | [], vs, h => by unfold IsDts at h; rw [h]; rfl
  | d :: ds, vs, h => by
    unfold IsDts at h
    obtain ⟨v, r, e, _, h2⟩ := h
    rw [e, List.length_cons, List.length_cons, IsDts.len h2]
theorem IsDts.get : ∀ {ds : List Dt} {vs : List V} {i : Nat} {d : Dt}, IsDts K H ds vs → ds[i]? = some d → ∃ v, vs[i]? = some v ∧ IsDt K H d v
  | [], vs, i, d, h, e => by simp at e
  | d0 :: ds, vs, 0, d, h, e => by
    unfold IsDts at h
    obtain ⟨v, r, e1, h1, _⟩ := h
    cases e
    exact ⟨v, by rw [e1]; rfl, h1⟩
  | d0 :: ds, vs, i + 1, d, h, e => by
    unfold IsDts at h
    obtain ⟨v, r, e1, _, h2⟩ := h
    obtain ⟨x, h3, h4⟩ := IsDts.get h2 (i := i) (d := d) e
    exact ⟨x, by rw [e1]; exact h3, h4⟩
theorem IsDts.snoc : ∀ {ds es : List Dt} {vs ws : List V}, IsDts K H ds vs → IsDts K H es ws → IsDts K H (ds ++ es) (vs ++ ws)
  | [], es, vs, ws, h, h' => by unfold IsDts at h; rw [h]; exact h'
  | d :: ds, es, vs, ws, h, h' => by
    unfold IsDts at h
    obtain ⟨v, r, e, h1, h2⟩ := h
    show IsDts K H (d :: (ds ++ es)) (vs ++ ws)
    unfold IsDts
    exact ⟨v, r ++ ws, by rw [e]; rfl, h1, IsDts.snoc h2 h'⟩
theorem dt_ints : ∀ ns : List Int, IsDts K H (ns.map Dt.int) (ns.map V.int)
  | [] => by unfold IsDts; rfl
  | n :: ns => by
    show IsDts K H (Dt.int n :: ns.map Dt.int) (V.int n :: ns.map V.int)
    unfold IsDts
    exact ⟨_, _, rfl, by unfold IsDt; rfl, dt_ints ns⟩
theorem of_dt_ints : ∀ (ns : List Int) (vs : List V), IsDts K H (ns.map Dt.int) vs → vs = ns.map V.int
  | [], vs, h => by simp only [List.map_nil] at h; unfold IsDts at h; rw [h]; rfl
  | n :: ns, vs, h => by
    simp only [List.map_cons] at h
    unfold IsDts at h
    obtain ⟨v, r, e, h1, h2⟩ := h
    unfold IsDt at h1
    rw [e, h1, of_dt_ints ns r h2, List.map_cons]
abbrev dT (t : List Int) : Dt := .tup (t.map Dt.int)
theorem TI.dt {v : V} {k : List Int} (h : TI K H v k) : IsDt K H (dT k) v := by
  obtain ⟨a, e, s⟩ := h
  unfold IsDt
  exact ⟨a, _, e, s, dt_ints k⟩
theorem dt_ti {v : V} {k : List Int} (h : IsDt K H (dT k) v) : TI K H v k := by
  unfold IsDt at h
  obtain ⟨a, xs, e, s, r⟩ := h
  rw [of_dt_ints k xs r] at s
  exact ⟨a, e, s⟩
end
/-- an expression that makes d out of nothing -/
def tDt (K : PySem.W.Frag) (d : Dt) : TE := fun _ H Q => ∀ v H', Kp H H' → IsDt K H' d v → Q v H'
def tDts (K : PySem.W.Frag) (ds : List Dt) : TA := fun _ H Q => ∀ vs H', Kp H H' → IsDts K H' ds vs → Q vs H'
section
variable {X : Cx}
theorem pd_int {i : Int} {j : Nat} {pos : Pos} : PE X (.Constant (.int i) j pos) (tDt X.K (.int i)) := pe_imp pe_int fun _ H Q h => h _ H (Kp.refl H) (by unfold IsDt; rfl)
theorem pd_nil : PA X [] (tDts X.K []) := ⟨fun pos pins s σ H Q I h => pa_nil.run pos pins s σ H Q I (h [] H (Kp.refl H) (by unfold IsDts; rfl))⟩
theorem pd_cons {e : Expr} {es : List Expr} {d : Dt} {ds : List Dt} (h1 : PE X e (tDt X.K d)) (h2 : PA X es (tDts X.K ds)) (hs : starEach (e :: es) X.env = (false, eval e X.env) :: starEach es X.env := by rfl) : PA X (e :: es) (tDts X.K (d :: ds)) :=
  ⟨fun pos pins s σ H Q I h => (pa_cons h1 h2 hs).run pos pins s σ H Q I (show tCons (tDt X.K d) (tDts X.K ds) σ H Q from fun v H1 z1 i1 vs H2 z2 i2 => h _ H2 (z1.trans z2) (by unfold IsDts; exact ⟨v, vs, rfl, IsDt.kp z2 d v i1, i2⟩))⟩
theorem pd_tup {es : List Expr} {x1} {pos : Pos} {ds : List Dt} (h : PA X es (tDts X.K ds)) (hl : ds.length ≤ 100 := by decide) : PE X (.Tuple es x1 pos) (tDt X.K (.tup ds)) :=
  pe_imp (pe_tup h) fun _ H Q q => show tTup (tDts X.K ds) _ H Q from fun vs H1 z1 i1 => ⟨by rw [i1.len, sizeLine_eq]; omega, fun p hp => q _ _ (z1.new hp) (by unfold IsDt; exact ⟨p, vs, rfl, SqT.of upd_same, IsDts.kp ((Kp.refl H1).new hp) ds vs i1⟩)⟩
theorem pd_lst {es : List Expr} {pos : Pos} {ds : List Dt} (h : PA X es (tDts X.K ds)) (hl : ds.length ≤ 100 := by decide) : PE X (.List es pos) (fun _ H Q => ∀ p H' vs, Kp H H' → H' p = some (.lst vs) → IsDts X.K H' ds vs → Q (.ref p) H') :=
  pe_imp (pe_lst h) fun _ H Q q => show tLst (tDts X.K ds) _ H Q from fun vs H1 z1 i1 => ⟨by rw [i1.len, sizeLine_eq]; omega, fun p hp => q p _ vs (z1.new hp) upd_same (IsDts.kp ((Kp.refl H1).new hp) ds vs i1)⟩
end
end NS
end
section
set_option maxHeartbeats 4000000
/-! L2x: circle, stayers, undone, then, members of the law -/
namespace NS
open PySem PySem.Spec PyProof.Rows L2 ZS
theorem scLCircle : FnScope ["halls", "step", "hall"] ["halls", "step"] (defScope sLCircle) := ⟨rfl, rfl, rfl, by decide +kernel, rfl, by decide +kernel, by decide +kernel⟩
theorem scLMembers : FnScope ["maps", "halls", "found", "last", "one", "turn", "later", "hall"] ["maps", "halls"] (defScope sLMembers) := ⟨rfl, rfl, rfl, by decide +kernel, rfl, by decide +kernel, by decide +kernel⟩
def circ (n s : Nat) : List Int := (List.range n).map fun (i : Nat) => ((i : Int) + (s : Int)) % (n : Int)
def spLCircle : Sp := fun vs H Q _ => ∃ n s : Nat, vs = [.int n, .int s] ∧ 1 ≤ n ∧ n ≤ 1000 ∧ ∀ v H', Kp H H' → PT H' v (circ n s) → Q v H'
def spLMembers (K : PySem.W.Frag) : Sp := fun vs H Q _ => ∃ (v : V) (n : Nat) (ts U : List (List Int)), vs = [v, .int n] ∧ PTS K H v ts ∧ 1 ≤ n ∧ n ≤ 1000 ∧ (∀ t ∈ ts, IsT n t) ∧ Room' n comp ts (idt n) U ∧
  ∀ q H' us ks, Kp H H' → H' q = some (.lst us) → Paired (PT H') us ks → ks.Nodup → (∀ a, a ∈ ks ↔ Grp n ts a) → Q (.ref q) H'
/-- ahead of each turn of the while -/
def WM (P : Program) (w : World) (n : Nat) (ts : List (List Int)) (U : List (List Int)) (H : Hp) (tb d la : Addr) (m : Nat) (σ : L2.St) (H' : Hp) : Prop :=
  ∃ (L : List (Addr × List Int)) (ws : List V) (as : List (List Int)) (x y z : Option V), σ = [some (.ref tb), some (.int (n : Int)), some (.ref d), some (.ref la), x, y, z, none] ∧ Kp H H' ∧ H' d = some (DDict P w d L) ∧ (∀ p ∈ L, PT H' (.ref p.1) p.2) ∧ H' la = some (.lst ws) ∧ Paired (PT H') ws as ∧
    (∀ a ∈ as, a ∈ L.map (·.2)) ∧ (∀ a ∈ L.map (·.2), Grp n ts a) ∧ idt n ∈ L.map (·.2) ∧ (∀ a ∈ L.map (·.2), a ∉ as → ∀ t ∈ ts, comp a t ∈ L.map (·.2)) ∧ (L.map (·.2)).Nodup ∧ m = 2 * (U.length - L.length) + as.length ∧ m ≤ 2 * U.length + 1
/-- ahead of each turn of the for -/
structure FM (P : Program) (w : World) (n : Nat) (ts : List (List Int)) (U : List (List Int)) (H : Hp) (tb d la : Addr) (v : V) (a : List Int) (m : Nat) (i : Nat) (σ : L2.St) (H' : Hp) : Prop where
  kp : Kp H H'
  ex : ∃ (L : List (Addr × List Int)) (ws : List V) (as : List (List Int)) (y z : Option V), σ = [some (.ref tb), some (.int (n : Int)), some (.ref d), some (.ref la), some v, y, z, none] ∧ PT H' v a ∧ a ∈ L.map (·.2) ∧ H' d = some (DDict P w d L) ∧ (∀ p ∈ L, PT H' (.ref p.1) p.2) ∧ H' la = some (.lst ws) ∧ Paired (PT H') ws as ∧
    (∀ a ∈ as, a ∈ L.map (·.2)) ∧ (∀ a ∈ L.map (·.2), Grp n ts a) ∧ idt n ∈ L.map (·.2) ∧ (∀ b ∈ L.map (·.2), b ∉ as → b ≠ a → ∀ t ∈ ts, comp b t ∈ L.map (·.2)) ∧ (∀ j, j < i → ∀ t, ts[j]? = some t → comp a t ∈ L.map (·.2)) ∧ (L.map (·.2)).Nodup ∧ 2 * (U.length - L.length) + as.length < m
theorem pr_pt {H H' : Hp} (z : Tup H H') {vs : List V} {as : List (List Int)} (h : Paired (PT H) vs as) : Paired (PT H') vs as := h.mono fun _ _ q => NS.Tup.pt z q
section
variable {P : Program} {w : World} {K : PySem.W.Frag} {mg : Str → Option Value} {base : Heap} {f : Addr} {fd : FuncData}
theorem has_lcircle (F : FnP K "_law_circle" sLCircle f fd) (m : mg "_law_circle" = some (.ref f)) (B : Bl mg) : Has P w K mg base "_law_circle" 1 [] spLCircle := by
  refine ⟨f, fd, ["halls", "step"], [], m, F.kp, F.bindsN (fun _ _ _ _ _ _ us hl => match us, hl with | [_, _], _ => rfl), .nil, ?_⟩
  refine F.ok scLCircle (fun vs H Q E h => ?_) (fun cdv A outer s H vs Q E hr h => ⟨_, PSs.nox (pss_one (ps_ret (pe_callTy cr_tupP rfl B.tuple PyProof.Rows.boot_tuple (pa_cons
    (pe_lc (own := [("hall", 2)]) (g := gName 2) (tt := tYes) rfl scLCircle.nd (pi_range1 rfl B.range (pa_cons (pv 0) pa_nil)) (blkOk_by (N := ["halls", "step", "hall"]) (sc := defScope sLCircle) (by decide +kernel))
      (fun _ _ _ _ _ => pg_name (i := 2) scLCircle.nd rfl (Or.inl rfl)) (fun _ _ _ _ _ => pts_nil) (fun _ _ _ _ _ => pe_op op_mod (pe_op op_add (pv 2) (pv 1)) (pv 0))) pa_nil)))), ?_⟩)
  · obtain ⟨n, s, rfl, _⟩ := h
    rfl
  · obtain ⟨n, s', rfl, hn, hn2, q⟩ := h
    refine ⟨_, rfl, (n : Int), rfl, by omega, by omega, fun D hD => ?_⟩
    show ∃ W, _
    have cl : (circ n s').length = n := by unfold circ; simp
    refine lcF (J := Itr 0 n) (Wlk.rng 0 n) hD (by have := big; omega) (fun i y _ => y = .int ((circ n s').getD i 0)) (fun _ _ _ _ _ h => h) (fun i x H' Q1 hi z hx q1 => ?_) (fun x H' Q Q' h q => h _ _ q) (fun ys H' z hD' hp => ?_)
    · subst hx
      refine ⟨rfl, _, rfl, _, rfl, _, _, rfl, rfl, _, rfl, _, _, rfl, rfl, (by show (0 : Int) < (n : Int); omega), q1 _ _ (Kp.refl _) ?_⟩
      rw [getD_of (d := 0) (x := ((i : Int) + (s' : Int)) % (n : Int)) (by unfold circ; rw [List.getElem?_map, List.getElem?_range hi]; rfl)]
      show V.int ((0 + (i : Int) + (s' : Int)) % (n : Int)) = _
      rw [Int.zero_add]
    · refine ⟨D, _, rfl, SqL.of hD', fun l o hl ho => ?_⟩
      rw [paired_ints cl hp]
      exact q _ _ (z.new hl) (.of upd_same ho)
theorem has_lmembers (F : FnP K "_law_members" sLMembers f fd) (m : mg "_law_members" = some (.ref f)) (B : Bl mg) : Has P w K mg base "_law_members" 1 [] (spLMembers K) := by
  refine ⟨f, fd, ["maps", "halls"], [], m, F.kp, F.bindsN (fun _ _ _ _ _ _ us hl => match us, hl with | [_, _], _ => rfl), .nil, ?_⟩
  refine F.ok scLMembers (fun vs H Q E h => ?_) (fun cdv A outer s H vs Q E hr h => ⟨_, PSs.nox (
    pss_cons (ps_par (i := 2) (j := 3) (by rfl) scLMembers.nd rfl rfl (by decide) rfl rfl (pa_cons (pe_dd1 hr.units (pe_tupRgP rfl rfl B.tuple (prg_1 rfl B.range (pv 1)))) (pa_cons (pe_lst (pa_cons (pe_tupRgP rfl rfl B.tuple (prg_1 rfl B.range (pv 1))) pa_nil)) pa_nil)) (by rfl))
    (pss_cons (ps_while PassesOwn.never (pt_cmpR (op_neNil hr.units) (pv 3) (pe_lst pa_nil) (nomark _))
      (pss_cons (ps_set (i := 4) scLMembers.nd rfl (Or.inl rfl) (pe_bm0 PySem.F.plainAttrs_list PySem.F.slot_list_pop PySem.F.type_list_pop mt_pop (pv 3)))
      (pss_one (ps_for PassesOwn.never rfl (pi_tup (pv 0)) (pg_name (i := 5) scLMembers.nd rfl (Or.inr rfl))
        (pss_cons (ps_set (i := 6) scLMembers.nd rfl (Or.inl rfl) (pe_callTy cr_tupP rfl B.tuple PyProof.Rows.boot_tuple (pa_cons
          (pe_lc (own := [("hall", 7)]) (g := gName 7) (tt := tYes) rfl scLMembers.nd (pi_tup (pv 4)) (blkOk_by (N := ["maps", "halls", "found", "last", "one", "turn", "later", "hall"]) (sc := defScope sLMembers) (by decide +kernel))
            (fun _ _ _ _ _ => pg_name (i := 7) scLMembers.nd rfl (Or.inl rfl)) (fun _ _ _ _ _ => pts_nil) (fun _ _ _ _ _ => pe_ix (r := rIxT K) ix_tup (pv 5) (pv 7) (fun _ _ => rfl))) pa_nil)))
        (pss_one (ps_if (pt_cmpR (or_ddnotin hr.units) (pv 6) (pv 2) rfl)
          (pss_cons (ps_asg pe_bl (pg_sub (pv 2) (pv 6) (set_dd hr.units))) (pss_one (ps_expr (pe_bm PySem.F.plainAttrs_list PySem.F.slot_list_append PySem.F.type_list_append mt_append (pv 3) (pa_cons (pv 6) pa_nil))))) pss_nil)))))))
    (pss_one (ps_ret (pe_callTy (cr_ddlist rfl) rfl B.list PyProof.Rows.boot_list (pa_cons (pv 2) pa_nil)))))), ?_⟩)
  · obtain ⟨v, n, ts, U, rfl, _⟩ := h
    rfl
  · obtain ⟨v, n, ts, U, rfl, ⟨tb, tvs, rfl, hT, hp⟩, hn, hn2, hi, rm, q⟩ := h
    have tl := hp.length
    have few := rm.few
    refine fun d hd => ⟨_, rfl, n, rfl, RgOk.of_le (by decide) (by omega) (by decide) (by omega), fun b0 o0 hb0 ho0 => ?_⟩
    have n0 : b0 ≠ d := fun e => by rw [e, upd_same] at hb0; cases hb0
    have hb0' : H b0 = none := by rw [upd_ne n0] at hb0; exact hb0
    have z0 : Kp H (upd (upd H d (DDict P w d [])) b0 (.frz o0 (.tup (rgV 0 n)))) := ((Kp.refl H).new hd).new hb0
    have p0 : PT (upd (upd H d (DDict P w d [])) b0 (.frz o0 (.tup (rgV 0 n)))) (.ref b0) (idt n) := .of (by rw [upd_same, rgV_idt]) ho0
    refine ⟨b0, idt n, rfl, p0.ti, by rw [upd_ne n0.symm, upd_same], ?_⟩
    have z1 := z0.put hd (o := DDict P w d [(b0, idt n)])
    have t1 : Tup (upd (upd H d (DDict P w d [])) b0 (.frz o0 (.tup (rgV 0 n)))) (upd (upd (upd H d (DDict P w d [])) b0 (.frz o0 (.tup (rgV 0 n)))) d (DDict P w d [(b0, idt n)])) := Tup.put (by rw [upd_ne n0.symm, upd_same]; trivial)
    have p1 := NS.Tup.pt t1 p0
    have d1 : (upd (upd (upd H d (DDict P w d [])) b0 (.frz o0 (.tup (rgV 0 n)))) d (DDict P w d [(b0, idt n)])) d = some (DDict P w d [(b0, idt n)]) := upd_same
    obtain ⟨H1, eH1⟩ : ∃ x, x = upd (upd (upd H d (DDict P w d [])) b0 (.frz o0 (.tup (rgV 0 n)))) d (DDict P w d [(b0, idt n)]) := ⟨_, rfl⟩
    rw [← eH1] at z1 t1 p1 d1
    refine ⟨_, rfl, n, rfl, RgOk.of_le (by decide) (by omega) (by decide) (by omega), fun b1 o1 hb1 ho1 => ⟨(by show 1 ≤ sizeLine; decide), fun la hla => ⟨_, _, rfl, ?_⟩⟩⟩
    replace hb1 : H1 b1 = none := by rw [eH1]; exact hb1
    replace hla : (upd H1 b1 (.frz o1 (.tup (rgV 0 n)))) la = none := by rw [eH1]; exact hla
    show tWhile _ _ _ _ (upd (upd (upd (upd (upd H d (DDict P w d [])) b0 (.frz o0 (.tup (rgV 0 n)))) d (DDict P w d [(b0, idt n)])) b1 (.frz o1 (.tup (rgV 0 n)))) la (.lst [.ref b1]))
    rw [← eH1]
    have z2 := (Kp.refl H1).new hb1 (o := .frz o1 (.tup (rgV 0 n)))
    have p2 : PT (upd H1 b1 (.frz o1 (.tup (rgV 0 n)))) (.ref b1) (idt n) := .of (by rw [upd_same, rgV_idt]) ho1
    have z3 := z2.new hla (o := .lst [.ref b1])
    have hla0 : H la = none := (z1.trans z2).none hla
    have z3' := (Kp.refl (upd H1 b1 (.frz o1 (.tup (rgV 0 n))))).new hla (o := .lst [.ref b1])
    have nld : la ≠ d := fun e => by
      have := z2.k _ _ d1 (fun _ q => by cases q)
      rw [← e, hla] at this
      cases this
    refine ⟨WM P w n ts U H tb d la, ⟨2 * (U.length - 1) + 1, [(b0, idt n)], [.ref b1], [idt n], none, none, none, rfl, z1.trans z3, z3.k _ _ d1 (fun _ q => by cases q), fun p hp => by rw [List.mem_singleton.mp hp]; exact z3.pt p1, upd_same, .cons (z3'.pt p2) .nil, fun a h => h, fun a h => by rw [List.mem_singleton.mp h]; exact .base, List.mem_singleton.mpr rfl, fun a h h' => absurd h h', nd1 _, rfl, by omega⟩, ?_⟩
    have inU : ∀ L : List (List Int), (∀ b ∈ L, Grp n ts b) → ∀ b ∈ L, b ∈ U := fun L h b hb => (h b hb).inU rm.a0 rm.cl
    rintro m σ H' ⟨L, ws, as, x, y, z, rfl, zk, hdd, hpt, hw, hp2, sub, rch, m0, cl, nd, rfl, mle⟩
    refine ⟨_, rfl, Nat.zero_le _, fun p hpn => ?_⟩
    have zp := (Kp.refl H').new hpn (o := .lst [])
    have npl : p ≠ la := fun e => by rw [e, hw] at hpn; cases hpn
    refine ⟨la, p, ws, rfl, rfl, SqL.of (zp.lst hw), SqL.of upd_same, _, rfl, ?_⟩
    have zk2 := zk.trans zp
    have hdd2 : (upd H' p (.lst [])) d = some (DDict P w d L) := zp.k _ _ hdd (fun _ q => by cases q)
    have hpt2 : ∀ p' ∈ L, PT (upd H' p (.lst [])) (.ref p'.1) p'.2 := fun p' hp' => zp.pt (hpt p' hp')
    have hw2 := zp.lst hw
    have hp3 := pr_pt zp.tup hp2
    generalize upd H' p (.lst []) = H2 at zk2 hdd2 hpt2 hw2 hp3 ⊢
    have lU : L.length ≤ U.length := by
      have := nd_le nd (inU _ rch)
      rwa [List.length_map] at this
    by_cases hws : ws = []
    · subst hws
      cases hp2
      refine ifF (A := _) (B := _) rfl ?_
      refine ⟨_, rfl, d, L, rfl, hdd2, fun qn hq => q qn _ _ (L.map (·.2)) (zk2.new hq) upd_same ?_ nd fun a => ⟨rch a, fun h => ?_⟩⟩
      · have zq := (Kp.refl H2).new hq (o := .lst (L.map fun p => V.ref p.1))
        have go : ∀ l : List (Addr × List Int), (∀ p ∈ l, PT H2 (.ref p.1) p.2) → Paired (PT H2) (l.map fun q => V.ref q.1) (l.map (·.2)) := fun l => by
          induction l with
          | nil => exact fun _ => .nil
          | cons x r ih => exact fun h => .cons (h x (List.mem_cons_self ..)) (ih fun p hp => h p (List.mem_cons_of_mem _ hp))
        exact pr_pt zq.tup (go L hpt2)
      · induction h with
        | base => exact m0
        | next _ ht ih => exact cl _ ih List.not_mem_nil _ ht
    · refine ifT (A := _) (B := _) (by cases ws with | nil => exact absurd rfl hws | cons _ _ => rfl) ?_
      obtain ⟨v, a, ws', as', rfl, rfl, hva, hp4⟩ := pr_append hp3 hws
      refine ⟨fun σ' H'' => ∃ m', m' < 2 * (U.length - L.length) + (as' ++ [a]).length ∧ WM P w n ts U H tb d la m' σ' H'', fun σ' H'' h => h, ?_⟩
      refine ⟨_, rfl, .inl ⟨rfl, _, SqL.of hw2⟩, la, _, v, rfl, rfl, hw2, by simp, ?_⟩
      rw [List.dropLast_concat]
      have tz : Tup H2 (upd H2 la (.lst ws')) := Tup.put (by rw [hw2]; trivial)
      refine ⟨_, rfl, tb, rfl, ⟨_, (zk2.put hla0).sqT hT⟩, ?_⟩
      refine forG (Wlk.tup hT) (FM P w n ts U H tb d la v a (2 * (U.length - L.length) + (as' ++ [a]).length)) ⟨zk2.put hla0, L, ws', as', y, z, rfl, NS.Tup.pt tz hva, sub a (by simp), by rw [upd_ne nld.symm]; exact hdd2, fun p hp => NS.Tup.pt tz (hpt2 p hp), upd_same, pr_pt tz hp4, fun b hb => sub b (by simp [hb]), rch, m0, fun b hb h1 h2 => cl b hb (by simp [h1, h2]), fun j hj => absurd hj (Nat.not_lt_zero _), nd, by rw [List.length_append]; simp⟩
        (fun i σ' H1 _ h => h.kp) (fun i tw σ' H3 H4 hi' hpv z12 hx => ?_) (fun σ' H3 hpv => ?_)
      · obtain ⟨zk4, L4, ws4, as4, y4, z4, rfl, el4, ma, dd4, pt4, hw4, hp5, sub4, rch4, m04, cl4, done4, nd4, ms⟩ := hpv
        obtain ⟨t, ht, pt⟩ := pr_get hp hx
        have mt := List.mem_of_getElem? ht
        have tt := hi t mt
        have ta := rm.is a (inU _ rch4 a ma)
        have zz0 := zk4.trans z12
        have elp := z12.pt el4
        obtain ⟨pv, ov, rfl, hvv, _⟩ := id elp
        have hSv : SqT K H4 pv (a.map V.int) := .inl (.inr ⟨ov, hvv⟩)
        have ptt := zz0.ti pt
        refine ⟨_, rfl, pv, rfl, ⟨_, hSv⟩, fun D hD => ?_⟩
        refine lcF (Wlk.tup hSv) hD (by rw [List.length_map, ta.len]; have := big; omega) (fun i y _ => y = .int ((comp a t).getD i 0)) (fun _ _ _ _ _ h => h) (fun i x H5 Q1 hi z hx q1 => ?_) (fun x H' Q Q' h q => h _ _ q) (fun ys H5 z5 hD' hpr => ?_)
        · obtain ⟨k, e, rfl⟩ := map_some hx
          obtain ⟨h0, h1⟩ := ta.low k (List.mem_of_getElem? e)
          obtain ⟨pb, rfl, hb⟩ := z.ti ptt
          refine ⟨rfl, _, rfl, _, rfl, pb, _, k, _, rfl, rfl, hb, at_ints h0 (by rw [tt.len]; exact h1), q1 _ _ (Kp.refl _) ?_⟩
          rw [comp_at e]
        · rw [List.length_map] at hpr
          refine ⟨D, _, rfl, SqL.of hD', fun lt o hlt ho => ?_⟩
          rw [paired_ints (comp_len a t) hpr]
          have z6 := z5.new hlt (o := .frz o (.tup ((comp a t).map V.int)))
          have plt : PT (upd H5 lt (.frz o (.tup ((comp a t).map V.int)))) (.ref lt) (comp a t) := .of upd_same ho
          have zz := zz0.trans z6
          have zl := z12.trans z6
          have dd6 := zl.k _ _ dd4 (fun _ q => by cases q)
          have pt6 : ∀ p ∈ L4, PT (upd H5 lt (.frz o (.tup ((comp a t).map V.int)))) (.ref p.1) p.2 := fun p hp => zl.pt (pt4 p hp)
          have hw6 := zl.lst hw4
          have hp6 := pr_pt zl.tup hp5
          have el6 := zl.pt el4
          generalize upd H5 lt (.frz o (.tup ((comp a t).map V.int))) = H6 at z6 plt zz zl dd6 pt6 hw6 hp6 el6 ⊢
          refine ⟨_, rfl, _, rfl, d, comp a t, L4, plt.ti, rfl, dd6, fun p hp => (pt6 p hp).ti, _, rfl, ?_⟩
          by_cases hb1 : comp a t ∈ L4.map (·.2)
          · refine ifF (A := _) (B := _) (by rw [decide_eq_true hb1]; rfl) ?_
            refine ⟨zz, L4, ws4, as4, _, _, rfl, el6, ma, dd6, pt6, hw6, hp6, sub4, rch4, m04, cl4, fun j hj t' ht' => ?_, nd4, ms⟩
            rcases Nat.lt_succ_iff_lt_or_eq.mp hj with e | e
            · exact done4 j e t' ht'
            · rw [e, ht] at ht'
              cases ht'
              exact hb1
          · refine ifT (A := _) (B := _) (by rw [decide_eq_false hb1]; rfl) ?_
            have lU5 : (comp a t :: L4.map (·.2)).length ≤ U.length := nd_le (List.nodup_cons.mpr ⟨hb1, nd4⟩) (inU _ fun b hb => by
              rcases List.mem_cons.mp hb with e | e
              · rw [e]; exact .next (rch4 a ma) mt
              · exact rch4 b e)
            simp only [List.length_cons, List.length_map] at lU5
            refine ⟨_, rfl, _, rfl, d, lt, comp a t, L4, rfl, rfl, rfl, plt.ti, dd6, fun p hp => (pt6 p hp).ti, hb1, by omega, ?_⟩
            have nld6 : la ≠ d := nld
            have hw7 : (upd H6 d (DDict P w d (L4 ++ [(lt, comp a t)]))) la = some (.lst ws4) := by rw [upd_ne nld]; exact hw6
            have pl := hp5.length
            refine ⟨_, rfl, .inl ⟨rfl, _, SqL.of hw7⟩, _, rfl, la, ws4, _, rfl, rfl, hw7, by rw [sizeLine_eq]; omega, ?_⟩
            have z7 : Tup H6 (upd H6 d (DDict P w d (L4 ++ [(lt, comp a t)]))) := Tup.put (by rw [dd6]; trivial)
            have z8 : Tup (upd H6 d (DDict P w d (L4 ++ [(lt, comp a t)]))) (upd (upd H6 d (DDict P w d (L4 ++ [(lt, comp a t)]))) la (.lst (ws4 ++ [.ref lt]))) := Tup.put (by rw [hw7]; trivial)
            have z78 := z7.trans z8
            have em : (L4 ++ [(lt, comp a t)]).map (·.2) = L4.map (·.2) ++ [comp a t] := by rw [List.map_append]; rfl
            have hd0 : H d = none := hd
            refine ⟨(zz.put hd0).put hla0, L4 ++ [(lt, comp a t)], ws4 ++ [.ref lt], as4 ++ [comp a t], _, _, rfl, NS.Tup.pt z78 el6, by rw [em]; simp [ma], by rw [upd_ne nld.symm, upd_same]; rfl, fun p hp => ?_, upd_same, Paired.snoc (pr_pt z78 hp6) (NS.Tup.pt z78 plt), fun b hb => ?_, fun b hb => ?_, by rw [em]; simp [m04], fun b hb h1 h2 t' ht' => ?_, fun j hj t' ht' => ?_, ?_, ?_⟩
            · rcases List.mem_append.mp hp with e | e
              · exact NS.Tup.pt z78 (pt6 p e)
              · rw [List.mem_singleton.mp e]; exact NS.Tup.pt z78 plt
            · rw [em]
              rcases List.mem_append.mp hb with e | e
              · exact List.mem_append_left _ (sub4 b e)
              · exact List.mem_append_right _ e
            · rw [em] at hb
              rcases List.mem_append.mp hb with e | e
              · exact rch4 b e
              · rw [List.mem_singleton.mp e]; exact .next (rch4 a ma) mt
            · rw [em] at hb ⊢
              rcases List.mem_append.mp hb with e | e
              · exact List.mem_append_left _ (cl4 b e (fun h => h1 (by simp [h])) h2 t' ht')
              · exact absurd (by rw [List.mem_singleton.mp e]; simp) h1
            · rw [em]
              rcases Nat.lt_succ_iff_lt_or_eq.mp hj with e | e
              · exact List.mem_append_left _ (done4 j e t' ht')
              · rw [e, ht] at ht'
                cases ht'
                exact List.mem_append_right _ (List.mem_singleton.mpr rfl)
            · rw [em]
              have pm : (comp a t :: L4.map (·.2)).Perm (L4.map (·.2) ++ [comp a t]) := (List.perm_append_singleton _ _).symm
              exact pm.nodup_iff.mp (List.nodup_cons.mpr ⟨hb1, nd4⟩)
            · rw [List.length_append, List.length_append, List.length_singleton, List.length_singleton]
              omega
      · obtain ⟨zk4, L4, ws4, as4, y4, z4, rfl, el4, ma, dd4, pt4, hw4, hp5, sub4, rch4, m04, cl4, done4, nd4, ms⟩ := hpv
        refine ⟨_, ms, L4, ws4, as4, _, _, _, rfl, zk4, dd4, pt4, hw4, hp5, sub4, rch4, m04, fun b hb h1 t ht => ?_, nd4, rfl, by omega⟩
        by_cases e : b = a
        · obtain ⟨j, hj, e2⟩ := List.mem_iff_getElem.mp ht
          rw [e]
          exact done4 j (by rw [tl]; exact hj) t (by rw [List.getElem?_eq_getElem hj, e2])
        · exact cl4 b hb h1 e t ht
end
end NS
end
section
set_option maxHeartbeats 4000000
/-! L3: the law's houses -/
namespace NS
open PySem PySem.Spec PyProof.Rows L2 ZS
theorem scLKnown : FnScope ["rows"] [] (defScope sLKnown) := ⟨rfl, rfl, rfl, by decide +kernel, rfl, by decide +kernel, by decide +kernel⟩
theorem scLMixed : FnScope ["row", "house", "names", "moved", "one", "found", "hall"] ["row", "house"] (defScope sLMixed) := ⟨rfl, rfl, rfl, by decide +kernel, rfl, by decide +kernel, by decide +kernel⟩
theorem scLWhole : FnScope ["row"] ["row"] (defScope sLWhole) := ⟨rfl, rfl, rfl, by decide +kernel, rfl, by decide +kernel, by decide +kernel⟩
def kn0 : List (Nat × List (List Int)) := [(2, [[1, 0]]), (3, [[1, 2, 0]]), (3, [[1, 2, 0], [0, 2, 1]])]
def kn1 : List (Nat × List (List Int)) := [(4, [circ 4 1]), (4, [[1, 0, 3, 2], [2, 3, 0, 1]])]
def kn2 : List (Nat × List (List Int)) := [(4, [[1, 2, 0, 3], [1, 0, 3, 2]]), (4, [circ 4 1, [0, 3, 2, 1]])]
def kn3 : List (Nat × List (List Int)) := [(4, [[1, 2, 3, 0], [1, 0, 2, 3]])]
def kn4 : List (Nat × List (List Int)) := [(5, [circ 5 1]), (5, [circ 5 1, [0, 4, 3, 2, 1]])]
def kn5 : List (Nat × List (List Int)) := [(5, [circ 5 1, [0, 2, 4, 1, 3]])]
def kn6 : List (Nat × List (List Int)) := [(5, [[1, 2, 0, 3, 4], [0, 1, 3, 4, 2]]), (6, [circ 6 1])]
def kn7 : List (Nat × List (List Int)) := [(6, [circ 6 1, [0, 5, 4, 3, 2, 1]])]
def kn8 : List (Nat × List (List Int)) := [(6, [[1, 2, 0, 4, 5, 3], [3, 5, 4, 0, 2, 1]]), (6, [[1, 2, 3, 4, 0, 5], [5, 4, 2, 3, 1, 0]])]
def kn9 : List (Nat × List (List Int)) := [(7, [circ 7 1, [0, 2, 4, 6, 1, 3, 5]])]
def kn10 : List (Nat × List (List Int)) := [(7, [circ 7 1, [0, 3, 6, 2, 5, 1, 4]]), (7, [circ 7 1])]
def kn11 : List (Nat × List (List Int)) := [(8, [circ 8 1]), (8, [[1, 0, 3, 2, 5, 4, 7, 6], [0, 2, 4, 6, 3, 1, 7, 5]])]
def kn12 : List (Nat × List (List Int)) := [(8, [[1, 2, 3, 0, 5, 6, 7, 4], [4, 7, 6, 5, 2, 1, 0, 3]])]
def kn13 : List (Nat × List (List Int)) := [(8, [circ 8 1, [0, 7, 6, 5, 4, 3, 2, 1]])]
def known : List (Nat × List (List Int)) := (((((((((((((kn0 ++ kn1) ++ kn2) ++ kn3) ++ kn4) ++ kn5) ++ kn6) ++ kn7) ++ kn8) ++ kn9) ++ kn10) ++ kn11) ++ kn12) ++ kn13)
abbrev houseD (p : Nat × List (List Int)) : Dt := .tup [.int p.1, .tup (p.2.map dT)]
def spLKnown (K : PySem.W.Frag) : Sp := fun vs H Q _ => vs = [] ∧ ∀ q H' us, Kp H H' → H' q = some (.lst us) → IsDts K H' (known.map houseD) us → Q (.ref q) H'
theorem pd_circ {X : Cx} {k : Nat} {n s j1 j2 : Nat} {p p1 p2 pos : Pos} (hC : Has X.prog X.w X.K X.mg X.base "_law_circle" 1 [] spLCircle) (hr : Room k X.A) (hk : 1 ≤ k := by decide) (hn : 1 ≤ n := by decide) (hn2 : n ≤ 1000 := by decide) (hg : Gl X "_law_circle" := by rfl)
    (h1 : starEach [.Constant (.int n) j1 p1, .Constant (.int s) j2 p2] X.env = (false, eval (.Constant (.int n) j1 p1) X.env) :: starEach [.Constant (.int s) j2 p2] X.env := by rfl)
    (h2 : starEach [.Constant (.int s) j2 p2] X.env = (false, eval (.Constant (.int s) j2 p2) X.env) :: starEach [] X.env := by rfl) (h3 : (backTo pos (starEach [.Constant (.int s) j2 p2] X.env)).any (·.1) = false := by rfl) :
    PE X (.Call (.Name "_law_circle" p) [.Constant (.int n) j1 p1, .Constant (.int s) j2 p2] [] pos) (tDt X.K (dT (circ n s))) :=
  pe_imp (pe_has hC hr hk (pa_cons pe_int (pa_cons pe_int pa_nil h2) h1) hg (by decide) h1 h3) fun σ H Q q => show tCall spLCircle [] E0 (tCons (tC (.int n)) (tCons (tC (.int s)) tNil)) σ H Q from ⟨n, s, rfl, hn, hn2, fun v H' z p => q v H' z (NS.TI.dt p.ti)⟩
section
variable {P : Program} {w : World} {K : PySem.W.Frag} {mg : Str → Option Value} {base : Heap} {f : Addr} {fd : FuncData}
theorem has_lknown (F : FnP K "_law_known_groups" sLKnown f fd) (m : mg "_law_known_groups" = some (.ref f)) (B : Bl mg) (hC : Has P w K mg base "_law_circle" 1 [] spLCircle) : Has P w K mg base "_law_known_groups" 2 [] (spLKnown K) := by
  refine ⟨f, fd, [], [], m, F.kp, F.bindsN (fun _ _ _ _ _ _ us hl => match us, hl with | [], _ => rfl), .nil, ?_⟩
  refine F.ok scLKnown (fun vs H Q E h => ?_) (fun cdv A outer s H vs Q E hr h => ⟨_, PSs.nox (
    pss_cons (ps_set (i := 0) scLKnown.nd rfl (Or.inl rfl) (pd_lst (pd_cons (pd_tup (pd_cons pd_int (pd_cons (pd_tup (pd_cons (pd_tup (pd_cons pd_int (pd_cons pd_int pd_nil))) pd_nil)) pd_nil))) (pd_cons (pd_tup (pd_cons pd_int (pd_cons (pd_tup (pd_cons (pd_tup (pd_cons pd_int (pd_cons pd_int (pd_cons pd_int pd_nil)))) pd_nil)) pd_nil))) (pd_cons (pd_tup (pd_cons pd_int (pd_cons (pd_tup (pd_cons (pd_tup (pd_cons pd_int (pd_cons pd_int (pd_cons pd_int pd_nil)))) (pd_cons (pd_tup (pd_cons pd_int (pd_cons pd_int (pd_cons pd_int pd_nil)))) pd_nil))) pd_nil))) pd_nil)))))
    (pss_cons (ps_set (i := 0) scLKnown.nd rfl (Or.inl rfl) (pe_op op_cat (pv 0) (pd_lst (pd_cons (pd_tup (pd_cons pd_int (pd_cons (pd_tup (pd_cons (pd_circ hC hr (n := 4) (s := 1)) pd_nil)) pd_nil))) (pd_cons (pd_tup (pd_cons pd_int (pd_cons (pd_tup (pd_cons (pd_tup (pd_cons pd_int (pd_cons pd_int (pd_cons pd_int (pd_cons pd_int pd_nil))))) (pd_cons (pd_tup (pd_cons pd_int (pd_cons pd_int (pd_cons pd_int (pd_cons pd_int pd_nil))))) pd_nil))) pd_nil))) pd_nil)))))
    (pss_cons (ps_set (i := 0) scLKnown.nd rfl (Or.inl rfl) (pe_op op_cat (pv 0) (pd_lst (pd_cons (pd_tup (pd_cons pd_int (pd_cons (pd_tup (pd_cons (pd_tup (pd_cons pd_int (pd_cons pd_int (pd_cons pd_int (pd_cons pd_int pd_nil))))) (pd_cons (pd_tup (pd_cons pd_int (pd_cons pd_int (pd_cons pd_int (pd_cons pd_int pd_nil))))) pd_nil))) pd_nil))) (pd_cons (pd_tup (pd_cons pd_int (pd_cons (pd_tup (pd_cons (pd_circ hC hr (n := 4) (s := 1)) (pd_cons (pd_tup (pd_cons pd_int (pd_cons pd_int (pd_cons pd_int (pd_cons pd_int pd_nil))))) pd_nil))) pd_nil))) pd_nil)))))
    (pss_cons (ps_set (i := 0) scLKnown.nd rfl (Or.inl rfl) (pe_op op_cat (pv 0) (pd_lst (pd_cons (pd_tup (pd_cons pd_int (pd_cons (pd_tup (pd_cons (pd_tup (pd_cons pd_int (pd_cons pd_int (pd_cons pd_int (pd_cons pd_int pd_nil))))) (pd_cons (pd_tup (pd_cons pd_int (pd_cons pd_int (pd_cons pd_int (pd_cons pd_int pd_nil))))) pd_nil))) pd_nil))) pd_nil))))
    (pss_cons (ps_set (i := 0) scLKnown.nd rfl (Or.inl rfl) (pe_op op_cat (pv 0) (pd_lst (pd_cons (pd_tup (pd_cons pd_int (pd_cons (pd_tup (pd_cons (pd_circ hC hr (n := 5) (s := 1)) pd_nil)) pd_nil))) (pd_cons (pd_tup (pd_cons pd_int (pd_cons (pd_tup (pd_cons (pd_circ hC hr (n := 5) (s := 1)) (pd_cons (pd_tup (pd_cons pd_int (pd_cons pd_int (pd_cons pd_int (pd_cons pd_int (pd_cons pd_int pd_nil)))))) pd_nil))) pd_nil))) pd_nil)))))
    (pss_cons (ps_set (i := 0) scLKnown.nd rfl (Or.inl rfl) (pe_op op_cat (pv 0) (pd_lst (pd_cons (pd_tup (pd_cons pd_int (pd_cons (pd_tup (pd_cons (pd_circ hC hr (n := 5) (s := 1)) (pd_cons (pd_tup (pd_cons pd_int (pd_cons pd_int (pd_cons pd_int (pd_cons pd_int (pd_cons pd_int pd_nil)))))) pd_nil))) pd_nil))) pd_nil))))
    (pss_cons (ps_set (i := 0) scLKnown.nd rfl (Or.inl rfl) (pe_op op_cat (pv 0) (pd_lst (pd_cons (pd_tup (pd_cons pd_int (pd_cons (pd_tup (pd_cons (pd_tup (pd_cons pd_int (pd_cons pd_int (pd_cons pd_int (pd_cons pd_int (pd_cons pd_int pd_nil)))))) (pd_cons (pd_tup (pd_cons pd_int (pd_cons pd_int (pd_cons pd_int (pd_cons pd_int (pd_cons pd_int pd_nil)))))) pd_nil))) pd_nil))) (pd_cons (pd_tup (pd_cons pd_int (pd_cons (pd_tup (pd_cons (pd_circ hC hr (n := 6) (s := 1)) pd_nil)) pd_nil))) pd_nil)))))
    (pss_cons (ps_set (i := 0) scLKnown.nd rfl (Or.inl rfl) (pe_op op_cat (pv 0) (pd_lst (pd_cons (pd_tup (pd_cons pd_int (pd_cons (pd_tup (pd_cons (pd_circ hC hr (n := 6) (s := 1)) (pd_cons (pd_tup (pd_cons pd_int (pd_cons pd_int (pd_cons pd_int (pd_cons pd_int (pd_cons pd_int (pd_cons pd_int pd_nil))))))) pd_nil))) pd_nil))) pd_nil))))
    (pss_cons (ps_set (i := 0) scLKnown.nd rfl (Or.inl rfl) (pe_op op_cat (pv 0) (pd_lst (pd_cons (pd_tup (pd_cons pd_int (pd_cons (pd_tup (pd_cons (pd_tup (pd_cons pd_int (pd_cons pd_int (pd_cons pd_int (pd_cons pd_int (pd_cons pd_int (pd_cons pd_int pd_nil))))))) (pd_cons (pd_tup (pd_cons pd_int (pd_cons pd_int (pd_cons pd_int (pd_cons pd_int (pd_cons pd_int (pd_cons pd_int pd_nil))))))) pd_nil))) pd_nil))) (pd_cons (pd_tup (pd_cons pd_int (pd_cons (pd_tup (pd_cons (pd_tup (pd_cons pd_int (pd_cons pd_int (pd_cons pd_int (pd_cons pd_int (pd_cons pd_int (pd_cons pd_int pd_nil))))))) (pd_cons (pd_tup (pd_cons pd_int (pd_cons pd_int (pd_cons pd_int (pd_cons pd_int (pd_cons pd_int (pd_cons pd_int pd_nil))))))) pd_nil))) pd_nil))) pd_nil)))))
    (pss_cons (ps_set (i := 0) scLKnown.nd rfl (Or.inl rfl) (pe_op op_cat (pv 0) (pd_lst (pd_cons (pd_tup (pd_cons pd_int (pd_cons (pd_tup (pd_cons (pd_circ hC hr (n := 7) (s := 1)) (pd_cons (pd_tup (pd_cons pd_int (pd_cons pd_int (pd_cons pd_int (pd_cons pd_int (pd_cons pd_int (pd_cons pd_int (pd_cons pd_int pd_nil)))))))) pd_nil))) pd_nil))) pd_nil))))
    (pss_cons (ps_set (i := 0) scLKnown.nd rfl (Or.inl rfl) (pe_op op_cat (pv 0) (pd_lst (pd_cons (pd_tup (pd_cons pd_int (pd_cons (pd_tup (pd_cons (pd_circ hC hr (n := 7) (s := 1)) (pd_cons (pd_tup (pd_cons pd_int (pd_cons pd_int (pd_cons pd_int (pd_cons pd_int (pd_cons pd_int (pd_cons pd_int (pd_cons pd_int pd_nil)))))))) pd_nil))) pd_nil))) (pd_cons (pd_tup (pd_cons pd_int (pd_cons (pd_tup (pd_cons (pd_circ hC hr (n := 7) (s := 1)) pd_nil)) pd_nil))) pd_nil)))))
    (pss_cons (ps_set (i := 0) scLKnown.nd rfl (Or.inl rfl) (pe_op op_cat (pv 0) (pd_lst (pd_cons (pd_tup (pd_cons pd_int (pd_cons (pd_tup (pd_cons (pd_circ hC hr (n := 8) (s := 1)) pd_nil)) pd_nil))) (pd_cons (pd_tup (pd_cons pd_int (pd_cons (pd_tup (pd_cons (pd_tup (pd_cons pd_int (pd_cons pd_int (pd_cons pd_int (pd_cons pd_int (pd_cons pd_int (pd_cons pd_int (pd_cons pd_int (pd_cons pd_int pd_nil))))))))) (pd_cons (pd_tup (pd_cons pd_int (pd_cons pd_int (pd_cons pd_int (pd_cons pd_int (pd_cons pd_int (pd_cons pd_int (pd_cons pd_int (pd_cons pd_int pd_nil))))))))) pd_nil))) pd_nil))) pd_nil)))))
    (pss_cons (ps_set (i := 0) scLKnown.nd rfl (Or.inl rfl) (pe_op op_cat (pv 0) (pd_lst (pd_cons (pd_tup (pd_cons pd_int (pd_cons (pd_tup (pd_cons (pd_tup (pd_cons pd_int (pd_cons pd_int (pd_cons pd_int (pd_cons pd_int (pd_cons pd_int (pd_cons pd_int (pd_cons pd_int (pd_cons pd_int pd_nil))))))))) (pd_cons (pd_tup (pd_cons pd_int (pd_cons pd_int (pd_cons pd_int (pd_cons pd_int (pd_cons pd_int (pd_cons pd_int (pd_cons pd_int (pd_cons pd_int pd_nil))))))))) pd_nil))) pd_nil))) pd_nil))))
    (pss_one (ps_ret (pe_op op_cat (pv 0) (pd_lst (pd_cons (pd_tup (pd_cons pd_int (pd_cons (pd_tup (pd_cons (pd_circ hC hr (n := 8) (s := 1)) (pd_cons (pd_tup (pd_cons pd_int (pd_cons pd_int (pd_cons pd_int (pd_cons pd_int (pd_cons pd_int (pd_cons pd_int (pd_cons pd_int (pd_cons pd_int pd_nil))))))))) pd_nil))) pd_nil))) pd_nil)))))))))))))))))), ?_⟩)
  · obtain ⟨rfl, _⟩ := h
    rfl
  · obtain ⟨rfl, q⟩ := h
    refine fun p0 G0 v0 z0 h0 i0 => ?_
    refine ⟨_, rfl, fun q1 J1 w1 y1 g1 j1 => ⟨_, _, _, _, rfl, rfl, y1.lst h0, g1, ?_, fun p1 n1 => ?_⟩⟩
    · rw [i0.len, j1.len, sizeLine_eq]; decide
    have i1 := (IsDts.kp (y1.new n1 (o := .lst (v0 ++ w1))) _ _ i0).snoc (IsDts.kp ((Kp.refl J1).new n1 (o := .lst (v0 ++ w1))) _ _ j1)
    have h1 : (upd J1 p1 (.lst (v0 ++ w1))) p1 = some (.lst (v0 ++ w1)) := upd_same
    have z1 := (z0.trans y1).new n1 (o := .lst (v0 ++ w1))
    obtain ⟨v1, ev1⟩ : ∃ x, x = v0 ++ w1 := ⟨_, rfl⟩
    rw [← ev1] at i1 h1 z1 ⊢
    refine ⟨_, rfl, fun q2 J2 w2 y2 g2 j2 => ⟨_, _, _, _, rfl, rfl, y2.lst h1, g2, ?_, fun p2 n2 => ?_⟩⟩
    · rw [i1.len, j2.len, sizeLine_eq]; decide
    have i2 := (IsDts.kp (y2.new n2 (o := .lst (v1 ++ w2))) _ _ i1).snoc (IsDts.kp ((Kp.refl J2).new n2 (o := .lst (v1 ++ w2))) _ _ j2)
    have h2 : (upd J2 p2 (.lst (v1 ++ w2))) p2 = some (.lst (v1 ++ w2)) := upd_same
    have z2 := (z1.trans y2).new n2 (o := .lst (v1 ++ w2))
    obtain ⟨v2, ev2⟩ : ∃ x, x = v1 ++ w2 := ⟨_, rfl⟩
    rw [← ev2] at i2 h2 z2 ⊢
    refine ⟨_, rfl, fun q3 J3 w3 y3 g3 j3 => ⟨_, _, _, _, rfl, rfl, y3.lst h2, g3, ?_, fun p3 n3 => ?_⟩⟩
    · rw [i2.len, j3.len, sizeLine_eq]; decide
    have i3 := (IsDts.kp (y3.new n3 (o := .lst (v2 ++ w3))) _ _ i2).snoc (IsDts.kp ((Kp.refl J3).new n3 (o := .lst (v2 ++ w3))) _ _ j3)
    have h3 : (upd J3 p3 (.lst (v2 ++ w3))) p3 = some (.lst (v2 ++ w3)) := upd_same
    have z3 := (z2.trans y3).new n3 (o := .lst (v2 ++ w3))
    obtain ⟨v3, ev3⟩ : ∃ x, x = v2 ++ w3 := ⟨_, rfl⟩
    rw [← ev3] at i3 h3 z3 ⊢
    refine ⟨_, rfl, fun q4 J4 w4 y4 g4 j4 => ⟨_, _, _, _, rfl, rfl, y4.lst h3, g4, ?_, fun p4 n4 => ?_⟩⟩
    · rw [i3.len, j4.len, sizeLine_eq]; decide
    have i4 := (IsDts.kp (y4.new n4 (o := .lst (v3 ++ w4))) _ _ i3).snoc (IsDts.kp ((Kp.refl J4).new n4 (o := .lst (v3 ++ w4))) _ _ j4)
    have h4 : (upd J4 p4 (.lst (v3 ++ w4))) p4 = some (.lst (v3 ++ w4)) := upd_same
    have z4 := (z3.trans y4).new n4 (o := .lst (v3 ++ w4))
    obtain ⟨v4, ev4⟩ : ∃ x, x = v3 ++ w4 := ⟨_, rfl⟩
    rw [← ev4] at i4 h4 z4 ⊢
    refine ⟨_, rfl, fun q5 J5 w5 y5 g5 j5 => ⟨_, _, _, _, rfl, rfl, y5.lst h4, g5, ?_, fun p5 n5 => ?_⟩⟩
    · rw [i4.len, j5.len, sizeLine_eq]; decide
    have i5 := (IsDts.kp (y5.new n5 (o := .lst (v4 ++ w5))) _ _ i4).snoc (IsDts.kp ((Kp.refl J5).new n5 (o := .lst (v4 ++ w5))) _ _ j5)
    have h5 : (upd J5 p5 (.lst (v4 ++ w5))) p5 = some (.lst (v4 ++ w5)) := upd_same
    have z5 := (z4.trans y5).new n5 (o := .lst (v4 ++ w5))
    obtain ⟨v5, ev5⟩ : ∃ x, x = v4 ++ w5 := ⟨_, rfl⟩
    rw [← ev5] at i5 h5 z5 ⊢
    refine ⟨_, rfl, fun q6 J6 w6 y6 g6 j6 => ⟨_, _, _, _, rfl, rfl, y6.lst h5, g6, ?_, fun p6 n6 => ?_⟩⟩
    · rw [i5.len, j6.len, sizeLine_eq]; decide
    have i6 := (IsDts.kp (y6.new n6 (o := .lst (v5 ++ w6))) _ _ i5).snoc (IsDts.kp ((Kp.refl J6).new n6 (o := .lst (v5 ++ w6))) _ _ j6)
    have h6 : (upd J6 p6 (.lst (v5 ++ w6))) p6 = some (.lst (v5 ++ w6)) := upd_same
    have z6 := (z5.trans y6).new n6 (o := .lst (v5 ++ w6))
    obtain ⟨v6, ev6⟩ : ∃ x, x = v5 ++ w6 := ⟨_, rfl⟩
    rw [← ev6] at i6 h6 z6 ⊢
    refine ⟨_, rfl, fun q7 J7 w7 y7 g7 j7 => ⟨_, _, _, _, rfl, rfl, y7.lst h6, g7, ?_, fun p7 n7 => ?_⟩⟩
    · rw [i6.len, j7.len, sizeLine_eq]; decide
    have i7 := (IsDts.kp (y7.new n7 (o := .lst (v6 ++ w7))) _ _ i6).snoc (IsDts.kp ((Kp.refl J7).new n7 (o := .lst (v6 ++ w7))) _ _ j7)
    have h7 : (upd J7 p7 (.lst (v6 ++ w7))) p7 = some (.lst (v6 ++ w7)) := upd_same
    have z7 := (z6.trans y7).new n7 (o := .lst (v6 ++ w7))
    obtain ⟨v7, ev7⟩ : ∃ x, x = v6 ++ w7 := ⟨_, rfl⟩
    rw [← ev7] at i7 h7 z7 ⊢
    refine ⟨_, rfl, fun q8 J8 w8 y8 g8 j8 => ⟨_, _, _, _, rfl, rfl, y8.lst h7, g8, ?_, fun p8 n8 => ?_⟩⟩
    · rw [i7.len, j8.len, sizeLine_eq]; decide
    have i8 := (IsDts.kp (y8.new n8 (o := .lst (v7 ++ w8))) _ _ i7).snoc (IsDts.kp ((Kp.refl J8).new n8 (o := .lst (v7 ++ w8))) _ _ j8)
    have h8 : (upd J8 p8 (.lst (v7 ++ w8))) p8 = some (.lst (v7 ++ w8)) := upd_same
    have z8 := (z7.trans y8).new n8 (o := .lst (v7 ++ w8))
    obtain ⟨v8, ev8⟩ : ∃ x, x = v7 ++ w8 := ⟨_, rfl⟩
    rw [← ev8] at i8 h8 z8 ⊢
    refine ⟨_, rfl, fun q9 J9 w9 y9 g9 j9 => ⟨_, _, _, _, rfl, rfl, y9.lst h8, g9, ?_, fun p9 n9 => ?_⟩⟩
    · rw [i8.len, j9.len, sizeLine_eq]; decide
    have i9 := (IsDts.kp (y9.new n9 (o := .lst (v8 ++ w9))) _ _ i8).snoc (IsDts.kp ((Kp.refl J9).new n9 (o := .lst (v8 ++ w9))) _ _ j9)
    have h9 : (upd J9 p9 (.lst (v8 ++ w9))) p9 = some (.lst (v8 ++ w9)) := upd_same
    have z9 := (z8.trans y9).new n9 (o := .lst (v8 ++ w9))
    obtain ⟨v9, ev9⟩ : ∃ x, x = v8 ++ w9 := ⟨_, rfl⟩
    rw [← ev9] at i9 h9 z9 ⊢
    refine ⟨_, rfl, fun q10 J10 w10 y10 g10 j10 => ⟨_, _, _, _, rfl, rfl, y10.lst h9, g10, ?_, fun p10 n10 => ?_⟩⟩
    · rw [i9.len, j10.len, sizeLine_eq]; decide
    have i10 := (IsDts.kp (y10.new n10 (o := .lst (v9 ++ w10))) _ _ i9).snoc (IsDts.kp ((Kp.refl J10).new n10 (o := .lst (v9 ++ w10))) _ _ j10)
    have h10 : (upd J10 p10 (.lst (v9 ++ w10))) p10 = some (.lst (v9 ++ w10)) := upd_same
    have z10 := (z9.trans y10).new n10 (o := .lst (v9 ++ w10))
    obtain ⟨v10, ev10⟩ : ∃ x, x = v9 ++ w10 := ⟨_, rfl⟩
    rw [← ev10] at i10 h10 z10 ⊢
    refine ⟨_, rfl, fun q11 J11 w11 y11 g11 j11 => ⟨_, _, _, _, rfl, rfl, y11.lst h10, g11, ?_, fun p11 n11 => ?_⟩⟩
    · rw [i10.len, j11.len, sizeLine_eq]; decide
    have i11 := (IsDts.kp (y11.new n11 (o := .lst (v10 ++ w11))) _ _ i10).snoc (IsDts.kp ((Kp.refl J11).new n11 (o := .lst (v10 ++ w11))) _ _ j11)
    have h11 : (upd J11 p11 (.lst (v10 ++ w11))) p11 = some (.lst (v10 ++ w11)) := upd_same
    have z11 := (z10.trans y11).new n11 (o := .lst (v10 ++ w11))
    obtain ⟨v11, ev11⟩ : ∃ x, x = v10 ++ w11 := ⟨_, rfl⟩
    rw [← ev11] at i11 h11 z11 ⊢
    refine ⟨_, rfl, fun q12 J12 w12 y12 g12 j12 => ⟨_, _, _, _, rfl, rfl, y12.lst h11, g12, ?_, fun p12 n12 => ?_⟩⟩
    · rw [i11.len, j12.len, sizeLine_eq]; decide
    have i12 := (IsDts.kp (y12.new n12 (o := .lst (v11 ++ w12))) _ _ i11).snoc (IsDts.kp ((Kp.refl J12).new n12 (o := .lst (v11 ++ w12))) _ _ j12)
    have h12 : (upd J12 p12 (.lst (v11 ++ w12))) p12 = some (.lst (v11 ++ w12)) := upd_same
    have z12 := (z11.trans y12).new n12 (o := .lst (v11 ++ w12))
    obtain ⟨v12, ev12⟩ : ∃ x, x = v11 ++ w12 := ⟨_, rfl⟩
    rw [← ev12] at i12 h12 z12 ⊢
    refine ⟨_, rfl, fun q13 J13 w13 y13 g13 j13 => ⟨_, _, _, _, rfl, rfl, y13.lst h12, g13, ?_, fun p13 n13 => ?_⟩⟩
    · rw [i12.len, j13.len, sizeLine_eq]; decide
    have i13 := (IsDts.kp (y13.new n13 (o := .lst (v12 ++ w13))) _ _ i12).snoc (IsDts.kp ((Kp.refl J13).new n13 (o := .lst (v12 ++ w13))) _ _ j13)
    have h13 : (upd J13 p13 (.lst (v12 ++ w13))) p13 = some (.lst (v12 ++ w13)) := upd_same
    have z13 := (z12.trans y13).new n13 (o := .lst (v12 ++ w13))
    obtain ⟨v13, ev13⟩ : ∃ x, x = v12 ++ w13 := ⟨_, rfl⟩
    rw [← ev13] at i13 h13 z13 ⊢
    exact q _ _ _ z13 h13 i13
end
end NS
end
section
set_option maxHeartbeats 4000000
/-! L4: the law's house -/
namespace NS
open PySem PySem.Spec PyProof.Rows L2 ZS
theorem rep0 : ∀ n : Nat, (List.replicate n [V.int 0]).flatten = (List.replicate n (0 : Int)).map V.int
  | 0 => rfl
  | n + 1 => by rw [List.replicate_succ, List.flatten_cons, rep0 n, List.replicate_succ]; rfl
theorem known_ok : ∀ p ∈ known, 1 ≤ p.1 ∧ p.1 ≤ 8 ∧ 1 ≤ p.2.length ∧ p.2.length ≤ 6 ∧ ∀ t ∈ p.2, t.length = p.1 ∧ (∀ x ∈ t, 0 ≤ x ∧ x < (p.1 : Int)) ∧ t.Nodup := by decide +kernel
theorem known_len : known.length = 23 := by decide +kernel
theorem known_isH {p : Nat × List (List Int)} (hp : p ∈ known) : IsH p.1 p.2 := by
  obtain ⟨h1, h2, h3, h4, h5⟩ := known_ok p hp
  exact ⟨h1, h2, h3, h4, fun t ht => let ⟨a, b, c⟩ := h5 t ht; ⟨a, b, c⟩⟩
theorem IsH.conj {n : Nat} {ts : List (List Int)} {m : List Int} (h : IsH n ts) (hm : IsT n m) : IsH n (ts.map (conj m)) := ⟨h.n1, h.n8, by rw [List.length_map]; exact h.t1, by rw [List.length_map]; exact h.t6, fun t ht => by
  obtain ⟨u, hu, rfl⟩ := List.mem_map.mp ht
  exact hm.conj (h.is u hu)⟩
/-- the houses that the law draws -/
def GoodH (n : Nat) (ts : List (List Int)) : Prop := IsH n ts ∧ ((∃ p ∈ known, ∃ m, n = p.1 ∧ IsT p.1 m ∧ ts = p.2.map (conj m)) ∨ n ≤ 5)
/-- a known house, its halls called otherwise -/
def KnownH (n : Nat) (ts : List (List Int)) : Prop := IsH n ts ∧ ∃ p ∈ known, ∃ m, n = p.1 ∧ IsT p.1 m ∧ ts = p.2.map (conj m)
theorem KnownH.good {n : Nat} {ts : List (List Int)} (h : KnownH n ts) : GoodH n ts := ⟨h.1, .inl h.2⟩
theorem dts_pr {K : PySem.W.Frag} {H : Hp} : ∀ (ts : List (List Int)) (xs : List V), IsDts K H (ts.map dT) xs → Paired (TI K H) xs ts
  | [], xs, h => by simp only [List.map_nil] at h; unfold IsDts at h; rw [h]; exact .nil
  | t :: ts, xs, h => by
    simp only [List.map_cons] at h
    unfold IsDts at h
    obtain ⟨v, r, e, h1, h2⟩ := h
    rw [e]
    exact .cons (dt_ti h1) (dts_pr ts r h2)
theorem house_dt {K : PySem.W.Frag} {H : Hp} {p : Nat × List (List Int)} {v : V} (h : IsDt K H (houseD p) v) : ∃ a tb xs, v = .ref a ∧ SqT K H a [.int p.1, .ref tb] ∧ SqT K H tb xs ∧ Paired (TI K H) xs p.2 := by
  unfold houseD at h
  unfold IsDt at h
  obtain ⟨a, us, e, s, h⟩ := h
  unfold IsDts at h
  obtain ⟨v1, r1, e1, h1, h⟩ := h
  unfold IsDts at h
  obtain ⟨v2, r2, e2, h2, h⟩ := h
  unfold IsDts at h
  unfold IsDt at h1 h2
  obtain ⟨tb, xs, e3, s3, h3⟩ := h2
  subst e1 e2 e3 h h1
  exact ⟨a, tb, xs, e, s, s3, dts_pr _ _ h3⟩
def spLMixed (K : PySem.W.Frag) : Sp := fun vs H Q _ => ∃ (r sa : Addr) (hv : V) (p : Nat × List (List Int)), vs = [.ref r, hv] ∧ Draws K H r sa ∧ IsDt K H (houseD p) hv ∧ IsH p.1 p.2 ∧
  ∀ v H' m, KpB r H H' → RowAt H' r sa → IsT p.1 m → HouseAt K H' v p.1 (p.2.map (conj m)) → Q v H'
def spGood (K : PySem.W.Frag) (G : Nat → List (List Int) → Prop) : Sp := fun vs H Q _ => ∃ (r sa : Addr), vs = [.ref r] ∧ Draws K H r sa ∧ ∀ v H' n ts, KpB r H H' → RowAt H' r sa → G n ts → HouseAt K H' v n ts → Q v H'
abbrev spLWhole (K : PySem.W.Frag) : Sp := spGood K KnownH
section
variable {P : Program} {w : World} {K : PySem.W.Frag} {mg : Str → Option Value} {base : Heap} {f : Addr} {fd : FuncData}
theorem has_lmixed (F : FnP K "_law_mixed" sLMixed f fd) (m : mg "_law_mixed" = some (.ref f)) (B : Bl mg) (hT : Has P w K mg base "_law_turn" 2 [] (spLTurn K)) : Has P w K mg base "_law_mixed" 3 [] (spLMixed K) := by
  refine ⟨f, fd, ["row", "house"], [], m, F.kp, F.bindsN (fun _ _ _ _ _ _ us hl => match us, hl with | [_, _], _ => rfl), .nil, ?_⟩
  refine F.ok scLMixed (fun vs H Q E h => ?_) (fun cdv A outer s H vs Q E hr h => ⟨_, PSs.nox (
    pss_cons (ps_par (i := 2) (j := 3) (by rfl) scLMixed.nd rfl rfl (by decide) rfl rfl (pa_cons (pe_has hT hr (by decide) (pa_cons (pv 0) (pa_cons (pe_ix (r := rIxT K) ix_tup (pv 1) pe_int (fun _ _ => rfl)) pa_nil))) (pa_cons (pe_lst pa_nil) pa_nil)) (by rfl))
    (pss_cons (ps_for PassesOwn.never rfl (pi_tup (pe_ix (r := rIxT K) ix_tup (pv 1) pe_int (fun _ _ => rfl))) (pg_name (i := 4) scLMixed.nd rfl (Or.inl rfl))
      (pss_cons (ps_set (i := 5) scLMixed.nd rfl (Or.inl rfl) (pe_op op_rep (pe_lst (pa_cons pe_int pa_nil)) (pe_ix (r := rIxT K) ix_tup (pv 1) pe_int (fun _ _ => rfl))))
      (pss_cons (ps_for PassesOwn.never rfl (pi_range1 rfl B.range (pa_cons (pe_ix (r := rIxT K) ix_tup (pv 1) pe_int (fun _ _ => rfl)) pa_nil)) (pg_name (i := 6) scLMixed.nd rfl (Or.inl rfl))
        (pss_one (ps_asg (pe_ix (r := rIxT K) ix_tup (pv 2) (pe_ix (r := rIxT K) ix_tup (pv 4) (pv 6) (fun _ _ => rfl)) (fun _ _ => rfl)) (pg_sub (pv 5) (pe_ix (r := rIxT K) ix_tup (pv 2) (pv 6) (fun _ _ => rfl)) set_list))))
      (pss_one (ps_expr (pe_bm PySem.F.plainAttrs_list PySem.F.slot_list_append PySem.F.type_list_append mt_append (pv 3) (pa_cons (pe_callTy cr_tupP rfl B.tuple PyProof.Rows.boot_tuple (pa_cons (pv 5) pa_nil)) pa_nil)))))))
    (pss_one (ps_ret (pe_tup (pa_cons (pe_ix (r := rIxT K) ix_tup (pv 1) pe_int (fun _ _ => rfl)) (pa_cons (pe_callTy cr_tupP rfl B.tuple PyProof.Rows.boot_tuple (pa_cons (pv 3) pa_nil)) pa_nil))))))), ?_⟩)
  · obtain ⟨r, sa, hv, p, rfl, _⟩ := h
    rfl
  · obtain ⟨r, sa, hv, ⟨n, ts⟩, rfl, hd, hi0, hi, q⟩ := h
    obtain ⟨ha, tb, xs, rfl, hA, hB, hp⟩ := house_dt hi0
    have n1 := hi.n1
    have n8 := hi.n8
    have t6 := hi.t6
    have xl := hp.length
    simp only at n1 n8 t6 hA hp xl q hi
    refine ⟨_, rfl, _, rfl, ha, _, 0, _, rfl, rfl, hA, rfl, r, sa, n, rfl, hd, n1, by omega, fun nv H1 mm z1 ra1 pm tm => ⟨Nat.zero_le _, fun mo hmo => ⟨_, _, rfl, ?_⟩⟩⟩
    have hA1 := z1.tup.sq hA
    have hB1 := z1.tup.sq hB
    have hp1 : Paired (TI K H1) xs ts := hp.mono fun _ _ q => z1.tup.ti q
    have zm := (Kp.refl H1).new hmo (o := .lst [])
    refine ⟨_, rfl, ha, _, 1, _, rfl, rfl, zm.sqT hA1, rfl, tb, rfl, ⟨_, zm.sqT hB1⟩, ?_⟩
    refine forG (Wlk.tup hB1) (fun i σ H' => ∃ x y z us, σ = [some (.ref r), some (.ref ha), some nv, some (.ref mo), x, y, z] ∧ Kp H1 H' ∧ H' mo = some (.lst us) ∧ Paired (PT H') us ((ts.take i).map (conj mm))) ⟨none, none, none, [], rfl, zm, upd_same, .nil⟩ (fun i σ H' _ ⟨_, _, _, _, _, z, _⟩ => z) (fun i x σ H2 H3 hi' hpv z23 hx => ?_) (fun σ H' ⟨x, y, z, us, e, zk, hmo', hpr⟩ => ?_)
    · obtain ⟨x2, y2, z2, us, rfl, zk2, hmo2, hpr2⟩ := hpv
      obtain ⟨t, ht, tit⟩ := pr_get hp1 hx
      have tt := hi.is t (List.mem_of_getElem? ht)
      have zk3 := zk2.trans z23
      have hmo3 := z23.lst hmo2
      have hpr3 := pr_pt z23.tup hpr2
      have ul := hpr3.length
      refine ⟨(by show 1 ≤ sizeLine; decide), fun b hb => ?_⟩
      have zb := zk3.new hb (o := .lst [.int 0])
      refine ⟨_, rfl, ha, _, 0, _, rfl, rfl, zb.sqT hA1, rfl, b, (n : Int), [.int 0], rfl, rfl, upd_same, by omega, by omega, by rw [sizeLine_eq]; simp only [List.length_singleton]; omega, fun fo hfo => ?_⟩
      have hb1 : H1 b = none := zk3.none hb
      have hf1 : H1 fo = none := zb.none hfo
      have nbm : b ≠ mo := fun e => by rw [e, hmo3] at hb; cases hb
      have hmob : (upd H3 b (.lst [.int 0])) mo = some (.lst us) := by rw [upd_ne nbm.symm]; exact hmo3
      have nfm : fo ≠ mo := fun e => by rw [e, hmob] at hfo; cases hfo
      have zb3 := (Kp.refl H3).new hb (o := .lst [.int 0])
      have zf := zb.new hfo (o := .lst (List.replicate (n : Int).toNat [V.int 0]).flatten)
      have zf3 := zb3.new hfo (o := .lst (List.replicate (n : Int).toNat [V.int 0]).flatten)
      have rep : (List.replicate (n : Int).toNat [V.int 0]).flatten = (List.replicate n (0 : Int)).map V.int := by rw [Int.toNat_natCast]; exact rep0 n
      refine ⟨_, rfl, ha, _, 0, _, rfl, rfl, zf.sqT hA1, rfl, (n : Int), rfl, by omega, by omega, ?_⟩
      show ∃ W, _
      refine forG (J := Itr 0 n) (Wlk.rng (H := H1) 0 n) (fun j σ H' => ∃ z fl, σ = [some (.ref r), some (.ref ha), some nv, some (.ref mo), some x, some (.ref fo), z] ∧ Kp H1 H' ∧ H' mo = some (.lst us) ∧ Paired (PT H') us ((ts.take i).map (conj mm)) ∧ H' fo = some (.lst (fl.map V.int)) ∧ fl.length = n ∧ ∀ k, k < j → fl.getD (at' mm k) 0 = mm.getD (at' t k) 0)
        ⟨z2, List.replicate n 0, rfl, zf, by rw [upd_ne nfm.symm]; exact hmob, pr_pt zf3.tup hpr3, by rw [upd_same, rep], by simp, fun k hk => absurd hk (Nat.not_lt_zero _)⟩ (fun j σ H' _ ⟨_, _, _, z, _⟩ => z) (fun j v σ H4 H5 hj hpv z45 hv => ?_) (fun σ H' ⟨z, fl, e, zk, hmo', hpr, hfo', hfl, hall⟩ => ?_)
      · obtain ⟨z4, fl, rfl, zk4, hmo4, hpr4, hfo4, hfl4, hall4⟩ := hpv
        subst hv
        rw [Int.zero_add]
        have zk5 := zk4.trans z45
        have tj := tt.getD hj
        have mj := tm.getD hj
        obtain ⟨pt5, rfl, ht5⟩ := zk5.ti tit
        obtain ⟨pm5, rfl, hm5⟩ := (zk5.pt pm).ti (K := K)
        have hfo5 := z45.lst hfo4
        refine ⟨_, rfl, _, rfl, _, rfl, pt5, _, (j : Int), _, rfl, rfl, ht5, at_ints (by omega) (by rw [tt.len]; omega), pm5, _, _, _, rfl, rfl, hm5, at_ints (by rw [Int.toNat_natCast, tj.1]; omega) (by rw [Int.toNat_natCast, tj.1, tm.len]; omega), ?_⟩
        refine ⟨_, rfl, _, rfl, _, rfl, pm5, _, (j : Int), _, rfl, rfl, hm5, at_ints (by omega) (by rw [tm.len]; omega), fo, _, _, at' mm j, rfl, rfl, hfo5, ?_, ?_⟩
        · rw [Int.toNat_natCast, mj.1, List.length_map]
          exact ixN_nat (by rw [hfl4]; exact mj.2)
        have tz : Tup H5 (upd H5 fo (.lst ((fl.set (at' mm j) (mm.getD (at' t j) 0)).map V.int))) := Tup.put (by rw [hfo5]; trivial)
        refine ⟨_, fl.set (at' mm j) (mm.getD (at' t j) 0), rfl, zk5.put hf1, by rw [upd_ne nfm.symm]; exact z45.lst hmo4, pr_pt ?_ hpr4, ?_, by rw [List.length_set]; exact hfl4, fun k hk => ?_⟩
        · exact z45.tup.trans (Tup.put (by rw [hfo5]; trivial))
        · rw [upd_same, Int.toNat_natCast, tj.1, Int.toNat_natCast, List.map_set]
        · rw [set_getD (by rw [hfl4]; exact mj.2)]
          by_cases e : at' mm k = at' mm j
          · have : k = j := tm.inj (by omega) hj e
            rw [if_pos e, this]
          · rw [if_neg e]
            rcases Nat.lt_succ_iff_lt_or_eq.mp hk with h | h
            · exact hall4 k h
            · exact absurd (by rw [h]) e
      · subst e
        refine ⟨_, rfl, .inl ⟨rfl, _, SqL.of hmo'⟩, _, rfl, fo, _, rfl, SqL.of hfo', fun l o hl ho => ?_⟩
        have zl := (Kp.refl H').new hl (o := .frz o (.tup (fl.map V.int)))
        have hmol := zl.lst hmo'
        have ec := conj_eq tm tt hfl hall
        have pl : PT (upd H' l (.frz o (.tup (fl.map V.int)))) (.ref l) (conj mm t) := by rw [← ec]; exact .of upd_same ho
        have hml0 : H1 mo = none := hmo
        have ul' : us.length ≤ 6 := by
          rw [ul, List.length_map, List.length_take]
          omega
        refine ⟨mo, us, _, rfl, rfl, hmol, by rw [sizeLine_eq]; omega, ?_⟩
        have tz : Tup (upd H' l (.frz o (.tup (fl.map V.int)))) (upd (upd H' l (.frz o (.tup (fl.map V.int)))) mo (.lst (us ++ [.ref l]))) := Tup.put (by rw [hmol]; trivial)
        refine ⟨_, _, _, us ++ [.ref l], rfl, (zk.trans zl).put hml0, upd_same, ?_⟩
        rw [take_succ_of ht, List.map_append]
        exact Paired.snoc (pr_pt (zl.tup.trans tz) hpr) (NS.Tup.pt tz pl)
    · subst e
      rw [xl, List.take_length] at hpr
      refine ⟨_, rfl, ha, _, 0, _, rfl, rfl, zk.sqT hA1, rfl, _, rfl, mo, us, rfl, SqL.of hmo', fun l o hl ho => ⟨(by show 2 ≤ sizeLine; decide), fun c hc => ?_⟩⟩
      have zl := zk.new hl (o := .frz o (.tup us))
      have zl' := (Kp.refl H').new hl (o := .frz o (.tup us))
      have nlc : l ≠ c := fun e => by rw [← e, upd_same] at hc; cases hc
      have zc := zl.new hc (o := .tup [.int (n : Int), .ref l])
      have zc' := zl'.new hc (o := .tup [.int (n : Int), .ref l])
      refine q _ _ mm (z1.trans zc.b) (zc.rowAt ra1) tm ⟨c, .ref l, rfl, SqT.of upd_same, l, us, rfl, .inl (.inr ⟨o, by rw [upd_ne nlc, upd_same]⟩), (pr_pt zc'.tup hpr).mono fun _ _ q => NS.PT.ti q⟩
theorem dts_mem {K : PySem.W.Frag} {H : Hp} : ∀ (ps : List (Nat × List (List Int))) (us : List V) (x : V), IsDts K H (ps.map houseD) us → x ∈ us → ∃ p ∈ ps, IsDt K H (houseD p) x
  | [], us, x, h, hx => by simp only [List.map_nil] at h; unfold IsDts at h; rw [h] at hx; cases hx
  | p :: ps, us, x, h, hx => by
    simp only [List.map_cons] at h
    unfold IsDts at h
    obtain ⟨v, r, e, h1, h2⟩ := h
    rw [e] at hx
    rcases List.mem_cons.mp hx with q | q
    · rw [q]
      exact ⟨p, List.mem_cons_self .., h1⟩
    · obtain ⟨p', hp, h'⟩ := dts_mem ps r x h2 q
      exact ⟨p', List.mem_cons_of_mem _ hp, h'⟩
mutual
theorem IsDt.kpb {K : PySem.W.Frag} {H H' : Hp} {r : Addr} (z : KpB r H H') : ∀ (p : Nat × List (List Int)) (v : V), IsDt K H (houseD p) v → IsDt K H' (houseD p) v
  | p, v, h => by
    obtain ⟨a, tb, xs, e, h1, h2, h3⟩ := house_dt h
    have h3' : Paired (TI K H') xs p.2 := h3.mono fun _ _ q => z.tup.ti q
    have go : ∀ (ts : List (List Int)) (xs : List V), Paired (TI K H') xs ts → IsDts K H' (ts.map dT) xs := fun ts xs h => by
      induction h with
      | nil => simp only [List.map_nil]; unfold IsDts; rfl
      | cons p _ ih =>
        simp only [List.map_cons]
        unfold IsDts
        exact ⟨_, _, rfl, NS.TI.dt p, ih⟩
    unfold houseD
    unfold IsDt
    refine ⟨a, [.int p.1, .ref tb], e, z.tup.sq h1, ?_⟩
    unfold IsDts
    refine ⟨_, _, rfl, by unfold IsDt; rfl, ?_⟩
    unfold IsDts
    refine ⟨_, _, rfl, ?_, by unfold IsDts; rfl⟩
    unfold IsDt
    exact ⟨tb, xs, rfl, z.tup.sq h2, go _ _ h3'⟩
end
theorem has_lwhole (F : FnP K "_law_whole" sLWhole f fd) (m : mg "_law_whole" = some (.ref f)) (hM : Has P w K mg base "_law_mixed" 3 [] (spLMixed K)) (hP : Has P w K mg base "_law_pick" 2 [] (spPick K)) (hK : Has P w K mg base "_law_known_groups" 2 [] (spLKnown K)) :
    Has P w K mg base "_law_whole" 4 [] (spLWhole K) := by
  refine ⟨f, fd, ["row"], [], m, F.kp, F.bindsN (fun _ _ _ _ _ _ us hl => match us, hl with | [_], _ => rfl), .nil, ?_⟩
  refine F.ok scLWhole (fun vs H Q E h => ?_) (fun cdv A outer s H vs Q E hr h => ⟨_, PSs.nox (
    pss_one (ps_ret (pe_has hM hr (by decide) (pa_cons (pv 0) (pa_cons (pe_has hP hr (by decide) (pa_cons (pv 0) (pa_cons (pe_has0 hK hr (by decide)) pa_nil))) pa_nil))))), ?_⟩)
  · obtain ⟨r, sa, rfl, _⟩ := h
    rfl
  · obtain ⟨r, sa, rfl, hd, q⟩ := h
    obtain ⟨xr, hxr⟩ := hd.1.lst
    refine ⟨_, rfl, _, rfl, rfl, fun qn H1 us z1 hq iq => ?_⟩
    have ul := iq.len
    rw [List.length_map, known_len] at ul
    have nq : qn ≠ r := fun e => by
      obtain ⟨i, sd, rest, h, _⟩ := (hd.k z1).1
      rw [e, h] at hq
      have hq' := Option.some.inj hq
      injection hq' with hq'
      rw [← hq'] at ul
      simp at ul
    refine ⟨r, sa, qn, us, rfl, hd.k z1, nq, SqL.of hq, (fun e => by rw [e] at ul; cases ul), by omega, fun x H2 z2 ra2 hx => ?_⟩
    obtain ⟨p, hp, hpx⟩ := dts_mem known us x iq hx
    exact ⟨r, sa, x, p, rfl, (hd.k z1).b z2 ra2, IsDt.kpb z2 p x hpx, known_isH hp, fun v H3 mm z3 ra3 tm hv => q v H3 p.1 _ ((z1.b.trans z2).trans z3) ra3 ⟨(known_isH hp).conj tm, p, hp, mm, rfl, tm, rfl⟩ hv⟩
end
end NS
end
section
set_option maxHeartbeats 4000000
/-! L5: alike -/
namespace NS
open PySem PySem.Spec PyProof.Rows L2 ZS
theorem scAlike : FnScope ["found", "due", "k"] ["found", "due"] (defScope sAlike) := ⟨rfl, rfl, rfl, by decide +kernel, rfl, by decide +kernel, by decide +kernel⟩
mutual
def Dt.small : Dt → Prop
  | .int _ => True
  | .bl _ => True
  | .tup ds => ds.length ≤ 10000 ∧ Dt.smalls ds
  | .lst ds => ds.length ≤ 10000 ∧ Dt.smalls ds
def Dt.smalls : List Dt → Prop
  | [] => True
  | d :: ds => Dt.small d ∧ Dt.smalls ds
end
theorem smalls_get : ∀ {ds : List Dt} {i : Nat} {d : Dt}, Dt.smalls ds → ds[i]? = some d → Dt.small d
  | [], i, d, h, e => by simp at e
  | d0 :: ds, 0, d, h, e => by
    unfold Dt.smalls at h
    cases e
    exact h.1
  | d0 :: ds, i + 1, d, h, e => by
    unfold Dt.smalls at h
    exact smalls_get h.2 (i := i) e
theorem depths_get : ∀ {ds : List Dt} {i : Nat} {d : Dt}, ds[i]? = some d → d.depth ≤ Dt.depths ds
  | [], i, d, e => by simp at e
  | d0 :: ds, 0, d, e => by
    unfold Dt.depths
    cases e
    omega
  | d0 :: ds, i + 1, d, e => by
    unfold Dt.depths
    have := depths_get (ds := ds) (i := i) (d := d) e
    omega
def spAlike (K : PySem.W.Frag) (n : Nat) : Sp := fun vs H Q _ => ∃ (u v : V) (d : Dt), vs = [u, v] ∧ d.depth ≤ n ∧ d.small ∧ IsDt K H d u ∧ IsDt K H d v ∧ ∀ H', Kp H H' → Q (.bl true) H'
theorem tyx_L {K : PySem.W.Frag} {H : Hp} {a : Addr} {xs : List V} (h : SqL K H a xs) : TyX K H (.ref a) (.type "list") := by
  rcases h with (h | ⟨o, h⟩) | ⟨o, _, _, h1, h2, _⟩
  · exact .base (.lst h)
  · exact .base (.frz h)
  · exact .kList h1 h2
theorem any_tl {K : PySem.W.Frag} (t : String) (b : Bool) (h1 : kitB t "tuple" = some b) (h2 : b = false → kitB t "list" = some false) : PySem.W.kitAny K (.type t) [.type "tuple", .type "list"] = some b := by
  refine kitAny_cons (kit_ty h1) (fun e => ?_) (fun e => e)
  subst e
  exact kitAny_cons (kit_ty (h2 rfl)) (fun _ => kitAny_nil) (fun e => by cases e)
theorem any_l {K : PySem.W.Frag} : PySem.W.kitAny K (.type "list") [.type "tuple", .type "list"] = some true :=
  kitAny_cons (b := false) (kit_ty (by decide +kernel)) (fun _ => kitAny_cons (b := true) (kit_ty (by decide +kernel)) (fun e => by cases e) (fun _ => rfl)) (fun e => by cases e)
/-- an int or a truth value -/
structure Fl (K : PySem.W.Frag) (x : V) (t : String) (bb : Bool) : Prop where
  ty : ∀ H, TyX K H x (.type t)
  k1 : kitB t "tuple" = some false
  k2 : kitB t "list" = some false
  k3 : kitB t "str" = some false
  k4 : kitB t "int" = some true
  k5 : kitB t "bool" = some bb
  nn : x ≠ .non
  sc : scal x x = true
theorem fl_int {K : PySem.W.Frag} (i : Int) : Fl K (.int i) "int" false := ⟨fun _ => .base (.int i), by decide +kernel, by decide +kernel, by decide +kernel, by decide +kernel, by decide +kernel, (fun e => by cases e), rfl⟩
theorem fl_bl {K : PySem.W.Frag} (b : Bool) : Fl K (.bl b) "bool" true := ⟨fun _ => .base (.bl b), by decide +kernel, by decide +kernel, by decide +kernel, by decide +kernel, by decide +kernel, (fun e => by cases e), rfl⟩
/-- a list (k) or a tuple -/
def SqB (K : PySem.W.Frag) (H : Hp) (k : Bool) (a : Addr) (xs : List V) : Prop := (k = true ∧ SqL K H a xs) ∨ (k = false ∧ SqT K H a xs)
abbrev tyB (k : Bool) : String := if k then "list" else "tuple"
theorem Kp.sqB {K : PySem.W.Frag} {H H' : Hp} (z : Kp H H') {k : Bool} {a : Addr} {xs : List V} (h : SqB K H k a xs) : SqB K H' k a xs := h.elim (fun h => .inl ⟨h.1, z.sqL h.2⟩) fun h => .inr ⟨h.1, z.sqT h.2⟩
theorem SqB.ty {K : PySem.W.Frag} {H : Hp} {k : Bool} {a : Addr} {xs : List V} (h : SqB K H k a xs) : TyX K H (.ref a) (.type (tyB k)) := by
  rcases h with ⟨rfl, h⟩ | ⟨rfl, h⟩
  · exact tyx_L h
  · exact tyx_T h
theorem SqB.or {K : PySem.W.Frag} {H : Hp} {k : Bool} {a : Addr} {xs : List V} (h : SqB K H k a xs) : SqL K H a xs ∨ SqT K H a xs := h.elim (fun h => .inl h.2) fun h => .inr h.2
theorem SqB.ix {K : PySem.W.Frag} {H : Hp} {k : Bool} {a : Addr} {xs : List V} (h : SqB K H k a xs) {i : Int} {v : V} {Q : VK} (e : atI xs i = some v) (q : Q v H) : rIx K (.ref a) (.int i) H Q :=
  h.elim (fun h => .inl ⟨a, xs, i, v, rfl, rfl, h.2, e, q⟩) fun h => .inr (.inl ⟨a, xs, i, v, rfl, rfl, h.2, e, q⟩)
theorem any_B {K : PySem.W.Frag} (k : Bool) : PySem.W.kitAny K (.type (tyB k)) [.type "tuple", .type "list"] = some true := by
  cases k with
  | true => exact any_l
  | false => exact any_tl "tuple" true (by decide +kernel) (fun e => by cases e)
theorem one_B {K : PySem.W.Frag} (k : Bool) : PySem.W.kitOne K (.type (tyB k)) (.type "list") = some k := by
  cases k with
  | true => exact kit_ty (by decide +kernel)
  | false => exact kit_ty (by decide +kernel)
theorem dt_cases {K : PySem.W.Frag} {H : Hp} {d : Dt} {u v : V} (hu : IsDt K H d u) (hv : IsDt K H d v) : (∃ t bb, u = v ∧ Fl K v t bb) ∨ ∃ k ds pu us pv ws, u = .ref pu ∧ v = .ref pv ∧ SqB K H k pu us ∧ SqB K H k pv ws ∧ IsDts K H ds us ∧ IsDts K H ds ws ∧ d.depth = Dt.depths ds + 1 ∧ (d.small → ds.length ≤ 10000 ∧ Dt.smalls ds) := by
  cases d with
  | int i => unfold IsDt at hu hv; subst hu hv; exact .inl ⟨_, _, rfl, fl_int i⟩
  | bl b => unfold IsDt at hu hv; subst hu hv; exact .inl ⟨_, _, rfl, fl_bl b⟩
  | tup ds =>
    unfold IsDt at hu hv
    obtain ⟨pu, us, rfl, su, iu⟩ := hu
    obtain ⟨pv', ws, rfl, sv, iv⟩ := hv
    exact .inr ⟨false, ds, pu, us, pv', ws, rfl, rfl, .inr ⟨rfl, su⟩, .inr ⟨rfl, sv⟩, iu, iv, by rw [Dt.depth], fun h => by unfold Dt.small at h; exact h⟩
  | lst ds =>
    unfold IsDt at hu hv
    obtain ⟨pu, us, rfl, su, iu⟩ := hu
    obtain ⟨pv', ws, rfl, sv, iv⟩ := hv
    exact .inr ⟨true, ds, pu, us, pv', ws, rfl, rfl, .inl ⟨rfl, su⟩, .inl ⟨rfl, sv⟩, iu, iv, by rw [Dt.depth], fun h => by unfold Dt.small at h; exact h⟩
section
variable {P : Program} {w : World} {K : PySem.W.Frag} {mg : Str → Option Value} {base : Heap} {f : Addr} {fd : FuncData}
abbrev clsTL : List V := [.ty "tuple", .ty "list"]
theorem cls_tl : Paired ClsV clsTL [.type "tuple", .type "list"] := .cons (.ty _) (.cons (.ty _) .nil)
theorem ok_alike0 (F : FnP K "_law_alike" sAlike f fd) (B : Bl mg) : FnOk P w K mg base CX0 1 f fd ["found", "due"] (spAlike K 0) := by
  refine F.ok scAlike (fun vs H Q E h => ?_) (fun cdv A outer s H vs Q E hr h => ⟨_, PSs.nox (
    pss_cons (ps_if (pt_val (pe_callB call_isiT rfl B.isinstance PyProof.Rows.boot_isinstance (pa_cons (pv 1) (pa_cons (pe_tup (pa_cons (pe_bltn (v := .ty "tuple") rfl B.tuple PyProof.Rows.boot_tuple rfl) (pa_cons (pe_bltn (v := .ty "list") rfl B.list PyProof.Rows.boot_list rfl) pa_nil))) pa_nil)))) pss_never pss_nil)
    (pss_cons (ps_if (PW.pt (pw_or (pt_cmp (pc_isN (pv 1))) (pw_or1 (pt_val (pe_callB call_isi rfl B.isinstance PyProof.Rows.boot_isinstance (pa_cons (pv 1) (pa_cons (pe_bltn (v := .ty "str") rfl B.str PyProof.Rows.boot_str rfl) pa_nil))))))) pss_never pss_nil)
    (pss_one (ps_ret (pe_and (pe_callB call_isi rfl B.isinstance PyProof.Rows.boot_isinstance (pa_cons (pv 0) (pa_cons (pe_bltn (v := .ty "int") rfl B.int PyProof.Rows.boot_int rfl) pa_nil)))
      (pe_and (pe_cmpR op_eq (pe_callB call_isi rfl B.isinstance PyProof.Rows.boot_isinstance (pa_cons (pv 0) (pa_cons (pe_bltn (v := .ty "bool") rfl B.bool PyProof.Rows.boot_bool rfl) pa_nil))) (pe_callB call_isi rfl B.isinstance PyProof.Rows.boot_isinstance (pa_cons (pv 1) (pa_cons (pe_bltn (v := .ty "bool") rfl B.bool PyProof.Rows.boot_bool rfl) pa_nil))) (nomark _))
      (pe_one (pe_cmpR op_eq (pv 0) (pv 1) (nomark _))))))))), ?_⟩)
  · obtain ⟨u, v, d, rfl, _⟩ := h
    rfl
  · obtain ⟨u, v, d, rfl, hd, hsm, hu, hv, q⟩ := h
    rcases dt_cases hu hv with ⟨t, bb, rfl, fl⟩ | ⟨k, ds, pu, us, pw, ws, rfl, rfl, su, sw, iu, iw, ed, es⟩
    · refine ⟨_, rfl, (by show 2 ≤ sizeLine; decide), fun p hp => ⟨_, p, clsTL, _, _, false, rfl, upd_same, cls_tl, fl.ty _, any_tl t false fl.k1 (fun _ => fl.k2), _, rfl, ifF (A := _) (B := _) rfl ?_⟩⟩
      refine ⟨_, rfl, _, rfl, ifF (A := _) (B := _) (decide_eq_false fl.nn) ⟨_, rfl, _, _, _, _, false, rfl, .ty "str", fl.ty _, kit_ty fl.k3, _, rfl, ifF (A := _) (B := _) rfl ?_⟩⟩
      refine ⟨_, rfl, _, _, _, _, true, rfl, .ty "int", fl.ty _, kit_ty fl.k4, _, rfl, ifT (A := _) (B := _) rfl ?_⟩
      refine ⟨_, rfl, _, _, _, _, bb, rfl, .ty "bool", fl.ty _, kit_ty fl.k5, _, rfl, _, _, _, _, bb, rfl, .ty "bool", fl.ty _, kit_ty fl.k5, rfl, _, rfl, ifT (A := _) (B := _) (decide_eq_true rfl) ?_⟩
      refine ⟨_, rfl, _, rfl, fl.sc, ?_⟩
      rw [decide_eq_true rfl]
      exact q _ ((Kp.refl H).new hp)
    · omega
theorem ok_alikeS {n j : Nat} (F : FnP K "_law_alike" sAlike f fd) (B : Bl mg) (hA : Has P w K mg base "_law_alike" j [] (spAlike K n)) : FnOk P w K mg base CX0 (j + 1) f fd ["found", "due"] (spAlike K (n + 1)) := by
  refine F.ok scAlike (fun vs H Q E h => ?_) (fun cdv A outer s H vs Q E hr h => ⟨_, PSs.nox (
    pss_cons (ps_if (pt_val (pe_callB call_isiT rfl B.isinstance PyProof.Rows.boot_isinstance (pa_cons (pv 1) (pa_cons (pe_tup (pa_cons (pe_bltn (v := .ty "tuple") rfl B.tuple PyProof.Rows.boot_tuple rfl) (pa_cons (pe_bltn (v := .ty "list") rfl B.list PyProof.Rows.boot_list rfl) pa_nil))) pa_nil))))
      (pss_cons (ps_if (PW.pt (pw_or (pt_not (pt_val (pe_callB call_isiT rfl B.isinstance PyProof.Rows.boot_isinstance (pa_cons (pv 0) (pa_cons (pe_tup (pa_cons (pe_bltn (v := .ty "tuple") rfl B.tuple PyProof.Rows.boot_tuple rfl) (pa_cons (pe_bltn (v := .ty "list") rfl B.list PyProof.Rows.boot_list rfl) pa_nil))) pa_nil)))))
        (pw_or1 (pt_cmpR op_ne (pe_callB call_isi rfl B.isinstance PyProof.Rows.boot_isinstance (pa_cons (pv 0) (pa_cons (pe_bltn (v := .ty "list") rfl B.list PyProof.Rows.boot_list rfl) pa_nil))) (pe_callB call_isi rfl B.isinstance PyProof.Rows.boot_isinstance (pa_cons (pv 1) (pa_cons (pe_bltn (v := .ty "list") rfl B.list PyProof.Rows.boot_list rfl) pa_nil))) (nomark _))))) pss_never pss_nil)
      (pss_cons (ps_if (pt_cmpR op_ne (pe_callB call_len_seq rfl B.len PySem.boot_len (pa_cons (pv 0) pa_nil)) (pe_callB call_len_seq rfl B.len PySem.boot_len (pa_cons (pv 1) pa_nil)) (nomark _)) pss_never pss_nil)
      (pss_one (ps_ret (pe_cmpR (op_eqNil hr.units) (pe_lc (own := [("k", 2)]) (g := gName 2) (tt := tNot (tB (tCall (spAlike K n) [] E0 (tCons (tOp (rIx K) (tVar 0) (tVar 2)) (tCons (tOp (rIx K) (tVar 1) (tVar 2)) tNil))))) rfl scAlike.nd (pi_range1 rfl B.range (pa_cons (pe_callB call_len_seq rfl B.len PySem.boot_len (pa_cons (pv 1) pa_nil)) pa_nil)) (blkOk_by (N := ["found", "due", "k"]) (sc := defScope sAlike) (by decide +kernel))
        (fun _ _ _ _ _ => pg_name (i := 2) scAlike.nd rfl (Or.inl rfl)) (fun _ _ _ _ _ => pts_one (pt_not (pt_val (pe_has hA hr (Nat.le_refl _) (pa_cons (pe_ix (r := rIx K) ix_seq (pv 0) (pv 2) (fun _ _ => rfl)) (pa_cons (pe_ix (r := rIx K) ix_seq (pv 1) (pv 2) (fun _ _ => rfl)) pa_nil)))))) (fun _ _ _ _ _ => pv 2)) (pe_lst pa_nil) (nomark _)))))) pss_nil)
    (pss_cons (ps_if (PW.pt (pw_or (pt_cmp (pc_isN (pv 1))) (pw_or1 (pt_val (pe_callB call_isi rfl B.isinstance PyProof.Rows.boot_isinstance (pa_cons (pv 1) (pa_cons (pe_bltn (v := .ty "str") rfl B.str PyProof.Rows.boot_str rfl) pa_nil))))))) pss_never pss_nil)
    (pss_one (ps_ret (pe_and (pe_callB call_isi rfl B.isinstance PyProof.Rows.boot_isinstance (pa_cons (pv 0) (pa_cons (pe_bltn (v := .ty "int") rfl B.int PyProof.Rows.boot_int rfl) pa_nil)))
      (pe_and (pe_cmpR op_eq (pe_callB call_isi rfl B.isinstance PyProof.Rows.boot_isinstance (pa_cons (pv 0) (pa_cons (pe_bltn (v := .ty "bool") rfl B.bool PyProof.Rows.boot_bool rfl) pa_nil))) (pe_callB call_isi rfl B.isinstance PyProof.Rows.boot_isinstance (pa_cons (pv 1) (pa_cons (pe_bltn (v := .ty "bool") rfl B.bool PyProof.Rows.boot_bool rfl) pa_nil))) (nomark _))
      (pe_one (pe_cmpR op_eq (pv 0) (pv 1) (nomark _))))))))), ?_⟩)
  · obtain ⟨u, v, d, rfl, _⟩ := h
    rfl
  · obtain ⟨u, v, d, rfl, hd, hsm, hu, hv, q⟩ := h
    rcases dt_cases hu hv with ⟨t, bb, rfl, fl⟩ | ⟨k, ds, pu, us, pw, ws, rfl, rfl, su, sw, iu, iw, ed, es⟩
    · refine ⟨_, rfl, (by show 2 ≤ sizeLine; decide), fun p hp => ⟨_, p, clsTL, _, _, false, rfl, upd_same, cls_tl, fl.ty _, any_tl t false fl.k1 (fun _ => fl.k2), _, rfl, ifF (A := _) (B := _) rfl ?_⟩⟩
      refine ⟨_, rfl, _, rfl, ifF (A := _) (B := _) (decide_eq_false fl.nn) ⟨_, rfl, _, _, _, _, false, rfl, .ty "str", fl.ty _, kit_ty fl.k3, _, rfl, ifF (A := _) (B := _) rfl ?_⟩⟩
      refine ⟨_, rfl, _, _, _, _, true, rfl, .ty "int", fl.ty _, kit_ty fl.k4, _, rfl, ifT (A := _) (B := _) rfl ?_⟩
      refine ⟨_, rfl, _, _, _, _, bb, rfl, .ty "bool", fl.ty _, kit_ty fl.k5, _, rfl, _, _, _, _, bb, rfl, .ty "bool", fl.ty _, kit_ty fl.k5, rfl, _, rfl, ifT (A := _) (B := _) (decide_eq_true rfl) ?_⟩
      refine ⟨_, rfl, _, rfl, fl.sc, ?_⟩
      rw [decide_eq_true rfl]
      exact q _ ((Kp.refl H).new hp)
    · obtain ⟨l5, sm⟩ := es hsm
      have lu := iu.len
      have lw := iw.len
      refine ⟨_, rfl, (by show 2 ≤ sizeLine; decide), fun p hp => ?_⟩
      have z1 := (Kp.refl H).new hp (o := .tup clsTL)
      refine ⟨_, p, clsTL, _, _, true, rfl, upd_same, cls_tl, (z1.sqB sw).ty, any_B k, _, rfl, ifT (A := _) (B := _) rfl ?_⟩
      refine ⟨_, rfl, (by show 2 ≤ sizeLine; decide), fun p2 hp2 => ?_⟩
      have z2 := z1.new hp2 (o := .tup clsTL)
      have su2 := z2.sqB su
      have sw2 := z2.sqB sw
      refine ⟨_, p2, clsTL, _, _, true, rfl, upd_same, cls_tl, su2.ty, any_B k, _, rfl, ifF (A := _) (B := _) rfl ?_⟩
      refine ⟨_, rfl, _, _, _, _, k, rfl, .ty "list", su2.ty, one_B k, _, rfl, _, _, _, _, k, rfl, .ty "list", sw2.ty, one_B k, rfl, _, rfl, ifF (A := _) (B := _) (by simp) ?_⟩
      refine ⟨_, rfl, pu, us, rfl, su2.or, _, rfl, pw, ws, rfl, sw2.or, rfl, _, rfl, ifF (A := _) (B := _) (by rw [lu, lw]; simp) ?_⟩
      refine ⟨_, rfl, pw, ws, rfl, sw2.or, (ws.length : Int), rfl, by omega, by omega, fun D hD => ?_⟩
      show ∃ W, _
      refine lcG (J := Itr 0 ws.length) (Wlk.rng 0 ws.length) hD (by rw [sizeLine_eq]; omega) (fun _ => false) (fun _ _ _ => True) (fun _ _ _ _ _ _ => trivial) (fun i x H' Q1 Q0 hi z hx q1 q0 => ?_) (fun ys H' z hD' hpr => ?_)
      · subst hx
        rw [Int.zero_add]
        have hi' : i < ds.length := by omega
        have e := List.getElem?_eq_getElem hi'
        have zz := z2.trans z
        obtain ⟨u1, hu1, du1⟩ := IsDts.get (IsDts.kp zz ds us iu) e
        obtain ⟨w1, hw1, dw1⟩ := IsDts.get (IsDts.kp zz ds ws iw) e
        have dd := depths_get e
        refine ⟨rfl, _, rfl, _, rfl, (z.sqB su2).ix (atI_nat hu1) ⟨_, rfl, _, rfl, (z.sqB sw2).ix (atI_nat hw1) ⟨u1, w1, ds[i], rfl, by omega, smalls_get sm e, du1, dw1, fun H5 z5 => ⟨_, rfl, ?_⟩⟩⟩⟩
        exact ifF (A := tVar 2 _ _ Q1) rfl (q0 _ rfl z5)
      · have ey : ys = [] := by
          have := hpr.length
          rw [show (List.range ws.length).filter (fun _ => false) = [] from by simp] at this
          exact List.length_eq_zero_iff.mp this.symm
        subst ey
        refine ⟨Nat.zero_le _, fun e he => ?_⟩
        have ze := z.new he (o := .lst [])
        have nD : D ≠ e := fun w => by rw [w, he] at hD'; cases hD'
        exact ⟨D, e, [], rfl, rfl, SqL.of (by rw [upd_ne nD]; exact hD'), SqL.of upd_same, q _ (z2.trans ze)⟩
end
end NS
end
section
set_option maxHeartbeats 4000000
/-! L6: the law's lots of pairs -/
namespace NS
open PySem PySem.Spec PyProof.Rows L2 ZS
theorem has_alike {P : Program} {w : World} {K : PySem.W.Frag} {mg : Str → Option Value} {base : Heap} {f : Addr} {fd : FuncData} (F : FnP K "_law_alike" sAlike f fd) (m : mg "_law_alike" = some (.ref f)) (B : Bl mg) : ∀ n, Has P w K mg base "_law_alike" (n + 1) [] (spAlike K n)
  | 0 => ⟨f, fd, ["found", "due"], [], m, F.kp, F.bindsN (fun _ _ _ _ _ _ us hl => match us, hl with | [_, _], _ => rfl), .nil, ok_alike0 F B⟩
  | n + 1 => ⟨f, fd, ["found", "due"], [], m, F.kp, F.bindsN (fun _ _ _ _ _ _ us hl => match us, hl with | [_, _], _ => rfl), .nil, ok_alikeS F B (has_alike F m B n)⟩
theorem scLPairs : FnScope ["house", "left", "found", "one", "other", "lot", "last", "pair", "turn"] ["house"] (defScope sLPairs) := ⟨rfl, rfl, rfl, by decide +kernel, rfl, by decide +kernel, by decide +kernel⟩
/-- all pairs of halls -/
def G2 (n : Nat) : List (List Int) := (grid n n).map pr2
theorem mem_grid {n m : Nat} {p : Nat × Nat} : p ∈ grid n m ↔ p.1 < n ∧ p.2 < m := by
  unfold grid
  rw [List.mem_flatMap]
  constructor
  · rintro ⟨i, hi, e⟩
    obtain ⟨j, hj, rfl⟩ := List.mem_map.mp e
    exact ⟨List.mem_range.mp hi, List.mem_range.mp hj⟩
  · rintro ⟨h1, h2⟩
    exact ⟨p.1, List.mem_range.mpr h1, List.mem_map.mpr ⟨p.2, List.mem_range.mpr h2, rfl⟩⟩
theorem mem_g2 {n : Nat} {b : List Int} : b ∈ G2 n ↔ b.length = 2 ∧ Low n b := by
  unfold G2
  rw [List.mem_map]
  constructor
  · rintro ⟨p, hp, rfl⟩
    have h := mem_grid.mp hp
    refine ⟨rfl, fun x hx => ?_⟩
    rcases List.mem_cons.mp hx with e | e
    · rw [e]; show (0 : Int) ≤ (p.1 : Int) ∧ (p.1 : Int) < n; omega
    · rw [List.mem_singleton.mp e]; show (0 : Int) ≤ (p.2 : Int) ∧ (p.2 : Int) < n; omega
  · rintro ⟨hb, lo⟩
    match b, hb with
    | [x, y], _ =>
      have hx := lo x (by simp)
      have hy := lo y (by simp)
      refine ⟨(x.toNat, y.toNat), mem_grid.mpr ⟨by show x.toNat < n; omega, by show y.toNat < n; omega⟩, ?_⟩
      show [((x.toNat : Nat) : Int), ((y.toNat : Nat) : Int)] = [x, y]
      rw [Int.toNat_of_nonneg hx.1, Int.toNat_of_nonneg hy.1]
theorem g2_len (n : Nat) : (G2 n).length = n * n := by unfold G2; rw [List.length_map, grid_len]
theorem comp_low {n : Nat} {b t : List Int} (hb : Low n b) (ht : IsT n t) : Low n (comp b t) := fun x hx => by
  obtain ⟨k, hk, rfl⟩ := List.mem_map.mp hx
  have hk' := hb k hk
  exact ht.low _ (mem_getD (by rw [ht.len]; omega) 0)
theorem g2_cl {n : Nat} {ts : List (List Int)} (hi : ∀ t ∈ ts, IsT n t) : ∀ b ∈ G2 n, ∀ t ∈ ts, comp b t ∈ G2 n := fun b hb t ht => by
  obtain ⟨l2, lo⟩ := mem_g2.mp hb
  exact mem_g2.mpr ⟨by rw [comp_len, l2], comp_low lo (hi t ht)⟩
theorem comp_inj {n : Nat} {t : List Int} (ht : IsT n t) : ∀ {a b : List Int}, Low n a → Low n b → comp a t = comp b t → a = b
  | [], [], _, _, _ => rfl
  | [], y :: b, _, _, e => by cases e
  | x :: a, [], _, _, e => by cases e
  | x :: a, y :: b, ha, hb, e => by
    have e1 : t.getD x.toNat 0 :: comp a t = t.getD y.toNat 0 :: comp b t := e
    injection e1 with h1 h2
    have hx := ha x (List.mem_cons_self ..)
    have hy := hb y (List.mem_cons_self ..)
    have := ht.inj (i := x.toNat) (j := y.toNat) (by omega) (by omega) (by unfold at'; rw [h1])
    have exy : x = y := by omega
    rw [exy, comp_inj ht (fun z hz => ha z (List.mem_cons_of_mem _ hz)) (fun z hz => hb z (List.mem_cons_of_mem _ hz)) h2]
theorem g2_sym {n : Nat} {ts : List (List Int)} (hi : ∀ t ∈ ts, IsT n t) {p x : List Int} (hp : p ∈ G2 n) (h : Rch comp ts p x) : Rch comp ts x p :=
  h.symm (g2_cl hi) (fun t ht a ha b hb e => comp_inj (hi t ht) (mem_g2.mp ha).2 (mem_g2.mp hb).2 e) hp
/-- lots of pairs, each from its first one -/
structure PLots (n : Nat) (ts : List (List Int)) (LL : List (List (List Int))) : Prop where
  hd : ∀ lot ∈ LL, ∃ p rest, lot = p :: rest ∧ p ∈ G2 n ∧ lot.Nodup ∧ ∀ x, x ∈ lot ↔ Rch comp ts p x
  dj : LL.Pairwise fun l1 l2 => ∀ x ∈ l1, x ∉ l2
def LotsAt (K : PySem.W.Frag) (H : Hp) (fo : Addr) (us : List V) (LL : List (List (List Int))) : Prop := Paired (fun v lot => ∃ a ys, v = .ref a ∧ a ≠ fo ∧ H a = some (.lst ys) ∧ Paired (TI K H) ys lot) us LL
theorem pr_ti {K : PySem.W.Frag} {H H' : Hp} (z : Tup H H') {vs : List V} {as : List (List Int)} (h : Paired (TI K H) vs as) : Paired (TI K H') vs as := h.mono fun _ _ q => z.ti q
theorem LotsAt.kp {K : PySem.W.Frag} {H H' : Hp} {fo : Addr} {us : List V} {LL : List (List (List Int))} (h : LotsAt K H fo us LL) (z : Kp H H') : LotsAt K H' fo us LL := h.mono fun _ _ ⟨a, ys, e, n, h1, h2⟩ => ⟨a, ys, e, n, z.lst h1, pr_ti z.tup h2⟩
theorem LotsAt.put {K : PySem.W.Frag} {H : Hp} {fo : Addr} {us ws : List V} {LL : List (List (List Int))} (h : LotsAt K H fo us LL) {xs : List V} (hf : H fo = some (.lst xs)) : LotsAt K (upd H fo (.lst ws)) fo us LL := h.mono fun _ _ ⟨a, ys, e, n, h1, h2⟩ => ⟨a, ys, e, n, by rw [upd_ne n]; exact h1, pr_ti (Tup.put (by rw [hf]; trivial)) h2⟩
theorem pr_vky {K : PySem.W.Frag} {H : Hp} {vs : List V} {as : List (List Int)} (h : Paired (TI K H) vs as) : Paired (VKy K H) vs (as.map tk) := by
  induction h with
  | nil => exact .nil
  | cons p _ ih =>
    obtain ⟨b, e, hb⟩ := id p
    exact .cons (.inr ⟨b, e, .inl ⟨_, rfl, by rw [← e]; exact p⟩⟩) ih
theorem ti_vky {K : PySem.W.Frag} {H : Hp} {v : V} {k : List Int} (p : TI K H v k) : VKy K H v (tk k) := by
  obtain ⟨b, e, hb⟩ := id p
  exact .inr ⟨b, e, .inl ⟨_, rfl, by rw [← e]; exact p⟩⟩
def spLPairs (K : PySem.W.Frag) : Sp := fun vs H Q _ => ∃ (v : V) (n : Nat) (ts : List (List Int)), vs = [v] ∧ HouseAt K H v n ts ∧ IsH n ts ∧
  ∀ q H' us LL, Kp H H' → H' q = some (.lst us) → LotsAt K H' q us LL → PLots n ts LL → (∀ p ∈ G2 n, ∃ lot ∈ LL, p ∈ lot) → LL.length ≤ 64 → Q (.ref q) H'
/-- within one lot: ahead of each turn of the while -/
def WP (K : PySem.W.Frag) (n : Nat) (ts : List (List Int)) (p : List Int) (H : Hp) (ha l fo lo la : Addr) (x3 : Option V) (m : Nat) (σ : L2.St) (H' : Hp) : Prop :=
  ∃ (zs ws : List V) (lot as rest : List (List Int)) (x4 x7 x8 : Option V), σ = [some (.ref ha), some (.ref l), some (.ref fo), x3, x4, some (.ref lo), some (.ref la), x7, x8] ∧ Kp H H' ∧ H' lo = some (.lst zs) ∧ Paired (TI K H') zs lot ∧ H' la = some (.lst ws) ∧ Paired (TI K H') ws as ∧
    (∀ a ∈ as, a ∈ lot) ∧ (∀ a ∈ lot, Rch comp ts p a) ∧ lot = p :: rest ∧ (∀ a ∈ lot, a ∉ as → ∀ t ∈ ts, comp a t ∈ lot) ∧ lot.Nodup ∧ m = 2 * (64 - lot.length) + as.length ∧ m ≤ 128
structure FP (K : PySem.W.Frag) (n : Nat) (ts : List (List Int)) (p : List Int) (H : Hp) (ha l fo lo la : Addr) (x3 : Option V) (v : V) (a : List Int) (m : Nat) (i : Nat) (σ : L2.St) (H' : Hp) : Prop where
  kp : Kp H H'
  ex : ∃ (zs ws : List V) (lot as rest : List (List Int)) (x4 x8 : Option V), σ = [some (.ref ha), some (.ref l), some (.ref fo), x3, x4, some (.ref lo), some (.ref la), some v, x8] ∧ TI K H' v a ∧ a ∈ lot ∧ H' lo = some (.lst zs) ∧ Paired (TI K H') zs lot ∧ H' la = some (.lst ws) ∧ Paired (TI K H') ws as ∧
    (∀ a ∈ as, a ∈ lot) ∧ (∀ a ∈ lot, Rch comp ts p a) ∧ lot = p :: rest ∧ (∀ b ∈ lot, b ∉ as → b ≠ a → ∀ t ∈ ts, comp b t ∈ lot) ∧ (∀ j, j < i → ∀ t, ts[j]? = some t → comp a t ∈ lot) ∧ lot.Nodup ∧ 2 * (64 - lot.length) + as.length < m
/-- ahead of each turn of the outer while -/
def WO (K : PySem.W.Frag) (n : Nat) (ts : List (List Int)) (H : Hp) (ha fo : Addr) (m : Nat) (σ : L2.St) (H' : Hp) : Prop :=
  ∃ (l : Addr) (ys us : List V) (lf : List (List Int)) (LL : List (List (List Int))) (x3 x4 x5 x6 x7 x8 : Option V), σ = [some (.ref ha), some (.ref l), some (.ref fo), x3, x4, x5, x6, x7, x8] ∧ Kp H H' ∧ H' l = some (.lst ys) ∧ l ≠ fo ∧ Paired (TI K H') ys lf ∧ H' fo = some (.lst us) ∧ LotsAt K H' fo us LL ∧ PLots n ts LL ∧
    (∀ p, p ∈ lf ↔ p ∈ G2 n ∧ ∀ lot ∈ LL, p ∉ lot) ∧ LL.length + lf.length ≤ 64 ∧ m = lf.length
theorem pr_app {α β : Type} {F : α → β → Prop} {as bs : List α} {xs ys : List β} (h : Paired F as xs) (h' : Paired F bs ys) : Paired F (as ++ bs) (xs ++ ys) := by
  induction h with
  | nil => exact h'
  | cons p _ ih => exact .cons p ih
theorem pr_flip {α β γ : Type} {F : α → β → Prop} {G : β → γ → Prop} {f : α → γ} (hf : ∀ a b, F a b → G b (f a)) {as : List α} {bs : List β} (h : Paired F as bs) : Paired G bs (as.map f) := by
  induction h with
  | nil => exact .nil
  | cons p _ ih => exact .cons (hf _ _ p) ih
theorem pr_cons {α β : Type} {F : α → β → Prop} {xs : List α} {ys : List β} (h : Paired F xs ys) (hx : xs ≠ []) : ∃ x xs' y ys', xs = x :: xs' ∧ ys = y :: ys' ∧ F x y ∧ Paired F xs' ys' := by
  cases h with
  | nil => exact absurd rfl hx
  | cons p t => exact ⟨_, _, _, _, rfl, rfl, p, t⟩
theorem filter_at {α : Type} (l : List α) (d : α) (f : α → Bool) : ((List.range l.length).filter fun i => f (l.getD i d)).map (fun i => l.getD i d) = l.filter f := by
  conv => rhs; rw [← map_range_getD l d, List.filter_map]
  rfl
section
variable {P : Program} {w : World} {K : PySem.W.Frag} {mg : Str → Option Value} {base : Heap} {f : Addr} {fd : FuncData}
theorem has_lpairs (F : FnP K "_law_pairs" sLPairs f fd) (m : mg "_law_pairs" = some (.ref f)) (B : Bl mg) : Has P w K mg base "_law_pairs" 1 [] (spLPairs K) := by
  refine ⟨f, fd, ["house"], [], m, F.kp, F.bindsN (fun _ _ _ _ _ _ us hl => match us, hl with | [_], _ => rfl), .nil, ?_⟩
  refine F.ok scLPairs (fun vs H Q E h => ?_) (fun cdv A outer s H vs Q E hr h => ⟨_, PSs.nox (
    pss_cons (ps_par (i := 1) (j := 2) (by rfl) scLPairs.nd rfl rfl (by decide) rfl rfl (pa_cons (pe_lst pa_nil) (pa_cons (pe_lst pa_nil) pa_nil)) (by rfl))
    (pss_cons (ps_for PassesOwn.never rfl (pi_range1 rfl B.range (pa_cons (pe_ix (r := rIxT K) ix_tup (pv 0) pe_int (fun _ _ => rfl)) pa_nil)) (pg_name (i := 3) scLPairs.nd rfl (Or.inr rfl))
      (pss_one (ps_set (i := 1) scLPairs.nd rfl (Or.inl rfl) (pe_op op_cat (pv 1) (pe_lc (own := [("other", 4)]) (g := gName 4) (tt := tYes) rfl scLPairs.nd (pi_range1 rfl B.range (pa_cons (pe_ix (r := rIxT K) ix_tup (pv 0) pe_int (fun _ _ => rfl)) pa_nil))
        (blkOk_by (N := ["house", "left", "found", "one", "other", "lot", "last", "pair", "turn"]) (sc := defScope sLPairs) (by decide +kernel)) (fun _ _ _ _ _ => pg_name (i := 4) scLPairs.nd rfl (Or.inl rfl)) (fun _ _ _ _ _ => pts_nil) (fun _ _ _ _ _ => pe_tupP (pa_cons (pv 3) (pa_cons (pv 4) pa_nil))))))))
    (pss_cons (ps_while PassesOwn.never (pt_cmpR (op_neNil hr.units) (pv 1) (pe_lst pa_nil) (nomark _))
      (pss_cons (ps_asg (pe_tup (pa_cons (pe_lst (pa_cons (pe_ix (r := rIxL K) ix_list (pv 1) pe_int (fun _ _ => rfl)) pa_nil)) (pa_cons (pe_lst (pa_cons (pe_ix (r := rIxL K) ix_list (pv 1) pe_int (fun _ _ => rfl)) pa_nil)) pa_nil))) (pg_tup rfl (pgs_cons (pg_name (i := 5) scLPairs.nd rfl (Or.inr rfl)) (pgs_cons (pg_name (i := 6) scLPairs.nd rfl (Or.inl rfl)) pgs_nil))))
      (pss_cons (ps_while PassesOwn.never (pt_cmpR (op_neNil hr.units) (pv 6) (pe_lst pa_nil) (nomark _))
        (pss_cons (ps_set (i := 7) scLPairs.nd rfl (Or.inl rfl) (pe_bm0 PySem.F.plainAttrs_list PySem.F.slot_list_pop PySem.F.type_list_pop mt_pop (pv 6)))
        (pss_one (ps_for PassesOwn.never rfl (pi_tup (pe_ix (r := rIxT K) ix_tup (pv 0) pe_int (fun _ _ => rfl))) (pg_name (i := 8) scLPairs.nd rfl (Or.inl rfl))
          (pss_cons (ps_set (i := 4) scLPairs.nd rfl (Or.inl rfl) (pe_tupP (pa_cons (pe_ix (r := rIxT K) ix_tup (pv 8) (pe_ix (r := rIxT K) ix_tup (pv 7) pe_int (fun _ _ => rfl)) (fun _ _ => rfl)) (pa_cons (pe_ix (r := rIxT K) ix_tup (pv 8) (pe_ix (r := rIxT K) ix_tup (pv 7) pe_int (fun _ _ => rfl)) (fun _ _ => rfl)) pa_nil))))
          (pss_one (ps_if (pt_cmpR (op_knotin hr.units) (pv 4) (pv 5) rfl)
            (pss_cons (ps_expr (pe_bm PySem.F.plainAttrs_list PySem.F.slot_list_append PySem.F.type_list_append mt_append (pv 5) (pa_cons (pv 4) pa_nil)))
            (pss_one (ps_expr (pe_bm PySem.F.plainAttrs_list PySem.F.slot_list_append PySem.F.type_list_append mt_append (pv 6) (pa_cons (pv 4) pa_nil))))) pss_nil)))))))
      (pss_cons (ps_expr (pe_bm PySem.F.plainAttrs_list PySem.F.slot_list_append PySem.F.type_list_append mt_append (pv 2) (pa_cons (pv 5) pa_nil)))
      (pss_one (ps_setLc (i := 1) (own := [("pair", 7)]) (g := gName 7) (tt := tTest (tOp (rKIn K true) (tVar 7) (tVar 5))) rfl scLPairs.nd rfl rfl (sw_true rfl rfl rfl (by decide +kernel)) (pi_list (pv 1))
        (blkOk_by (N := ["house", "left", "found", "one", "other", "lot", "last", "pair", "turn"]) (sc := defScope sLPairs) (by decide +kernel)) (fun _ _ _ _ _ => pg_name (i := 7) scLPairs.nd rfl (Or.inl rfl)) (fun _ _ _ _ _ => pts_one (pt_cmpR (op_knotin hr.units) (pv 7) (pv 5) rfl)) (fun _ _ _ _ _ => pv 7)))))))
    (pss_one (ps_ret (pv 2)))))), ?_⟩)
  · obtain ⟨v, n, ts, rfl, _⟩ := h
    rfl
  · obtain ⟨v, n, ts, rfl, ⟨ha, tv, rfl, hA, ⟨tb, xs, rfl, hB, hp⟩⟩, hi, q⟩ := h
    have n1 := hi.n1
    have n8 := hi.n8
    have xl := hp.length
    have nn : n * n ≤ 64 := Nat.mul_le_mul n8 n8
    refine ⟨Nat.zero_le _, fun l0 hl0 => ⟨Nat.zero_le _, fun fo hfo => ⟨_, _, rfl, ?_⟩⟩⟩
    have z0 := ((Kp.refl H).new hl0 (o := .lst [])).new hfo (o := .lst [])
    have hfo0 : H fo = none := ((Kp.refl H).new hl0 (o := .lst [])).none hfo
    have nl0 : l0 ≠ fo := fun e => by rw [← e, upd_same] at hfo; cases hfo
    refine ⟨_, rfl, ha, _, 0, _, rfl, rfl, z0.sqT hA, rfl, (n : Int), rfl, by omega, by omega, ?_⟩
    show ∃ W, _
    refine forG (J := Itr 0 n) (Wlk.rng (H := H) 0 n) (fun i σ H' => ∃ l ys x3, σ = [some (.ref ha), some (.ref l), some (.ref fo), x3, none, none, none, none, none] ∧ Kp H H' ∧ H' l = some (.lst ys) ∧ l ≠ fo ∧ Paired (TI K H') ys ((grid i n).map pr2) ∧ H' fo = some (.lst [])) ⟨l0, [], none, rfl, z0, by rw [upd_ne nl0, upd_same], nl0, .nil, upd_same⟩ (fun i σ H' _ ⟨_, _, _, _, z, _⟩ => z) (fun i x σ H1 H2 hi' hpv z12 hx => ?_) (fun σ H' ⟨l, ys, x3, e, zk, hl, nlf, hpr, hfo'⟩ => ?_)
    · obtain ⟨l, ys, x3, rfl, zk1, hl1, nlf, hpr1, hfo1⟩ := hpv
      subst hx
      have zk2 := zk1.trans z12
      refine ⟨_, rfl, _, rfl, ha, _, 0, _, rfl, rfl, zk2.sqT hA, rfl, (n : Int), rfl, by omega, by omega, fun D hD => ?_⟩
      show ∃ W, _
      refine lcF (J := Itr 0 n) (Wlk.rng 0 n) hD (by rw [sizeLine_eq]; omega) (fun j y H' => PT H' y (pr2 (i, j))) (fun j y H1 H2 z h => NS.Tup.pt z h) (fun j x H' Q1 hj z hx q1 => ?_) (fun x H' Q Q' h q => h _ _ q) (fun ys2 H3 z3 hD' hpr2 => ?_)
      · subst hx
        exact ⟨rfl, _, rfl, _, rfl, (by show 2 ≤ sizeLine; decide), fun p o hp ho => q1 _ _ ((Kp.refl _).new hp) (.of (by rw [upd_same, Int.zero_add, Int.zero_add]; rfl) ho)⟩
      · have zz := z12.trans z3
        have l1 := hpr1.length
        have l2 := hpr2.length
        rw [List.length_map, grid_len] at l1
        rw [List.length_range] at l2
        have : (i + 1) * n ≤ n * n := Nat.mul_le_mul_right n hi'
        rw [Nat.succ_mul] at this
        refine ⟨l, D, ys, ys2, rfl, rfl, zz.lst hl1, hD', by rw [sizeLine_eq]; omega, fun p hp => ?_⟩
        have zp := (Kp.refl H3).new hp (o := .lst (ys ++ ys2))
        have hfo3 := zz.lst hfo1
        have npf : p ≠ fo := fun e => by rw [e, hfo3] at hp; cases hp
        refine ⟨p, ys ++ ys2, _, rfl, (zk2.trans z3).trans zp, upd_same, npf, ?_, zp.lst hfo3⟩
        rw [grid_succ, List.map_append, List.map_map]
        exact pr_app (pr_ti (zz.trans zp).tup hpr1) (pr_flip (fun a b h => zp.ti (PT.ti h)) hpr2)
    · subst e
      refine ⟨WO K n ts H ha fo, ⟨_, l, ys, [], G2 n, [], x3, none, none, none, none, none, rfl, zk, hl, nlf, hpr, hfo', .nil, ⟨(fun _ h => by cases h), List.Pairwise.nil⟩, fun p => ⟨fun h => ⟨h, fun _ h => by cases h⟩, fun h => h.1⟩, by rw [g2_len]; show 0 + n * n ≤ 64; omega, rfl⟩, ?_⟩
      rintro m σ H1 ⟨l, ys, us, lf, LL, x3, x4, x5, x6, x7, x8, rfl, zk1, hl1, nlf1, hpr1, hfo1, hlots, pl, mlf, len, rfl⟩
      refine ⟨_, rfl, Nat.zero_le _, fun e he => ?_⟩
      have ze := (Kp.refl H1).new he (o := .lst [])
      refine ⟨l, e, ys, rfl, rfl, SqL.of (ze.lst hl1), SqL.of upd_same, _, rfl, ?_⟩
      have zk2 := zk1.trans ze
      have hl2 := ze.lst hl1
      have hpr2 := pr_ti ze.tup hpr1
      have hfo2 := ze.lst hfo1
      have hlots2 := hlots.kp ze
      generalize upd H1 e (.lst []) = H2 at zk2 hl2 hpr2 hfo2 hlots2 ⊢
      by_cases hys : ys = []
      · subst hys
        cases hpr1
        refine ifF (A := _) (B := _) rfl ⟨_, rfl, q fo H2 us LL zk2 hfo2 hlots2 pl (fun p hp => ?_) (by omega)⟩
        by_cases h : ∃ lot ∈ LL, p ∈ lot
        · exact h
        · have := (mlf p).mpr ⟨hp, fun lot hl hm => h ⟨lot, hl, hm⟩⟩
          cases this
      · refine ifT (A := _) (B := _) (by cases ys with | nil => exact absurd rfl hys | cons _ _ => rfl) ?_
        obtain ⟨y0, ys', p, lf', rfl, rfl, ty0, _⟩ := pr_cons hpr2 hys
        obtain ⟨hpG, hpN⟩ := (mlf p).mp (List.mem_cons_self ..)
        refine ⟨fun σ' H'' => ∃ m', m' < (p :: lf').length ∧ WO K n ts H ha fo m' σ' H'', fun σ' H'' h => h, ?_⟩
        refine ⟨_, rfl, l, _, 0, y0, rfl, rfl, SqL.of hl2, atI_nat (j := 0) rfl, (by show 1 ≤ sizeLine; decide), fun lo hlo => ?_⟩
        have zlo := (Kp.refl H2).new hlo (o := .lst [y0])
        refine ⟨_, rfl, l, _, 0, y0, rfl, rfl, SqL.of (zlo.lst hl2), atI_nat (j := 0) rfl, (by show 1 ≤ sizeLine; decide), fun la hla => ⟨(by show 2 ≤ sizeLine; decide), fun tp htp => ?_⟩⟩
        have zla := zlo.new hla (o := .lst [y0])
        have hla2 : H2 la = none := zlo.none hla
        have nlo : lo ≠ la := fun e => by rw [← e, upd_same] at hla; cases hla
        have hlo' : (upd (upd H2 lo (.lst [y0])) la (.lst [y0])) lo = some (.lst [y0]) := by rw [upd_ne nlo, upd_same]
        have ztp0 := (Kp.refl (upd (upd H2 lo (.lst [y0])) la (.lst [y0]))).new htp (o := .tup [.ref lo, .ref la])
        have ztp := zla.trans ztp0
        refine ⟨tp, _, rfl, SqT.of upd_same, rfl, _, _, rfl, _, _, rfl, rfl, ?_⟩
        refine ⟨WP K n ts p H2 ha l fo lo la x3, ⟨_, [y0], [y0], [p], [p], [], x4, x7, x8, rfl, ztp, ztp0.lst hlo', .cons (ztp.ti ty0) .nil, ztp0.lst upd_same, .cons (ztp.ti ty0) .nil, fun a h => h, fun a h => by rw [List.mem_singleton.mp h]; exact .base, rfl, fun a h h' => absurd h h', nd1 _, rfl, by simp⟩, ?_⟩
        rintro m2 σ2 H4 ⟨zs, ws, lot, as, rest, y4, y7, y8, rfl, z24, hlo4, hpl4, hla4, hpa4, sub, rch, ehd, cl, nd, rfl, mle⟩
        refine ⟨_, rfl, Nat.zero_le _, fun e2 he2 => ?_⟩
        have ze2 := (Kp.refl H4).new he2 (o := .lst [])
        refine ⟨la, e2, ws, rfl, rfl, SqL.of (ze2.lst hla4), SqL.of upd_same, _, rfl, ?_⟩
        have z25 := z24.trans ze2
        have hlo5 := ze2.lst hlo4
        have hpl5 := pr_ti ze2.tup hpl4
        have hla5 := ze2.lst hla4
        have hpa5 := pr_ti ze2.tup hpa4
        generalize upd H4 e2 (.lst []) = H5 at z25 hlo5 hpl5 hla5 hpa5 ⊢
        have inG : ∀ b ∈ lot, b ∈ G2 n := fun b hb => (rch b hb).inU hpG (g2_cl hi.is)
        have lotlen : lot.length ≤ 64 := by
          have := nd_le nd inG
          rw [g2_len] at this
          omega
        by_cases hws : ws = []
        · subst hws
          cases hpa4
          refine ifF (A := _) (B := _) rfl ?_
          have mem : ∀ x, x ∈ lot ↔ Rch comp ts p x := fun x => ⟨rch x, fun h => by
            induction h with
            | base => rw [ehd]; exact List.mem_cons_self ..
            | next _ ht ih => exact cl _ ih List.not_mem_nil _ ht⟩
          have hfo5 := z25.lst hfo2
          have ul := hlots2.length
          have nlofo : lo ≠ fo := fun e => by rw [e, hfo2] at hlo; cases hlo
          simp only [List.length_cons] at len
          refine ⟨_, rfl, .inl ⟨rfl, _, SqL.of hfo5⟩, _, rfl, fo, us, .ref lo, rfl, rfl, hfo5, by rw [sizeLine_eq]; omega, ?_⟩
          have tz6 : Tup H5 (upd H5 fo (.lst (us ++ [.ref lo]))) := Tup.put (by rw [hfo5]; trivial)
          have zH6 := (zk2.trans z25).put hfo0 (o := .lst (us ++ [.ref lo]))
          have hl6 : (upd H5 fo (.lst (us ++ [.ref lo]))) l = some (.lst (y0 :: ys')) := by rw [upd_ne nlf1]; exact z25.lst hl2
          have hlo6 : (upd H5 fo (.lst (us ++ [.ref lo]))) lo = some (.lst zs) := by rw [upd_ne nlofo]; exact hlo5
          have hpl6 := pr_ti tz6 hpl5
          have hlots6 : LotsAt K (upd H5 fo (.lst (us ++ [.ref lo]))) fo (us ++ [.ref lo]) (LL ++ [lot]) := pr_app ((hlots2.kp z25).put hfo5) (.cons ⟨lo, zs, rfl, nlofo, hlo6, hpl6⟩ .nil)
          have hpr6 := pr_ti (z25.tup.trans tz6) hpr2
          have hfo6 : (upd H5 fo (.lst (us ++ [.ref lo]))) fo = some (.lst (us ++ [.ref lo])) := upd_same
          generalize upd H5 fo (.lst (us ++ [.ref lo])) = H6 at tz6 zH6 hl6 hlo6 hpl6 hlots6 hpr6 hfo6 ⊢
          have yl := hpr6.length
          refine ⟨_, rfl, l, rfl, ⟨_, SqL.of hl6⟩, fun D hD => ?_⟩
          have nDf : D ≠ fo := fun e => by rw [e, hfo6] at hD; cases hD
          refine lcG (Wlk.lst (SqL.of hl6)) hD (by rw [sizeLine_eq, yl]; simp only [List.length_cons]; omega) (fun i => decide ((p :: lf').getD i [] ∉ lot)) (fun i y H' => TI K H' y ((p :: lf').getD i [])) (fun i y H1 H2 z h => z.ti h) (fun i x H' Q1 Q0 hi z hx q1 q0 => ?_) (fun ys3 H7 z7 hD' hpr7 => ?_)
          · obtain ⟨k, hk, tk'⟩ := pr_get hpr6 hx
            refine ⟨rfl, _, rfl, _, rfl, lo, zs, lot.map tk, tk k, rfl, .inl (SqL.of (z.lst hlo6)), pr_vky (pr_ti z.tup hpl6), ti_vky (z.ti tk'), _, rfl, ?_⟩
            have e1 : (!decide (tk k ∈ lot.map tk)) = decide ((p :: lf').getD i [] ∉ lot) := by
              rw [getD_of hk]
              by_cases h : k ∈ lot
              · rw [decide_eq_true (tk_mem.mpr h)]; simp [h]
              · rw [decide_eq_false (fun h' => h (tk_mem.mp h'))]; simp [h]
            show if (!decide (tk k ∈ lot.map tk)) = true then _ else _
            rw [e1]
            cases hb : decide ((p :: lf').getD i [] ∉ lot) with
            | true => exact ifT (B := Q0 _) rfl ⟨_, rfl, q1 _ _ hb (Kp.refl _) (by rw [getD_of hk]; exact z.ti tk')⟩
            | false => exact ifF (A := tVar 7 _ _ Q1) rfl (q0 _ hb (Kp.refl _))
          · have hpr8 : Paired (TI K H7) ys3 ((p :: lf').filter fun x => decide (x ∉ lot)) := by
              rw [yl] at hpr7
              have := pr_flip (G := TI K H7) (f := fun i => (p :: lf').getD i []) (fun a b h => h) hpr7
              rwa [filter_at (p :: lf') [] (fun x => decide (x ∉ lot))] at this
            have mp : p ∈ lot := by rw [ehd]; exact List.mem_cons_self ..
            have fl : ((p :: lf').filter fun x => decide (x ∉ lot)).length ≤ lf'.length := by
              rw [List.filter_cons_of_neg (by simp [mp])]
              exact List.length_filter_le _ _
            refine ⟨_, Nat.lt_succ_of_le fl, D, ys3, us ++ [.ref lo], (p :: lf').filter fun x => decide (x ∉ lot), LL ++ [lot], _, _, _, _, _, _, rfl, zH6.trans z7, hD', nDf, hpr8, z7.lst hfo6, hlots6.kp z7, ⟨fun l1 h1 => ?_, ?_⟩, fun x => ?_, ?_, rfl⟩
            · rcases List.mem_append.mp h1 with h | h
              · exact pl.hd l1 h
              · rw [List.mem_singleton.mp h]
                exact ⟨p, rest, ehd, hpG, nd, mem⟩
            · rw [List.pairwise_append]
              refine ⟨pl.dj, List.pairwise_singleton _ _, fun l1 h1 l2 h2 x hx1 hx2 => ?_⟩
              rw [List.mem_singleton.mp h2] at hx2
              obtain ⟨p1, r1, e1, g1, n1', m1⟩ := pl.hd l1 h1
              have r1' := (m1 x).mp hx1
              have r2' := g2_sym hi.is hpG ((mem x).mp hx2)
              exact hpN l1 h1 ((m1 p).mpr (r1'.trans r2'))
            · rw [List.mem_filter, mlf x, decide_eq_true_iff]
              constructor
              · rintro ⟨⟨h1, h2⟩, h3⟩
                refine ⟨h1, fun l1 hl1 => ?_⟩
                rcases List.mem_append.mp hl1 with h | h
                · exact h2 l1 h
                · rw [List.mem_singleton.mp h]; exact h3
              · rintro ⟨h1, h2⟩
                exact ⟨⟨h1, fun l1 hl1 => h2 l1 (List.mem_append_left _ hl1)⟩, h2 lot (List.mem_append_right _ (List.mem_singleton.mpr rfl))⟩
            · rw [List.length_append, List.length_singleton]
              omega
        · refine ifT (A := _) (B := _) (by cases ws with | nil => exact absurd rfl hws | cons _ _ => rfl) ?_
          obtain ⟨v, a, ws', as', rfl, rfl, hva, hpa6⟩ := pr_append hpa5 hws
          refine ⟨fun σ' H'' => ∃ m', m' < 2 * (64 - lot.length) + (as' ++ [a]).length ∧ WP K n ts p H2 ha l fo lo la x3 m' σ' H'', fun σ' H'' h => h, ?_⟩
          refine ⟨_, rfl, .inl ⟨rfl, _, SqL.of hla5⟩, la, _, v, rfl, rfl, hla5, by simp, ?_⟩
          rw [List.dropLast_concat]
          have tz : Tup H5 (upd H5 la (.lst ws')) := Tup.put (by rw [hla5]; trivial)
          have z26 := z25.put hla2 (o := .lst ws')
          refine ⟨_, rfl, ha, _, 1, _, rfl, rfl, (zk2.trans z26).sqT hA, rfl, tb, rfl, ⟨_, (zk2.trans z26).sqT hB⟩, ?_⟩
          have hB2 := zk2.sqT hB
          refine forG (Wlk.tup hB2) (FP K n ts p H2 ha l fo lo la x3 v a (2 * (64 - lot.length) + (as' ++ [a]).length)) ⟨z26, zs, ws', lot, as', rest, y4, y8, rfl, tz.ti hva, sub a (by simp), by rw [upd_ne nlo]; exact hlo5, pr_ti tz hpl5, upd_same, pr_ti tz hpa6, fun b hb => sub b (by simp [hb]), rch, ehd, fun b hb h1 h2 => cl b hb (by simp [h1, h2]), fun j hj => absurd hj (Nat.not_lt_zero _), nd, by rw [List.length_append]; simp⟩
            (fun i σ' H1 _ h => h.kp) (fun i tw σ' H7 H8 hi' hpv z78 hx => ?_) (fun σ' H7 hpv => ?_)
          · obtain ⟨zk7, zs7, ws7, lot7, as7, rest7, w4, w8, rfl, ela, ma, hlo7, hpl7, hla7, hpa7, sub7, rch7, ehd7, cl7, done7, nd7, ms⟩ := hpv
            obtain ⟨t, ht, pt0⟩ := pr_get hp hx
            have mt := List.mem_of_getElem? ht
            have tt := hi.is t mt
            have aG : a ∈ G2 n := (rch7 a ma).inU hpG (g2_cl hi.is)
            obtain ⟨al, alow⟩ := mem_g2.mp aG
            obtain ⟨pa, rfl, hpa8⟩ := z78.ti ela
            obtain ⟨ptt, rfl, htt⟩ := (zk2.trans (zk7.trans z78)).ti pt0
            match a, al, alow with
            | [ax, ay], _, alow =>
              have hx0 := alow ax (by simp)
              have hy0 := alow ay (by simp)
              refine ⟨_, rfl, _, rfl, pa, _, 0, .int ax, rfl, rfl, hpa8, rfl, ptt, _, _, _, rfl, rfl, htt, at_ints hx0.1 (by rw [tt.len]; exact hx0.2), _, rfl, _, rfl, pa, _, 1, .int ay, rfl, rfl, hpa8, rfl, ptt, _, _, _, rfl, rfl, htt, at_ints hy0.1 (by rw [tt.len]; exact hy0.2), (by show 2 ≤ sizeLine; decide), fun lt o hlt ho => ?_⟩
              have z9 := (Kp.refl H8).new hlt (o := .frz o (.tup [.int (t.getD ax.toNat 0), .int (t.getD ay.toNat 0)]))
              have plt : PT (upd H8 lt (.frz o (.tup [.int (t.getD ax.toNat 0), .int (t.getD ay.toNat 0)]))) (.ref lt) (comp [ax, ay] t) := .of upd_same ho
              have z79 := z78.trans z9
              have zk9 := zk7.trans z79
              have hlo9 := z79.lst hlo7
              have hpl9 := pr_ti z79.tup hpl7
              have hla9 := z79.lst hla7
              have hpa9 := pr_ti z79.tup hpa7
              have ela9 := z79.ti ela
              generalize upd H8 lt (.frz o (.tup [.int (t.getD ax.toNat 0), .int (t.getD ay.toNat 0)])) = H9 at z9 plt z79 zk9 hlo9 hpl9 hla9 hpa9 ela9 ⊢
              have tlt : TI K H9 (.ref lt) (comp [ax, ay] t) := plt.ti
              refine ⟨_, rfl, _, rfl, lo, zs7, lot7.map tk, tk (comp [ax, ay] t), rfl, .inl (SqL.of hlo9), pr_vky hpl9, ti_vky tlt, _, rfl, ?_⟩
              have in7 : ∀ b ∈ lot7, b ∈ G2 n := fun b hb => (rch7 b hb).inU hpG (g2_cl hi.is)
              by_cases hb1 : comp [ax, ay] t ∈ lot7
              · refine ifF (A := _) (B := _) (by rw [if_pos rfl, decide_eq_true (tk_mem.mpr hb1)]; rfl) ?_
                refine ⟨zk9, zs7, ws7, lot7, as7, rest7, _, _, rfl, ela9, ma, hlo9, hpl9, hla9, hpa9, sub7, rch7, ehd7, cl7, fun j hj t' ht' => ?_, nd7, ms⟩
                rcases Nat.lt_succ_iff_lt_or_eq.mp hj with e | e
                · exact done7 j e t' ht'
                · rw [e, ht] at ht'
                  cases ht'
                  exact hb1
              · refine ifT (A := _) (B := _) (by rw [if_pos rfl, decide_eq_false (fun h => hb1 (tk_mem.mp h))]; rfl) ?_
                have nd8 : (comp [ax, ay] t :: lot7).Nodup := List.nodup_cons.mpr ⟨hb1, nd7⟩
                have l8 := nd_le nd8 (b := G2 n) (fun b hb => by
                  rcases List.mem_cons.mp hb with e | e
                  · rw [e]; exact g2_cl hi.is _ aG t mt
                  · exact in7 b e)
                rw [g2_len] at l8
                simp only [List.length_cons] at l8
                have zl := hpl9.length
                have wl := hpa9.length
                refine ⟨_, rfl, .inl ⟨rfl, _, SqL.of hlo9⟩, _, rfl, lo, zs7, _, rfl, rfl, hlo9, by rw [sizeLine_eq]; omega, ?_⟩
                have tza : Tup H9 (upd H9 lo (.lst (zs7 ++ [.ref lt]))) := Tup.put (by rw [hlo9]; trivial)
                have hla10 : (upd H9 lo (.lst (zs7 ++ [.ref lt]))) la = some (.lst ws7) := by rw [upd_ne nlo.symm]; exact hla9
                refine ⟨_, rfl, .inl ⟨rfl, _, SqL.of hla10⟩, _, rfl, la, ws7, _, rfl, rfl, hla10, by rw [sizeLine_eq]; omega, ?_⟩
                have tzb : Tup (upd H9 lo (.lst (zs7 ++ [.ref lt]))) (upd (upd H9 lo (.lst (zs7 ++ [.ref lt]))) la (.lst (ws7 ++ [.ref lt]))) := Tup.put (by rw [hla10]; trivial)
                have tz := tza.trans tzb
                refine ⟨(zk9.put hlo).put hla2, zs7 ++ [.ref lt], ws7 ++ [.ref lt], lot7 ++ [comp [ax, ay] t], as7 ++ [comp [ax, ay] t], rest7 ++ [comp [ax, ay] t], _, _, rfl, tz.ti ela9, List.mem_append_left _ ma, by rw [upd_ne nlo, upd_same], Paired.snoc (pr_ti tz hpl9) (tz.ti tlt), upd_same, Paired.snoc (pr_ti tz hpa9) (tz.ti tlt), fun b hb => ?_, fun b hb => ?_, by rw [ehd7]; rfl, fun b hb h1 h2 t' ht' => ?_, fun j hj t' ht' => ?_, ?_, ?_⟩
                · rcases List.mem_append.mp hb with e | e
                  · exact List.mem_append_left _ (sub7 b e)
                  · exact List.mem_append_right _ e
                · rcases List.mem_append.mp hb with e | e
                  · exact rch7 b e
                  · rw [List.mem_singleton.mp e]; exact .next (rch7 _ ma) mt
                · rcases List.mem_append.mp hb with e | e
                  · exact List.mem_append_left _ (cl7 b e (fun h => h1 (by simp [h])) h2 t' ht')
                  · exact absurd (by rw [List.mem_singleton.mp e]; simp) h1
                · rcases Nat.lt_succ_iff_lt_or_eq.mp hj with e | e
                  · exact List.mem_append_left _ (done7 j e t' ht')
                  · rw [e, ht] at ht'
                    cases ht'
                    exact List.mem_append_right _ (List.mem_singleton.mpr rfl)
                · exact (List.perm_append_singleton _ _).symm.nodup_iff.mp nd8
                · simp only [List.length_append, List.length_cons, List.length_nil] at ms ⊢
                  omega
          · obtain ⟨zk7, zs7, ws7, lot7, as7, rest7, w4, w8, rfl, ela, ma, hlo7, hpl7, hla7, hpa7, sub7, rch7, ehd7, cl7, done7, nd7, ms⟩ := hpv
            refine ⟨_, ms, zs7, ws7, lot7, as7, rest7, _, _, _, rfl, zk7, hlo7, hpl7, hla7, hpa7, sub7, rch7, ehd7, fun b hb h1 t ht => ?_, nd7, rfl, by omega⟩
            by_cases e : b = a
            · obtain ⟨j, hj, e2⟩ := List.mem_iff_getElem.mp ht
              rw [e]
              exact done7 j (by rw [xl]; exact hj) t (by rw [List.getElem?_eq_getElem hj, e2])
            · exact cl7 b hb h1 e t ht
end
end NS
end
section
set_option maxHeartbeats 4000000
/-! L7: the law's parts and rings -/
namespace NS
open PySem PySem.Spec PyProof.Rows L2 ZS
theorem diag_rch {ts : List (List Int)} {i : Int} {x : List Int} : Rch comp ts [i, i] x ↔ ∃ h, x = [h, h] ∧ Orb ts i h := by
  constructor
  · intro h
    induction h with
    | base => exact ⟨i, rfl, .base⟩
    | next _ ht ih =>
      obtain ⟨h, rfl, o⟩ := ih
      exact ⟨_, rfl, .next o ht⟩
  · rintro ⟨h, rfl, o⟩
    induction o with
    | base => exact .base
    | next _ ht ih => exact .next ih ht
/-- the first pair of lot i -/
abbrev hdp (LLp : List (List (List Int))) (i : Nat) : List Int := (LLp.getD i []).getD 0 []
section
variable {n : Nat} {ts : List (List Int)} {LLp : List (List (List Int))}
theorem lots_dj (pl : PLots n ts LLp) {i j : Nat} (hi : i < LLp.length) (hj : j < LLp.length) {x : List Int} (h1 : x ∈ LLp.getD i []) (h2 : x ∈ LLp.getD j []) : i = j := by
  have pw := List.pairwise_iff_getElem.mp pl.dj
  have e1 : LLp.getD i [] = LLp[i] := getD_of (List.getElem?_eq_getElem hi)
  have e2 : LLp.getD j [] = LLp[j] := getD_of (List.getElem?_eq_getElem hj)
  rw [e1] at h1
  rw [e2] at h2
  rcases Nat.lt_trichotomy i j with h | h | h
  · exact absurd h2 (pw i j hi hj h x h1)
  · exact h
  · exact absurd h1 (pw j i hj hi h x h2)
end
section
variable {P : Program} {w : World} {K : PySem.W.Frag} {mg : Str → Option Value} {base : Heap} {f : Addr} {fd : FuncData}
end
end NS
end
section
set_option maxHeartbeats 4000000
/-! L8: the law's rings -/
namespace NS
open PySem PySem.Spec PyProof.Rows L2 ZS
section
variable {n : Nat} {t : List Int}
theorem hallS_in (ht : IsT n t) {a : Int} (ha : a ∈ idt n) : hallS a t ∈ idt n := by
  have h := mem_idt.mp ha
  have h2 := ht.getD (i := a.toNat) (by omega)
  refine mem_idt.mpr ?_
  show 0 ≤ t.getD a.toNat 0 ∧ t.getD a.toNat 0 < n
  omega
theorem hallS_inj (ht : IsT n t) {a b : Int} (ha : a ∈ idt n) (hb : b ∈ idt n) (e : hallS a t = hallS b t) : a = b := by
  have h1 := mem_idt.mp ha
  have h2 := mem_idt.mp hb
  have := ht.inj (i := a.toNat) (j := b.toNat) (by omega) (by omega) (by unfold at'; unfold hallS at e; rw [e])
  omega
theorem orb_sym {ts : List (List Int)} (hT : ∀ t ∈ ts, IsT n t) {a b : Int} (ha : a ∈ idt n) (h : Orb ts a b) : Orb ts b a :=
  h.symm (U := idt n) (fun a ha t ht => hallS_in (hT t ht) ha) (fun t ht a ha b hb e => hallS_inj (hT t ht) ha hb e) ha
theorem orb_in {ts : List (List Int)} (hT : ∀ t ∈ ts, IsT n t) {a b : Int} (ha : a ∈ idt n) (h : Orb ts a b) : b ∈ idt n := h.inU ha fun a ha t ht => hallS_in (hT t ht) ha
end
section
variable {n : Nat} {t : List Int} {OO : List (List Int)}
end
section
variable {P : Program} {w : World} {K : PySem.W.Frag} {mg : Str → Option Value} {base : Heap} {f : Addr} {fd : FuncData}
end
end NS
end
section
/-! M3: counting -/
namespace NS
/-! ### sums -/
theorem sum_map_add {α : Type} (f g : α → Nat) : ∀ l : List α, (l.map fun x => f x + g x).sum = (l.map f).sum + (l.map g).sum
  | [] => rfl
  | a :: l => by
    simp only [List.map_cons, List.sum_cons, sum_map_add f g l]
    omega
theorem sum_map_zero {α : Type} : ∀ l : List α, (l.map fun _ => 0).sum = 0
  | [] => rfl
  | a :: l => by simp only [List.map_cons, List.sum_cons, sum_map_zero l]
theorem sum_map_congr {α : Type} {f g : α → Nat} {l : List α} (h : ∀ x ∈ l, f x = g x) : (l.map f).sum = (l.map g).sum := by rw [List.map_congr_left h]
theorem sum_const {α : Type} (c : Nat) : ∀ l : List α, (l.map fun _ => c).sum = l.length * c
  | [] => by simp
  | a :: l => by
    simp only [List.map_cons, List.sum_cons, sum_const c l, List.length_cons, Nat.succ_mul]
    omega
theorem sum_flatten {α : Type} (f : α → Nat) : ∀ LL : List (List α), (LL.flatten.map f).sum = (LL.map fun k => (k.map f).sum).sum
  | [] => rfl
  | k :: LL => by rw [List.flatten_cons, List.map_append, List.sum_append, List.map_cons, List.sum_cons, sum_flatten f LL]
theorem sum_perm {l m : List Nat} (h : l.Perm m) : l.sum = m.sum := by
  induction h with
  | nil => rfl
  | cons a _ ih => rw [List.sum_cons, List.sum_cons, ih]
  | swap a b l => simp only [List.sum_cons]; omega
  | trans _ _ h1 h2 => rw [h1, h2]
theorem len_filter {α : Type} (p : α → Bool) : ∀ l : List α, (l.filter p).length = (l.map fun x => if p x = true then 1 else 0).sum
  | [] => rfl
  | a :: l => by
    rw [List.map_cons, List.sum_cons, ← len_filter p l]
    cases h : p a
    · rw [List.filter_cons_of_neg (by simp [h])]; simp
    · rw [List.filter_cons_of_pos h, List.length_cons]; simp; omega
/-- the same pairs counted both ways -/
theorem count_both {α γ : Type} (P : α → γ → Bool) (X : List α) : ∀ G : List γ, (G.map fun g => (X.filter fun x => P x g).length).sum = (X.map fun x => (G.filter fun g => P x g).length).sum
  | [] => by
    have := sum_map_zero X
    simpa using this.symm
  | g :: G => by
    rw [List.map_cons, List.sum_cons, count_both P X G, len_filter, ← sum_map_add]
    refine sum_map_congr fun x _ => ?_
    cases h : P x g
    · rw [List.filter_cons_of_neg (by simp [h])]; simp
    · rw [List.filter_cons_of_pos h, List.length_cons, if_pos rfl]; exact Nat.add_comm ..
theorem one_of {α : Type} [DecidableEq α] {a : α} : ∀ {k : List α}, k.Nodup → a ∈ k → (k.filter fun x => decide (a = x)).length = 1
  | [], _, h => by cases h
  | b :: k, nd, h => by
    obtain ⟨h1, h2⟩ := List.nodup_cons.mp nd
    by_cases e : a = b
    · subst e
      rw [List.filter_cons_of_pos (by simp), List.length_cons]
      have : k.filter (fun x => decide (a = x)) = [] := List.filter_eq_nil_iff.mpr fun x hx => by
        simp only [decide_eq_true_eq]
        intro e
        rw [e] at h1
        exact h1 hx
      rw [this]
      rfl
    · rw [List.filter_cons_of_neg (by simpa using e)]
      rcases List.mem_cons.mp h with h | h
      · exact absurd h e
      · exact one_of h2 h
/-- as many turns leave things in place as there are turns, times lots -/
theorem burnside {α γ : Type} [DecidableEq α] [DecidableEq γ] {G : List γ} {X : List α} {act : α → γ → α} {mul : γ → γ → γ} {LL : List (List α)} (ndG : G.Nodup) (pm : LL.flatten.Perm X)
    (hm : ∀ a ∈ G, ∀ b ∈ G, mul a b ∈ G) (hi : ∀ h ∈ G, ∀ a ∈ G, ∀ b ∈ G, mul h a = mul h b → a = b) (ha : ∀ x ∈ X, ∀ a ∈ G, ∀ b ∈ G, act (act x a) b = act x (mul a b))
    (hk : ∀ k ∈ LL, k.Nodup ∧ ∃ x0 ∈ k, (∀ g ∈ G, act x0 g ∈ k) ∧ ∀ x ∈ k, (∃ h ∈ G, act x0 h = x) ∧ ∃ h ∈ G, act x h = x0) :
    (G.map fun g => (X.filter fun x => decide (act x g = x)).length).sum = G.length * LL.length := by
  rw [count_both (fun x g => decide (act x g = x)) X G]
  rw [sum_perm ((pm.map fun x => (G.filter fun g => decide (act x g = x)).length).symm), sum_flatten]
  have each : ∀ k ∈ LL, (k.map fun x => (G.filter fun g => decide (act x g = x)).length).sum = G.length := fun k hkm => by
    obtain ⟨ndk, x0, hx0, hin, hx⟩ := hk k hkm
    have inX : ∀ x ∈ k, x ∈ X := fun x h => pm.mem_iff.mp (List.mem_flatten.mpr ⟨k, hkm, h⟩)
    have step : ∀ x ∈ k, (G.filter fun g => decide (act x g = x)).length = (G.filter fun g => decide (act x0 g = x)).length := fun x hxk => by
      obtain ⟨⟨h, hh, eh⟩, h', hh', eh'⟩ := hx x hxk
      refine Nat.le_antisymm ?_ ?_
      · have nd : ((G.filter fun g => decide (act x g = x)).map (mul h)).Nodup := nodup_map (List.Pairwise.filter _ ndG) fun a ha' b hb' e => hi h hh a (List.mem_filter.mp ha').1 b (List.mem_filter.mp hb').1 e
        have := nd_le nd (b := G.filter fun g => decide (act x0 g = x)) fun y hy => by
          obtain ⟨g, hg, rfl⟩ := List.mem_map.mp hy
          obtain ⟨g1, g2⟩ := List.mem_filter.mp hg
          refine List.mem_filter.mpr ⟨hm h hh g g1, decide_eq_true ?_⟩
          rw [← ha x0 (inX x0 hx0) h hh g g1, eh]
          exact of_decide_eq_true g2
        rwa [List.length_map] at this
      · have nd : ((G.filter fun g => decide (act x0 g = x)).map (mul h')).Nodup := nodup_map (List.Pairwise.filter _ ndG) fun a ha' b hb' e => hi h' hh' a (List.mem_filter.mp ha').1 b (List.mem_filter.mp hb').1 e
        have := nd_le nd (b := G.filter fun g => decide (act x g = x)) fun y hy => by
          obtain ⟨g, hg, rfl⟩ := List.mem_map.mp hy
          obtain ⟨g1, g2⟩ := List.mem_filter.mp hg
          refine List.mem_filter.mpr ⟨hm h' hh' g g1, decide_eq_true ?_⟩
          rw [← ha x (inX x hxk) h' hh' g g1, eh']
          exact of_decide_eq_true g2
        rwa [List.length_map] at this
    rw [sum_map_congr step, ← count_both (fun x g => decide (act x0 g = x)) k G, sum_map_congr (g := fun _ => 1) fun g hg => one_of ndk (hin g hg), sum_const, Nat.mul_one]
  rw [sum_map_congr each, sum_const, Nat.mul_comm]
/-! ### ascending lists are there -/
theorem asc_exists {α : Type} {lt : α → α → Prop} (tr : ∀ a b c, lt a b → lt b c → lt a c) (tot : ∀ a b, a ≠ b → lt a b ∨ lt b a) : ∀ l : List α, l.Nodup → ∃ k : List α, k.Perm l ∧ k.Pairwise lt
  | [], _ => ⟨[], List.Perm.refl _, List.Pairwise.nil⟩
  | a :: l, nd => by
    obtain ⟨h1, h2⟩ := List.nodup_cons.mp nd
    obtain ⟨k, pm, pw⟩ := asc_exists tr tot l h2
    have ins : ∀ k : List α, k.Pairwise lt → a ∉ k → ∃ k' : List α, k'.Perm (a :: k) ∧ k'.Pairwise lt := fun k => by
      induction k with
      | nil => exact fun _ _ => ⟨[a], List.Perm.refl _, List.pairwise_singleton _ _⟩
      | cons b k ih =>
        intro pw na
        obtain ⟨p1, p2⟩ := List.pairwise_cons.mp pw
        have nab : a ≠ b := fun e => na (by rw [e]; exact List.mem_cons_self ..)
        rcases tot a b nab with h | h
        · exact ⟨a :: b :: k, List.Perm.refl _, List.pairwise_cons.mpr ⟨fun x hx => by
            rcases List.mem_cons.mp hx with e | e
            · rw [e]; exact h
            · exact tr _ _ _ h (p1 x e), pw⟩⟩
        · obtain ⟨k', pm', pw'⟩ := ih p2 fun hk => na (List.mem_cons_of_mem _ hk)
          refine ⟨b :: k', (pm'.cons b).trans (List.Perm.swap a b k), List.pairwise_cons.mpr ⟨fun x hx => ?_, pw'⟩⟩
          rcases List.mem_cons.mp (pm'.mem_iff.mp hx) with e | e
          · rw [e]; exact h
          · exact p1 x e
    obtain ⟨k', pm', pw'⟩ := ins k pw fun h => h1 (pm.mem_iff.mp h)
    exact ⟨k', pm'.trans (pm.cons a), pw'⟩
theorem nd_attach {α : Type} {l : List α} (h : l.Nodup) : l.attach.Nodup := by
  have q : (l.attach.map (fun a : {a // a ∈ l} => a.1)).Nodup := by
    rw [List.attach_map_subtype_val]
    exact h
  exact (List.pairwise_map.mp q).imp fun {a b} hne e => hne (by rw [e])
/-- lots of two kinds, one to one -/
theorem match_lots {α β γ : Type} [DecidableEq α] [DecidableEq β] {A : List α} {B : List β} {R : α → β → Prop} (c : α → γ) (d : β → γ) (ndA : A.Nodup) (ndB : B.Nodup) (l : ∀ a ∈ A, ∃ b ∈ B, R a b) (r : ∀ b ∈ B, ∃ a ∈ A, R a b)
    (fn : ∀ a ∈ A, ∀ b ∈ B, ∀ b' ∈ B, R a b → R a b' → b = b') (inj : ∀ a ∈ A, ∀ a' ∈ A, ∀ b ∈ B, R a b → R a' b → a = a') (cd : ∀ a ∈ A, ∀ b ∈ B, R a b → c a = d b) : (A.map c).Perm (B.map d) := by
  classical
  have hs : ∃ s : {a // a ∈ A} → β, ∀ a, s a ∈ B ∧ R a.1 (s a) := ⟨fun a => Classical.choose (l a.1 a.2), fun a => Classical.choose_spec (l a.1 a.2)⟩
  obtain ⟨s, hs⟩ := hs
  have nd : (A.attach.map s).Nodup := nodup_map (nd_attach ndA) fun x _ y _ e => Subtype.ext (inj x.1 x.2 y.1 y.2 (s x) (hs x).1 (hs x).2 (by rw [e]; exact (hs y).2))
  have pm : (A.attach.map s).Perm B := (List.perm_ext_iff_of_nodup nd ndB).mpr fun b => by
    rw [List.mem_map]
    constructor
    · rintro ⟨x, _, rfl⟩
      exact (hs x).1
    · intro hb
      obtain ⟨a, ha, q⟩ := r b hb
      exact ⟨⟨a, ha⟩, List.mem_attach .., fn a ha _ (hs ⟨a, ha⟩).1 _ hb (hs ⟨a, ha⟩).2 q⟩
  have e : A.map c = (A.attach.map s).map d := by
    rw [List.map_map]
    conv => lhs; rw [← List.attach_map_subtype_val A]
    rw [List.map_map]
    refine List.map_congr_left fun x _ => ?_
    exact cd x.1 x.2 _ (hs x).1 (hs x).2
  rw [e]
  exact pm.map d
end NS
end
section
set_option maxHeartbeats 4000000
/-! M4: the group, its lots, its numbers -/
namespace NS
open PySem PySem.Spec PyProof.Rows L2 ZS
section
variable {n : Nat} {ts : List (List Int)} {a b c g h t : List Int}
theorem comp_low_assoc (ha : Low n a) (hb : IsT n b) (c : List Int) : comp (comp a b) c = comp a (comp b c) := by
  unfold comp
  rw [List.map_map]
  refine List.map_congr_left fun x hx => ?_
  have h := ha x hx
  exact (comp_getD c (a := b) (i := x.toNat) (by rw [hb.len]; omega)).symm
theorem comp_low_idt (ha : Low n a) : comp a (idt n) = a := by
  unfold comp
  conv => rhs; rw [← List.map_id a]
  refine List.map_congr_left fun x hx => ?_
  have h := ha x hx
  show (idt n).getD x.toNat 0 = x
  rw [idt_at (by omega)]
  omega
theorem grp_isT (hT : ∀ t ∈ ts, IsT n t) (h : Grp n ts g) : IsT n g := by
  induction h with
  | base => exact idt_isT n
  | next _ ht ih => exact ih.comp (hT _ ht)
theorem grp_mul (hT : ∀ t ∈ ts, IsT n t) (hg : Grp n ts g) (hh : Grp n ts h) : Grp n ts (comp g h) := by
  have ig := grp_isT hT hg
  have key : ∀ k, Rch comp ts (idt n) k → Grp n ts (comp g k) ∧ IsT n k := fun k hk => by
    induction hk with
    | base => exact ⟨by rw [comp_idt ig]; exact hg, idt_isT n⟩
    | next _ ht ih => exact ⟨by rw [← comp_assoc ig ih.2]; exact .next ih.1 ht, ih.2.comp (hT _ ht)⟩
  exact (key h hh).1
/-- what the turns make of places are the places behind a turn of the group -/
theorem rch_comp (hT : ∀ t ∈ ts, IsT n t) (ha : Low n a) {x : List Int} : Rch comp ts a x ↔ ∃ g, Grp n ts g ∧ x = comp a g := by
  constructor
  · intro h
    induction h with
    | base => exact ⟨idt n, .base, (comp_low_idt ha).symm⟩
    | next _ ht ih =>
      obtain ⟨g, hg, rfl⟩ := ih
      exact ⟨_, .next hg ht, comp_low_assoc ha (grp_isT hT hg) _⟩
  · rintro ⟨g, hg, rfl⟩
    have key : ∀ k, Rch comp ts (idt n) k → Rch comp ts a (comp a k) ∧ IsT n k := fun k hk => by
      induction hk with
      | base => exact ⟨by rw [comp_low_idt ha]; exact .base, idt_isT n⟩
      | next _ ht ih => exact ⟨by rw [← comp_low_assoc ha ih.2]; exact .next ih.1 ht, ih.2.comp (hT _ ht)⟩
    exact (key g hg).1
theorem hallS_comp {x : Int} (hx : x ∈ idt n) (ha : IsT n a) (b : List Int) : hallS (hallS x a) b = hallS x (comp a b) := by
  have h := mem_idt.mp hx
  exact (comp_getD b (a := a) (i := x.toNat) (by rw [ha.len]; omega)).symm
theorem hallS_idt {x : Int} (hx : x ∈ idt n) : hallS x (idt n) = x := by
  have h := mem_idt.mp hx
  unfold hallS
  rw [idt_at (by omega)]
  omega
theorem orb_grp (hT : ∀ t ∈ ts, IsT n t) {y x : Int} (hy : y ∈ idt n) : Orb ts y x ↔ ∃ g, Grp n ts g ∧ x = hallS y g := by
  constructor
  · intro h
    induction h with
    | base => exact ⟨idt n, .base, (hallS_idt hy).symm⟩
    | next _ ht ih =>
      obtain ⟨g, hg, rfl⟩ := ih
      exact ⟨_, .next hg ht, hallS_comp hy (grp_isT hT hg) _⟩
  · rintro ⟨g, hg, rfl⟩
    have key : ∀ k, Rch comp ts (idt n) k → Orb ts y (hallS y k) ∧ IsT n k := fun k hk => by
      induction hk with
      | base => exact ⟨by rw [hallS_idt hy]; exact .base, idt_isT n⟩
      | next _ ht ih => exact ⟨by rw [← hallS_comp hy ih.2]; exact .next ih.1 ht, ih.2.comp (hT _ ht)⟩
    exact (key g hg).1
theorem left_inj (hh : IsT n h) (ha : IsT n a) (hb : IsT n b) (e : comp h a = comp h b) : a = b := by
  have e2 : comp (inv h) (comp h a) = comp (inv h) (comp h b) := by rw [e]
  rwa [← comp_assoc hh.inv hh, ← comp_assoc hh.inv hh, inv_comp hh, idt_comp ha, idt_comp hb] at e2
theorem inv_uniq (ha : IsT n a) (hb : IsT n b) (e : comp a b = idt n) : inv a = b := left_inj ha ha.inv hb (by rw [comp_inv ha, e])
theorem inv_idt : inv (idt n) = idt n := inv_uniq (idt_isT n) (idt_isT n) (idt_comp (idt_isT n))
theorem inv_mul (ha : IsT n a) (hb : IsT n b) : inv (comp a b) = comp (inv b) (inv a) :=
  inv_uniq (ha.comp hb) (hb.inv.comp ha.inv) (by rw [← comp_assoc (ha.comp hb) hb.inv, comp_assoc ha hb, comp_inv hb, comp_idt ha, comp_inv ha])
theorem IsT.like (ha : IsT n a) (ht : IsT n t) : IsT n (likeS a t) := (ht.inv.comp ha).comp ht
theorem like_idt (ha : IsT n a) : likeS a (idt n) = a := by
  unfold likeS
  rw [inv_idt, idt_comp ha, comp_idt ha]
theorem like_like (ha : IsT n a) (hb : IsT n b) (hc : IsT n c) : likeS (likeS a b) c = likeS a (comp b c) := by
  unfold likeS
  rw [inv_mul hb hc]
  have h1 := hc.inv
  have h2 := hb.inv
  rw [← comp_assoc ((h1.comp h2).comp ha) hb c, comp_assoc h1 h2 a, comp_assoc h1 (h2.comp ha) b]
/-! ### lots of halls -/
theorem lot_ex (hT : ∀ t ∈ ts, IsT n t) {y : Int} (hy : y ∈ idt n) : ∃ k, Lot ts y k := by
  classical
  obtain ⟨k, pm, pw⟩ := asc_exists (lt := fun a b : Int => a < b) (fun a b c h1 h2 => by omega) (fun a b h => by omega) ((idt n).filter fun x => decide (Orb ts y x)) (List.Pairwise.filter _ (idt_isT n).nd)
  refine ⟨k, pw, pw.imp fun h e => by omega, fun x => ?_⟩
  rw [pm.mem_iff, List.mem_filter, decide_eq_true_iff]
  exact ⟨fun h => h.2, fun h => ⟨orb_in hT hy h, h⟩⟩
theorem lots_apart (hT : ∀ t ∈ ts, IsT n t) {k k' : List Int} (h1 : Lots n ts k) (h2 : Lots n ts k') {x : Int} (x1 : x ∈ k) (x2 : x ∈ k') : k = k' := by
  obtain ⟨i, hi, l1⟩ := h1
  obtain ⟨j, hj, l2⟩ := h2
  have ii : (i : Int) ∈ idt n := mem_idt.mpr (by omega)
  have jj : (j : Int) ∈ idt n := mem_idt.mpr (by omega)
  have o1 := (l1.mem x).mp x1
  have o2 := (l2.mem x).mp x2
  have e1 : Orb ts (i : Int) (j : Int) := o1.trans (orb_sym hT jj o2)
  have e2 := orb_sym hT ii e1
  refine Asc.uniq (G := Orb ts (i : Int)) (fun a => Int.lt_irrefl a) (fun a b h1 h2 => by omega) l1 ⟨l2.pw, l2.nd, fun y => (l2.mem y).trans ⟨fun q => e1.trans q, fun q => e2.trans q⟩⟩
theorem flat_nd {α : Type} {LL : List (List α)} (nd : ∀ k ∈ LL, k.Nodup) (dj : LL.Pairwise fun a b => ∀ x ∈ a, x ∉ b) : LL.flatten.Nodup := by
  induction LL with
  | nil => exact List.nodup_nil
  | cons k LL ih =>
    obtain ⟨p1, p2⟩ := List.pairwise_cons.mp dj
    rw [List.flatten_cons, List.nodup_append]
    refine ⟨nd k (List.mem_cons_self ..), ih (fun k' h => nd k' (List.mem_cons_of_mem _ h)) p2, fun x hx y hy e => ?_⟩
    subst e
    obtain ⟨k', hk', hx'⟩ := List.mem_flatten.mp hy
    exact p1 k' hk' x hx hx'
theorem lots_flat (hT : ∀ t ∈ ts, IsT n t) {LL : List (List Int)} (nd : LL.Nodup) (mem : ∀ k, k ∈ LL ↔ Lots n ts k) : LL.flatten.Perm (idt n) := by
  refine (List.perm_ext_iff_of_nodup (flat_nd (fun k hk => ?_) ?_) (idt_isT n).nd).mpr fun x => ?_
  · obtain ⟨i, _, l⟩ := (mem k).mp hk
    exact l.nd
  · refine nd.imp_of_mem fun {a b} ha hb ne x x1 x2 => ne (lots_apart hT ((mem a).mp ha) ((mem b).mp hb) x1 x2)
  · rw [List.mem_flatten]
    constructor
    · rintro ⟨k, hk, hx⟩
      obtain ⟨i, hi, l⟩ := (mem k).mp hk
      exact orb_in hT (mem_idt.mpr (by omega)) ((l.mem x).mp hx)
    · intro hx
      obtain ⟨k, l⟩ := lot_ex hT hx
      have := mem_idt.mp hx
      refine ⟨k, (mem k).mpr ⟨x.toNat, by omega, ?_⟩, (l.mem x).mpr .base⟩
      rw [Int.toNat_of_nonneg this.1]
      exact l
theorem kept_eq (ht : IsT n t) : (idt n).filter (fun x => decide (hallS x t = x)) = keptL t := by
  unfold idt keptL
  rw [List.filter_map, ht.len]
  rfl
/-- halls left in place, over the group -/
theorem sum_kept (hT : ∀ t ∈ ts, IsT n t) {LL W : List (List Int)} (ndW : W.Nodup) (mW : ∀ x, x ∈ W ↔ Grp n ts x) (nd : LL.Nodup) (mem : ∀ k, k ∈ LL ↔ Lots n ts k) : (W.map fun g => (keptL g).length).sum = W.length * LL.length := by
  have is : ∀ g ∈ W, IsT n g := fun g hg => grp_isT hT ((mW g).mp hg)
  rw [← burnside (X := idt n) (act := hallS) (mul := comp) ndW (lots_flat hT nd mem) (fun a ha b hb => (mW _).mpr (grp_mul hT ((mW a).mp ha) ((mW b).mp hb))) (fun h hh a ha b hb e => left_inj (is h hh) (is a ha) (is b hb) e) (fun x hx a ha b hb => hallS_comp hx (is a ha) b) fun k hk => ?_]
  · exact sum_map_congr fun g hg => by rw [kept_eq (is g hg)]
  · obtain ⟨i, hi, l⟩ := (mem k).mp hk
    have ii : (i : Int) ∈ idt n := mem_idt.mpr (by omega)
    refine ⟨l.nd, i, (l.mem _).mpr .base, fun g hg => (l.mem _).mpr ((orb_grp hT ii).mpr ⟨g, (mW g).mp hg, rfl⟩), fun x hx => ?_⟩
    have o := (l.mem x).mp hx
    obtain ⟨g, hg, e⟩ := (orb_grp hT ii).mp o
    obtain ⟨g', hg', e'⟩ := (orb_grp hT (orb_in hT ii o)).mp (orb_sym hT ii o)
    exact ⟨⟨g, (mW g).mpr hg, e.symm⟩, g', (mW g').mpr hg', e'.symm⟩
/-! ### lots of pairs -/
theorem filter_both {α β : Type} (p : α → Bool) (q : β → Bool) (l2 : List β) : ∀ l1 : List α, ((l1.flatMap fun i => l2.map fun j => (i, j)).filter fun x => p x.1 && q x.2).length = (l1.filter p).length * (l2.filter q).length
  | [] => by simp
  | a :: l1 => by
    rw [List.flatMap_cons, List.filter_append, List.length_append, filter_both p q l2 l1, List.filter_map, List.length_map]
    cases h : p a
    · rw [List.filter_cons_of_neg (by simp [h])]
      have : l2.filter ((fun x : α × β => p x.1 && q x.2) ∘ fun j => (a, j)) = [] := List.filter_eq_nil_iff.mpr fun x _ => by simp [h]
      rw [this]
      simp
    · rw [List.filter_cons_of_pos h, List.length_cons, Nat.succ_mul]
      have : l2.filter ((fun x : α × β => p x.1 && q x.2) ∘ fun j => (a, j)) = l2.filter q := List.filter_congr fun x _ => by simp [h]
      rw [this]
      exact Nat.add_comm ..
theorem kept2 (ht : IsT n t) : ((G2 n).filter fun x => decide (comp x t = x)).length = (keptL t).length * (keptL t).length := by
  unfold G2
  rw [List.filter_map, List.length_map]
  have e : (grid n n).filter ((fun x => decide (comp x t = x)) ∘ pr2) = (grid n n).filter fun x => decide (t.getD x.1 0 = (x.1 : Int)) && decide (t.getD x.2 0 = (x.2 : Int)) := List.filter_congr fun x _ => by
    show decide ([t.getD (x.1 : Int).toNat 0, t.getD (x.2 : Int).toNat 0] = [(x.1 : Int), (x.2 : Int)]) = _
    rw [Int.toNat_natCast, Int.toNat_natCast, ← Bool.decide_and]
    exact decide_eq_decide.mpr ⟨fun e => by injection e with e1 e2; injection e2 with e2 _; exact ⟨e1, e2⟩, fun ⟨e1, e2⟩ => by rw [e1, e2]⟩
  rw [e]
  have := filter_both (fun i : Nat => decide (t.getD i 0 = (i : Int))) (fun i : Nat => decide (t.getD i 0 = (i : Int))) (List.range n) (List.range n)
  unfold keptL
  rw [List.length_map, ht.len]
  exact this
theorem pl_flat (hT : ∀ t ∈ ts, IsT n t) {LLp : List (List (List Int))} (pl : PLots n ts LLp) (cm : ∀ p ∈ G2 n, ∃ lot ∈ LLp, p ∈ lot) : LLp.flatten.Perm (G2 n) := by
  have ndg : (G2 n).Nodup := by
    unfold G2
    refine nodup_map ?_ fun x hx y hy e => ?_
    · unfold grid
      have : ∀ l1 : List Nat, l1.Nodup → (l1.flatMap fun i => (List.range n).map fun j => (i, j)).Nodup := fun l1 => by
        induction l1 with
        | nil => exact fun _ => List.nodup_nil
        | cons a l1 ih =>
          intro nd
          obtain ⟨h1, h2⟩ := List.nodup_cons.mp nd
          rw [List.flatMap_cons, List.nodup_append]
          refine ⟨nodup_map List.nodup_range fun x _ y _ e => by injection e, ih h2, fun x hx y hy e => ?_⟩
          subst e
          obtain ⟨j, _, rfl⟩ := List.mem_map.mp hx
          obtain ⟨i, hi, hy⟩ := List.mem_flatMap.mp hy
          obtain ⟨j', _, e⟩ := List.mem_map.mp hy
          injection e with e _
          rw [e] at hi
          exact h1 hi
      exact this _ List.nodup_range
    · obtain ⟨x1, x2⟩ := x
      obtain ⟨y1, y2⟩ := y
      injection e with e1 e2
      injection e2 with e2 _
      have : x1 = y1 := by omega
      have : x2 = y2 := by omega
      subst x1 x2
      rfl
  refine (List.perm_ext_iff_of_nodup (flat_nd (fun k hk => ?_) pl.dj) ndg).mpr fun x => ?_
  · obtain ⟨p, rest, _, _, nd, _⟩ := pl.hd k hk
    exact nd
  · rw [List.mem_flatten]
    constructor
    · rintro ⟨k, hk, hx⟩
      obtain ⟨p, rest, _, hp, _, mem⟩ := pl.hd k hk
      exact ((mem x).mp hx).inU hp (g2_cl hT)
    · exact fun hx => cm x hx
theorem sum_kept2 (hT : ∀ t ∈ ts, IsT n t) {LLp : List (List (List Int))} {W : List (List Int)} (ndW : W.Nodup) (mW : ∀ x, x ∈ W ↔ Grp n ts x) (pl : PLots n ts LLp) (cm : ∀ p ∈ G2 n, ∃ lot ∈ LLp, p ∈ lot) :
    (W.map fun g => (keptL g).length * (keptL g).length).sum = W.length * LLp.length := by
  have is : ∀ g ∈ W, IsT n g := fun g hg => grp_isT hT ((mW g).mp hg)
  rw [← burnside (X := G2 n) (act := comp) (mul := comp) ndW (pl_flat hT pl cm) (fun a ha b hb => (mW _).mpr (grp_mul hT ((mW a).mp ha) ((mW b).mp hb))) (fun h hh a ha b hb e => left_inj (is h hh) (is a ha) (is b hb) e) (fun x hx a ha b hb => comp_low_assoc (mem_g2.mp hx).2 (is a ha) b) fun k hk => ?_]
  · exact sum_map_congr fun g hg => (kept2 (is g hg)).symm
  · obtain ⟨p, rest, e, hp, nd, mem⟩ := pl.hd k hk
    have lo := (mem_g2.mp hp).2
    refine ⟨nd, p, (mem _).mpr .base, fun g hg => (mem _).mpr ((rch_comp hT lo).mpr ⟨g, (mW g).mp hg, rfl⟩), fun x hx => ?_⟩
    have o := (mem x).mp hx
    have hx' := o.inU hp (g2_cl hT)
    obtain ⟨g, hg, e⟩ := (rch_comp hT lo).mp o
    obtain ⟨g', hg', e'⟩ := (rch_comp hT (mem_g2.mp hx').2).mp (g2_sym hT hp o)
    exact ⟨⟨g, (mW g).mpr hg, e.symm⟩, g', (mW g').mpr hg', e'.symm⟩
/-- as many lots of pairs, found so or so -/
theorem rank_eq (hT : ∀ t ∈ ts, IsT n t) {LL LLp : List (List (List Int))} (nd : LL.Nodup) (mem : ∀ k, k ∈ LL ↔ Lots2 n ts k) (pl : PLots n ts LLp) (cm : ∀ p ∈ G2 n, ∃ lot ∈ LLp, p ∈ lot) : LL.length = LLp.length := by
  have ndp : LLp.Nodup := pl.dj.imp_of_mem fun {a b} ha hb h e => by
    obtain ⟨p, rest, ea, _⟩ := pl.hd a ha
    subst e
    have := h p (by rw [ea]; exact List.mem_cons_self ..)
    rw [ea] at this
    exact this (List.mem_cons_self ..)
  have inG : ∀ {k}, Lots2 n ts k → ∃ p ∈ G2 n, Lot2 ts p k := fun ⟨p, hp, l⟩ => ⟨pr2 p, List.mem_map.mpr ⟨p, hp, rfl⟩, l⟩
  have outG : ∀ {k p}, p ∈ G2 n → Lot2 ts p k → Lots2 n ts k := fun hp l => by
    obtain ⟨q, hq, rfl⟩ := List.mem_map.mp hp
    exact ⟨q, hq, l⟩
  have pm := match_lots (A := LL) (B := LLp) (R := fun k lot => ∀ x, x ∈ k ↔ x ∈ lot) (fun _ => ()) (fun _ => ()) nd ndp (fun k hk => ?_) (fun lot hl => ?_) (fun k hk l1 h1 l2 h2 r1 r2 => ?_) (fun k hk k' hk' l hl r1 r2 => ?_) (fun _ _ _ _ _ => rfl)
  · have := pm.length_eq
    rwa [List.length_map, List.length_map] at this
  · obtain ⟨p, hp, l⟩ := inG ((mem k).mp hk)
    obtain ⟨lot, hl, hpl⟩ := cm p hp
    obtain ⟨q, rest, e, hq, ndl, ml⟩ := pl.hd lot hl
    have o := (ml p).mp hpl
    exact ⟨lot, hl, fun x => (l.mem x).trans (Iff.trans ⟨fun r => o.trans r, fun r => (g2_sym hT hq o).trans r⟩ (ml x).symm)⟩
  · obtain ⟨q, rest, e, hq, ndl, ml⟩ := pl.hd lot hl
    obtain ⟨k, pm, pw⟩ := asc_exists (lt := ltT) (fun a b c h1 h2 => lexI_tr a b c h1 h2) (fun a b h => by
      cases e : lexI a b with
      | true => exact .inl e
      | false => exact .inr (by
        cases e2 : lexI b a with
        | true => exact e2
        | false => exact absurd (lexI_tot a b e e2) h)) lot ndl
    have lk : Lot2 ts q k := ⟨pw, pm.nodup_iff.mpr ndl, fun x => pm.mem_iff.trans (ml x)⟩
    exact ⟨k, (mem k).mpr (outG hq lk), fun x => pm.mem_iff⟩
  · obtain ⟨p, hp, l⟩ := inG ((mem k).mp hk)
    have hp1 := (r1 p).mp ((l.mem p).mpr .base)
    have hp2 := (r2 p).mp ((l.mem p).mpr .base)
    obtain ⟨i, hi, ei⟩ := List.getElem_of_mem h1
    obtain ⟨j, hj, ej⟩ := List.getElem_of_mem h2
    have := lots_dj pl hi hj (x := p) (by rw [getD_of (List.getElem?_eq_getElem hi), ei]; exact hp1) (by rw [getD_of (List.getElem?_eq_getElem hj), ej]; exact hp2)
    subst this
    rw [← ei, ← ej]
  · obtain ⟨p, hp, lk⟩ := inG ((mem k).mp hk)
    obtain ⟨p', hp', lk'⟩ := inG ((mem k').mp hk')
    exact Asc.uniq (G := fun x => x ∈ l) ltT_irr ltT_tr ⟨lk.pw, lk.nd, r1⟩ ⟨lk'.pw, lk'.nd, r2⟩
end
end NS
end
section
set_option maxHeartbeats 4000000
/-! M5: rings, tables, room -/
namespace NS
open PySem PySem.Spec PyProof.Rows L2 ZS
section
variable {n : Nat} {t : List Int}
end
/-! ### room -/
def allL (n : Nat) : Nat → List (List Int)
  | 0 => [[]]
  | k + 1 => (idt n).flatMap fun x => (allL n k).map fun l => x :: l
theorem allL_len (n : Nat) : ∀ k, (allL n k).length = n ^ k
  | 0 => rfl
  | k + 1 => by
    have : ∀ l1 : List Int, (l1.flatMap fun x => (allL n k).map fun l => x :: l).length = l1.length * n ^ k := fun l1 => by
      induction l1 with
      | nil => simp
      | cons a l1 ih => rw [List.flatMap_cons, List.length_append, ih, List.length_map, allL_len n k, List.length_cons, Nat.succ_mul, Nat.add_comm]
    unfold allL
    rw [this, idt_len, Nat.pow_succ, Nat.mul_comm]
theorem allL_mem {n : Nat} : ∀ {k : Nat} {l : List Int}, l.length = k → Low n l → l ∈ allL n k
  | 0, [], _, _ => List.mem_singleton.mpr rfl
  | k + 1, x :: l, hl, lo => List.mem_flatMap.mpr ⟨x, mem_idt.mpr (lo x (List.mem_cons_self ..)), List.mem_map.mpr ⟨l, allL_mem (by simpa using hl) (fun y hy => lo y (List.mem_cons_of_mem _ hy)), rfl⟩⟩
theorem small_room {n : Nat} (hn : n ≤ 5) {ts : List (List Int)} (hT : ∀ t ∈ ts, IsT n t) : ∃ U, Room' n comp ts (idt n) U := by
  classical
  refine ⟨(allL n n).filter fun l => decide (IsT n l), List.mem_filter.mpr ⟨allL_mem (idt_len n) (idt_isT n).low, decide_eq_true (idt_isT n)⟩, fun a ha t ht => ?_, fun a ha => of_decide_eq_true (List.mem_filter.mp ha).2, ?_⟩
  · have ia := of_decide_eq_true (List.mem_filter.mp ha).2
    have ic := IsT.comp ia (hT t ht)
    exact List.mem_filter.mpr ⟨allL_mem ic.len ic.low, decide_eq_true ic⟩
  · refine Nat.le_trans (List.length_filter_le ..) ?_
    rw [allL_len]
    match n, hn with
    | 0, _ => decide
    | 1, _ => decide
    | 2, _ => decide
    | 3, _ => decide
    | 4, _ => decide
    | 5, _ => decide
/-- all that the turns make, by so many rounds -/
def clo (ts : List (List Int)) : Nat → List (List Int) → List (List Int) → List (List Int)
  | 0, seen, _ => seen
  | _, seen, [] => seen
  | k + 1, seen, a :: todo =>
    let new := ((ts.map fun t => comp a t).filter fun b => !(seen.contains b)).eraseDups
    clo ts k (seen ++ new) (todo ++ new)
def clK (p : Nat × List (List Int)) : List (List Int) := clo p.2 200 [idt p.1] [idt p.1]
def okK (p : Nat × List (List Int)) : Bool := (clK p).contains (idt p.1) && ((clK p).all fun a => p.2.all fun t => (clK p).contains (comp a t)) && (decide ((clK p).length ≤ 4000)) && (clK p).all fun a => decide (a.length = p.1) && a.all (fun x => decide (0 ≤ x) && decide (x < (p.1 : Int))) && decide a.Nodup
theorem known_clo : known.all okK = true := by decide +kernel
theorem known_room {p : Nat × List (List Int)} (hp : p ∈ known) : Room' p.1 comp p.2 (idt p.1) (clK p) := by
  have h := List.all_eq_true.mp known_clo p hp
  unfold okK at h
  simp only [Bool.and_eq_true] at h
  obtain ⟨⟨⟨h1, h2⟩, h3⟩, h4⟩ := h
  refine ⟨by simpa using h1, fun a ha t ht => by simpa using List.all_eq_true.mp (List.all_eq_true.mp h2 a ha) t ht, fun a ha => ?_, of_decide_eq_true h3⟩
  have h := List.all_eq_true.mp h4 a ha
  simp only [Bool.and_eq_true] at h
  obtain ⟨⟨h5, h6⟩, h7⟩ := h
  refine ⟨of_decide_eq_true h5, fun x hx => ?_, of_decide_eq_true h7⟩
  have := List.all_eq_true.mp h6 x hx
  simp only [Bool.and_eq_true, decide_eq_true_eq] at this
  exact this
theorem good_room {n : Nat} {ts : List (List Int)} (h : GoodH n ts) : ∃ U, Room' n comp ts (idt n) U := by
  obtain ⟨hi, ⟨p, hp, m, rfl, hm, rfl⟩ | h5⟩ := h
  · have r := known_room hp
    have hk := known_isH hp
    refine ⟨(clK p).map (conj m), List.mem_map.mpr ⟨_, r.a0, conj_idt hm⟩, fun a ha t ht => ?_, fun a ha => ?_, by rw [List.length_map]; exact r.few⟩
    · obtain ⟨a', ha', rfl⟩ := List.mem_map.mp ha
      obtain ⟨t', ht', rfl⟩ := List.mem_map.mp ht
      exact List.mem_map.mpr ⟨comp a' t', r.cl a' ha' t' ht', conj_comp hm (r.is a' ha') (hk.is t' ht')⟩
    · obtain ⟨a', ha', rfl⟩ := List.mem_map.mp ha
      exact hm.conj (r.is a' ha')
  · exact small_room h5 hi.is
end NS
end
section
set_option maxHeartbeats 4000000
/-! LV: answers as nested values -/
namespace NS
open PySem PySem.Spec PyProof.Rows L2 ZS
/-- numbers drawn -/
theorem drawn {m : Int} {l : List Nat} {ys : List V} (h : Paired (fun (_ : Nat) y => ∃ k : Int, y = .int k ∧ 0 ≤ k ∧ k < m) l ys) : ∃ ks : List Int, ys = ks.map V.int ∧ ks.length = l.length ∧ ∀ k ∈ ks, 0 ≤ k ∧ k < m := by
  induction h with
  | nil => exact ⟨[], rfl, rfl, fun k h => by cases h⟩
  | cons p _ ih =>
    obtain ⟨k, rfl, h1, h2⟩ := p
    obtain ⟨ks, e, el, hk⟩ := ih
    refine ⟨k :: ks, by rw [e]; rfl, by rw [List.length_cons, List.length_cons, el], fun x hx => ?_⟩
    rcases List.mem_cons.mp hx with e | e
    · rw [e]; exact ⟨h1, h2⟩
    · exact hk x e
section
variable {K : PySem.W.Frag} {H H' : Hp}
theorem dt_tup {a : Addr} {xs : List V} {ds : List Dt} (s : SqT K H a xs) (h : IsDts K H ds xs) : IsDt K H (.tup ds) (.ref a) := by unfold IsDt; exact ⟨a, xs, rfl, s, h⟩
theorem dt_int (i : Int) : IsDt K H (.int i) (.int i) := by unfold IsDt; rfl
theorem dt_bl (b : Bool) : IsDt K H (.bl b) (.bl b) := by unfold IsDt; rfl
theorem dts_nil : IsDts K H [] [] := by unfold IsDts; rfl
theorem dts_cons {d : Dt} {ds : List Dt} {v : V} {vs : List V} (h : IsDt K H d v) (h' : IsDts K H ds vs) : IsDts K H (d :: ds) (v :: vs) := by unfold IsDts; exact ⟨v, vs, rfl, h, h'⟩
theorem small_bl (b : Bool) : Dt.small (.bl b) := by unfold Dt.small; trivial
theorem depth_bl (i : Bool) : Dt.depth (.bl i) = 0 := by rw [Dt.depth]
/-- what stands all along the law: the row of draws, the house, the tables -/
structure Sta (K : PySem.W.Frag) (H : Hp) (r sa : Addr) (v : V) (n : Nat) (ts : List (List Int)) (pT pA : Addr) : Prop where
  dr : Draws K H r sa
  hv : HouseAt K H v n ts
  gT : GxR.TabG H pT
  gA : GxR.TabG H pA
variable {r sa pT pA : Addr} {v : V} {n : Nat} {ts : List (List Int)}
theorem Sta.kp (h : Sta K H r sa v n ts pT pA) (z : Kp H H') : Sta K H' r sa v n ts pT pA := ⟨h.dr.k z, z.house h.hv, z.tabG h.gT, z.tabG h.gA⟩
theorem Sta.kpb (h : Sta K H r sa v n ts pT pA) (z : KpB r H H') (ra : RowAt H' r sa) : Sta K H' r sa v n ts pT pA := ⟨h.dr.b z ra, NS.Tup.house z.tup h.hv, z.tabG h.gT, z.tabG h.gA⟩
/-- a list of turns at wa -/
structure Who (H : Hp) (r wa : Addr) (W : List (Addr × List Int)) : Prop where
  ne : wa ≠ r
  at_ : H wa = some (.lst (W.map fun p => V.ref p.1))
  pt : ∀ p ∈ W, PT H (.ref p.1) p.2
variable {wa : Addr} {W : List (Addr × List Int)}
theorem Who.kpb (h : Who H r wa W) (z : KpB r H H') : Who H' r wa W := ⟨h.ne, z.lst h.at_ h.ne, fun p hp => NS.Tup.pt z.tup (h.pt p hp)⟩
theorem Who.kp (h : Who H r wa W) (z : Kp H H') : Who H' r wa W := h.kpb z.b
theorem Who.sq (h : Who H r wa W) : SqL K H wa (W.map fun p => V.ref p.1) := SqL.of h.at_
/-- a list that is not the row -/
def Lst (H : Hp) (r la : Addr) (us : List V) : Prop := la ≠ r ∧ H la = some (.lst us)
theorem Lst.kpb {la : Addr} {us : List V} (h : Lst H r la us) (z : KpB r H H') : Lst H' r la us := ⟨h.1, z.lst h.2 h.1⟩
theorem Lst.kp {la : Addr} {us : List V} (h : Lst H r la us) (z : Kp H H') : Lst H' r la us := h.kpb z.b
end
end NS
end
section
set_option maxHeartbeats 4000000
/-! M6: roamers, counted -/
namespace NS
open PySem PySem.Spec PyProof.Rows L2 ZS
/-! ### sums of whole numbers -/
/-! ### orbits: as many turns as things, times those that leave one in place -/
theorem orbit_stab {α γ : Type} [DecidableEq α] [DecidableEq γ] {G : List γ} {act : α → γ → α} {mul : γ → γ → γ} {k : List α} {x0 : α} (ndG : G.Nodup) (ndk : k.Nodup)
    (hm : ∀ a ∈ G, ∀ b ∈ G, mul a b ∈ G) (hi : ∀ h ∈ G, ∀ a ∈ G, ∀ b ∈ G, mul a h = mul b h → a = b) (ha : ∀ a ∈ G, ∀ b ∈ G, act (act x0 a) b = act x0 (mul a b))
    (hin : ∀ g ∈ G, act x0 g ∈ k) (hx : ∀ x ∈ k, (∃ h ∈ G, act x0 h = x) ∧ ∃ h ∈ G, act x h = x0) :
    (∀ x ∈ k, (G.filter fun g => decide (act x0 g = x)).length = (G.filter fun g => decide (act x0 g = x0)).length) ∧ G.length = k.length * (G.filter fun g => decide (act x0 g = x0)).length := by
  have step : ∀ x ∈ k, (G.filter fun g => decide (act x0 g = x)).length = (G.filter fun g => decide (act x0 g = x0)).length := fun x hxk => by
    obtain ⟨⟨h, hh, eh⟩, h', hh', eh'⟩ := hx x hxk
    refine Nat.le_antisymm ?_ ?_
    · have nd : ((G.filter fun g => decide (act x0 g = x)).map (fun g => mul g h')).Nodup := nodup_map (List.Pairwise.filter _ ndG) fun a ha' b hb' e => hi h' hh' a (List.mem_filter.mp ha').1 b (List.mem_filter.mp hb').1 e
      have := nd_le nd (b := G.filter fun g => decide (act x0 g = x0)) fun y hy => by
        obtain ⟨g, hg, rfl⟩ := List.mem_map.mp hy
        obtain ⟨g1, g2⟩ := List.mem_filter.mp hg
        refine List.mem_filter.mpr ⟨hm g g1 h' hh', decide_eq_true ?_⟩
        rw [← ha g g1 h' hh', of_decide_eq_true g2, eh']
      rwa [List.length_map] at this
    · have nd : ((G.filter fun g => decide (act x0 g = x0)).map (fun g => mul g h)).Nodup := nodup_map (List.Pairwise.filter _ ndG) fun a ha' b hb' e => hi h hh a (List.mem_filter.mp ha').1 b (List.mem_filter.mp hb').1 e
      have := nd_le nd (b := G.filter fun g => decide (act x0 g = x)) fun y hy => by
        obtain ⟨g, hg, rfl⟩ := List.mem_map.mp hy
        obtain ⟨g1, g2⟩ := List.mem_filter.mp hg
        refine List.mem_filter.mpr ⟨hm g g1 h hh, decide_eq_true ?_⟩
        rw [← ha g g1 h hh, of_decide_eq_true g2, eh]
      rwa [List.length_map] at this
  refine ⟨step, ?_⟩
  have e := count_both (fun x g => decide (act x0 g = x)) k G
  rw [sum_map_congr step, sum_const, sum_map_congr (g := fun _ => 1) (fun g hg => one_of ndk (hin g hg)), sum_const, Nat.mul_one] at e
  exact e
/-! ### turns that leave halls in place -/
section
variable {n : Nat} {ts : List (List Int)} {W : List (List Int)} {t : List Int}
theorem mem_kept {i : Nat} (ht : IsT n t) : (i : Int) ∈ keptL t ↔ i < n ∧ at' t i = i := by
  unfold keptL
  rw [List.mem_map]
  constructor
  · rintro ⟨j, hj, e⟩
    obtain ⟨h1, h2⟩ := List.mem_filter.mp hj
    have : j = i := by omega
    subst this
    have h3 := List.mem_range.mp h1
    rw [ht.len] at h3
    refine ⟨h3, ?_⟩
    have := of_decide_eq_true h2
    unfold at'
    rw [this]
    rfl
  · rintro ⟨h1, h2⟩
    refine ⟨i, List.mem_filter.mpr ⟨List.mem_range.mpr (by rw [ht.len]; exact h1), decide_eq_true ?_⟩, rfl⟩
    rw [(ht.getD h1).1, h2]
theorem kept_nd (t : List Int) : (keptL t).Nodup := by
  unfold keptL
  exact nodup_map (List.Pairwise.filter _ List.nodup_range) fun a _ b _ e => by omega
theorem kept_idt : (keptL (idt n)).length = n := by
  have h := nd_le (a := idt n) (b := keptL (idt n)) (idt_isT n).nd fun x hx => by
    have h := mem_idt.mp hx
    have e : x = ((x.toNat : Nat) : Int) := by omega
    rw [e]
    exact (mem_kept (idt_isT n)).mpr ⟨by omega, at_idt (by omega)⟩
  have := kept_len (idt n)
  rw [idt_len] at this h
  omega
theorem kept_full (ht : IsT n t) (h : (keptL t).length = n) : t = idt n := by
  refine ht.ext (idt_isT n) fun i hi => ?_
  rw [at_idt hi]
  have sub : ∀ x ∈ keptL t, x ∈ idt n := fun x hx => by
    obtain ⟨j, hj, rfl⟩ := List.mem_map.mp (show x ∈ ((List.range t.length).filter fun i => decide (t.getD i 0 = (i : Int))).map fun (i : Nat) => (i : Int) from hx)
    have := List.mem_range.mp (List.mem_filter.mp hj).1
    rw [ht.len] at this
    exact mem_idt.mpr (by omega)
  have := nd_all (kept_nd t) sub (by rw [idt_len, h]; exact Nat.le_refl _) (i : Int) (mem_idt.mpr (by omega))
  exact ((mem_kept ht).mp this).2
/-- two halls left in place -/
theorem kept_two (ht : IsT n t) {i j : Nat} (hi : i < n) (hj : j < n) (ne : i ≠ j) (ei : at' t i = i) (ej : at' t j = j) : 1 < (keptL t).length := by
  have := nd_le (a := [(i : Int), (j : Int)]) (b := keptL t) (by simp; omega) fun x hx => by
    rcases List.mem_cons.mp hx with e | e
    · rw [e]; exact (mem_kept ht).mpr ⟨hi, ei⟩
    · rw [List.mem_singleton.mp e]; exact (mem_kept ht).mpr ⟨hj, ej⟩
  exact this
theorem two_kept (ht : IsT n t) (h : 1 < (keptL t).length) : ∃ i j, i < n ∧ j < n ∧ i ≠ j ∧ at' t i = i ∧ at' t j = j := by
  match e : keptL t, h with
  | a :: b :: r, _ =>
    have nd := kept_nd t
    rw [e] at nd
    have h1 : a ∈ keptL t := by rw [e]; exact List.mem_cons_self ..
    have h2 : b ∈ keptL t := by rw [e]; exact List.mem_cons_of_mem _ (List.mem_cons_self ..)
    have get : ∀ x, x ∈ keptL t → ∃ i : Nat, x = (i : Int) := fun x hx => by
      obtain ⟨i, _, e⟩ := List.mem_map.mp (show x ∈ ((List.range t.length).filter fun i => decide (t.getD i 0 = (i : Int))).map fun (i : Nat) => (i : Int) from hx)
      exact ⟨i, e.symm⟩
    obtain ⟨i, rfl⟩ := get a h1
    obtain ⟨j, rfl⟩ := get b h2
    obtain ⟨i1, i2⟩ := (mem_kept ht).mp h1
    obtain ⟨j1, j2⟩ := (mem_kept ht).mp h2
    refine ⟨i, j, i1, j1, fun q => ?_, i2, j2⟩
    have := (List.nodup_cons.mp nd).1
    rw [q] at this
    exact this (List.mem_cons_self ..)
/-- a turn that leaves no hall in place -/
abbrev free (t : List Int) : Bool := decide (keptL t = [])
/-- the group, its lots of halls and of pairs -/
structure Grpd (n : Nat) (ts W : List (List Int)) (LLp : List (List (List Int))) : Prop where
  n2 : 2 ≤ n
  is : ∀ t ∈ ts, IsT n t
  nd : W.Nodup
  mem : ∀ x, x ∈ W ↔ Grp n ts x
  one : ∀ i : Nat, i < n → Orb ts 0 (i : Int)
  pl : PLots n ts LLp
  cm : ∀ p ∈ G2 n, ∃ lot ∈ LLp, p ∈ lot
variable {LLp : List (List (List Int))}
theorem Grpd.wis (g : Grpd n ts W LLp) : ∀ t ∈ W, IsT n t := fun t ht => grp_isT g.is ((g.mem t).mp ht)
theorem Grpd.idtW (g : Grpd n ts W LLp) : idt n ∈ W := (g.mem _).mpr .base
theorem one_lot (hT : ∀ t ∈ ts, IsT n t) (n1 : 1 ≤ n) {LL : List (List Int)} (nd : LL.Nodup) (mem : ∀ k, k ∈ LL ↔ Lots n ts k) : LL.length = 1 ↔ ∀ i : Nat, i < n → Orb ts 0 (i : Int) := by
  obtain ⟨k0, l0⟩ := lot_ex hT (y := ((0 : Nat) : Int)) (mem_idt.mpr (by omega))
  have m0 : k0 ∈ LL := (mem k0).mpr ⟨0, by omega, l0⟩
  constructor
  · intro h i hi
    obtain ⟨k, l⟩ := lot_ex hT (y := (i : Int)) (mem_idt.mpr (by omega))
    have m := (mem k).mpr ⟨i, hi, l⟩
    match LL, h with
    | [x], _ =>
      rw [List.mem_singleton] at m0 m
      subst m0 m
      exact (l0.mem _).mp ((l.mem _).mpr .base)
  · intro h
    have key : ∀ k ∈ LL, k = k0 := fun k hk => by
      obtain ⟨i, hi, l⟩ := (mem k).mp hk
      exact lots_apart hT ⟨i, hi, l⟩ ⟨0, by omega, l0⟩ ((l.mem _).mpr .base) ((l0.mem _).mpr (h i hi))
    match LL, m0, nd, key with
    | [x], _, _, _ => rfl
    | x :: y :: r, _, nd, key =>
      have e1 := key x (List.mem_cons_self ..)
      have e2 := key y (List.mem_cons_of_mem _ (List.mem_cons_self ..))
      have := (List.nodup_cons.mp nd).1
      rw [e1, e2] at this
      exact absurd (List.mem_cons_self ..) this
theorem Grpd.s1 (g : Grpd n ts W LLp) : (W.map fun t => (keptL t).length).sum = W.length := by
  obtain ⟨k0, l0⟩ := lot_ex g.is (y := ((0 : Nat) : Int)) (mem_idt.mpr (by have := g.n2; omega))
  have n2 := g.n2
  have mem : ∀ k, k ∈ [k0] ↔ Lots n ts k := fun k => by
    rw [List.mem_singleton]
    constructor
    · rintro rfl
      exact ⟨0, by omega, l0⟩
    · rintro ⟨i, hi, l⟩
      exact lots_apart g.is ⟨i, hi, l⟩ ⟨0, by omega, l0⟩ ((l.mem _).mpr .base) ((l0.mem _).mpr (g.one i hi))
  have := sum_kept g.is g.nd g.mem (List.pairwise_singleton _ k0) mem
  simpa using this
theorem Grpd.s2 (g : Grpd n ts W LLp) : (W.map fun t => (keptL t).length * (keptL t).length).sum = W.length * LLp.length := sum_kept2 g.is g.nd g.mem g.pl g.cm
/-- only the still turn leaves two halls in place -/
def Sing (n : Nat) (W : List (List Int)) : Prop := ∀ t ∈ W, 1 < (keptL t).length → (keptL t).length = n
end
end NS
end
section
set_option maxHeartbeats 4000000
/-! M7: sharp groups -/
namespace NS
open PySem PySem.Spec PyProof.Rows L2 ZS
theorem grid_nd (n : Nat) : (grid n n).Nodup := by
  unfold grid
  have : ∀ l1 : List Nat, l1.Nodup → (l1.flatMap fun i => (List.range n).map fun j => (i, j)).Nodup := fun l1 => by
    induction l1 with
    | nil => exact fun _ => List.nodup_nil
    | cons a l1 ih =>
      intro nd
      obtain ⟨h1, h2⟩ := List.nodup_cons.mp nd
      rw [List.flatMap_cons, List.nodup_append]
      refine ⟨nodup_map List.nodup_range fun x _ y _ e => by injection e, ih h2, fun x hx y hy e => ?_⟩
      subst e
      obtain ⟨j, _, rfl⟩ := List.mem_map.mp hx
      obtain ⟨i, hi, hy⟩ := List.mem_flatMap.mp hy
      obtain ⟨j', _, e⟩ := List.mem_map.mp hy
      injection e with e _
      rw [e] at hi
      exact h1 hi
  exact this _ List.nodup_range
section
variable {n : Nat} {ts : List (List Int)} {W : List (List Int)} {t : List Int} {LLp : List (List (List Int))}
theorem pl_same (pl : PLots n ts LLp) {l1 l2 : List (List Int)} (h1 : l1 ∈ LLp) (h2 : l2 ∈ LLp) {x : List Int} (x1 : x ∈ l1) (x2 : x ∈ l2) : l1 = l2 := by
  obtain ⟨i, hi, e1⟩ := List.getElem_of_mem h1
  obtain ⟨j, hj, e2⟩ := List.getElem_of_mem h2
  have d1 : LLp.getD i [] = l1 := getD_of (by rw [List.getElem?_eq_getElem hi, e1])
  have d2 : LLp.getD j [] = l2 := getD_of (by rw [List.getElem?_eq_getElem hj, e2])
  have := lots_dj pl hi hj (by rw [d1]; exact x1) (by rw [d2]; exact x2)
  subst this
  rw [← d1, ← d2]
theorem pl_nd (pl : PLots n ts LLp) : LLp.Nodup := pl.dj.imp_of_mem fun {a b} ha hb h e => by
  obtain ⟨p, rest, ea, _⟩ := pl.hd a ha
  subst e
  have := h p (by rw [ea]; exact List.mem_cons_self ..)
  rw [ea] at this
  exact this (List.mem_cons_self ..)
theorem pair_g2 {a b : Nat} (ha : a < n) (hb : b < n) : [(a : Int), (b : Int)] ∈ G2 n := mem_g2.mpr ⟨rfl, fun x hx => by
  rcases List.mem_cons.mp hx with e | e
  · rw [e]; omega
  · rw [List.mem_singleton.mp e]; omega⟩
theorem g2_pair {x : List Int} (h : x ∈ G2 n) : ∃ a b : Nat, a < n ∧ b < n ∧ x = [(a : Int), (b : Int)] := by
  obtain ⟨hl, lo⟩ := mem_g2.mp h
  match x, hl, lo with
  | [u, v], _, lo =>
    have h1 := lo u (List.mem_cons_self ..)
    have h2 := lo v (List.mem_cons_of_mem _ (List.mem_cons_self ..))
    refine ⟨u.toNat, v.toNat, by omega, by omega, ?_⟩
    rw [Int.toNat_of_nonneg h1.1, Int.toNat_of_nonneg h2.1]
/-- the lot of a pair -/
theorem Grpd.lot (g : Grpd n ts W LLp) {p : List Int} (hp : p ∈ G2 n) : ∃ lot ∈ LLp, lot.Nodup ∧ p ∈ lot ∧ ∀ x, x ∈ lot ↔ Rch comp ts p x := by
  obtain ⟨lot, hl, hpl⟩ := g.cm p hp
  obtain ⟨q, rest, _, hq, nd, mem⟩ := g.pl.hd lot hl
  have qp := (mem p).mp hpl
  have pq := g2_sym g.is hq qp
  exact ⟨lot, hl, nd, hpl, fun x => (mem x).trans ⟨fun h => pq.trans h, fun h => qp.trans h⟩⟩
theorem Grpd.orb (g : Grpd n ts W LLp) {p : List Int} (hp : p ∈ G2 n) {lot : List (List Int)} (nd : lot.Nodup) (mem : ∀ x, x ∈ lot ↔ Rch comp ts p x) :
    (∀ x ∈ lot, (W.filter fun t => decide (comp p t = x)).length = (W.filter fun t => decide (comp p t = p)).length) ∧ W.length = lot.length * (W.filter fun t => decide (comp p t = p)).length := by
  have lo := (mem_g2.mp hp).2
  refine orbit_stab (act := comp) (mul := comp) g.nd nd (fun a ha b hb => (g.mem _).mpr (grp_mul g.is ((g.mem a).mp ha) ((g.mem b).mp hb))) (fun h hh a ha b hb e => ?_) (fun a ha b hb => comp_low_assoc lo (g.wis a ha) b) (fun t ht => (mem _).mpr ((rch_comp g.is lo).mpr ⟨t, (g.mem t).mp ht, rfl⟩)) (fun x hx => ?_)
  · have e2 : comp (comp a h) (inv h) = comp (comp b h) (inv h) := by rw [e]
    rwa [comp_assoc (g.wis a ha) (g.wis h hh), comp_assoc (g.wis b hb) (g.wis h hh), comp_inv (g.wis h hh), comp_idt (g.wis a ha), comp_idt (g.wis b hb)] at e2
  · have o := (mem x).mp hx
    have hx' := o.inU hp (g2_cl g.is)
    obtain ⟨u, hu, e⟩ := (rch_comp g.is lo).mp o
    obtain ⟨u', hu', e'⟩ := (rch_comp g.is (mem_g2.mp hx').2).mp (g2_sym g.is hp o)
    exact ⟨⟨u, (g.mem u).mpr hu, e.symm⟩, u', (g.mem u').mpr hu', e'.symm⟩
theorem off_rch {a b : Nat} (g : Grpd n ts W LLp) (ha : a < n) (hb : b < n) (ne : a ≠ b) {x : List Int} (h : Rch comp ts [(a : Int), (b : Int)] x) : ∃ c d : Nat, c < n ∧ d < n ∧ c ≠ d ∧ x = [(c : Int), (d : Int)] := by
  have hx := h.inU (pair_g2 ha hb) (g2_cl g.is)
  obtain ⟨c, d, hc, hd, rfl⟩ := g2_pair hx
  refine ⟨c, d, hc, hd, fun e => ?_, rfl⟩
  subst e
  obtain ⟨y, e, _⟩ := diag_rch.mp (g2_sym g.is (pair_g2 ha hb) h)
  injection e with e1 e2
  injection e2 with e2 _
  omega
/-- two lots of pairs, exactly if each two unlike halls are led to each two -/
theorem Grpd.rank2 (g : Grpd n ts W LLp) : 2 ≤ LLp.length ∧ (LLp.length = 2 ↔ ∀ a b : Nat, a < n → b < n → a ≠ b → Rch comp ts [0, 1] [(a : Int), (b : Int)]) := by
  have n2 := g.n2
  have p0 : [((0 : Nat) : Int), ((0 : Nat) : Int)] ∈ G2 n := pair_g2 (by omega) (by omega)
  have p1 : [((0 : Nat) : Int), ((1 : Nat) : Int)] ∈ G2 n := pair_g2 (by omega) (by omega)
  obtain ⟨A, hA, nA, inA, mA⟩ := g.lot p0
  obtain ⟨B, hB, nB, inB, mB⟩ := g.lot p1
  have ne : A ≠ B := fun e => by
    rw [← e] at inB
    obtain ⟨y, e, _⟩ := diag_rch.mp ((mA _).mp inB)
    injection e with e1 e2
    injection e2 with e2 _
    omega
  have two : 2 ≤ LLp.length := nd_le (a := [A, B]) (b := LLp) (by simp; exact ne) fun x hx => by
    rcases List.mem_cons.mp hx with e | e
    · rw [e]; exact hA
    · rw [List.mem_singleton.mp e]; exact hB
  refine ⟨two, fun h a b ha hb nab => ?_, fun h => ?_⟩
  · obtain ⟨C, hC, nC, inC, mC⟩ := g.lot (pair_g2 ha hb)
    have all := nd_all (a := [A, B]) (b := LLp) (by simp; exact ne) (fun x hx => by
      rcases List.mem_cons.mp hx with e | e
      · rw [e]; exact hA
      · rw [List.mem_singleton.mp e]; exact hB) (by rw [h]; exact Nat.le_refl _) C hC
    rcases List.mem_cons.mp all with e | e
    · rw [e] at inC
      obtain ⟨y, e, _⟩ := diag_rch.mp ((mA _).mp inC)
      injection e with e1 e2
      injection e2 with e2 _
      omega
    · rw [List.mem_singleton.mp e] at inC
      exact (mB _).mp inC
  · have le : LLp.length ≤ 2 := nd_le (a := LLp) (b := [A, B]) (pl_nd g.pl) fun C hC => by
      obtain ⟨q, rest, eC, hq, nC, mC⟩ := g.pl.hd C hC
      have inC : q ∈ C := by rw [eC]; exact List.mem_cons_self ..
      obtain ⟨a, b, ha, hb, rfl⟩ := g2_pair hq
      by_cases e : a = b
      · subst e
        have := pl_same g.pl hC hA inC ((mA _).mpr (diag_rch.mpr ⟨a, rfl, g.one a ha⟩))
        rw [this]
        exact List.mem_cons_self ..
      · have := pl_same g.pl hC hB inC ((mB _).mpr (h a b ha hb e))
        rw [this]
        exact List.mem_cons_of_mem _ (List.mem_cons_self ..)
    omega
abbrev p01 : List Int := [((0 : Nat) : Int), ((1 : Nat) : Int)]
/-- how many turns lead 0 and 1 to a pair -/
abbrev cnt (W : List (List Int)) (x : List Int) : Nat := (W.filter fun t => decide (comp p01 t = x)).length
theorem len_parts {α : Type} (p : α → Bool) : ∀ l : List α, l.length = (l.filter p).length + (l.filter fun x => !p x).length
  | [] => rfl
  | a :: l => by
    have ih := len_parts p l
    cases h : p a
    · rw [List.filter_cons_of_neg (by simp [h]), List.filter_cons_of_pos (by simp [h]), List.length_cons, List.length_cons, ih]; omega
    · rw [List.filter_cons_of_pos h, List.filter_cons_of_neg (by simp [h]), List.length_cons, List.length_cons, ih]; omega
theorem len_one {α : Type} {l : List α} (h : l.length = 1) {x y : α} (hx : x ∈ l) (hy : y ∈ l) : x = y := by
  match l, h with
  | [z], _ => rw [List.mem_singleton.mp hx, List.mem_singleton.mp hy]
theorem off_len (n : Nat) : ((G2 n).filter fun x => !decide (x.getD 0 0 = x.getD 1 0)).length = n * n - n := by
  have e := len_parts (fun x : List Int => decide (x.getD 0 0 = x.getD 1 0)) (G2 n)
  have d : ((G2 n).filter fun x => decide (x.getD 0 0 = x.getD 1 0)).length = n := by
    have ndg : (G2 n).Nodup := by
      unfold G2
      refine nodup_map (grid_nd n) fun x hx y hy e => ?_
      obtain ⟨x1, x2⟩ := x
      obtain ⟨y1, y2⟩ := y
      injection e with e1 e2
      injection e2 with e2 _
      have : x1 = y1 := by omega
      have : x2 = y2 := by omega
      subst x1 x2
      rfl
    have pm : ((G2 n).filter fun x => decide (x.getD 0 0 = x.getD 1 0)).Perm ((idt n).map fun h => [h, h]) := by
      refine (List.perm_ext_iff_of_nodup (List.Pairwise.filter _ ndg) (nodup_map (idt_isT n).nd fun a _ b _ e => by injection e)).mpr fun x => ?_
      rw [List.mem_filter, List.mem_map]
      constructor
      · rintro ⟨h1, h2⟩
        obtain ⟨a, b, ha, hb, rfl⟩ := g2_pair h1
        have h3 : (a : Int) = (b : Int) := of_decide_eq_true h2
        exact ⟨a, mem_idt.mpr (by omega), by rw [h3]⟩
      · rintro ⟨h, hh, rfl⟩
        have := mem_idt.mp hh
        have e : h = ((h.toNat : Nat) : Int) := by omega
        refine ⟨?_, decide_eq_true rfl⟩
        rw [e]
        exact pair_g2 (by omega) (by omega)
    rw [pm.length_eq, List.length_map, idt_len]
  have := g2_len n
  omega
/-- each two halls led to each two: as many turns as pairs, times those that leave 0 and 1 -/
theorem Grpd.twice (g : Grpd n ts W LLp) (h : LLp.length = 2) : W.length = (n * n - n) * cnt W p01 ∧ ∀ a b : Nat, a < n → b < n → a ≠ b → cnt W [(a : Int), (b : Int)] = cnt W p01 := by
  have n2 := g.n2
  have all := g.rank2.2.mp h
  have p1 : p01 ∈ G2 n := pair_g2 (by omega) (by omega)
  obtain ⟨B, hB, nB, inB, mB⟩ := g.lot p1
  obtain ⟨h1, h2⟩ := g.orb p1 nB mB
  have pm : B.Perm ((G2 n).filter fun x => !decide (x.getD 0 0 = x.getD 1 0)) := by
    have ndg : (G2 n).Nodup := (pl_flat g.is g.pl g.cm).nodup_iff.mp (flat_nd (fun k hk => by
      obtain ⟨p, rest, _, _, nd, _⟩ := g.pl.hd k hk
      exact nd) g.pl.dj)
    refine (List.perm_ext_iff_of_nodup nB (List.Pairwise.filter _ ndg)).mpr fun x => ?_
    rw [List.mem_filter]
    constructor
    · intro hx
      obtain ⟨c, d, hc, hd, ne, rfl⟩ := off_rch g (by omega) (by omega) (by decide) ((mB x).mp hx)
      refine ⟨pair_g2 hc hd, ?_⟩
      have : decide (([(c : Int), (d : Int)] : List Int).getD 0 0 = ([(c : Int), (d : Int)] : List Int).getD 1 0) = false := decide_eq_false (fun e => ne (by have e' : (c : Int) = (d : Int) := e; omega))
      rw [this]
      rfl
    · rintro ⟨h1, h2⟩
      obtain ⟨a, b, ha, hb, rfl⟩ := g2_pair h1
      refine (mB _).mpr (all a b ha hb fun e => ?_)
      subst e
      have : decide (([(a : Int), (a : Int)] : List Int).getD 0 0 = ([(a : Int), (a : Int)] : List Int).getD 1 0) = true := decide_eq_true rfl
      rw [this] at h2
      cases h2
  rw [pm.length_eq, off_len] at h2
  exact ⟨h2, fun a b ha hb ne => h1 _ ((mB _).mpr (all a b ha hb ne))⟩
theorem Grpd.cnt1 (g : Grpd n ts W LLp) : 1 ≤ cnt W p01 := by
  have n2 := g.n2
  refine List.length_pos_of_mem (a := idt n) (List.mem_filter.mpr ⟨g.idtW, decide_eq_true ?_⟩)
  exact comp_low_idt (n := n) (mem_g2.mp (pair_g2 (n := n) (a := 0) (b := 1) (by omega) (by omega))).2
theorem comp01 : comp p01 t = [t.getD 0 0, t.getD 1 0] := rfl
theorem Grpd.sing_cnt (g : Grpd n ts W LLp) (h : LLp.length = 2) : Sing n W ↔ cnt W p01 = 1 := by
  have n2 := g.n2
  constructor
  · intro s
    have le : cnt W p01 ≤ 1 := nd_le (b := [idt n]) (List.Pairwise.filter _ g.nd) fun x hx => by
      obtain ⟨h1, h2⟩ := List.mem_filter.mp hx
      have e : comp p01 x = p01 := of_decide_eq_true h2
      rw [comp01] at e
      injection e with e1 e2
      injection e2 with e2 _
      have ix := g.wis x h1
      have k2 := kept_two ix (i := 0) (j := 1) (by omega) (by omega) (by decide) (by unfold at'; rw [e1]; rfl) (by unfold at'; rw [e2]; rfl)
      rw [kept_full ix (s x h1 k2)]
      exact List.mem_singleton.mpr rfl
    have := g.cnt1
    omega
  · intro c t ht k2
    have it := g.wis t ht
    obtain ⟨i, j, hi, hj, ne, ei, ej⟩ := two_kept it k2
    have cij := (g.twice h).2 i j hi hj ne
    rw [c] at cij
    have p1 : p01 ∈ G2 n := pair_g2 (by omega) (by omega)
    obtain ⟨u, hu, e⟩ := (rch_comp g.is (mem_g2.mp p1).2).mp (g.rank2.2.mp h i j hi hj ne)
    have hu' := (g.mem u).mpr hu
    have iu := g.wis u hu'
    have m1 : u ∈ W.filter fun t => decide (comp p01 t = [(i : Int), (j : Int)]) := List.mem_filter.mpr ⟨hu', decide_eq_true e.symm⟩
    have m2 : comp u t ∈ W.filter fun t => decide (comp p01 t = [(i : Int), (j : Int)]) := by
      refine List.mem_filter.mpr ⟨(g.mem _).mpr (grp_mul g.is hu ((g.mem t).mp ht)), decide_eq_true ?_⟩
      rw [← comp_low_assoc (mem_g2.mp p1).2 iu t, ← e]
      show [t.getD (i : Int).toNat 0, t.getD (j : Int).toNat 0] = _
      rw [Int.toNat_natCast, Int.toNat_natCast, (it.getD hi).1, (it.getD hj).1, ei, ej]
    have e2 : comp u t = u := len_one cij m2 m1
    have : t = idt n := left_inj iu it (idt_isT n) (by rw [e2, comp_idt iu])
    rw [this, kept_idt]
theorem nn_pos {n : Nat} (n2 : 2 ≤ n) : 0 < n * n - n := by
  have : 2 * n ≤ n * n := Nat.mul_le_mul_right n n2
  omega
end
end NS
end
section
set_option maxHeartbeats 4000000
/-! M8: a part and its likes -/
namespace NS
open PySem PySem.Spec PyProof.Rows L2 ZS
section
variable {n : Nat} {ts us : List (List Int)} {W V : List (List Int)} {t : List Int}
theorem like_inj {a b g : List Int} (ha : IsT n a) (hb : IsT n b) (hg : IsT n g) (e : likeS a g = likeS b g) : a = b := by
  have e2 : likeS (likeS a g) (inv g) = likeS (likeS b g) (inv g) := by rw [e]
  rwa [like_like ha hg hg.inv, like_like hb hg hg.inv, comp_inv hg, like_idt ha, like_idt hb] at e2
end
end NS
end
section
set_option maxHeartbeats 4000000
/-! M9: houses of up to five halls -/
namespace NS
open PySem PySem.Spec PyProof.Rows L2 ZS
/-- a turn done so often -/
def pw (t : List Int) : Nat → List Int
  | 0 => idt t.length
  | k + 1 => comp (pw t k) t
section
variable {n : Nat} {ts : List (List Int)} {W : List (List Int)} {t : List Int} {LLp : List (List (List Int))}
end
end NS
end
section
set_option maxHeartbeats 4000000
/-! M10: cores -/
namespace NS
open PySem PySem.Spec PyProof.Rows L2 ZS
section
variable {n : Nat} {ts : List (List Int)} {W : List (List Int)} {t : List Int} {LLp : List (List (List Int))}
/-! ### known houses -/
theorem clo_sub {P : List Int → Prop} (hc : ∀ a, P a → ∀ t ∈ ts, P (comp a t)) : ∀ (k : Nat) (seen todo : List (List Int)), (∀ a ∈ seen, P a) → (∀ a ∈ todo, P a) → ∀ a ∈ clo ts k seen todo, P a
  | 0, seen, todo, h1, _ => by
    have e : clo ts 0 seen todo = seen := by cases todo <;> rfl
    rw [e]
    exact h1
  | k + 1, seen, [], h1, _ => by
    have e : clo ts (k + 1) seen [] = seen := rfl
    rw [e]
    exact h1
  | k + 1, seen, a :: todo, h1, h2 => by
    have new : ∀ b ∈ ((ts.map fun t => comp a t).filter fun b => !(seen.contains b)).eraseDups, P b := fun b hb => by
      have := List.mem_eraseDups.mp hb
      obtain ⟨t, ht, rfl⟩ := List.mem_map.mp (List.mem_filter.mp this).1
      exact hc a (h2 a (List.mem_cons_self ..)) t ht
    have e : clo ts (k + 1) seen (a :: todo) = clo ts k (seen ++ ((ts.map fun t => comp a t).filter fun b => !(seen.contains b)).eraseDups) (todo ++ ((ts.map fun t => comp a t).filter fun b => !(seen.contains b)).eraseDups) := rfl
    rw [e]
    refine clo_sub hc k _ _ (fun x hx => ?_) (fun x hx => ?_)
    · rcases List.mem_append.mp hx with q | q
      · exact h1 x q
      · exact new x q
    · rcases List.mem_append.mp hx with q | q
      · exact h2 x (List.mem_cons_of_mem _ q)
      · exact new x q
/-- the list is the group -/
theorem known_grp {p : Nat × List (List Int)} (hp : p ∈ known) {x : List Int} : x ∈ clK p ↔ Grp p.1 p.2 x := by
  have r := known_room hp
  constructor
  · refine fun h => clo_sub (P := Grp p.1 p.2) (fun a ha t ht => .next ha ht) 200 _ _ (fun a ha => ?_) (fun a ha => ?_) x h
    · rw [List.mem_singleton.mp ha]; exact .base
    · rw [List.mem_singleton.mp ha]; exact .base
  · exact fun h => h.inU r.a0 r.cl
theorem conj_like {m : List Int} : conj m t = likeS t m := rfl
/-- the group of the halls called otherwise -/
theorem grp_conj {m : List Int} (hm : IsT n m) (hT : ∀ t ∈ ts, IsT n t) {x : List Int} : Grp n (ts.map (conj m)) x ↔ ∃ y, Grp n ts y ∧ x = conj m y := by
  constructor
  · intro h
    induction h with
    | base => exact ⟨idt n, .base, (conj_idt hm).symm⟩
    | next _ ht ih =>
      obtain ⟨y, hy, rfl⟩ := ih
      obtain ⟨u, hu, rfl⟩ := List.mem_map.mp ht
      exact ⟨comp y u, .next hy hu, (conj_comp hm (grp_isT hT hy) (hT u hu)).symm⟩
  · rintro ⟨y, hy, rfl⟩
    have key : ∀ k, Rch comp ts (idt n) k → Grp n (ts.map (conj m)) (conj m k) ∧ IsT n k := fun k hk => by
      induction hk with
      | base => exact ⟨by rw [conj_idt hm]; exact .base, idt_isT n⟩
      | next _ ht ih => exact ⟨by rw [conj_comp hm ih.2 (hT _ ht)]; exact .next ih.1 (List.mem_map.mpr ⟨_, ht, rfl⟩), ih.2.comp (hT _ ht)⟩
    exact (key y hy).1
/-- as many halls left in place -/
theorem kept_conj {m : List Int} (hm : IsT n m) (ht : IsT n t) : (keptL (conj m t)).length = (keptL t).length := by
  have key : ∀ {m t : List Int}, IsT n m → IsT n t → (keptL t).length ≤ (keptL (conj m t)).length := fun {m t} hm ht => by
    have nd : ((keptL t).map fun x => hallS x m).Nodup := nodup_map (kept_nd t) fun a ha b hb e => by
      have get : ∀ x, x ∈ keptL t → x ∈ idt n := fun x hx => by
        obtain ⟨i, hi, rfl⟩ := List.mem_map.mp (show x ∈ ((List.range t.length).filter fun i => decide (t.getD i 0 = (i : Int))).map fun (i : Nat) => (i : Int) from hx)
        have := List.mem_range.mp (List.mem_filter.mp hi).1
        rw [ht.len] at this
        exact mem_idt.mpr (by omega)
      exact hallS_inj hm (get a ha) (get b hb) e
    have := nd_le nd (b := keptL (conj m t)) fun x hx => by
      obtain ⟨y, hy, rfl⟩ := List.mem_map.mp hx
      obtain ⟨i, _, rfl⟩ := List.mem_map.mp (show y ∈ ((List.range t.length).filter fun i => decide (t.getD i 0 = (i : Int))).map fun (i : Nat) => (i : Int) from hy)
      obtain ⟨h1, h2⟩ := (mem_kept ht).mp hy
      show m.getD (i : Int).toNat 0 ∈ _
      rw [Int.toNat_natCast, (hm.getD h1).1]
      exact (mem_kept (hm.conj ht)).mpr ⟨hm.lt h1, by rw [at_conj hm ht h1, h2]⟩
    rwa [List.length_map] at this
  refine Nat.le_antisymm ?_ (key hm ht)
  have h := key hm.inv (hm.conj ht)
  have e : conj (inv m) (conj m t) = t := by
    rw [conj_like, conj_like, like_like ht hm hm.inv, comp_inv hm, like_idt ht]
  rwa [e] at h
end
end NS
end
section
set_option maxHeartbeats 4000000
/-! M11: how often a turn must be done till all are in place; its rings -/
namespace NS
open PySem PySem.Spec PyProof.Rows L2 ZS
section
variable {n : Nat} {t : List Int} {ls : List Int}
end
end NS
end
section
set_option maxHeartbeats 4000000
/-! M12: likes: as many divide the group, rings alike; halls called otherwise -/
namespace NS
open PySem PySem.Spec PyProof.Rows L2 ZS
section
variable {n : Nat} {ts : List (List Int)} {W : List (List Int)} {t g : List Int} {ls ls' : List Int}
end
end NS
end
section
set_option maxHeartbeats 4000000
/-! M13: known houses lead each hall to each -/
namespace NS
open PySem PySem.Spec PyProof.Rows L2 ZS
def trK (n : Nat) (c : List (List Int)) : Bool := (List.range n).all fun a => (List.range n).all fun b => c.any fun g => at' g a == b
theorem known_tr : (known.all fun p => decide (2 ≤ p.1) && trK p.1 (clK p)) = true := by decide +kernel
theorem known_one {n : Nat} {ts : List (List Int)} (h : KnownH n ts) : 2 ≤ n ∧ ∀ i : Nat, i < n → Orb ts 0 (i : Int) := by
  obtain ⟨hi, p, hp, m, rfl, hm, rfl⟩ := h
  have k := List.all_eq_true.mp known_tr p hp
  rw [Bool.and_eq_true, decide_eq_true_iff] at k
  obtain ⟨n2, k⟩ := k
  refine ⟨n2, fun i hi' => ?_⟩
  have hT := (known_isH hp).is
  have a1 := hm.inv.lt (i := 0) (by omega)
  have b1 := hm.inv.lt hi'
  have k1 := List.all_eq_true.mp (List.all_eq_true.mp k _ (List.mem_range.mpr a1)) _ (List.mem_range.mpr b1)
  obtain ⟨g, hg, e⟩ := List.any_eq_true.mp k1
  have e : at' g (at' (inv m) 0) = at' (inv m) i := by simpa using e
  have hg' := (known_grp hp).mp hg
  have ig := grp_isT hT hg'
  refine (orb_grp hi.is (y := ((0 : Nat) : Int)) (mem_idt.mpr (by omega))).mpr ⟨conj m g, (grp_conj hm hT).mpr ⟨g, hg', rfl⟩, ?_⟩
  have back : ∀ j, j < p.1 → at' m (at' (inv m) j) = j := fun j hj => by rw [← at_comp hm.inv m hj, inv_comp hm, at_idt hj]
  have q := at_conj hm ig a1
  rw [back 0 (by omega), e, back i hi'] at q
  show (i : Int) = (conj m g).getD (0 : Int).toNat 0
  rw [Int.toNat_zero, ((hm.conj ig).getD (i := 0) (by omega)).1, q]
end NS
end
section
set_option maxHeartbeats 4000000
/-! M14: the lots of pairs are there -/
namespace NS
open PySem PySem.Spec PyProof.Rows L2 ZS
theorem rch_list {n : Nat} {ts : List (List Int)} (hT : ∀ t ∈ ts, IsT n t) {p : List Int} (hp : p ∈ G2 n) : ∃ rest : List (List Int), (p :: rest).Nodup ∧ ∀ x, x ∈ p :: rest ↔ Rch comp ts p x := by
  classical
  obtain ⟨L, nd, mem⟩ := nd_of ((G2 n).filter fun x => decide (Rch comp ts p x))
  have mem' : ∀ x, x ∈ L ↔ Rch comp ts p x := fun x => by
    rw [mem, List.mem_filter, decide_eq_true_iff]
    exact ⟨fun h => h.2, fun h => ⟨h.inU hp (g2_cl hT), h⟩⟩
  have hL : p ∈ L := (mem' p).mpr .base
  have pm := List.perm_cons_erase hL
  exact ⟨L.erase p, pm.nodup_iff.mp nd, fun x => pm.mem_iff.symm.trans (mem' x)⟩
theorem pl_ex {n : Nat} {ts : List (List Int)} (hT : ∀ t ∈ ts, IsT n t) : ∃ LL, PLots n ts LL ∧ ∀ p ∈ G2 n, ∃ lot ∈ LL, p ∈ lot := by
  classical
  have key : ∀ l : List (List Int), (∀ p ∈ l, p ∈ G2 n) → ∃ LL, PLots n ts LL ∧ ∀ p ∈ l, ∃ lot ∈ LL, p ∈ lot := fun l => by
    induction l with
    | nil => exact fun _ => ⟨[], ⟨fun _ h => (by cases h), .nil⟩, fun _ h => (by cases h)⟩
    | cons p l ih =>
      intro h
      obtain ⟨LL, pl, cm⟩ := ih fun q hq => h q (List.mem_cons_of_mem _ hq)
      by_cases hp : ∃ lot ∈ LL, p ∈ lot
      · exact ⟨LL, pl, fun q hq => by
          rcases List.mem_cons.mp hq with e | e
          · rw [e]; exact hp
          · exact cm q e⟩
      · have pg := h p (List.mem_cons_self ..)
        obtain ⟨rest, nd, mem⟩ := rch_list hT pg
        refine ⟨(p :: rest) :: LL, ⟨fun lot hl => ?_, List.pairwise_cons.mpr ⟨fun lot hl x hx hx2 => ?_, pl.dj⟩⟩, fun q hq => ?_⟩
        · rcases List.mem_cons.mp hl with e | e
          · exact ⟨p, rest, e, pg, by rw [e]; exact nd, by rw [e]; exact mem⟩
          · exact pl.hd lot e
        · obtain ⟨q, rest2, e, hq, _, mem2⟩ := pl.hd lot hl
          have h1 := (mem x).mp hx
          have h2 := (mem2 x).mp hx2
          exact hp ⟨lot, hl, (mem2 p).mpr (h2.trans (g2_sym hT pg h1))⟩
        · rcases List.mem_cons.mp hq with e | e
          · exact ⟨p :: rest, List.mem_cons_self .., by rw [e]; exact List.mem_cons_self ..⟩
          · obtain ⟨lot, hl, hx⟩ := cm q e
            exact ⟨lot, List.mem_cons_of_mem _ hl, hx⟩
  exact key _ fun p hp => hp
theorem grpd_ex {n : Nat} {ts W : List (List Int)} (n2 : 2 ≤ n) (hT : ∀ t ∈ ts, IsT n t) (nd : W.Nodup) (mem : ∀ x, x ∈ W ↔ Grp n ts x) (one : ∀ i : Nat, i < n → Orb ts 0 (i : Int)) : ∃ LLp, Grpd n ts W LLp := by
  obtain ⟨LL, pl, cm⟩ := pl_ex hT
  exact ⟨LL, n2, hT, nd, mem, one, pl, cm⟩
theorem whl_of {n : Nat} {ts : List (List Int)} (n2 : 2 ≤ n) (hT : ∀ t ∈ ts, IsT n t) (one : ∀ i : Nat, i < n → Orb ts 0 (i : Int)) : 2 ≤ n ∧ ∀ LL, Asc ltT (Lots n ts) LL → LL.length = 1 :=
  ⟨n2, fun LL as => (one_lot hT (by omega) as.nd as.mem).mpr one⟩
end NS
end
section
set_option maxHeartbeats 4000000
/-! RSum: sum(tuple of whole numbers) -/
namespace ZS
open PySem PySem.Spec PyProof.Rows L2
section
variable {prog : Program} {w : World} {A : Around} {E : Value → Shared → Prop} {s : Shared} {l : Addr} {its : List Value} {ns : List Int} {Q : Value → Shared → Prop}
end
section
variable {X : Cx}
end
end ZS
end
section
set_option maxHeartbeats 4000000
/-! N1: roamers, and what is told of them -/
namespace NS
open PySem PySem.Spec PyProof.Rows L2 ZS
theorem scChkWhole : FnScope ["house"] ["house"] (defScope sChkWhole) := ⟨rfl, rfl, rfl, by decide +kernel, rfl, by decide +kernel, by decide +kernel⟩
theorem scSharp : FnScope ["house", "halls", "turns", "pairs"] ["house"] (defScope sSharp) := ⟨rfl, rfl, rfl, by decide +kernel, rfl, by decide +kernel, by decide +kernel⟩
/-- the turns lead each hall to each -/
abbrev Whl (n : Nat) (ts : List (List Int)) : Prop := 2 ≤ n ∧ ∀ LL, Asc ltT (Lots n ts) LL → LL.length = 1
/-- a house with its checks' tables, whole, its group small -/
def HW (K : PySem.W.Frag) (pT pA : Addr) (H : Hp) (v : V) (n : Nat) (ts U : List (List Int)) : Prop := HouseAt K H v n ts ∧ IsH n ts ∧ GxR.TabG H pT ∧ GxR.TabG H pA ∧ Room' n comp ts (idt n) U
theorem HW.kp {K : PySem.W.Frag} {pT pA : Addr} {H H' : Hp} {v : V} {n : Nat} {ts U : List (List Int)} (h : HW K pT pA H v n ts U) (z : Kp H H') : HW K pT pA H' v n ts U := ⟨z.house h.1, h.2.1, z.tabG h.2.2.1, z.tabG h.2.2.2.1, h.2.2.2.2⟩
section
variable {P : Program} {w : World} {K : PySem.W.Frag} {mg : Str → Option Value} {base : Heap} {f : Addr} {fd : FuncData} {pT pA : Addr} {S : Addr → Option Sp}
theorem nn_int {n : Nat} (h : 1 ≤ n) : (n : Int) * ((n : Int) - 1) = ((n * n - n : Nat) : Int) := by
  rw [Int.natCast_sub (Nat.le_mul_self n)]
  push_cast
  rw [Int.mul_sub, Int.mul_one]
end
end NS
end
section
set_option maxHeartbeats 4000000
/-! LP: what most laws begin with -/
namespace NS
open PySem PySem.Spec PyProof.Rows L2 ZS
section
variable {X : Cx}
end
/-- a statement, and what holds behind it -/
def tMid (t : TS) : TS := fun D σ H => ∃ P : L2.St → Hp → Prop, (∀ σ' H', P σ' H' → D.nx σ' H') ∧ t { D with nx := P } σ H
theorem ps_mid {X : Cx} {st : Stmt} {t : TS} (h : PS X st t) : PS X st (tMid t) := by
  refine ⟨fun pins s σ H D I hm => ?_⟩
  obtain ⟨P, hP, ht⟩ := hm
  refine thn (h.run pins s σ H { D with nx := P } I ht) fun f s1 q => ?_
  cases f with
  | next =>
    obtain ⟨σ', H', I', q⟩ := q
    exact ⟨σ', H', I', hP _ _ q⟩
  | ret v => exact q
  | brk => exact q
  | cont => exact q
section
variable {K : PySem.W.Frag} {H H' : Hp} {r sa wa : Addr} {v tv : V} {n : Nat} {ts U : List (List Int)} {pT pA : Addr} {W : List (Addr × List Int)}
end
end NS
end
section
set_option maxHeartbeats 4000000
/-! X0: defs that may raise -/
namespace NS
open PySem PySem.Spec PyProof.Rows L2 ZS
/-- a def that may raise -/
structure HasX (P : Program) (w : World) (K : PySem.W.Frag) (mg : Str → Option Value) (base : Heap) (x : Str) (k : Nat) (sp : Sp) : Prop where
  ex : ∃ (f : Addr) (fd : FuncData) (ps : List Str), mg x = some (.ref f) ∧ PySem.W.keepIn K (.ref f) = true ∧ Binds K fd ps [] ∧ FnOk P w K mg base (L2.CX P w) k f fd ps sp
section
variable {X : Cx} {k j : Nat} {sp : Sp} {x : Str} {p pos : Pos} {e : Expr} {es : List Expr} {t : TA} {W : WX}
theorem pe_hasX (h : HasX X.prog X.w X.K X.mg X.base x j sp) (hr : Room k X.A) (hk : j ≤ k) (tk : Takes X W) (ha : PA X (e :: es) t) (hg : Gl X x := by rfl)
    (hdb : (x == ("__debug__" : Str)) = false := by decide) (he : starEach (e :: es) X.env = (false, eval e X.env) :: starEach es X.env := by rfl) (hpl : (backTo pos (starEach es X.env)).any (·.1) = false := by rfl) :
    PE X (.Call (.Name x p) (e :: es) [] pos) (tCallS sp (WE W) t) := by
  obtain ⟨f, fd, ps, h1, h2, h3, h5⟩ := h.ex
  exact pe_callS h5 (hr.mono hk) hg h1 h2 h3 (fun σ => passAt tk σ) ha hdb he hpl
end
section
variable {P : Program} {w : World} {K : PySem.W.Frag} {mg : Str → Option Value} {base : Heap} {x : Str} {k : Nat} {sp : Sp}
/-- where it raises nothing -/
theorem HasX.no (h : HasX P w K mg base x k sp) : Has P w K mg base x k [] (fun vs H Q _ => sp vs H Q fun _ _ _ => False) := by
  obtain ⟨f, fd, ps, h1, h2, h3, h5⟩ := h.ex
  refine ⟨f, fd, ps, [], h1, h2, h3, .nil, ⟨fun vs H Q E => h5.len vs H Q _, fun A outer s H args us vs Q E hr he hb hv hs => ?_⟩⟩
  refine codeAny_mono (h5.run A outer s H args us vs Q (fun _ _ _ => False) hr he hb hv hs) fun r s' hq => ?_
  cases r with
  | ok fl =>
    cases fl with
    | ret u => exact hq
    | next => exact hq
    | brk => exact hq
    | cont => exact hq
  | error e =>
    obtain ⟨a, B, H', cls, d, _, _, _, _, _, _, _, f⟩ := hq
    exact f.elim
theorem HasX.imp {sp' : Sp} (h : HasX P w K mg base x k sp) (q : ∀ vs H Q E, sp' vs H Q E → sp vs H Q E) : HasX P w K mg base x k sp' := by
  obtain ⟨g, fd, ps, h1, h2, h3, h5⟩ := h.ex
  exact ⟨g, fd, ps, h1, h2, h3, h5.imp q⟩
end
def veB : List Value := [.type "ValueError", .type "Exception", .type "BaseException", .type "object"]
/-- a class of errors of the program, without an __init__ of its own -/
structure ExcC (K : PySem.W.Frag) (mg : Str → Option Value) (x : Str) (C : Addr) : Prop where
  g : mg x = some (.ref C)
  x : PySem.W.excIn K C veB "ValueError.__new__" = true
  k : PySem.W.keepIn K (.ref C) = true
  b : PySem.W.subIn K (.ref C) (.type "BaseException") = some true
  t : PySem.W.typeIn K (.ref C) = some (.type "type")
  m : PySem.W.exmOne K (.ref C) (.ref C) = some true
section
variable {X : Cx} {C : Addr} {bmB : List Value} {B newId initId : String} {W : WX} {x : Str} {p pos pos' : Pos}
/-- X() -/
theorem pmk_own0 (F : ExcBaseFacts B newId initId bmB) (q : PySem.W.excIn X.K C bmB newId = true) (gC : X.mg x = some (.ref C)) (kC : PySem.W.keepIn X.K (.ref C) = true) (r : Raises X (.ref C)) (hg : Gl X x)
    (hdb : (x == ("__debug__" : Str)) = false := by decide) : PMk X (.Call (.Name x p) [] [] pos) (fun _ H Q => Q (.ref C) none H) := by
  intro pins s σ H Q I h
  refine wpAny_Call_Name_kw (ld_glob I hg gC ?_ hdb)
  refine PySem.W.callWith_K0 I.kIn kC ?_
  obtain ⟨bm, N, nm, qn, bs, hdct, sn, sub, ab, col, dd, k0, k1, k2, k3, k5, mN, hC, hN, hni, T⟩ := exc_obj I.kIn q
  refine wpAny_call_exc_subT F T hC hN hni (fun h' e hm => ?_) (by show 0 ≤ sizeLine; rw [sizeLine_eq]; omega)
  exact mk_of I hm r h (I.hok.gone hm.new)
theorem ps_raise0 (T : ExcC X.K X.mg x C) (tk : Takes X W) (hc : X.calm = true := by rfl) (hg : Gl X x := by rfl) (hdb : (x == ("__debug__" : Str)) = false := by decide) :
    PS X (.Raise (some (.Call (.Name x p) [] [] pos)) none pos') (fun _ σ H => W (.ref C) none σ H) :=
  ps_raise hc tk (pmk_own0 PySem.F.excBase_ValueError T.x T.g T.k (raises_own T.b T.t) hg hdb)
end
end NS
end
section
set_option maxHeartbeats 4000000
/-! N2: singles -/
namespace NS
open PySem PySem.Spec PyProof.Rows L2 ZS
section
variable {P : Program} {w : World} {K : PySem.W.Frag} {mg : Str → Option Value} {base : Heap} {f : Addr} {fd : FuncData} {pT pA C : Addr}
end
end NS
end
section
set_option maxHeartbeats 4000000
/-! X1: a tuple of whole numbers at module level, told by the head -/
namespace NS
open PySem PySem.Spec PyProof.Rows L2 ZS
end NS
end
section
set_option maxHeartbeats 4000000
/-! X2: a dict of the module with whole numbers for keys, told by the head -/
namespace NS
open PySem PySem.Spec PyProof.Rows L2 ZS
structure DicI (K : PySem.W.Frag) (d : Addr) (l : List Int) : Prop where
  ex : ∃ es n, K.lookup d = some ⟨.type "dict", none, .dict es n, #[]⟩ ∧ entB es.toList l = true
  low : (d == sysModules) = false
theorem entB_key : ∀ {es : List DictEntry} {l : List Int}, entB es l = true → ∀ e ∈ es, ∃ k t, e.key = .int k t ∧ e.hash = hashInt k
  | [], _, _, e, h => by cases h
  | x :: es, [], hb, e, h => by unfold entB at hb; cases hb
  | x :: es, k :: ks, hb, e, h => by
    unfold entB at hb
    simp only [Bool.and_eq_true, decide_eq_true_iff] at hb
    obtain ⟨⟨⟨h1, h2⟩, h3⟩, h4⟩ := hb
    rcases List.mem_cons.mp h with rfl | h
    · split at h1
      · rename_i j t q
        have := of_decide_eq_true h1
        subst this
        exact ⟨j, t, q, h2⟩
      · cases h1
    · exact entB_key h4 e h
theorem entB_find {k : Int} : ∀ {es : List DictEntry} {l : List Int}, entB es l = true → (k ∉ l → (es.find? fun e => Value.isInt k e.key).map (·.val) = none) ∧ (k ∈ l → ∃ a, (es.find? fun e => Value.isInt k e.key).map (·.val) = some (.ref a))
  | [], [], _ => ⟨fun _ => rfl, fun h => by cases h⟩
  | [], _ :: _, hb => by unfold entB at hb; cases hb
  | x :: es, [], hb => by unfold entB at hb; cases hb
  | x :: es, j :: ks, hb => by
    unfold entB at hb
    simp only [Bool.and_eq_true, decide_eq_true_iff] at hb
    obtain ⟨⟨⟨h1, h2⟩, h3⟩, h4⟩ := hb
    obtain ⟨i1, i2⟩ := entB_find (k := k) h4
    have hk : Value.isInt k x.key = decide (j = k) := by
      split at h1
      · rename_i j' t q
        have := of_decide_eq_true h1
        subst this
        rw [q]
        by_cases e : j' = k
        · subst e; simp [Value.isInt]
        · rw [decide_eq_false e]
          simp [Value.isInt, e]
      · cases h1
    rw [List.find?_cons, hk]
    by_cases e : j = k
    · rw [decide_eq_true e]
      refine ⟨fun h => absurd (by rw [e]; exact List.mem_cons_self) h, fun _ => ?_⟩
      split at h3
      · rename_i a q
        exact ⟨a, by rw [← q]; rfl⟩
      · cases h3
    · rw [decide_eq_false e]
      exact ⟨fun h => i1 fun h' => h (List.mem_cons_of_mem _ h'), fun h => i2 ((List.mem_cons.mp h).elim (fun q => absurd q.symm e) id)⟩
section
variable {X : Cx}
theorem dicI_map {l : List Int} {a : Addr} {pins : List (Addr × Obj)} {σ : L2.St} {H : Hp} {s : Shared} (D : DicI X.K a l) (I : Inv X pins σ H s) :
    ∃ f : Int → Option Value, s.heap.MapOf (intKind X.prog X.w) a f ∧ (∀ k, k ∉ l → f k = none) ∧ ∀ k ∈ l, ∃ b, f k = some (.ref b) := by
  obtain ⟨es, n, hl, hb⟩ := D.ex
  refine ⟨fun k => findBy Value.isInt es k, ⟨_, es, n, I.kIn _ _ hl, ⟨rfl, rfl, rfl⟩, rfl, fun e he => ?_, fun _ => rfl⟩, fun k hk => ?_, fun k hk => ?_⟩
  · obtain ⟨k, t, e1, e2⟩ := entB_key hb e (Array.mem_toList_iff.mpr he)
    exact ⟨k, by rw [e1]; exact intKind_is X.prog X.w k t, e2⟩
  · have := (entB_find (k := k) hb).1 hk
    show Option.map (fun x : DictEntry => x.val) (Array.find? (fun e => Value.isInt k e.key) es) = none
    rw [← Array.find?_toList]
    exact this
  · obtain ⟨b, e⟩ := (entB_find (k := k) hb).2 hk
    refine ⟨b, ?_⟩
    show Option.map (fun x : DictEntry => x.val) (Array.find? (fun e => Value.isInt k e.key) es) = _
    rw [← Array.find?_toList]
    exact e
def rNotInI (K : PySem.W.Frag) : R2 := fun x y H Q => ∃ (k : Int) (d : Addr) (l : List Int), x = .int k ∧ y = .ref d ∧ DicI K d l ∧ Q (.bl (!decide (k ∈ l))) H
theorem op_notInI : OpR X (compareOp .NotIn) (rNotInI X.K) := by
  intro pins s σ H x y v u Q I rx ry h
  obtain ⟨k, d, l, rfl, rfl, D, q⟩ := h
  obtain ⟨t, rfl⟩ := rx
  cases ry
  obtain ⟨f, hm, f0, f1⟩ := dicI_map D I
  refine wpAny_notIn_of (intKind_is X.prog X.w k t) D.low hm ?_
  have e : (f k).isSome = decide (k ∈ l) := by
    by_cases hk : k ∈ l
    · obtain ⟨b, e⟩ := f1 k hk
      rw [e, decide_eq_true hk]
      rfl
    · rw [f0 k hk, decide_eq_false hk]
      rfl
  rw [e]
  exact ⟨.bl _, H, I.tok _, rfl, q⟩
end
end NS
end
section
set_option maxHeartbeats 4000000
/-! N9: sharps, of houses as they are -/
namespace NS
open PySem PySem.Spec PyProof.Rows L2 ZS
theorem scIsHouse : FnScope ["value"] ["value"] (defScope sIsHouse) := ⟨rfl, rfl, rfl, by decide +kernel, rfl, by decide +kernel, by decide +kernel⟩
theorem scChkNum : FnScope ["value", "least", "most"] ["value", "least", "most"] (defScope sChkNum) := ⟨rfl, rfl, rfl, by decide +kernel, rfl, by decide +kernel, by decide +kernel⟩
theorem scChkHalls : FnScope ["halls"] ["halls"] (defScope sChkHalls) := ⟨rfl, rfl, rfl, by decide +kernel, rfl, by decide +kernel, by decide +kernel⟩
theorem scSharpH : FnScope ["halls"] ["halls"] (defScope sSharpH) := ⟨rfl, rfl, rfl, by decide +kernel, rfl, by decide +kernel, by decide +kernel⟩
theorem scShowsS : FnScope ["halls", "value"] ["halls", "value"] (defScope sShowsS) := ⟨rfl, rfl, rfl, by decide +kernel, rfl, by decide +kernel, by decide +kernel⟩
abbrev keysT : List Int := [2, 3, 4, 5, 7, 8]
def spChkNum : Sp := fun vs H Q _ => ∃ (x lo up : Int), vs = [.int x, .int lo, .int up] ∧ lo ≤ x ∧ x ≤ up ∧ Q .non H
def spChkHalls : Sp := fun vs H Q _ => ∃ x : Int, vs = [.int x] ∧ 2 ≤ x ∧ x ≤ 8 ∧ Q .non H
section
variable {P : Program} {w : World} {K : PySem.W.Frag} {mg : Str → Option Value} {base : Heap} {f : Addr} {fd : FuncData} {pT pA C : Addr}
theorem has_chknum (F : FnP K "check_number" sChkNum f fd) (m : mg "check_number" = some (.ref f)) (hN : Has P w K mg base "is_number" 1 [] spNumber) : Has P w K mg base "check_number" 2 [] spChkNum := by
  refine ⟨f, fd, ["value", "least", "most"], [], m, F.kp, F.bindsN (fun _ _ _ _ _ _ us hl => match us, hl with | [_, _, _], _ => rfl), .nil, ?_⟩
  refine F.ok scChkNum (fun vs H Q E h => ?_) (fun cdv A outer s H vs Q E hr h => ⟨_, PSs.nox (
    pss_one (ps_if (pt_not (pt_val (pe_has hN hr (by decide) (pa_cons (pv 0) (pa_cons (pv 1) (pa_cons (pv 2) pa_nil)))))) (pss_one ps_never) pss_nil)), ?_⟩)
  · obtain ⟨x, lo, up, rfl, _⟩ := h
    rfl
  · obtain ⟨x, lo, up, rfl, h1, h2, q⟩ := h
    refine ⟨_, rfl, _, rfl, _, rfl, x, lo, up, rfl, ?_⟩
    rw [decide_eq_true (show lo ≤ x ∧ x ≤ up from ⟨h1, h2⟩)]
    exact ⟨_, rfl, iteF (A := _) q⟩
theorem has_chkhalls (F : FnP K "check_halls" sChkHalls f fd) (m : mg "check_halls" = some (.ref f)) (m2 : ∃ t, mg "FEWEST_HALLS" = some (.int 2 t)) (m8 : ∃ t, mg "MOST_HALLS" = some (.int 8 t)) (hN : Has P w K mg base "check_number" 2 [] spChkNum) : Has P w K mg base "check_halls" 3 [] spChkHalls := by
  obtain ⟨t2, m2⟩ := m2
  obtain ⟨t8, m8⟩ := m8
  refine ⟨f, fd, ["halls"], [], m, F.kp, F.bindsN (fun _ _ _ _ _ _ us hl => match us, hl with | [_], _ => rfl), .nil, ?_⟩
  refine F.ok scChkHalls (fun vs H Q E h => ?_) (fun cdv A outer s H vs Q E hr h => ⟨_, PSs.nox (
    pss_one (ps_expr (pe_has hN hr (by decide) (pa_cons (pv 0) (pa_cons (pe_glob (v := .int 2) rfl m2 ⟨_, rfl⟩) (pa_cons (pe_glob (v := .int 8) rfl m8 ⟨_, rfl⟩) pa_nil)))))), ?_⟩)
  · obtain ⟨x, rfl, _⟩ := h
    rfl
  · obtain ⟨x, rfl, h1, h2, q⟩ := h
    exact ⟨_, rfl, x, 2, 8, rfl, h1, h2, q⟩
end
end NS
end
section
set_option maxHeartbeats 4000000
/-! N11: the checks of any value -/
namespace NS
open PySem PySem.Spec PyProof.Rows L2 ZS
theorem ddp : ∀ t : List Int, ∃ D : List Int, D.Nodup ∧ (∀ k, k ∈ D ↔ k ∈ t) ∧ D.length ≤ t.length ∧ (D.length = t.length ↔ t.Nodup)
  | [] => ⟨[], .nil, fun _ => Iff.rfl, Nat.le_refl _, ⟨fun _ => .nil, fun _ => rfl⟩⟩
  | x :: t => by
    obtain ⟨D, nd, mem, le, iff⟩ := ddp t
    by_cases hx : x ∈ D
    · refine ⟨D, nd, fun k => ?_, by rw [List.length_cons]; omega, ⟨fun e => ?_, fun e => ?_⟩⟩
      · rw [mem, List.mem_cons]
        exact ⟨.inr, fun h => h.elim (fun e => by rw [e]; exact (mem x).mp hx) id⟩
      · rw [List.length_cons] at e
        omega
      · exact absurd ((mem x).mp hx) (List.nodup_cons.mp e).1
    · refine ⟨x :: D, List.nodup_cons.mpr ⟨hx, nd⟩, fun k => ?_, by simp only [List.length_cons]; omega, ?_⟩
      · rw [List.mem_cons, List.mem_cons, mem]
      · rw [List.nodup_cons, ← iff]
        simp only [List.length_cons]
        exact ⟨fun e => ⟨fun h => hx ((mem x).mpr h), by omega⟩, fun ⟨_, e⟩ => by omega⟩
/-- x isn't of this class, whatever comes -/
def NotTy (K : PySem.W.Frag) (H : Hp) (x : V) (T : String) : Prop := ∃ t : String, (∀ H', Kp H H' → TyX K H' x (.type t)) ∧ kitB t T = some false
theorem NotTy.kp {K : PySem.W.Frag} {H H' : Hp} (z : Kp H H') {x : V} {T : String} (h : NotTy K H x T) : NotTy K H' x T := let ⟨t, h, k⟩ := h; ⟨t, fun H2 z2 => h H2 (z.trans z2), k⟩
/-- whether x is a number from lo to hi -/
def NumX (K : PySem.W.Frag) (H : Hp) (lo hi : Int) (x : V) (b : Bool) : Prop := (∃ i : Int, x = .int i ∧ b = decide (lo ≤ i ∧ i ≤ hi)) ∨ ((∃ c, x = .bl c) ∨ NotTy K H x "int") ∧ b = false
theorem NumX.kp {K : PySem.W.Frag} {H H' : Hp} (z : Kp H H') {lo hi : Int} {x : V} {b : Bool} (h : NumX K H lo hi x b) : NumX K H' lo hi x b :=
  h.elim .inl fun h => .inr ⟨h.1.elim .inl fun q => .inr (q.kp z), h.2⟩
/-- whether x is a turn of n halls -/
def TurnX (K : PySem.W.Frag) (H : Hp) (n : Nat) (x : V) (b : Bool) : Prop :=
  (NotTy K H x "tuple" ∧ b = false) ∨ (∃ a xs, x = .ref a ∧ SqT K H a xs ∧ xs.length ≠ n ∧ b = false) ∨
  (∃ a xs bs, x = .ref a ∧ SqT K H a xs ∧ xs.length = n ∧ Paired (NumX K H 0 ((n : Int) - 1)) xs bs ∧ false ∈ bs ∧ b = false) ∨
  (∃ (a : Addr) (t : List Int), x = .ref a ∧ SqT K H a (t.map V.int) ∧ t.length = n ∧ n ≤ 1000 ∧ (∀ k ∈ t, 0 ≤ k ∧ k < (n : Int)) ∧ b = decide t.Nodup)
theorem TurnX.kp {K : PySem.W.Frag} {H H' : Hp} (z : Kp H H') {n : Nat} {x : V} {b : Bool} (h : TurnX K H n x b) : TurnX K H' n x b := by
  rcases h with ⟨h, e⟩ | ⟨a, xs, e, h, l⟩ | ⟨a, xs, bs, e, h, l, p, q⟩ | ⟨a, t, e, h, q⟩
  · exact .inl ⟨h.kp z, e⟩
  · exact .inr (.inl ⟨a, xs, e, z.sqT h, l⟩)
  · exact .inr (.inr (.inl ⟨a, xs, bs, e, z.sqT h, l, p.mono fun _ _ q => q.kp z, q⟩))
  · exact .inr (.inr (.inr ⟨a, t, e, z.sqT h, q⟩))
/-- whether x is some turns of n halls -/
def TurnsX (K : PySem.W.Frag) (H : Hp) (n : Nat) (x : V) (b : Bool) : Prop :=
  (NotTy K H x "tuple" ∧ b = false) ∨ (∃ a xs, x = .ref a ∧ SqT K H a xs ∧ (xs.length = 0 ∨ 6 < xs.length) ∧ b = false) ∨
  (∃ a xs bs, x = .ref a ∧ SqT K H a xs ∧ 1 ≤ xs.length ∧ xs.length ≤ 6 ∧ Paired (TurnX K H n) xs bs ∧ b = bs.all id)
theorem TurnsX.kp {K : PySem.W.Frag} {H H' : Hp} (z : Kp H H') {n : Nat} {x : V} {b : Bool} (h : TurnsX K H n x b) : TurnsX K H' n x b := by
  rcases h with ⟨h, e⟩ | ⟨a, xs, e, h, l⟩ | ⟨a, xs, bs, e, h, l, l', p, q⟩
  · exact .inl ⟨h.kp z, e⟩
  · exact .inr (.inl ⟨a, xs, e, z.sqT h, l⟩)
  · exact .inr (.inr ⟨a, xs, bs, e, z.sqT h, l, l', p.mono fun _ _ q => q.kp z, q⟩)
/-- what is wrong with x as a house -/
def FaultX (K : PySem.W.Frag) (H : Hp) (x r : V) : Prop :=
  (NotTy K H x "tuple" ∧ r = .str "whole") ∨ (∃ a xs, x = .ref a ∧ SqT K H a xs ∧ xs.length ≠ 2 ∧ r = .str "whole") ∨
  (∃ a y tv, x = .ref a ∧ SqT K H a [y, tv] ∧ NumX K H 1 8 y false ∧ r = .str "halls") ∨
  (∃ (a : Addr) (n : Nat) (tv : V) (b : Bool), x = .ref a ∧ SqT K H a [.int n, tv] ∧ 1 ≤ n ∧ n ≤ 8 ∧ TurnsX K H n tv b ∧ r = if b then .non else .str "turns")
theorem FaultX.kp {K : PySem.W.Frag} {H H' : Hp} (z : Kp H H') {x r : V} (h : FaultX K H x r) : FaultX K H' x r := by
  rcases h with ⟨h, e⟩ | ⟨a, xs, e, h, l⟩ | ⟨a, y, tv, e, h, l, q⟩ | ⟨a, n, tv, b, e, h, n1, n8, q, er⟩
  · exact .inl ⟨h.kp z, e⟩
  · exact .inr (.inl ⟨a, xs, e, z.sqT h, l⟩)
  · exact .inr (.inr (.inl ⟨a, y, tv, e, z.sqT h, l.kp z, q⟩))
  · exact .inr (.inr (.inr ⟨a, n, tv, b, e, z.sqT h, n1, n8, q.kp z, er⟩))
def spNumX (K : PySem.W.Frag) : Sp := fun vs H Q _ => ∃ (x : V) (lo hi : Int) (b : Bool), vs = [x, .int lo, .int hi] ∧ NumX K H lo hi x b ∧ Q (.bl b) H
def spTurnX (K : PySem.W.Frag) (P : Addr) : Sp := fun vs H Q _ => ∃ (n : Nat) (x : V) (b : Bool), vs = [.int n, x] ∧ TurnX K H n x b ∧ GxR.TabG H P ∧ ∀ H', Kp H H' → Q (.bl b) H'
def spTurnsX (K : PySem.W.Frag) (P P2 : Addr) : Sp := fun vs H Q _ => ∃ (n : Nat) (x : V) (b : Bool), vs = [.int n, x] ∧ TurnsX K H n x b ∧ GxR.TabG H P ∧ GxR.TabG H P2 ∧ ∀ H', Kp H H' → Q (.bl b) H'
def spFaultX (K : PySem.W.Frag) (P P2 : Addr) : Sp := fun vs H Q _ => ∃ x r : V, vs = [x] ∧ FaultX K H x r ∧ GxR.TabG H P ∧ GxR.TabG H P2 ∧ ∀ H', Kp H H' → Q r H'
section
variable {P : Program} {w : World} {K : PySem.W.Frag} {mg : Str → Option Value} {base : Heap} {f : Addr} {fd : FuncData}
theorem has_numX (F : FnP K "is_number" sNumber f fd) (m : mg "is_number" = some (.ref f)) (B : Bl mg) : Has P w K mg base "is_number" 1 [] (spNumX K) := by
  refine ⟨f, fd, ["value", "least", "most"], [], m, F.kp, F.bindsN (fun _ _ _ _ _ _ us hl => match us, hl with | [_, _, _], _ => rfl), .nil, ?_⟩
  refine F.ok scNumber (fun vs H Q E h => ?_) (fun cdv A outer s H vs Q E hr h => ⟨_, PSs.nox (pss_one (ps_ret
    (pe_and (pe_callB call_isi rfl B.isinstance PyProof.Rows.boot_isinstance (pa_cons (pv 0) (pa_cons (pe_bltn (v := .ty "int") rfl B.int PyProof.Rows.boot_int rfl) pa_nil)))
    (pe_and (pe_not (pe_callB call_isi rfl B.isinstance PyProof.Rows.boot_isinstance (pa_cons (pv 0) (pa_cons (pe_bltn (v := .ty "bool") rfl B.bool PyProof.Rows.boot_bool rfl) pa_nil))))
    (pe_one (pe_chain op_le op_le (pv 1) (pv 0) (pv 2))))))), ?_⟩)
  · obtain ⟨x, lo, hi, b, rfl, _⟩ := h
    rfl
  · obtain ⟨x, lo, hi, b, rfl, ⟨i, rfl, rfl⟩ | ⟨⟨c, rfl⟩ | ⟨t, ty, k⟩, rfl⟩, q⟩ := h
    · refine ⟨_, rfl, _, _, _, _, true, rfl, .ty "int", .base (.int i), kit_ty (by decide +kernel), _, rfl, ?_⟩
      refine iteT (B := _) ⟨_, rfl, _, _, _, _, false, rfl, .ty "bool", .base (.int i), kit_ty (by decide +kernel), _, rfl, _, rfl, ?_⟩
      refine iteT (B := _) ⟨_, rfl, _, rfl, _, _, rfl, rfl, _, rfl, ?_⟩
      by_cases h1 : lo ≤ i
      · rw [if_pos (decide_eq_true h1)]
        refine ⟨_, rfl, _, _, rfl, rfl, ?_⟩
        have e : decide (lo ≤ i ∧ i ≤ hi) = decide (i ≤ hi) := by simp [h1]
        rw [e] at q
        exact q
      · rw [if_neg (by simp [h1])]
        have e : decide (lo ≤ i ∧ i ≤ hi) = false := by simp [h1]
        rw [← e]
        exact q
    · refine ⟨_, rfl, _, _, _, _, true, rfl, .ty "int", .base (.bl c), kit_ty (by decide +kernel), _, rfl, ?_⟩
      refine iteT (B := _) ⟨_, rfl, _, _, _, _, true, rfl, .ty "bool", .base (.bl c), kit_ty (by decide +kernel), _, rfl, _, rfl, ?_⟩
      exact iteF (A := _) q
    · refine ⟨_, rfl, _, _, _, _, false, rfl, .ty "int", ty H (Kp.refl H), kit_ty k, _, rfl, ?_⟩
      exact iteF (A := _) q
theorem has_turnX (F : FnP K "is_turn" sIsTurn f fd) (m : mg "is_turn" = some (.ref f)) (B : Bl mg) (hN : Has P w K mg base "is_number" 1 [] (spNumX K)) {c PT : Addr} (ec : fd.code = .ref c) (TB : GxR.TabB base mg c PT) : Has P w K mg base "is_turn" 3 [] (spTurnX K PT) := by
  refine ⟨f, fd, ["halls", "value"], [], m, F.kp, F.bindsN (fun _ _ _ _ _ _ us hl => match us, hl with | [_, _], _ => rfl), .nil, ?_⟩
  refine ok_code F scIsTurn (fun vs H Q E h => ?_) (fun cdv A outer s H vs Q E hcd hr h => ⟨_, PSs.nox (pss_cons (ps_if
      (PW.pt (pw_or (pt_not (pt_val (pe_callB call_isi rfl B.isinstance PyProof.Rows.boot_isinstance (pa_cons (pv 1) (pa_cons (pe_bltn (v := .ty "tuple") rfl B.tuple PyProof.Rows.boot_tuple rfl) pa_nil)))))
        (pw_or1 (pt_cmpR op_ne (pe_callB call_len_seq rfl B.len PySem.boot_len (pa_cons (pv 1) pa_nil)) (pv 0) (nomark _)))))
      (pss_one (ps_ret pe_bl)) pss_nil)
    (pss_one (ps_ret (pe_and (GA.pe_allG [("halls", 0)] hr rfl rfl B.all TB (hcd.trans ec) ⟨rfl, rfl, by decide +kernel, rfl, rfl, ?_⟩ (by decide +kernel) ?_ (pv 1) (fun C code A s H ex hr' => pe_has hN hr' (by decide) (pa_cons (pv 1) (pa_cons pe_int (pa_cons (pe_op op_sub (pv 2) pe_int) pa_nil)))))
      (pe_one (pe_cmpR op_eq (pe_callB cr_slen rfl B.len PySem.boot_len (pa_cons (pe_callTy (cr_isetOf rfl) rfl B.set PyProof.Rows.boot_set (pa_cons (pv 1) pa_nil)) pa_nil)) (pv 0) (nomark _))))))), ?_⟩)
  · obtain ⟨n, x, b, rfl, _⟩ := h
    rfl
  · exact free1 (x := "halls") (by decide +kernel) rfl
  · exact cap1 rfl rfl (.inl rfl)
  · obtain ⟨n, x, b, rfl, h, hG, q⟩ := h
    rcases h with ⟨⟨t, ty, k⟩, rfl⟩ | ⟨a, xs, rfl, hT, hl, rfl⟩ | ⟨a, xs, bs, rfl, hT, hl, hp, hf, rfl⟩ | ⟨a, t, rfl, hT, hl, hn, low, rfl⟩
    · refine ⟨_, rfl, _, _, _, _, false, rfl, .ty "tuple", ty H (Kp.refl H), kit_ty k, _, rfl, ?_⟩
      exact iteT (B := _) (ifT (A := _) (B := _) rfl (q H (Kp.refl H)))
    · refine ⟨_, rfl, _, _, _, _, true, rfl, .ty "tuple", tyx_T hT, kit_ty (by decide +kernel), _, rfl, ?_⟩
      refine iteF (A := _) ⟨_, rfl, a, _, rfl, .inr hT, _, rfl, rfl, _, rfl, ?_⟩
      exact ifT (A := _) (B := _) (by simp; omega) (q H (Kp.refl H))
    · refine ⟨_, rfl, _, _, _, _, true, rfl, .ty "tuple", tyx_T hT, kit_ty (by decide +kernel), _, rfl, ?_⟩
      refine iteF (A := _) ⟨_, rfl, a, _, rfl, .inr hT, _, rfl, rfl, _, rfl, ?_⟩
      rw [hl]
      refine ifF (A := _) (B := _) (by simp) ?_
      refine ⟨_, rfl, a, xs, rfl, hT, hG, fun i => bs.getD i true, fun i H' => Kp H H' ∧ ∀ j, j < i → bs.getD j true = true, fun H2 z => ⟨Kp.tab hG (by decide) z, fun j hj => absurd hj (Nat.not_lt_zero j)⟩, fun i H2 z => z.1.sqT hT, fun i v H2 it hv z => ?_, fun H2 z => ?_⟩
      · obtain ⟨b, hb, nx⟩ := pr_get hp hv
        have eb : bs.getD i true = b := by rw [List.getD_eq_getElem?_getD, hb]; rfl
        refine ⟨_, rfl, _, rfl, _, _, rfl, rfl, v, 0, (n : Int) - 1, b, rfl, nx.kp z.1, by show V.bl b = V.bl (bs.getD i true); rw [eb], fun e => ⟨z.1, fun j hj => ?_⟩, fun e => ⟨false, rfl, iteF (A := _) (q H2 z.1)⟩⟩
        rcases Nat.lt_succ_iff_lt_or_eq.mp hj with h | h
        · exact z.2 j h
        · rw [h]
          exact e
      · obtain ⟨j, hj⟩ := List.getElem?_of_mem hf
        have hj2 := (List.getElem?_eq_some_iff.mp hj).1
        have := z.2 j (by rw [hp.length]; exact hj2)
        rw [List.getD_eq_getElem?_getD, hj] at this
        cases this
    · have hl' : (t.map V.int).length = n := by rw [List.length_map, hl]
      refine ⟨_, rfl, _, _, _, _, true, rfl, .ty "tuple", tyx_T hT, kit_ty (by decide +kernel), _, rfl, ?_⟩
      refine iteF (A := _) ⟨_, rfl, a, _, rfl, .inr hT, _, rfl, rfl, _, rfl, ?_⟩
      rw [hl']
      refine ifF (A := _) (B := _) (by simp) ?_
      refine ⟨_, rfl, a, t.map V.int, rfl, hT, hG, fun _ => true, fun _ H' => Kp H H', fun H2 z => Kp.tab hG (by decide) z, fun i H2 z => z.sqT hT, fun i v H2 it hv z => ?_, fun H2 z => ⟨true, rfl, iteT (B := _) ?_⟩⟩
      · obtain ⟨k, hk, rfl⟩ := map_some hv
        have := low k (List.mem_of_getElem? hk)
        refine ⟨_, rfl, _, rfl, _, _, rfl, rfl, _, 0, (n : Int) - 1, true, rfl, .inl ⟨k, rfl, (decide_eq_true (by omega)).symm⟩, rfl, fun _ => z, fun e => by cases e⟩
      · refine ⟨_, rfl, a, t, rfl, .inr (z.sqT hT), by have : scanBound = 4096 := rfl; omega, fun b m hb hm => ?_⟩
        obtain ⟨D, nd, mem, le, iff⟩ := ddp t
        refine ⟨b, _, m, D, rfl, upd_same, nd, fun k => by simp [mem], _, rfl, rfl, ?_⟩
        have e : decide (V.int (D.length : Int) = V.int (n : Int)) = decide t.Nodup := decide_eq_decide.mpr ⟨fun e => iff.mp (by injection e with e; omega), fun e => by rw [iff.mpr e, hl]⟩
        show Q (.bl (decide (V.int (D.length : Int) = V.int (n : Int)))) _
        rw [e]
        exact q _ (z.new hb)
theorem has_turnsX (F : FnP K "are_turns" sAreTurns f fd) (m : mg "are_turns" = some (.ref f)) (B : Bl mg) (m6 : ∃ t, mg "MOST_TURNS" = some (.int 6 t)) {pT c PA : Addr} (hN : Has P w K mg base "is_turn" 3 [] (spTurnX K pT)) (ec : fd.code = .ref c) (TB : GxR.TabB base mg c PA) : Has P w K mg base "are_turns" 5 [] (spTurnsX K pT PA) := by
  obtain ⟨t6, m6⟩ := m6
  refine ⟨f, fd, ["halls", "value"], [], m, F.kp, F.bindsN (fun _ _ _ _ _ _ us hl => match us, hl with | [_, _], _ => rfl), .nil, ?_⟩
  refine ok_code F scAreTurns (fun vs H Q E h => ?_) (fun cdv A outer s H vs Q E hcd hr h => ⟨_, PSs.nox (pss_cons (ps_if
      (PW.pt (pw_or (pt_not (pt_val (pe_callB call_isi rfl B.isinstance PyProof.Rows.boot_isinstance (pa_cons (pv 1) (pa_cons (pe_bltn (v := .ty "tuple") rfl B.tuple PyProof.Rows.boot_tuple rfl) pa_nil)))))
        (pw_or1 (pt_not (pt_chain op_le op_le pe_int (pe_callB call_len_seq rfl B.len PySem.boot_len (pa_cons (pv 1) pa_nil)) (pe_glob (v := .int 6) rfl m6 ⟨_, rfl⟩))))))
      (pss_one (ps_ret pe_bl)) pss_nil)
    (pss_one (ps_ret (GA.pe_allG [("halls", 0)] hr rfl rfl B.all TB (hcd.trans ec) ⟨rfl, rfl, by decide +kernel, rfl, rfl, ?_⟩ (by decide +kernel) ?_ (pv 1) (fun C code A s H ex hr' => pe_has hN hr' (by decide) (pa_cons (pv 2) (pa_cons (pv 1) pa_nil))))))), ?_⟩)
  · obtain ⟨n, x, b, rfl, _⟩ := h
    rfl
  · exact free1 (x := "halls") (by decide +kernel) rfl
  · exact cap1 rfl rfl (.inl rfl)
  · obtain ⟨n, x, b, rfl, h, gT, gA, q⟩ := h
    rcases h with ⟨⟨t, ty, k⟩, rfl⟩ | ⟨a, xs, rfl, hT, hl, rfl⟩ | ⟨a, xs, bs, rfl, hT, h1, h6, hp, rfl⟩
    · refine ⟨_, rfl, _, _, _, _, false, rfl, .ty "tuple", ty H (Kp.refl H), kit_ty k, _, rfl, ?_⟩
      exact iteT (B := _) (ifT (A := _) (B := _) rfl (q H (Kp.refl H)))
    · refine ⟨_, rfl, _, _, _, _, true, rfl, .ty "tuple", tyx_T hT, kit_ty (by decide +kernel), _, rfl, ?_⟩
      refine iteF (A := _) ⟨_, rfl, a, _, rfl, .inr hT, _, _, rfl, rfl, _, rfl, ?_⟩
      rcases hl with hl | hl
      · refine ifF (A := _) (B := _) (decide_eq_false (by omega)) ?_
        exact ⟨_, rfl, ifT (A := _) (B := _) rfl (q H (Kp.refl H))⟩
      · refine ifT (A := _) (B := _) (decide_eq_true (by omega)) ⟨_, _, rfl, rfl, _, rfl, ?_⟩
        exact ifT (A := _) (B := _) (by rw [decide_eq_false (by omega)]; rfl) (q H (Kp.refl H))
    · refine ⟨_, rfl, _, _, _, _, true, rfl, .ty "tuple", tyx_T hT, kit_ty (by decide +kernel), _, rfl, ?_⟩
      refine iteF (A := _) ⟨_, rfl, a, _, rfl, .inr hT, _, _, rfl, rfl, _, rfl, ifT (A := _) (B := _) (decide_eq_true (by omega)) ⟨_, _, rfl, rfl, _, rfl, ?_⟩⟩
      refine ifF (A := _) (B := _) (by rw [decide_eq_true (by omega)]; rfl) ?_
      refine ⟨_, rfl, a, xs, rfl, hT, gA, fun i => bs.getD i true, fun i H' => Kp H H' ∧ ∀ j, j < i → bs.getD j true = true, fun H2 z => ⟨Kp.tab gA (by decide) z, fun j hj => absurd hj (Nat.not_lt_zero j)⟩, fun i H2 z => z.1.sqT hT, fun i v H2 it hv z => ?_, fun H2 z => ?_⟩
      · obtain ⟨b, hb, nx⟩ := pr_get hp hv
        have eb : bs.getD i true = b := by rw [List.getD_eq_getElem?_getD, hb]; rfl
        refine ⟨_, rfl, _, rfl, n, v, b, rfl, nx.kp z.1, z.1.tabG gT, fun H3 z3 => ⟨by show V.bl b = V.bl (bs.getD i true); rw [eb], fun e => ⟨z.1.trans z3, fun j hj => ?_⟩, fun e => ?_⟩⟩
        · rcases Nat.lt_succ_iff_lt_or_eq.mp hj with h | h
          · exact z.2 j h
          · rw [h]
            exact e
        · have : bs.all id = false := by
            have e : bs.getD i true = false := e
            rw [eb] at e
            subst e
            exact List.all_eq_false.mpr ⟨false, List.mem_of_getElem? hb, by simp⟩
          rw [this] at q
          exact q H3 (z.1.trans z3)
      · have : bs.all id = true := List.all_eq_true.mpr fun b hb => by
          obtain ⟨j, hj⟩ := List.getElem?_of_mem hb
          have hj2 := (List.getElem?_eq_some_iff.mp hj).1
          have := z.2 j (by rw [hp.length]; exact hj2)
          rw [List.getD_eq_getElem?_getD, hj] at this
          exact this
        rw [this] at q
        exact q H2 z.1
theorem has_faultX (F : FnP K "house_fault" sFault f fd) (m : mg "house_fault" = some (.ref f)) (B : Bl mg) (m8 : ∃ t, mg "MOST_HALLS" = some (.int 8 t)) {pT PA : Addr} (hN : Has P w K mg base "is_number" 1 [] (spNumX K)) (hA : Has P w K mg base "are_turns" 5 [] (spTurnsX K pT PA)) :
    Has P w K mg base "house_fault" 6 [] (spFaultX K pT PA) := by
  obtain ⟨t8, m8⟩ := m8
  refine ⟨f, fd, ["value"], [], m, F.kp, F.bindsN (fun _ _ _ _ _ _ us hl => match us, hl with | [_], _ => rfl), .nil, ?_⟩
  refine F.ok scFault (fun vs H Q E h => ?_) (fun cdv A outer s H vs Q E hr h => ⟨_, PSs.nox (pss_cons (ps_if
      (PW.pt (pw_or (pt_not (pt_val (pe_callB call_isi rfl B.isinstance PyProof.Rows.boot_isinstance (pa_cons (pv 0) (pa_cons (pe_bltn (v := .ty "tuple") rfl B.tuple PyProof.Rows.boot_tuple rfl) pa_nil)))))
        (pw_or1 (pt_cmpR op_ne (pe_callB call_len_seq rfl B.len PySem.boot_len (pa_cons (pv 0) pa_nil)) pe_int (nomark _)))))
      (pss_one (ps_ret pe_str)) pss_nil)
    (pss_cons (ps_asg (pv 0) (pg_tup rfl (pgs_cons (pg_name (i := 1) scFault.nd rfl (Or.inl rfl)) (pgs_cons (pg_name (i := 2) scFault.nd rfl (Or.inl rfl)) pgs_nil))))
    (pss_cons (ps_if (pt_not (pt_val (pe_has hN hr (by decide) (pa_cons (pv 1) (pa_cons pe_int (pa_cons (pe_glob (v := .int 8) rfl m8 ⟨_, rfl⟩) pa_nil)))))) (pss_one (ps_ret pe_str)) pss_nil)
    (pss_cons (ps_if (pt_not (pt_val (pe_has hA hr (by decide) (pa_cons (pv 1) (pa_cons (pv 2) pa_nil))))) (pss_one (ps_ret pe_str)) pss_nil)
    (pss_one (ps_ret pe_non)))))), ?_⟩)
  · obtain ⟨x, r, rfl, _⟩ := h
    rfl
  · obtain ⟨x, r, rfl, h, gT, gA, q⟩ := h
    rcases h with ⟨⟨t, ty, k⟩, rfl⟩ | ⟨a, xs, rfl, hT, hl, rfl⟩ | ⟨a, y, tv, rfl, hT, hy, rfl⟩ | ⟨a, n, tv, b, rfl, hT, h1, h8, hp, rfl⟩
    · refine ⟨_, rfl, _, _, _, _, false, rfl, .ty "tuple", ty H (Kp.refl H), kit_ty k, _, rfl, ?_⟩
      exact iteT (B := _) (ifT (A := _) (B := _) rfl (q H (Kp.refl H)))
    · refine ⟨_, rfl, _, _, _, _, true, rfl, .ty "tuple", tyx_T hT, kit_ty (by decide +kernel), _, rfl, ?_⟩
      refine iteF (A := _) ⟨_, rfl, a, _, rfl, .inr hT, rfl, _, rfl, ifT (A := _) (B := _) (by simp; omega) (q H (Kp.refl H))⟩
    · refine ⟨_, rfl, _, _, _, _, true, rfl, .ty "tuple", tyx_T hT, kit_ty (by decide +kernel), _, rfl, ?_⟩
      refine iteF (A := _) ⟨_, rfl, a, _, rfl, .inr hT, rfl, _, rfl, ifF (A := _) (B := _) (by show (!decide (V.int (2 : Int) = V.int 2)) = false; decide +kernel) ?_⟩
      refine ⟨_, rfl, a, _, rfl, hT, rfl, _, _, rfl, _, _, rfl, rfl, ?_⟩
      exact ⟨_, rfl, y, 1, 8, false, rfl, hy, _, rfl, ifT (A := _) (B := _) rfl (q H (Kp.refl H))⟩
    · refine ⟨_, rfl, _, _, _, _, true, rfl, .ty "tuple", tyx_T hT, kit_ty (by decide +kernel), _, rfl, ?_⟩
      refine iteF (A := _) ⟨_, rfl, a, _, rfl, .inr hT, rfl, _, rfl, ifF (A := _) (B := _) (by show (!decide (V.int (2 : Int) = V.int 2)) = false; decide +kernel) ?_⟩
      refine ⟨_, rfl, a, _, rfl, hT, rfl, _, _, rfl, _, _, rfl, rfl, ?_⟩
      refine ⟨_, rfl, .int n, 1, 8, true, rfl, .inl ⟨n, rfl, (decide_eq_true (by omega)).symm⟩, _, rfl, ifF (A := _) (B := _) rfl ?_⟩
      refine ⟨_, rfl, _, rfl, n, tv, b, rfl, hp, gT, gA, fun H' z => ?_⟩
      cases b with
      | true => exact ⟨_, rfl, ifF (A := _) (B := _) rfl (q H' z)⟩
      | false => exact ⟨_, rfl, ifT (A := _) (B := _) rfl (q H' z)⟩
/-- a house has no fault -/
theorem faultX_house {H : Hp} {v : V} {n : Nat} {ts : List (List Int)} (hv : HouseAt K H v n ts) (hi : IsH n ts) : FaultX K H v .non := by
  obtain ⟨a, tv, rfl, hT, b, xs, rfl, hT2, hp⟩ := hv
  have n8 := hi.n8
  refine .inr (.inr (.inr ⟨a, n, _, true, rfl, hT, hi.n1, hi.n8, .inr (.inr ⟨b, xs, ts.map fun _ => true, rfl, hT2, by rw [hp.length]; exact hi.t1, by rw [hp.length]; exact hi.t6, ?_, ?_⟩), rfl⟩))
  · have go : ∀ {xs : List V} {ts : List (List Int)}, Paired (TI K H) xs ts → (∀ t ∈ ts, IsT n t) → Paired (TurnX K H n) xs (ts.map fun _ => true) := by
      intro xs ts hp
      induction hp with
      | nil => intro _; exact .nil
      | cons p _ ih =>
        rename_i x t xs ts hh
        intro hi
        have it := hi _ List.mem_cons_self
        obtain ⟨c, rfl, hc⟩ := p
        exact .cons (.inr (.inr (.inr ⟨c, _, rfl, hc, it.len, by omega, it.low, (decide_eq_true it.nd).symm⟩))) (ih fun t h => hi t (List.mem_cons_of_mem _ h))
    exact go hp hi.is
  · exact (List.all_eq_true.mpr fun b hb => by
      obtain ⟨_, _, e⟩ := List.mem_map.mp hb
      rw [← e]
      rfl).symm
end
end NS
end
section
set_option maxHeartbeats 4000000
/-! R3: reached where it stops at most -/
namespace NS
open PySem PySem.Spec PyProof.Rows L2 ZS
/-- reached where more than most can be found: some and more than most, or all of it -/
def spReachedL (K : PySem.W.Frag) (P : Program) (w : World) (S : Addr → Option Sp) : Sp := fun vs H Q _ => ∃ (α : Type) (R : Rep K P w α) (step : α → List Int → α) (a0 : α) (ts : List (List Int)) (U : List α) (start tv most : V) (fl : Addr) (spl : Sp),
  vs = [start, tv, .ref fl, most] ∧ R.El H start a0 ∧ PTS K H tv ts ∧ S fl = some spl ∧
  a0 ∈ U ∧ (∀ a ∈ U, ∀ t ∈ ts, step a t ∈ U) ∧ ∃ lm : Nat, most = .int (lm : Int) ∧ 1 ≤ lm ∧ lm + ts.length + 1 < R.lim ∧
  (∀ H1 thing tw a t Q1, Kp H H1 → R.El H1 thing a → a ∈ U → TI K H1 tw t → t ∈ ts → (∀ v H2, Kp H1 H2 → R.El H2 v (step a t) → Q1 v H2) → spl [thing, tw] H1 Q1 (fun _ _ _ => False)) ∧
  ∀ p o H' vs' L, Kp H H' → H' p = some (.frz o (.tup vs')) → o.dict = none → Paired (R.El H') vs' L → L.Pairwise R.lt → L.Nodup → (∀ a ∈ L, Rch step ts a0 a) → ((∀ a, Rch step ts a0 a → a ∈ L) ∨ lm < L.length) → Q (.ref p) H'
/-- ahead of each turn of the while -/
def WRL (lm : Nat) {K : PySem.W.Frag} {P : Program} {w : World} {α : Type} (R : Rep K P w α) (step : α → List Int → α) (ts : List (List Int)) (a0 : α) (U : List α) (H : Hp) (start : V) (tb fl : Addr) (most : V) (sa wa : Addr) (m : Nat) (σ : L2.St) (H' : Hp) : Prop :=
  ∃ (L : List α) (ws : List V) (as : List α) (x y z : Option V), σ = [some start, some (.ref tb), some (.ref fl), some most, some (.ref sa), some (.ref wa), x, y, z] ∧ Kp H H' ∧ R.St H' sa L ∧ H' wa = some (.lst ws) ∧ Paired (R.El H') ws as ∧
    (∀ a ∈ as, a ∈ L) ∧ (∀ a ∈ L, Rch step ts a0 a) ∧ a0 ∈ L ∧ (∀ a ∈ L, a ∉ as → ∀ t ∈ ts, step a t ∈ L) ∧ m = 2 * (U.length - L.length) + as.length ∧ L.length ≤ lm + ts.length ∧ as.length ≤ L.length
/-- ahead of each turn of the for -/
def FRL (lm : Nat) {K : PySem.W.Frag} {P : Program} {w : World} {α : Type} (R : Rep K P w α) (step : α → List Int → α) (ts : List (List Int)) (a0 : α) (U : List α) (H : Hp) (start : V) (tb fl : Addr) (most : V) (sa wa : Addr) (v : V) (a : α) (m : Nat) (i : Nat) (σ : L2.St) (H' : Hp) : Prop :=
  ∃ (L : List α) (ws : List V) (as : List α) (y z : Option V), σ = [some start, some (.ref tb), some (.ref fl), some most, some (.ref sa), some (.ref wa), some v, y, z] ∧ Kp H H' ∧ R.El H' v a ∧ a ∈ L ∧ R.St H' sa L ∧ H' wa = some (.lst ws) ∧ Paired (R.El H') ws as ∧
    (∀ a ∈ as, a ∈ L) ∧ (∀ a ∈ L, Rch step ts a0 a) ∧ a0 ∈ L ∧ (∀ b ∈ L, b ∉ as → b ≠ a → ∀ t ∈ ts, step b t ∈ L) ∧ (∀ j, j < i → ∀ t, ts[j]? = some t → step a t ∈ L) ∧ 2 * (U.length - L.length) + as.length < m ∧ L.length ≤ lm + i ∧ as.length + 1 ≤ L.length
theorem FRL.kp {lm : Nat} {K : PySem.W.Frag} {P : Program} {w : World} {α : Type} {R : Rep K P w α} {step : α → List Int → α} {ts : List (List Int)} {a0 : α} {U : List α} {H : Hp} {start : V} {tb fl : Addr} {most : V} {sa wa : Addr} {v : V} {a : α} {m i : Nat} {σ : L2.St} {H' : Hp} (h : FRL lm R step ts a0 U H start tb fl most sa wa v a m i σ H') : Kp H H' := by
  obtain ⟨L, ws, as, y, z, _, zk, _⟩ := h
  exact zk
section
variable {P : Program} {w : World} {K : PySem.W.Frag} {mg : Str → Option Value} {base : Heap} {f : Addr} {fd : FuncData}
theorem ok_reachedL (F : FunD K "reached" "reached" (defArgs sReached) (defBody sReached) (defScope sReached) [.non] [] f fd) (B : Bl mg) {S : Addr → Option Sp} (A : ∀ f sp, S f = some sp → Held P w K mg base 2 f sp) :
    FnOk P w K mg base CX0 3 f fd ["start", "turns", "lead", "most"] (spReachedL K P w S) := by
  refine ok_code F scReached (fun vs H Q E h => ?_) (fun cdv A' outer s H vs Q E hcd hr h => ⟨_, PSs.nox (
    pss_cons (ps_set (i := 4) scReached.nd rfl (Or.inl rfl) (pe_one' hr.units (show PySem.W.kdsCode K cdv = true by rw [hcd]; exact kds_of (codeD F)) (pv 0)))
    (pss_cons (ps_set (i := 5) scReached.nd rfl (Or.inl rfl) (pe_lst (pa_cons (pv 0) pa_nil)))
    (pss_cons (ps_while PassesOwn.never (PW.pt (pw_and (pt_truth (pv 5) (fun _ => rfl)) (pw_and1 (PW.pt (pw_or (pt_cmp (pc_isN (pv 3))) (pw_or1 (pt_cmpR op_le (pe_callB cr_len' rfl B.len PySem.boot_len (pa_cons (pv 4) pa_nil)) (pv 3) (nomark _)))))))) 
      (pss_cons (ps_set (i := 6) scReached.nd rfl (Or.inl rfl) (pe_bm0 PySem.F.plainAttrs_list PySem.F.slot_list_pop PySem.F.type_list_pop mt_pop (pv 5)))
      (pss_one (ps_for PassesOwn.never rfl (pi_tup (pv 1)) (pg_name (i := 7) scReached.nd rfl (Or.inl rfl))
        (pss_cons (ps_set (i := 8) scReached.nd rfl (Or.inl rfl) (pe_callA (i := 2) A hr rfl (.inl rfl) (pa_cons (pv 6) (pa_cons (pv 7) pa_nil))))
        (pss_one (ps_if (pt_cmpR (op_nin hr.units) (pv 8) (pv 4) rfl)
          (pss_cons (ps_expr (pe_imp (pe_uadd hr.units (pv 4) (pa_cons (pv 8) pa_nil)) (fun _ _ _ h => uadd_of h))) (pss_one (ps_expr (pe_bm PySem.F.plainAttrs_list PySem.F.slot_list_append PySem.F.type_list_append mt_append (pv 5) (pa_cons (pv 8) pa_nil))))) pss_nil)))))))
    (pss_one (ps_ret (pe_callTy cr_tupP rfl B.tuple PyProof.Rows.boot_tuple (pa_cons (pe_callB (cr_sor rfl) rfl B.sorted PyProof.Rows.boot_sorted (pa_cons (pv 4) pa_nil)) pa_nil))))))), ?_⟩)
  · obtain ⟨α, R, step, a0, ts, U, start, tv, most, fl, spl, rfl, _⟩ := h
    rfl
  · classical
    obtain ⟨α, R, step, a0, ts, U, start, tv, most, fl, spl, rfl, h0, ⟨tb, tvs, rfl, hT, hp⟩, hS, u0, uc, lm, rfl, l1, ul, hl, q⟩ := h
    refine ⟨_, rfl, R.one h0 fun sa o hsa st1 => ?_⟩
    refine ⟨_, rfl, (by show 1 ≤ sizeLine; decide), fun wa hwa => ?_⟩
    have nws : wa ≠ sa := fun e => by rw [e, upd_same] at hwa; cases hwa
    have hwa0 : H wa = none := by rw [upd_ne nws] at hwa; exact hwa
    have tl := hp.length
    have Rb := R.big
    have inU : ∀ L : List α, (∀ b ∈ L, Rch step ts a0 b) → ∀ b ∈ L, b ∈ U := fun L h b hb => (h b hb).inU u0 uc
    refine ⟨WRL lm R step ts a0 U H start tb fl (.int (lm : Int)) sa wa, ⟨2 * (U.length - 1) + 1, [a0], [start], [a0], none, none, none, rfl, ((Kp.refl H).new hsa).put hwa0, R.st_tup (Tup.new hwa) (upd_ne nws.symm) st1, upd_same, .cons (R.el_tup ((Tup.new hsa).trans (Tup.new hwa)) h0) .nil, fun a h => h, fun a h => by rw [List.mem_singleton.mp h]; exact .base, List.mem_singleton.mpr rfl, fun a h h' => absurd h h', rfl, by show 1 ≤ lm + ts.length; omega, Nat.le_refl _⟩, ?_⟩
    rintro m σ H' ⟨L, ws, as, x, y, z, rfl, zk, st, hw, hp2, sub, rch, m0, cl, rfl, cap, asl⟩
    obtain ⟨os, hos, nos, ndL⟩ := R.st_some st
    have lU : L.length ≤ U.length := nd_le ndL (inU L rch)
    have hor : ∀ Qw : Bool → Hp → Prop, (L.length ≤ lm → Qw true H') → (lm < L.length → Qw false H') → tOr (tB (tIsN (tVar 3))) (tTest (tOp (rI0 fun i j => .bl (decide (i ≤ j))) (tCB (Len K P w) (tCons (tVar 4) tNil)) (tVar 3))) [some start, some (.ref tb), some (.ref fl), some (.int (lm : Int)), some (.ref sa), some (.ref wa), x, y, z] H' Qw := fun Qw hq hf => by
      refine ⟨_, rfl, _, rfl, ifF (A := _) (B := _) (decide_eq_false (fun e => by cases e)) ⟨_, rfl, R.len st ⟨_, rfl, _, _, rfl, rfl, _, rfl, ?_⟩⟩⟩
      by_cases hle : (L.length : Int) ≤ lm
      · rw [decide_eq_true hle]
        exact hq (by omega)
      · rw [decide_eq_false hle]
        exact hf (by omega)
    have fin : ((∀ a, Rch step ts a0 a → a ∈ L) ∨ lm < L.length) → tCB (fun xs H Q => ∃ p ys, xs = [.ref p] ∧ SqL K H p ys ∧ ∀ l o, H l = none → o.dict = none → Q (.ref l) (upd H l (.frz o (.tup ys)))) (tCons (tCB (Sor K P w) (tCons (tVar 4) tNil)) tNil) [some start, some (.ref tb), some (.ref fl), some (.int (lm : Int)), some (.ref sa), some (.ref wa), x, y, z] H' Q := fun hall => by
      refine ⟨_, rfl, R.sort st (by omega) fun p vs' L' pm pw hpn hpr => ⟨p, vs', rfl, SqL.of upd_same, fun l o2 hl2 ho2 => ?_⟩⟩
      exact q l o2 _ vs' L' ((zk.new hpn).new hl2) upd_same ho2 (pair_el R ((Tup.new hpn).trans (Tup.new hl2)) hpr) pw (pm.nodup_iff.mpr ndL) (fun a ha => rch a (pm.mem_iff.mp ha)) (hall.imp (fun h a ha => pm.mem_iff.mpr (h a ha)) (fun hlt => by rw [pm.length_eq]; exact hlt))
    refine ⟨_, rfl, _, .inl ⟨ws, SqL.of hw, rfl⟩, ?_⟩
    by_cases hws : ws = []
    · subst hws
      cases hp2
      refine ifF (A := _) (B := _) rfl (ifF (A := _) (B := _) rfl (fin (.inl fun a h => ?_)))
      induction h with
      | base => exact m0
      | next _ ht ih => exact cl _ ih List.not_mem_nil _ ht
    · refine ifT (A := _) (B := _) (by cases ws with | nil => exact absurd rfl hws | cons _ _ => rfl) (hor _ (fun lle => ifT (A := _) (B := _) rfl ?_) fun hm => ifF (A := _) (B := _) rfl (fin (.inr hm)))
      obtain ⟨v, a, ws', as', rfl, rfl, hva, hp3⟩ := pr_append hp2 hws
      refine ⟨fun σ' H'' => ∃ m', m' < 2 * (U.length - L.length) + (as' ++ [a]).length ∧ WRL lm R step ts a0 U H start tb fl (.int (lm : Int)) sa wa m' σ' H'', fun σ' H'' h => h, ?_⟩
      refine ⟨_, rfl, .inl ⟨rfl, _, SqL.of hw⟩, wa, _, v, rfl, rfl, hw, by simp, ?_⟩
      rw [List.dropLast_concat]
      have tz : Tup H' (upd H' wa (.lst ws')) := Tup.put (by rw [hw]; trivial)
      refine ⟨_, rfl, tb, rfl, ⟨_, (zk.put hwa0).sqT hT⟩, ?_⟩
      refine forG (Wlk.tup hT) (FRL lm R step ts a0 U H start tb fl (.int (lm : Int)) sa wa v a (2 * (U.length - L.length) + (as' ++ [a]).length)) ⟨L, ws', as', y, z, rfl, zk.put hwa0, R.el_tup tz hva, sub a (by simp), R.st_tup tz (upd_ne nws.symm) st, upd_same, pair_el R tz hp3, fun b hb => sub b (by simp [hb]), rch, m0, fun b hb h1 h2 => cl b hb (by simp [h1, h2]), fun j hj => absurd hj (Nat.not_lt_zero _), by rw [List.length_append]; simp, lle, by rw [List.length_append, List.length_singleton] at asl; omega⟩
        (fun i σ' H1 _ h => h.kp) (fun i tw σ' H1 H2 hi hpv z12 hx => ?_) (fun σ' H1 hpv => ?_)
      · obtain ⟨L4, ws4, as4, y4, z4, rfl, zk4, el4, ma, st4, hw4, hp4, sub4, rch4, m04, cl4, done4, ms, cap4, asl4⟩ := hpv
        obtain ⟨os4, hos4, nos4, nd4⟩ := R.st_some st4
        obtain ⟨t, ht, pt⟩ := pr_get hp hx
        have mt := List.mem_of_getElem? ht
        have lU4 : L4.length ≤ U.length := nd_le nd4 (inU L4 rch4)
        refine ⟨fl, spl, rfl, hS, _, rfl, _, rfl, hl _ _ _ a t _ (zk4.trans z12) (R.el_tup z12.tup el4) (inU L4 rch4 a ma) ((zk4.trans z12).ti pt) mt fun v' H4 z24 e4 => ?_⟩
        have zz := z12.trans z24
        have st5 := R.st_tup zz.tup ((zz.k _ _ hos4 nos4).trans hos4.symm) st4
        have hw5 := zz.lst hw4
        refine ⟨_, rfl, _, rfl, R.notin e4 st5 fun b hb => ⟨_, rfl, ?_⟩⟩
        by_cases hb1 : b = true
        · have na := hb.mp hb1
          have lU5 : (step a t :: L4).length ≤ U.length := nd_le (List.nodup_cons.mpr ⟨na, nd4⟩) (inU _ fun b hb => by
            rcases List.mem_cons.mp hb with e | e
            · rw [e]; exact .next (rch4 a ma) mt
            · exact rch4 b e)
          simp only [List.length_cons] at lU5
          refine ifT (A := _) (B := _) hb1 ⟨_, _, rfl, rfl, R.add e4 st5 na (by omega) fun o5 z5 st6 => ?_⟩
          have hw6 : (upd H4 sa o5) wa = some (.lst ws4) := by rw [upd_ne nws]; exact hw5
          have pl := hp4.length
          refine ⟨_, rfl, .inl ⟨rfl, _, SqL.of hw6⟩, _, rfl, wa, ws4, v', rfl, rfl, hw6, by rw [sizeLine_eq]; omega, ?_⟩
          have z6 : Tup (upd H4 sa o5) (upd (upd H4 sa o5) wa (.lst (ws4 ++ [v']))) := Tup.put (by rw [hw6]; trivial)
          have z46 := z5.trans z6
          refine ⟨step a t :: L4, ws4 ++ [v'], as4 ++ [step a t], _, _, rfl, ((zk4.trans zz).put hsa).put hwa0, R.el_tup (zz.tup.trans z46) el4, List.mem_cons_of_mem _ ma, R.st_tup z6 (upd_ne nws.symm) st6, upd_same, Paired.snoc (pair_el R (zz.tup.trans z46) hp4) (R.el_tup z46 e4), fun b hb => ?_, fun b hb => ?_, List.mem_cons_of_mem _ m04, fun b hb h1 h2 t' ht' => ?_, fun j hj t' ht' => ?_, ?_⟩
          · rcases List.mem_append.mp hb with e | e
            · exact List.mem_cons_of_mem _ (sub4 b e)
            · rw [List.mem_singleton.mp e]; exact List.mem_cons_self ..
          · rcases List.mem_cons.mp hb with e | e
            · rw [e]; exact .next (rch4 a ma) mt
            · exact rch4 b e
          · rcases List.mem_cons.mp hb with e | e
            · exact absurd (by rw [e]; simp) h1
            · exact List.mem_cons_of_mem _ (cl4 b e (fun h => h1 (by simp [h])) h2 t' ht')
          · rcases Nat.lt_succ_iff_lt_or_eq.mp hj with e | e
            · exact List.mem_cons_of_mem _ (done4 j e t' ht')
            · rw [e, ht] at ht'
              cases ht'
              exact List.mem_cons_self ..
          · rw [List.length_append, List.length_cons, List.length_singleton]
            refine ⟨by omega, by omega, by omega⟩
        · refine ifF (A := _) (B := _) (by simpa using hb1) ?_
          have ina : step a t ∈ L4 := Classical.not_not.mp fun h => hb1 (hb.mpr h)
          refine ⟨L4, ws4, as4, _, _, rfl, zk4.trans zz, R.el_tup zz.tup el4, ma, st5, hw5, pair_el R zz.tup hp4, sub4, rch4, m04, cl4, fun j hj t' ht' => ?_, ms, by omega, asl4⟩
          rcases Nat.lt_succ_iff_lt_or_eq.mp hj with e | e
          · exact done4 j e t' ht'
          · rw [e, ht] at ht'
            cases ht'
            exact ina
      · obtain ⟨L4, ws4, as4, y4, z4, rfl, zk4, el4, ma, st4, hw4, hp4, sub4, rch4, m04, cl4, done4, ms, cap4, asl4⟩ := hpv
        refine ⟨_, ms, L4, ws4, as4, _, _, _, rfl, zk4, st4, hw4, hp4, sub4, rch4, m04, fun b hb h1 t ht => ?_, rfl, by omega, by omega⟩
        by_cases e : b = a
        · obtain ⟨j, hj, e2⟩ := List.mem_iff_getElem.mp ht
          rw [e]
          exact done4 j (by rw [tl]; exact hj) t (by rw [List.getElem?_eq_getElem hj, e2])
        · exact cl4 b hb h1 e t ht
end
end NS
end
section
set_option maxHeartbeats 4000000
/-! X3: a dict of the module with whole numbers for keys and turns for values, told by the head -/
namespace NS
open PySem PySem.Spec PyProof.Rows L2 ZS
theorem valIB_ok : ∀ {vs : List Value} {t : List Int}, valIB vs t = true → Vals (t.map V.int) vs
  | [], [], _ => .nil
  | [], _ :: _, h => by cases h
  | v :: vs, [], h => by cases v <;> cases h
  | v :: vs, k :: ks, h => by
    unfold valIB at h
    split at h
    · rename_i e1 e2
      cases e1
    · rename_i j tk vs' k' ks' e1 e2
      cases e1
      cases e2
      simp only [Bool.and_eq_true, decide_eq_true_iff] at h
      obtain ⟨rfl, h⟩ := h
      exact .cons ⟨_, rfl⟩ (valIB_ok h)
    · cases h
theorem tupIB_ok {K : PySem.W.Frag} {a : Addr} {t : List Int} (h : tupIB K a t = true) (H : Hp) : TI K H (.ref a) t := by
  unfold tupIB at h
  split at h
  · rename_i o ho
    simp only [Bool.and_eq_true, decide_eq_true_iff] at h
    obtain ⟨hc, h⟩ := h
    split at h
    · rename_i its n hd
      simp only [Bool.and_eq_true, decide_eq_true_iff] at h
      exact ⟨a, rfl, .inr ⟨o, its, n, ho, hc, hd, h.1, valIB_ok h.2⟩⟩
    · cases h
  · cases h
theorem tupsB_ok {K : PySem.W.Frag} : ∀ {vs : List Value} {ts : List (List Int)}, tupsB K vs ts = true → ∃ xs : List V, Vals xs vs ∧ ∀ H, Paired (TI K H) xs ts
  | [], [], _ => ⟨[], .nil, fun _ => .nil⟩
  | [], _ :: _, h => by cases h
  | v :: vs, [], h => by cases v <;> cases h
  | v :: vs, t :: ts, h => by
    unfold tupsB at h
    split at h
    · rename_i e1 e2
      cases e1
    · rename_i a vs' t' ts' e1 e2
      cases e1
      cases e2
      simp only [Bool.and_eq_true] at h
      obtain ⟨xs, r, p⟩ := tupsB_ok h.2
      exact ⟨.ref a :: xs, .cons rfl r, fun H => .cons (tupIB_ok h.1 H) (p H)⟩
    · cases h
/-- at b lie these turns -/
def KTs (K : PySem.W.Frag) (b : Addr) (ts : List (List Int)) : Prop := ∀ H : Hp, ∃ xs, SqT K H b xs ∧ Paired (TI K H) xs ts
theorem tupTB_ok {K : PySem.W.Frag} {a : Addr} {ts : List (List Int)} (h : tupTB K a ts = true) : KTs K a ts := fun H => by
  unfold tupTB at h
  split at h
  · rename_i o ho
    simp only [Bool.and_eq_true, decide_eq_true_iff] at h
    obtain ⟨hc, h⟩ := h
    split at h
    · rename_i its n hd
      simp only [Bool.and_eq_true, decide_eq_true_iff] at h
      obtain ⟨xs, r, p⟩ := tupsB_ok h.2
      exact ⟨xs, .inr ⟨o, its, n, ho, hc, hd, h.1, r⟩, p H⟩
    · cases h
  · cases h
/-- a dict of turns -/
structure DicV (K : PySem.W.Frag) (d : Addr) (l : List (Int × List (List Int))) : Prop where
  ex : ∃ es n, K.lookup d = some ⟨.type "dict", none, .dict es n, #[]⟩ ∧ entB es.toList (l.map (·.1)) = true ∧ entV K es.toList l = true
  low : (d == sysModules) = false
theorem DicV.dicI {K : PySem.W.Frag} {d : Addr} {l : List (Int × List (List Int))} (D : DicV K d l) : DicI K d (l.map (·.1)) := let ⟨es, n, a, b, _⟩ := D.ex; ⟨⟨es, n, a, b⟩, D.low⟩
theorem dicVB_ok {K : PySem.W.Frag} {h : Heap} {mg : Str → Option Value} (X : K.In h) (G : h.Ns mainGlobals mg) {x : Str} {l : List (Int × List (List Int))} (e : dicVB K x l = true) : ∃ a, mg x = some (.ref a) ∧ DicV K a l := by
  unfold dicVB at e
  split at e
  · rename_i a hn
    split at e
    · rename_i o ho
      simp only [Bool.and_eq_true, decide_eq_true_iff, Bool.not_eq_true'] at e
      obtain ⟨⟨⟨⟨h1, h2⟩, h3⟩, h4⟩, e⟩ := e
      split at e
      · rename_i es n hd
        simp only [Bool.and_eq_true] at e
        obtain ⟨oc, od, dt, osl⟩ := o
        simp only at h1 h2 h3 hd
        subst h1 h2 h3 hd
        exact ⟨a, PySem.W.mg_of X G hn, ⟨es, n, ho, e.1, e.2⟩, h4⟩
      · cases e
    · cases e
  · cases e
theorem entV_find {K : PySem.W.Frag} {k : Int} {ts : List (List Int)} : ∀ {es : List DictEntry} {l : List (Int × List (List Int))}, entB es (l.map (·.1)) = true → entV K es l = true → l.lookup k = some ts → ∃ a, (es.find? fun e => Value.isInt k e.key).map (·.val) = some (.ref a) ∧ KTs K a ts
  | [], [], _, _, h => by cases h
  | [], _ :: _, hb, _, _ => by simp [entB] at hb
  | x :: es, [], hb, _, _ => by simp [entB] at hb
  | x :: es, (j, t) :: l, hb, hv, h => by
    rw [List.map_cons] at hb
    unfold entB at hb
    unfold entV at hv
    simp only [Bool.and_eq_true, decide_eq_true_iff] at hb hv
    obtain ⟨⟨⟨h1, h2⟩, h3⟩, h4⟩ := hb
    obtain ⟨v1, v2⟩ := hv
    have hk : Value.isInt k x.key = decide (j = k) := by
      split at h1
      · rename_i j' t q
        have := of_decide_eq_true h1
        subst this
        rw [q]
        by_cases e : j' = k
        · subst e; simp [Value.isInt]
        · rw [decide_eq_false e]
          simp [Value.isInt, e]
      · cases h1
    rw [List.find?_cons, hk]
    by_cases e : j = k
    · subst e
      rw [decide_eq_true rfl]
      have e2 : t = ts := by simpa [List.lookup] using h
      subst e2
      split at v1
      · rename_i a q
        exact ⟨a, by rw [← q]; rfl, tupTB_ok v1⟩
      · cases v1
    · rw [decide_eq_false e]
      refine entV_find h4 v2 ?_
      have : (k == j) = false := by simpa using fun h => e h.symm
      rw [List.lookup_cons, this] at h
      exact h
section
variable {X : Cx}
def rIxDV (K : PySem.W.Frag) : R2 := fun x y H Q => ∃ (k : Int) (d : Addr) (l : List (Int × List (List Int))) (ts : List (List Int)), x = .ref d ∧ y = .int k ∧ DicV K d l ∧ l.lookup k = some ts ∧ ∀ b, KTs K b ts → Q (.ref b) H
theorem ix_dicV : IxR X (rIxDV X.K) := by
  intro value slice pins s σ H x y v u Q I rx ry h hs
  obtain ⟨k, d, l, ts, rfl, rfl, D, hk, q⟩ := h
  obtain rfl : v = Value.ref d := rx
  obtain ⟨t, rfl⟩ := ry
  obtain ⟨es, n, hl, hb, hv⟩ := D.ex
  have hm : s.heap.MapOf (intKind X.prog X.w) d fun k => findBy Value.isInt es k := ⟨_, es, n, I.kIn _ _ hl, ⟨rfl, rfl, rfl⟩, rfl, fun e he => by
    obtain ⟨k, t, e1, e2⟩ := entB_key hb e (Array.mem_toList_iff.mpr he)
    exact ⟨k, by rw [e1]; exact intKind_is X.prog X.w k t, e2⟩, fun _ => rfl⟩
  obtain ⟨b, e, kt⟩ := entV_find (k := k) hb hv hk
  have e : findBy Value.isInt es k = some (.ref b) := by
    show Option.map (fun x : DictEntry => x.val) (Array.find? (fun e => Value.isInt k e.key) es) = _
    rw [← Array.find?_toList]
    exact e
  exact tail_any hm.typeIs slot_dict_getitem.lookup (wpAny_getItem_of (intKind_is X.prog X.w k t) hm e ⟨.ref b, H, I.tok _, rfl, q b kt⟩) hs
end
end NS
end
section
set_option maxHeartbeats 4000000
/-! N12: sharps, of any value -/
namespace NS
open PySem PySem.Spec PyProof.Rows L2 ZS
/-- all lists of k halls -/
def listsB (n : Nat) : Nat → List (List Int)
  | 0 => [[]]
  | k + 1 => (listsB n k).flatMap fun l => (List.range n).map fun i : Nat => (i : Int) :: l
theorem mem_listsB {n : Nat} : ∀ {k : Nat} {t : List Int}, t ∈ listsB n k ↔ t.length = k ∧ ∀ x ∈ t, 0 ≤ x ∧ x < (n : Int)
  | 0, t => by
    unfold listsB
    rw [List.mem_singleton]
    refine ⟨fun e => by rw [e]; exact ⟨rfl, fun x h => by cases h⟩, fun ⟨h, _⟩ => List.length_eq_zero_iff.mp h⟩
  | k + 1, t => by
    unfold listsB
    rw [List.mem_flatMap]
    constructor
    · rintro ⟨l, hl, h⟩
      obtain ⟨i, hi, rfl⟩ := List.mem_map.mp h
      obtain ⟨e, lo⟩ := mem_listsB.mp hl
      have := List.mem_range.mp hi
      refine ⟨by rw [List.length_cons, e], fun x hx => ?_⟩
      rcases List.mem_cons.mp hx with rfl | h
      · omega
      · exact lo x h
    · rintro ⟨e, lo⟩
      cases t with
      | nil => cases e
      | cons a l =>
        have ha := lo a List.mem_cons_self
        refine ⟨l, mem_listsB.mpr ⟨by rw [List.length_cons] at e; omega, fun x h => lo x (List.mem_cons_of_mem _ h)⟩, List.mem_map.mpr ⟨a.toNat, List.mem_range.mpr (by omega), ?_⟩⟩
        rw [show ((a.toNat : Nat) : Int) = a by omega]
def spIsHouseX (K : PySem.W.Frag) (pT pA : Addr) : Sp := fun vs H Q _ => ∃ x r : V, vs = [x] ∧ FaultX K H x r ∧ GxR.TabG H pT ∧ GxR.TabG H pA ∧ ∀ H', Kp H H' → Q (.bl (decide (r = .non))) H'
def spChkNumX (K : PySem.W.Frag) (C : Addr) : Sp := fun vs H Q E => ∃ (x : V) (lo hi : Int) (b : Bool), vs = [x, .int lo, .int hi] ∧ NumX K H lo hi x b ∧ (b = true → Q .non H) ∧ (b = false → E (.ref C) none H)
def spChkHallsX (K : PySem.W.Frag) (C : Addr) : Sp := fun vs H Q E => ∃ (x : V) (b : Bool), vs = [x] ∧ NumX K H 2 8 x b ∧ (b = true → Q .non H) ∧ (b = false → E (.ref C) none H)
def spSharpHX (K : PySem.W.Frag) (C : Addr) : Sp := fun vs H Q E => ∃ (x : V) (b : Bool), vs = [x] ∧ NumX K H 2 8 x b ∧ (b = false → E (.ref C) none H) ∧
  (b = true → ∀ i : Int, x = .int i → (i ∉ keysT → Q .non H) ∧ ∀ ts, turnsT.lookup i = some ts → ∀ p b, H p = none → KTs K b ts → Q (.ref p) (upd H p (.tup [.int i, .ref b])))
def spSharpG (K : PySem.W.Frag) (pT pA : Addr) : Sp := fun vs H Q _ => ∃ (v : V) (n : Nat) (ts : List (List Int)), vs = [v] ∧ HouseAt K H v n ts ∧ IsH n ts ∧ GxR.TabG H pT ∧ GxR.TabG H pA ∧ Whl n ts ∧
  ∀ b H' (LL : List (List (List Int))), Kp H H' → LL.Nodup → (∀ k, k ∈ LL ↔ Lots2 n ts k) → (∀ W : List (List Int), W.Nodup → (∀ x, x ∈ W ↔ Grp n ts x) → (b = true ↔ LL.length = 2 ∧ W.length = n * n - n)) → Q (.bl b) H'
def spShowsX (K : PySem.W.Frag) (pT pA : Addr) : Sp := fun vs H Q _ => ∃ (x : V) (n : Nat), vs = [.int n, x] ∧ 2 ≤ n ∧ n ≤ 8 ∧ GxR.TabG H pT ∧ GxR.TabG H pA ∧
  ((x = .non ∧ Q (.bl (!decide ((n : Int) ∈ keysT))) H) ∨ (∃ r, x ≠ .non ∧ FaultX K H x r ∧ r ≠ .non ∧ ∀ H', Kp H H' → Q (.bl false) H') ∨
  (∃ (m : Nat) (ts : List (List Int)), HouseAt K H x m ts ∧ IsH m ts ∧ m ≠ n ∧ ∀ H', Kp H H' → Q (.bl false) H') ∨
  (∃ ts : List (List Int), HouseAt K H x n ts ∧ IsH n ts ∧ ∀ b H', Kp H H' → (¬ Whl n ts ∧ b = false ∨ Whl n ts ∧ ∃ LL : List (List (List Int)), LL.Nodup ∧ (∀ k, k ∈ LL ↔ Lots2 n ts k) ∧ ∀ W : List (List Int), W.Nodup → (∀ x, x ∈ W ↔ Grp n ts x) → (b = true ↔ LL.length = 2 ∧ W.length = n * n - n)) → Q (.bl b) H'))
section
variable {P : Program} {w : World} {K : PySem.W.Frag} {mg : Str → Option Value} {base : Heap} {f : Addr} {fd : FuncData} {pT pA C : Addr} {S : Addr → Option Sp}
theorem fault_house (h : Has P w K mg base "house_fault" 6 [] (spFaultX K pT pA)) : Has P w K mg base "house_fault" 6 [] (spHouse K pT pA) :=
  h.imp fun vs H Q E ⟨v, n, ts, e, hv, hi, gT, gA, q⟩ => ⟨v, .non, e, faultX_house hv hi, gT, gA, q⟩
theorem has_ishouseX (F : FnP K "is_house" sIsHouse f fd) (m : mg "is_house" = some (.ref f)) (hF : Has P w K mg base "house_fault" 6 [] (spFaultX K pT pA)) : Has P w K mg base "is_house" 7 [] (spIsHouseX K pT pA) := by
  refine ⟨f, fd, ["value"], [], m, F.kp, F.bindsN (fun _ _ _ _ _ _ us hl => match us, hl with | [_], _ => rfl), .nil, ?_⟩
  refine F.ok scIsHouse (fun vs H Q E h => ?_) (fun cdv A outer s H vs Q E hr h => ⟨_, PSs.nox (
    pss_one (ps_ret (pe_cmp (pc_isN (pe_has hF hr (by decide) (pa_cons (pv 0) pa_nil)))))), ?_⟩)
  · obtain ⟨x, r, rfl, _⟩ := h
    rfl
  · obtain ⟨x, r, rfl, hx, gT, gA, q⟩ := h
    exact ⟨_, rfl, x, r, rfl, hx, gT, gA, fun H1 z1 => q H1 z1⟩
theorem has_chknumX (F : FnP K "check_number" sChkNum f fd) (m : mg "check_number" = some (.ref f)) (T : ExcC K mg "BadNumber" C) (hN : Has P w K mg base "is_number" 1 [] (spNumX K)) : HasX P w K mg base "check_number" 2 (spChkNumX K C) := by
  refine ⟨f, fd, ["value", "least", "most"], m, F.kp, F.bindsN (fun _ _ _ _ _ _ us hl => match us, hl with | [_, _, _], _ => rfl), ?_⟩
  refine F.ok scChkNum (fun vs H Q E h => ?_) (fun cdv A outer s H vs Q E hr h => ⟨_,
    pss_one (ps_if (pt_not (pt_val (pe_has hN hr (by decide) (pa_cons (pv 0) (pa_cons (pv 1) (pa_cons (pv 2) pa_nil)))))) (pss_one (ps_raise0 T (takes_of rfl rfl rfl rfl))) pss_nil), ?_⟩)
  · obtain ⟨x, lo, hi, b, rfl, _⟩ := h
    rfl
  · obtain ⟨x, lo, hi, b, rfl, hx, q, qe⟩ := h
    refine ⟨_, rfl, _, rfl, _, rfl, x, lo, hi, b, rfl, hx, ?_⟩
    cases b with
    | true => exact ⟨_, rfl, ifF (A := _) (B := _) rfl (q rfl)⟩
    | false => exact ⟨_, rfl, ifT (A := _) (B := _) rfl (qe rfl)⟩
theorem has_chkhallsX (F : FnP K "check_halls" sChkHalls f fd) (m : mg "check_halls" = some (.ref f)) (m2 : ∃ t, mg "FEWEST_HALLS" = some (.int 2 t)) (m8 : ∃ t, mg "MOST_HALLS" = some (.int 8 t)) (hN : HasX P w K mg base "check_number" 2 (spChkNumX K C)) : HasX P w K mg base "check_halls" 3 (spChkHallsX K C) := by
  obtain ⟨t2, m2⟩ := m2
  obtain ⟨t8, m8⟩ := m8
  refine ⟨f, fd, ["halls"], m, F.kp, F.bindsN (fun _ _ _ _ _ _ us hl => match us, hl with | [_], _ => rfl), ?_⟩
  refine F.ok scChkHalls (fun vs H Q E h => ?_) (fun cdv A outer s H vs Q E hr h => ⟨_,
    pss_one (ps_expr (pe_hasX hN hr (by decide) (takes_of rfl rfl rfl rfl) (pa_cons (pv 0) (pa_cons (pe_glob (v := .int 2) rfl m2 ⟨_, rfl⟩) (pa_cons (pe_glob (v := .int 8) rfl m8 ⟨_, rfl⟩) pa_nil))))), ?_⟩)
  · obtain ⟨x, b, rfl, _⟩ := h
    rfl
  · obtain ⟨x, b, rfl, hx, q, qe⟩ := h
    exact ⟨_, rfl, x, 2, 8, b, rfl, hx, q, qe⟩
theorem has_sharphX (F : FnP K "sharp_house" sSharpH f fd) (m : mg "sharp_house" = some (.ref f)) (hT : ∃ d, mg "TURNS" = some (.ref d) ∧ DicV K d turnsT) (hC : HasX P w K mg base "check_halls" 3 (spChkHallsX K C)) : HasX P w K mg base "sharp_house" 4 (spSharpHX K C) := by
  obtain ⟨d, mT, D⟩ := hT
  refine ⟨f, fd, ["halls"], m, F.kp, F.bindsN (fun _ _ _ _ _ _ us hl => match us, hl with | [_], _ => rfl), ?_⟩
  refine F.ok scSharpH (fun vs H Q E h => ?_) (fun cdv A outer s H vs Q E hr h => ⟨_,
    pss_cons (ps_expr (pe_hasX hC hr (by decide) (takes_of rfl rfl rfl rfl) (pa_cons (pv 0) pa_nil)))
    (PSs.nox (pss_cons (ps_if (pt_cmpR op_notInI (pv 0) (pe_glob (v := .ref d) rfl mT rfl) rfl) (pss_one (ps_ret pe_non)) pss_nil)
    (pss_one (ps_ret (pe_tup (pa_cons (pv 0) (pa_cons (pe_ix (r := rIxDV K) ix_dicV (pe_glob (v := .ref d) rfl mT rfl) (pv 0) (fun _ _ => rfl)) pa_nil))))))), ?_⟩)
  · obtain ⟨x, b, rfl, _⟩ := h
    rfl
  · obtain ⟨x, b, rfl, hx, qe, q⟩ := h
    refine ⟨_, rfl, x, b, rfl, hx, fun eb => ?_, qe⟩
    subst eb
    obtain ⟨i, rfl, hb⟩ | ⟨_, hb⟩ := hx
    · have hb := of_decide_eq_true hb.symm
      obtain ⟨q0, q1⟩ := q rfl i rfl
      refine ⟨_, rfl, i, d, keysT, rfl, rfl, D.dicI, _, rfl, ?_⟩
      by_cases hk : i ∈ keysT
      · refine ifF (A := _) (B := _) (by rw [decide_eq_true hk]; rfl) ?_
        obtain ⟨ts, hts⟩ : ∃ ts, turnsT.lookup i = some ts := by
          simp only [List.mem_cons, List.mem_nil_iff, or_false] at hk
          rcases hk with rfl | rfl | rfl | rfl | rfl | rfl <;> exact ⟨_, rfl⟩
        exact ⟨_, rfl, _, rfl, i, d, turnsT, ts, rfl, rfl, D, hts, fun b kt => ⟨(by show 2 ≤ sizeLine; decide), fun p hp => q1 ts hts p b hp kt⟩⟩
      · exact ifT (A := _) (B := _) (by rw [decide_eq_false hk]; rfl) (q0 hk)
    · cases hb
/-- check_whole of a whole house, whatever its group -/
theorem has_chkwholeG (F : FnP K "check_whole" sChkWhole f fd) (m : mg "check_whole" = some (.ref f)) (hT : Has P w K mg base "is_transitive" 9 [] (spTrans K pT pA)) : Has P w K mg base "check_whole" 10 [] (fun vs H Q _ => ∃ (v : V) (n : Nat) (ts : List (List Int)), vs = [v] ∧ HouseAt K H v n ts ∧ IsH n ts ∧ GxR.TabG H pT ∧ GxR.TabG H pA ∧ Whl n ts ∧ ∀ H', Kp H H' → Q .non H') := by
  refine ⟨f, fd, ["house"], [], m, F.kp, F.bindsN (fun _ _ _ _ _ _ us hl => match us, hl with | [_], _ => rfl), .nil, ?_⟩
  refine F.ok scChkWhole (fun vs H Q E h => ?_) (fun cdv A outer s H vs Q E hr h => ⟨_, PSs.nox (
    pss_one (ps_if (PW.pt (pw_or (pt_not (pt_val (pe_has hT hr (by decide) (pa_cons (pv 0) pa_nil)))) (pw_or1 (pt_cmpR op_lt (pe_ix (r := rIxT K) ix_tup (pv 0) pe_int (fun _ _ => rfl)) pe_int (nomark _))))) (pss_one ps_never) pss_nil)), ?_⟩)
  · obtain ⟨v, n, ts, rfl, _⟩ := h
    rfl
  · obtain ⟨v, n, ts, rfl, hv, hi, gT, gA, one, q⟩ := h
    refine ⟨_, rfl, v, n, ts, rfl, hv, hi, gT, gA, fun H1 LL z1 as => ?_⟩
    have e1 := one.2 LL as
    obtain ⟨a, tv, rfl, hT, hp⟩ := z1.house hv
    refine ⟨_, rfl, ?_⟩
    rw [decide_eq_true e1]
    refine ifF (A := _) (B := _) rfl ⟨_, rfl, a, _, 0, _, rfl, rfl, hT, rfl, _, _, rfl, rfl, _, rfl, ifF (A := _) (B := _) (decide_eq_false (by have := one.1; omega)) (q H1 z1)⟩
theorem has_sharpG (F : FnP K "is_sharp" sSharp f fd) (m : mg "is_sharp" = some (.ref f)) (B : Bl mg) {fT : Addr} (mT : mg "then" = some (.ref fT)) (sT : S fT = some (spThen K))
    (hC : Has P w K mg base "check_whole" 10 [] (fun vs H Q _ => ∃ (v : V) (n : Nat) (ts : List (List Int)), vs = [v] ∧ HouseAt K H v n ts ∧ IsH n ts ∧ GxR.TabG H pT ∧ GxR.TabG H pA ∧ Whl n ts ∧ ∀ H', Kp H H' → Q .non H'))
    (hK : Has P w K mg base "rank" 8 [] (spRank K pT pA)) (hS : Has P w K mg base "still" 1 [] spStill) (hR : Has P w K mg base "reached" 3 [] (spReachedL K P w S)) : Has P w K mg base "is_sharp" 11 [] (spSharpG K pT pA) := by
  refine ⟨f, fd, ["house"], [], m, F.kp, F.bindsN (fun _ _ _ _ _ _ us hl => match us, hl with | [_], _ => rfl), .nil, ?_⟩
  refine F.ok scSharp (fun vs H Q E h => ?_) (fun cdv A outer s H vs Q E hr h => ⟨_, PSs.nox (
    pss_cons (ps_expr (pe_has hC hr (by decide) (pa_cons (pv 0) pa_nil)))
    (pss_cons (ps_asg (pv 0) (pg_tup rfl (pgs_cons (pg_name (i := 1) scSharp.nd rfl (Or.inl rfl)) (pgs_cons (pg_name (i := 2) scSharp.nd rfl (Or.inl rfl)) pgs_nil))))
    (pss_cons (ps_set (i := 3) scSharp.nd rfl (Or.inl rfl) (pe_op op_mul (pv 1) (pe_op op_sub (pv 1) pe_int)))
    (pss_one (ps_ret (pe_and (pe_cmpR op_eq (pe_has hK hr (by decide) (pa_cons (pv 0) pa_nil)) pe_int (nomark _))
      (pe_one (pe_cmpR op_eq (pe_callB call_len_seq rfl B.len PySem.boot_len (pa_cons (pe_has hR hr (by decide) (pa_cons (pe_has hS hr (by decide) (pa_cons (pv 1) pa_nil)) (pa_cons (pv 2) (pa_cons (pe_glob (v := .ref fT) rfl mT rfl) (pa_cons (pv 3) pa_nil))))) pa_nil)) (pv 3) (nomark _))))))))), ?_⟩)
  · obtain ⟨v, n, ts, rfl, _⟩ := h
    rfl
  · obtain ⟨v, n, ts, rfl, hv0, hi, gT0, gA0, one, q⟩ := h
    refine ⟨_, rfl, v, n, ts, rfl, hv0, hi, gT0, gA0, one, fun H1 z1 => ?_⟩
    have hv := z1.house hv0
    have gT := z1.tabG gT0
    have gA := z1.tabG gA0
    have hv1 := hv
    obtain ⟨a, tv, rfl, hT, hp⟩ := hv
    have h1 := hi.n1
    have h8 := hi.n8
    have n2 := one.1
    have t6 := hi.t6
    refine ⟨_, rfl, a, _, rfl, hT, rfl, _, _, rfl, _, _, rfl, rfl, ?_⟩
    refine ⟨_, rfl, _, rfl, _, _, rfl, rfl, _, _, rfl, rfl, .inl ⟨by omega, by omega⟩, ?_⟩
    refine ⟨_, rfl, _, n, ts, rfl, hv1, hi, gT, gA, fun H2 LL z2 nd2 mem2 => ⟨rfl, _, rfl, ?_⟩⟩
    have d1 : decide (V.int (LL.length : Int) = V.int 2) = decide (LL.length = 2) := decide_eq_decide.mpr ⟨fun e => by injection e; omega, fun e => by rw [e]; rfl⟩
    rw [d1]
    by_cases e2 : LL.length = 2
    · refine ifT (A := _) (B := _) (decide_eq_true e2) ?_
      refine ⟨_, rfl, n, rfl, by omega, fun sv H3 z3 ps => ⟨_, rfl, _, rfl, ?_⟩⟩
      have pos := nn_pos n2
      have lm8 : n * n - n ≤ 56 := by
        have : n * n ≤ 8 * n := Nat.mul_le_mul_right n h8
        have : n * n - n = n * (n - 1) := by rw [Nat.mul_sub, Nat.mul_one]
        rw [this]
        exact Nat.le_trans (Nat.mul_le_mul h8 (show n - 1 ≤ 7 by omega)) (by decide)
      refine ⟨_, repT K P w, comp, idt n, ts, listsB n n, sv, tv, _, fT, _, rfl, elT ps (ne_len (idt_isT n) h1), NS.Tup.pts (z2.trans z3).tup hp, sT, mem_listsB.mpr ⟨(idt_isT n).len, (idt_isT n).low⟩, fun a ha t ht => ?_, n * n - n, by show V.int ((n : Int) * ((n : Int) - 1)) = _; rw [nn_int h1], pos, by show n * n - n + ts.length + 1 < 4096; omega, fun H4 th tw b t Q1 z4 el bU pt ht q1 => ?_, fun p o H4 vs' L z4 e4 d4 pr pw nd mem all => ?_⟩
      · obtain ⟨e, lo⟩ := mem_listsB.mp ha
        have tt := hi.is t ht
        refine mem_listsB.mpr ⟨by rw [comp_len, e], fun x hx => ?_⟩
        obtain ⟨k, hk, rfl⟩ := List.mem_map.mp hx
        have := lo k hk
        have := (tt.getD (i := k.toNat) (by omega))
        omega
      · obtain ⟨e, lo⟩ := mem_listsB.mp bU
        have tt := hi.is t ht
        refine ⟨th, tw, b, t, rfl, el.1, pt, by rw [tt.len]; exact lo, by omega, fun r H5 z5 p5 => q1 r H5 z5 (elT p5 fun e0 => ?_)⟩
        have := comp_len b t
        rw [e0, e] at this
        simp at this
        omega
      · refine ⟨p, vs', rfl, .inr (.inl (.inr ⟨o, e4⟩)), _, rfl, rfl, ?_⟩
        rw [pr.length]
        refine q _ H4 LL (((z1.trans z2).trans z3).trans z4) nd2 mem2 fun W ndW mW => ?_
        have sub : L.length ≤ W.length := nd_le nd fun x hx => (mW x).mpr (mem x hx)
        rw [decide_eq_true_iff]
        show V.int (L.length : Int) = V.int ((n : Int) * ((n : Int) - 1)) ↔ _
        rw [nn_int h1]
        constructor
        · intro e
          injection e with e
          refine ⟨e2, ?_⟩
          rcases all with h | hlt
          · have := nd_le ndW fun x hx => h x ((mW x).mp hx)
            omega
          · omega
        · rintro ⟨_, e⟩
          rcases all with h | hlt
          · have := nd_le ndW fun x hx => h x ((mW x).mp hx)
            rw [show L.length = n * n - n by omega]
          · omega
    · refine ifF (A := _) (B := _) (decide_eq_false e2) ?_
      exact q false H2 LL (z1.trans z2) nd2 mem2 fun W ndW mW => ⟨fun e => (by cases e), fun ⟨e, _⟩ => absurd e e2⟩
theorem has_showsX (F : FnP K "shows_sharp" sShowsS f fd) (m : mg "shows_sharp" = some (.ref f)) (hT : ∃ d, mg "TURNS" = some (.ref d) ∧ DicI K d keysT) (hC : Has P w K mg base "check_halls" 3 [] spChkHalls) (hI : Has P w K mg base "is_house" 7 [] (spIsHouseX K pT pA))
    (hR : Has P w K mg base "is_transitive" 9 [] (spTrans K pT pA)) (hS : Has P w K mg base "is_sharp" 11 [] (spSharpG K pT pA)) : Has P w K mg base "shows_sharp" 12 [] (spShowsX K pT pA) := by
  obtain ⟨d, mT, D⟩ := hT
  refine ⟨f, fd, ["halls", "value"], [], m, F.kp, F.bindsN (fun _ _ _ _ _ _ us hl => match us, hl with | [_, _], _ => rfl), .nil, ?_⟩
  refine F.ok scShowsS (fun vs H Q E h => ?_) (fun cdv A outer s H vs Q E hr h => ⟨_, PSs.nox (
    pss_cons (ps_expr (pe_has hC hr (by decide) (pa_cons (pv 0) pa_nil)))
    (pss_cons (ps_if (pt_cmp (pc_isN (pv 1))) (pss_one (ps_ret (pe_cmpR op_notInI (pv 0) (pe_glob (v := .ref d) rfl mT rfl) rfl))) pss_nil)
    (pss_one (ps_ret (pe_and (pe_has hI hr (by decide) (pa_cons (pv 1) pa_nil)) (pe_and (pe_cmpR op_eq (pe_ix (r := rIxT K) ix_tup (pv 1) pe_int (fun _ _ => rfl)) (pv 0) (nomark _)) (pe_and (pe_has hR hr (by decide) (pa_cons (pv 1) pa_nil)) (pe_one (pe_has hS hr (by decide) (pa_cons (pv 1) pa_nil)))))))))), ?_⟩)
  · obtain ⟨x, n, rfl, _⟩ := h
    rfl
  · obtain ⟨x, n, rfl, n2, n8, gT, gA, h⟩ := h
    refine ⟨_, rfl, (n : Int), rfl, by omega, by omega, ?_⟩
    rcases h with ⟨rfl, q⟩ | ⟨r, nn, hx, rn, q⟩ | ⟨k, ts, hv, hi, ne, q⟩ | ⟨ts, hv, hi, q⟩
    · refine ⟨_, rfl, _, rfl, ifT (A := _) (B := _) (decide_eq_true rfl) ?_⟩
      exact ⟨_, rfl, (n : Int), d, keysT, rfl, rfl, D, q⟩
    · refine ⟨_, rfl, _, rfl, ifF (A := _) (B := _) (decide_eq_false nn) ?_⟩
      refine ⟨_, rfl, x, r, rfl, hx, gT, gA, fun H1 z1 => ⟨_, rfl, ?_⟩⟩
      rw [decide_eq_false rn]
      exact iteF (A := _) (q H1 z1)
    · obtain ⟨a, tv, rfl, hT1, hp1⟩ := id hv
      refine ⟨_, rfl, _, rfl, ifF (A := _) (B := _) (decide_eq_false (fun e => by cases e)) ?_⟩
      refine ⟨_, rfl, .ref a, .non, rfl, faultX_house hv hi, gT, gA, fun H1 z1 => ⟨_, rfl, iteT (B := _) ?_⟩⟩
      refine ⟨_, rfl, a, _, 0, _, rfl, rfl, z1.sqT hT1, rfl, _, rfl, rfl, _, rfl, ?_⟩
      exact ifF (A := _) (B := _) (decide_eq_false fun e => by injection e with e; omega) (q H1 z1)
    · obtain ⟨a, tv, rfl, hT1, hp1⟩ := id hv
      refine ⟨_, rfl, _, rfl, ifF (A := _) (B := _) (decide_eq_false (fun e => by cases e)) ?_⟩
      refine ⟨_, rfl, .ref a, .non, rfl, faultX_house hv hi, gT, gA, fun H1 z1 => ⟨_, rfl, iteT (B := _) ?_⟩⟩
      refine ⟨_, rfl, a, _, 0, _, rfl, rfl, z1.sqT hT1, rfl, _, rfl, rfl, _, rfl, ?_⟩
      refine ifT (A := _) (B := _) (decide_eq_true rfl) ?_
      refine ⟨_, rfl, .ref a, n, ts, rfl, z1.house hv, hi, z1.tabG gT, z1.tabG gA, fun H2 LL z2 as => ⟨_, rfl, ?_⟩⟩
      have z12 := z1.trans z2
      by_cases e1 : LL.length = 1
      · have whl : Whl n ts := ⟨n2, fun LL' as' => by rw [Asc.uniq ltT_irr ltT_tr as' as]; exact e1⟩
        refine ifT (A := _) (B := _) (decide_eq_true e1) ?_
        exact ⟨_, rfl, .ref a, n, ts, rfl, z12.house hv, hi, z12.tabG gT, z12.tabG gA, whl, fun b H3 LL3 z3 nd mem hb => q b H3 (z12.trans z3) (.inr ⟨whl, LL3, nd, mem, hb⟩)⟩
      · rw [decide_eq_false e1]
        exact ifF (A := _) (B := _) rfl (q false H2 z12 (.inl ⟨fun whl => e1 (whl.2 LL as), rfl⟩))
end
end NS
end
section
set_option maxHeartbeats 4000000
/-! L15: _law_is_sharp -/
namespace NS
open PySem PySem.Spec PyProof.Rows L2 ZS
theorem scLSharp : FnScope ["house", "halls", "whole"] ["house"] (defScope sLSharp) := ⟨rfl, rfl, rfl, by decide +kernel, rfl, by decide +kernel, by decide +kernel⟩
def spLSharp (K : PySem.W.Frag) : Sp := fun vs H Q _ => ∃ (v : V) (n : Nat) (ts U : List (List Int)), vs = [v] ∧ HouseAt K H v n ts ∧ IsH n ts ∧ Room' n comp ts (idt n) U ∧
  ∀ b H', Kp H H' → (∀ (LL : List (List (List Int))) (W : List (List Int)), LL.Nodup → (∀ k, k ∈ LL ↔ Lots2 n ts k) → W.Nodup → (∀ x, x ∈ W ↔ Grp n ts x) → (b = true ↔ 1 < n ∧ LL.length = 2 ∧ W.length = n * n - n)) → Q (.bl b) H'
section
variable {P : Program} {w : World} {K : PySem.W.Frag} {mg : Str → Option Value} {base : Heap} {f : Addr} {fd : FuncData}
theorem has_lsharp (F : FnP K "_law_is_sharp" sLSharp f fd) (m : mg "_law_is_sharp" = some (.ref f)) (B : Bl mg) (hM : Has P w K mg base "_law_members" 1 [] (spLMembers K)) (hP : Has P w K mg base "_law_pairs" 1 [] (spLPairs K)) : Has P w K mg base "_law_is_sharp" 2 [] (spLSharp K) := by
  refine ⟨f, fd, ["house"], [], m, F.kp, F.bindsN (fun _ _ _ _ _ _ us hl => match us, hl with | [_], _ => rfl), .nil, ?_⟩
  refine F.ok scLSharp (fun vs H Q E h => ?_) (fun cdv A outer s H vs Q E hr h => ⟨_, PSs.nox (
    pss_cons (ps_par (i := 1) (j := 2) (by rfl) scLSharp.nd rfl rfl (by decide) rfl rfl (pa_cons (pe_ix (r := rIxT K) ix_tup (pv 0) pe_int (fun _ _ => rfl)) (pa_cons (pe_has hM hr (by decide) (pa_cons (pe_ix (r := rIxT K) ix_tup (pv 0) pe_int (fun _ _ => rfl)) (pa_cons (pe_ix (r := rIxT K) ix_tup (pv 0) pe_int (fun _ _ => rfl)) pa_nil))) pa_nil)) (by rfl))
    (pss_one (ps_ret (pe_and (pe_cmpR op_gt (pv 1) pe_int (nomark _)) (pe_and (pe_cmpR op_eq (pe_callB call_len_seq rfl B.len PySem.boot_len (pa_cons (pe_has hP hr (by decide) (pa_cons (pv 0) pa_nil)) pa_nil)) pe_int (nomark _))
      (pe_one (pe_cmpR op_eq (pe_callB call_len_seq rfl B.len PySem.boot_len (pa_cons (pv 2) pa_nil)) (pe_op op_mul (pv 1) (pe_op op_sub (pv 1) pe_int)) (nomark _)))))))), ?_⟩)
  · obtain ⟨v, n, ts, U, rfl, _⟩ := h
    rfl
  · obtain ⟨v, n, ts, U, rfl, hv, hi, rm, q⟩ := h
    have n1 := hi.n1
    have n8 := hi.n8
    obtain ⟨a, tv, rfl, hT, hp⟩ := id hv
    refine ⟨_, rfl, a, _, 0, _, rfl, rfl, hT, rfl, ?_⟩
    refine ⟨_, rfl, a, _, 1, _, rfl, rfl, hT, rfl, _, rfl, a, _, 0, _, rfl, rfl, hT, rfl, ?_⟩
    refine ⟨tv, n, ts, U, rfl, hp, n1, by omega, hi.is, rm, fun qm H1 us ks z1 hq pr nd mem => ?_⟩
    have ul := pr.length
    refine ⟨_, _, rfl, ?_⟩
    refine ⟨_, rfl, _, _, rfl, rfl, _, rfl, ?_⟩
    by_cases h1 : 1 < n
    · refine ifT (A := _) (B := _) (decide_eq_true (by omega)) ?_
      refine ⟨_, rfl, _, n, ts, rfl, z1.house hv, hi, fun qp H2 us2 LLp z2 hq2 pr2 pl cm l64 => ⟨qp, us2, rfl, .inl (SqL.of hq2), rfl, _, rfl, ?_⟩⟩
      have ul2 := pr2.length
      have dp : decide (V.int (us2.length : Int) = V.int 2) = decide (LLp.length = 2) := decide_eq_decide.mpr ⟨fun e => by injection e; omega, fun e => by rw [show us2.length = 2 by omega]; rfl⟩
      rw [dp]
      by_cases e2 : LLp.length = 2
      · refine ifT (A := _) (B := _) (decide_eq_true e2) ?_
        refine ⟨_, rfl, qm, us, rfl, .inl (SqL.of (z2.lst hq)), _, rfl, _, rfl, _, _, rfl, rfl, _, _, rfl, rfl, .inl ⟨by omega, by omega⟩, rfl, ?_⟩
        show Q (.bl (decide (V.int (us.length : Int) = V.int ((n : Int) * ((n : Int) - 1))))) H2
        refine q _ H2 (z1.trans z2) fun LL W ndL mL ndW mW => ?_
        rw [decide_eq_true_iff]
        show V.int (us.length : Int) = V.int ((n : Int) * ((n : Int) - 1)) ↔ _
        rw [nn_int n1]
        have eW : W.length = ks.length := Nat.le_antisymm (nd_le ndW fun x hx => (mem x).mpr ((mW x).mp hx)) (nd_le nd fun x hx => (mW x).mpr ((mem x).mp hx))
        rw [rank_eq hi.is ndL mL pl cm]
        refine ⟨fun e => ⟨h1, e2, ?_⟩, fun ⟨_, _, e⟩ => ?_⟩
        · injection e with e
          omega
        · rw [show us.length = n * n - n by omega]
      · refine ifF (A := _) (B := _) (decide_eq_false e2) ?_
        exact q false H2 (z1.trans z2) fun LL W ndL mL ndW mW => ⟨fun e => (by cases e), fun ⟨_, e, _⟩ => absurd (by rw [← rank_eq hi.is ndL mL pl cm]; exact e) e2⟩
    · refine ifF (A := _) (B := _) (decide_eq_false (by omega)) ?_
      exact q false H1 z1 fun LL W ndL mL ndW mW => ⟨fun e => (by cases e), fun ⟨e, _⟩ => absurd e h1⟩
end
end NS
end
section
set_option maxHeartbeats 4000000
/-! M16: rings whose lengths are powers of one prime -/
namespace NS
open PySem PySem.Spec PyProof.Rows L2 ZS
section
variable {n : Nat} {ts W : List (List Int)} {t ls : List Int} {LLp : List (List (List Int))}
end
end NS
end
section
set_option maxHeartbeats 4000000
/-! M15: cores -/
namespace NS
open PySem PySem.Spec PyProof.Rows L2 ZS
section
variable {n : Nat} {ts W : List (List Int)} {LLp : List (List (List Int))}
end
/-! ### == of lists of whole numbers -/
theorem dp_ints {K : PySem.W.Frag} {H : Hp} : ∀ l : List Int, DpAll K H (l.map V.int) (l.map .int)
  | [] => .nil
  | a :: l => .cons (.int a) (dp_ints l)
end NS
end
section
set_option maxHeartbeats 4000000
/-! L9: the law's order and powers -/
namespace NS
open PySem PySem.Spec PyProof.Rows L2 ZS
section
variable {P : Program} {w : World} {K : PySem.W.Frag} {mg : Str → Option Value} {base : Heap} {f : Addr} {fd : FuncData}
end
end NS
end
section
set_option maxHeartbeats 4000000
/-! TSetD1: tables from which rows were taken (dummies) -/
namespace ZS
open PySem PySem.Spec PyProof.Rows L2 TS
/-- a table, maybe with dummies, in which each hash's own way leads to its slot over full slots and dummies -/
structure TabD (t : SetTable) (hs : List Int) : Prop where
  up : Ris t.place.toList
  dup : Ris t.dummies.toList
  dj : ∀ j ∈ t.dummies.toList, j ∉ t.place.toList
  len : t.place.size = hs.length
  msk : Msk t.mask
  fill : t.place.size + t.dummies.size ≤ t.mask
  found : ∀ (i : Nat) (h : Int) (j : Nat), hs[i]? = some h → t.place.toList[i]? = some j → ∃ k, way t.mask h k = j ∧ ∀ n, n < k → way t.mask h n ∈ t.place.toList ∨ way t.mask h n ∈ t.dummies.toList
theorem Tab.toD {t : SetTable} {hs : List Int} (T : Tab t hs) (room : hs.length ≤ t.mask) : TabD t hs :=
  ⟨T.up, (by rw [T.nod]; exact List.Pairwise.nil), fun j h => (by rw [T.nod] at h; cases h), T.len, T.msk, (by rw [T.nod, T.len]; exact room), fun i h j h1 h2 => let ⟨k, e, f⟩ := T.found i h j h1 h2; ⟨k, e, fun n hn => .inl (f n hn)⟩⟩
section
variable {t : SetTable} {hs : List Int}
theorem TabD.gap (T : TabD t hs) (h : Int) : ∃ N, N ≤ 10 * (t.place.size + t.dummies.size + 12) ∧ way t.mask h N ∉ t.place.toList ∧ way t.mask h N ∉ t.dummies.toList ∧ ∀ n, n < N → way t.mask h n ∈ t.place.toList ∨ way t.mask h n ∈ t.dummies.toList := by
  have full : (t.place.toList ++ t.dummies.toList).length = t.place.size + t.dummies.size := by rw [List.length_append, Array.length_toList, Array.length_toList]
  obtain ⟨k, hk, free⟩ := way_out T.msk h (t.place.toList ++ t.dummies.toList) (by rw [full]; exact T.fill)
  obtain ⟨N, a, b, c⟩ := st_least (p := fun n => way t.mask h n ∉ t.place.toList ++ t.dummies.toList) k free
  rw [full] at hk
  exact ⟨N, by omega, fun z => b (List.mem_append_left _ z), fun z => b (List.mem_append_right _ z), fun n hn => List.mem_append.mp (Classical.byContradiction fun z => c n hn z)⟩
theorem TabD.ahead (T : TabD t hs) {h : Int} {N i j : Nat} (hN : way t.mask h N ∉ t.place.toList) (hD : way t.mask h N ∉ t.dummies.toList) (hi : hs[i]? = some h) (hj : t.place.toList[i]? = some j) : ∃ n, n < N ∧ way t.mask h n = j := by
  obtain ⟨k, ek, full⟩ := T.found i h j hi hj
  refine ⟨k, Nat.lt_of_not_le fun z => ?_, ek⟩
  rcases Nat.lt_or_eq_of_le z with z | z
  · exact (full N z).elim hN hD
  · rw [z, ek] at hN
    exact hN (List.mem_of_getElem? hj)
theorem toList_eraseAt {α : Type} (xs : Array α) (p : Nat) : (SetTable.eraseAt xs p).toList = xs.toList.take p ++ xs.toList.drop (p + 1) := by
  unfold SetTable.eraseAt
  rw [Array.toList_append]
  simp
  exact List.take_of_length_le (by simp)
theorem erase_list {α : Type} (l : List α) (p : Nat) : l.take p ++ l.drop (p + 1) = l.eraseIdx p := List.eraseIdx_eq_take_drop_succ l p |>.symm
/-- a row taken out -/
theorem TabD.drop (T : TabD t hs) {i j : Nat} (hj : t.place.toList[i]? = some j) : TabD (t.drop i) (hs.eraseIdx i) ∧ (t.drop i).mask = t.mask ∧ (t.drop i).led = t.led ∧ (t.drop i).plain = t.plain ∧ (t.drop i).place.size + (t.drop i).dummies.size = t.place.size + t.dummies.size := by
  have hj2 : t.place[i]? = some j := by rw [← Array.getElem?_toList]; exact hj
  have il : i < t.place.toList.length := (List.getElem?_eq_some_iff.mp hj).1
  have e : t.drop i = { t with place := SetTable.eraseAt t.place i, dummies := SetTable.insertAt t.dummies (SetTable.below t.dummies j) j } := by
    unfold SetTable.drop
    rw [hj2]
  have jin : j ∈ t.place.toList := List.mem_of_getElem? hj
  have hnd : j ∉ t.dummies.toList := fun h => T.dj j h jin
  have ep : (SetTable.eraseAt t.place i).toList = t.place.toList.eraseIdx i := by rw [toList_eraseAt, erase_list]
  have ed := SetTable.toList_insertAt t.dummies (SetTable.below t.dummies j) j
  have hle : SetTable.below t.dummies j ≤ t.dummies.toList.length := by
    obtain ⟨c1, _, _⟩ := below_cut T.dup j
    rw [Array.length_toList]
    exact c1
  have pd := put_perm t.dummies.toList (SetTable.below t.dummies j) j
  rw [← ed] at pd
  have md : ∀ x, x ∈ (SetTable.insertAt t.dummies (SetTable.below t.dummies j) j).toList ↔ x = j ∨ x ∈ t.dummies.toList := fun x => by rw [pd.mem_iff, List.mem_cons]
  have ndp : t.place.toList.Nodup := T.up.imp fun h e => by omega
  have mp : ∀ x, x ∈ t.place.toList.eraseIdx i ↔ x ∈ t.place.toList ∧ x ≠ j := fun x => by
    rw [List.mem_eraseIdx_iff_getElem?]
    constructor
    · rintro ⟨k, hk, e2⟩
      refine ⟨List.mem_of_getElem? e2, fun q => hk ?_⟩
      rw [q] at e2
      rcases Nat.lt_trichotomy k i with c | c | c
      · exact absurd (ris_lt T.up e2 hj c) (Nat.lt_irrefl _)
      · exact c
      · exact absurd (ris_lt T.up hj e2 c) (Nat.lt_irrefl _)
    · rintro ⟨hx, hne⟩
      obtain ⟨k, hk, e2⟩ := List.getElem_of_mem hx
      have e3 : t.place.toList[k]? = some x := by rw [List.getElem?_eq_getElem hk, e2]
      refine ⟨k, fun q => hne ?_, e3⟩
      rw [q, hj] at e3
      exact (Option.some.inj e3).symm
  have un : ∀ x, (x ∈ t.place.toList ∨ x ∈ t.dummies.toList) → x ∈ t.place.toList.eraseIdx i ∨ x ∈ (SetTable.insertAt t.dummies (SetTable.below t.dummies j) j).toList := fun x hx => by
    by_cases q : x = j
    · exact .inr ((md x).mpr (.inl q))
    · rcases hx with h | h
      · exact .inl ((mp x).mpr ⟨h, q⟩)
      · exact .inr ((md x).mpr (.inr h))
  have sz1 : (SetTable.eraseAt t.place i).size = t.place.size - 1 := by
    rw [← Array.length_toList, ep, List.length_eraseIdx_of_lt il, Array.length_toList]
  have sz2 : (SetTable.insertAt t.dummies (SetTable.below t.dummies j) j).size = t.dummies.size + 1 := by
    rw [← Array.length_toList, pd.length_eq, List.length_cons, Array.length_toList]
  have sp : 0 < t.place.size := by rw [Array.length_toList] at il; omega
  have tot : (SetTable.eraseAt t.place i).size + (SetTable.insertAt t.dummies (SetTable.below t.dummies j) j).size = t.place.size + t.dummies.size := by omega
  rw [e]
  refine ⟨⟨?_, ris_insert T.dup fun h => hnd (List.mem_of_getElem? (by rw [Array.getElem?_toList]; exact h)), fun x hx => ?_, ?_, T.msk, ?_, fun i' h j' h1 h2 => ?_⟩, rfl, rfl, rfl, tot⟩
  · show Ris (SetTable.eraseAt t.place i).toList
    rw [ep]
    exact T.up.sublist (List.eraseIdx_sublist ..)
  · show x ∉ (SetTable.eraseAt t.place i).toList
    rw [ep, mp]
    rintro ⟨a, b⟩
    rcases (md x).mp hx with q | q
    · exact b q
    · exact T.dj x q a
  · show (SetTable.eraseAt t.place i).size = _
    have := T.len
    rw [sz1, List.length_eraseIdx_of_lt (by rw [← T.len]; rw [Array.length_toList] at il; exact il), T.len]
  · show (SetTable.eraseAt t.place i).size + (SetTable.insertAt t.dummies (SetTable.below t.dummies j) j).size ≤ t.mask
    rw [tot]
    exact T.fill
  · have h2 : (SetTable.eraseAt t.place i).toList[i']? = some j' := h2
    rw [ep, List.getElem?_eraseIdx] at h2
    rw [List.getElem?_eraseIdx] at h1
    have : ∃ i0 : Nat, hs[i0]? = some h ∧ t.place.toList[i0]? = some j' := by
      by_cases q : i' < i
      · rw [if_pos q] at h1 h2
        exact ⟨i', h1, h2⟩
      · rw [if_neg q] at h1 h2
        exact ⟨i' + 1, h1, h2⟩
    obtain ⟨i0, g1, g2⟩ := this
    obtain ⟨k, ek, f⟩ := T.found i0 h j' g1 g2
    refine ⟨k, ek, fun n hn => ?_⟩
    show _ ∈ (SetTable.eraseAt t.place i).toList ∨ _
    rw [ep]
    exact un _ (f n hn)
end
end ZS
end
section
set_option maxHeartbeats 4000000
/-! TSetD2: finding and discarding in a set from which rows were taken -/
namespace ZS
open PySem PySem.Spec PyProof.Rows L2 TS
structure SetD {P : Program} {w : World} {K : Type} [DecidableEq K] (Z : ZK P w K) (h : Heap) (a : Addr) (L : List (Addr × K)) (es : Array (Int × Value)) (ep : Nat) (t : SetTable) : Prop where
  obj : ∃ o, h.get? a = some o ∧ o.ExactSet ∧ o.data = .set es ep t
  row : es.toList = zrows Z L
  tab : TabD t (L.map fun p => Z.hash p.2)
  dif : (L.map (·.2)).Nodup
  tup : ∀ p ∈ L, Z.is h p.2 p.1
  pln : t.plain = true
  led : w.params.followText "set-order" = true ∨ t.led = true
  sum : t.place.size + t.dummies.size < zBound
section
variable {P : Program} {w : World} {K : Type} [DecidableEq K] {Z : ZK P w K} {A : Around} {E : Value → Shared → Prop} {s : Shared} {a : Addr} {L : List (Addr × K)} {es : Array (Int × Value)} {ep : Nat} {t : SetTable}
theorem SetZ.toD (R : SetZ Z s.heap a L es ep t) : SetD Z s.heap a L es ep t := ⟨R.obj, R.row, R.tab.toD (by have := R.room; rw [List.length_map]; omega), R.dif, R.tup, R.pln, R.led, (by have z := R.tab.len; have f := R.few; rw [List.length_map] at z; rw [R.tab.nod]; show t.place.size + 0 < _; omega)⟩
theorem SetD.size (R : SetD Z s.heap a L es ep t) : es.size = L.length := zrows_len R.row
theorem SetD.few (R : SetD Z s.heap a L es ep t) : L.length < zBound := by
  have z := R.tab.len
  have f := R.sum
  rw [List.length_map] at z
  omega
theorem SetD.fits (R : SetD Z s.heap a L es ep t) : t.fits es.size = true := by
  have h1 := R.tab.len
  have h2 := R.tab.fill
  rw [List.length_map] at h1
  unfold SetTable.fits SetTable.fill
  rw [R.size, ← h1]
  simp [h2]
theorem SetD.entry (R : SetD Z s.heap a L es ep t) {i : Nat} {p : Addr × K} (h : L[i]? = some p) : es[i]? = some (Z.hash p.2, Value.ref p.1) := by
  rw [← Array.getElem?_toList, R.row]
  show (L.map _)[i]? = _
  rw [List.getElem?_map, h]
  rfl
theorem SetD.steady (R : SetD Z s.heap a L es ep t) : ¬ t.gaveWay = true := by
  unfold SetTable.gaveWay
  rw [R.tab.msk.odd]
  decide
end
end ZS
end
section
set_option maxHeartbeats 4000000
/-! TSetD3: a set's copy, its walk, its tidying -/
namespace ZS
open PySem PySem.Spec PyProof.Rows L2 TS
section
variable {P : Program} {w : World} {K : Type} [DecidableEq K] {Z : ZK P w K} {A : Around} {E : Value → Shared → Prop} {s : Shared} {a : Addr} {L : List (Addr × K)} {es : Array (Int × Value)} {ep : Nat} {t : SetTable}
end
end ZS
end
section
set_option maxHeartbeats 4000000
/-! TSetD4: a set's copy -/
namespace ZS
open PySem PySem.Spec PyProof.Rows L2 TS
section
variable {P : Program} {w : World} {K : Type} [DecidableEq K] {Z : ZK P w K} {A : Around} {E : Value → Shared → Prop} {s : Shared} {a : Addr} {L : List (Addr × K)} {es : Array (Int × Value)} {ep : Nat} {t : SetTable}
theorem SetD.empty (Z : ZK P w K) {h : Heap} {r : Addr} (hr : h.get? r = some { cls := .type "set", dict := none, data := .set #[] 0 (.fresh 0 0 (!w.params.followText "set-order")) }) :
    SetD Z h r [] #[] 0 (.fresh 0 0 (!w.params.followText "set-order")) ∧ Tab (.fresh 0 0 (!w.params.followText "set-order")) [] := by
  have T : Tab (.fresh 0 0 (!w.params.followText "set-order")) [] := ⟨List.Pairwise.nil, rfl, rfl, ⟨3, by decide, by decide, rfl⟩, fun z hz => (by cases hz), fun i h j hi => (by simp at hi)⟩
  refine ⟨⟨⟨_, hr, ⟨rfl, rfl, rfl⟩, rfl⟩, rfl, T.toD (Nat.zero_le _), List.nodup_nil, fun p hp => (by cases hp), rfl, ?_, (by show 0 + 0 < 9000; decide)⟩, T⟩
  show _ ∨ (!w.params.followText "set-order") = true
  cases w.params.followText "set-order"
  · exact .inr rfl
  · exact .inl rfl
theorem SetZ.same (R : SetZ Z s.heap a L es ep t) {r : Addr} {h' : Heap} {o : Obj} {es1 : Array (Int × Value)} {ep1 : Nat} {t1 : SetTable} (hne : a ≠ r) (ho : s.heap.get? r = some o) (hd : o.data = .set es1 ep1 t1) (sb : Heap.SameBut r s.heap h') : SetZ Z h' a L es ep t := by
  obtain ⟨oa, hoa, he, hda⟩ := R.obj
  exact ⟨⟨oa, (sb.2 a hne).trans hoa, he, hda⟩, R.row, R.tab, R.dif, fun p hp => zsame (R.tup p hp) ho hd sb, R.pln, R.led, R.room, R.few⟩
end
end ZS
end
section
set_option maxHeartbeats 4000000
/-! TSetD5: the difference of two sets -/
namespace ZS
open PySem PySem.Spec PyProof.Rows L2 TS
theorem erase_map {α β : Type} (f : α → β) (l : List α) (i : Nat) : (l.eraseIdx i).map f = (l.map f).eraseIdx i := by
  rw [List.eraseIdx_eq_take_drop_succ, List.eraseIdx_eq_take_drop_succ, List.map_append, List.map_take, List.map_drop]
section
variable {P : Program} {w : World} {K : Type} [DecidableEq K] {Z : ZK P w K} {A : Around} {E : Value → Shared → Prop} {s : Shared} {a b : Addr} {La Lb L : List (Addr × K)} {esa esb es : Array (Int × Value)} {epa epb ep : Nat} {ta tb t : SetTable}
theorem SetD.type (R : SetD Z s.heap a L es ep t) : s.TypeIs (.ref a) "set" := by
  obtain ⟨o, ho, hex, hd⟩ := R.obj
  exact ⟨o, ho, hex.1⟩
end
end ZS
end
section
set_option maxHeartbeats 4000000
/-! TSetD6: the difference of two sets, as a whole -/
namespace ZS
open PySem PySem.Spec PyProof.Rows L2 TS
section
variable {P : Program} {w : World} {K : Type} [DecidableEq K] {Z : ZK P w K} {A : Around} {E : Value → Shared → Prop} {s : Shared} {a b : Addr} {La Lb L : List (Addr × K)} {esa esb es : Array (Int × Value)} {epa epb ep : Nat} {ta tb t : SetTable}
theorem SetZ.push (R : SetZ Z s.heap a L es ep t) (o : Obj) : SetZ Z (s.heap.push o) a L es ep t := by
  obtain ⟨oa, hoa, he, hda⟩ := R.obj
  exact ⟨⟨oa, Heap.get?_push_of_some _ hoa, he, hda⟩, R.row, R.tab, R.dif, fun p hp => Z.keep (R.tup p hp) fun c oc vs n hc _ => Heap.get?_push_of_some _ hc, R.pln, R.led, R.room, R.few⟩
theorem SetZ.off (R : SetZ Z s.heap a L es ep t) : s.heap.objs.size ≠ a := by
  obtain ⟨o, ho, _⟩ := R.obj
  exact Nat.ne_of_gt (Heap.lt_size ho)
end
end ZS
end
section
set_option maxHeartbeats 4000000
/-! TSetD7: what `a - b` gives as a tracked thing; its length, its sorting -/
namespace ZS
open PySem PySem.Spec PyProof.Rows L2 TS PpSet
/-- a set of which is known no more than its rows -/
structure SetW (P : Program) (w : World) (h : Heap) (a : Addr) (L : List (Addr × NK)) (es : Array (Int × Value)) (ep : Nat) (t : SetTable) : Prop where
  obj : ∃ o, h.get? a = some o ∧ o.ExactSet ∧ o.data = .set es ep t
  row : es.toList = zrows (zk P w) L
  up : Ris t.place.toList
  fits : t.fits es.size = true
  dif : (L.map (·.2)).Nodup
  led : w.params.followText "set-order" = true ∨ t.led = true
theorem SetW.size {P : Program} {w : World} {h : Heap} {a : Addr} {L : List (Addr × NK)} {es : Array (Int × Value)} {ep : Nat} {t : SetTable} (R : SetW P w h a L es ep t) : es.size = L.length := zrows_len R.row
def SetW0 (P : Program) (w : World) (h : Heap) (a : Addr) (L : List (Addr × NK)) : Prop := ∃ es ep t, SetW P w h a L es ep t
def WSet (P : Program) (w : World) (a : Addr) (L : List (Addr × NK)) : HO := .ext fun h => SetW0 P w h a L
theorem SetW0.laid {P : Program} {w : World} {h : Heap} {a : Addr} {L : List (Addr × NK)} (R : SetW0 P w h a L) (H : Hp) : ObjOk P w H h a (WSet P w a L) := by
  have ⟨es, ep, t, R0⟩ := R
  obtain ⟨o, ho, _⟩ := R0.obj
  refine ⟨R, ⟨o, ho⟩, fun h1 h2 p k => ?_⟩
  have ⟨es', ep', t', R'⟩ := (show SetW0 P w h1 a L from p)
  obtain ⟨o', ho', r'⟩ := R'.obj
  exact ⟨es', ep', t', ⟨o', k o' ho', r'⟩, R'.row, R'.up, R'.fits, R'.dif, R'.led⟩
section
variable {X : Cx} {pins : List (Addr × Obj)} {σ : L2.St} {H : Hp} {s : Shared} {a b : Addr} {L : List (Addr × NK)}
end
section
variable {X : Cx}
end
end ZS
end
section
set_option maxHeartbeats 4000000
/-! RSetT: set of a tuple of keys; set of nothing -/
namespace ZS
open PySem PySem.Spec PyProof.Rows L2 PpSet
section
variable {P : Program} {w : World} {A : Around} {E : Value → Shared → Prop} {s : Shared}
end
section
variable {X : Cx} {pins : List (Addr × Obj)} {σ : L2.St} {H : Hp}
end
end ZS
end
section
set_option maxHeartbeats 4000000
/-! N5: covers -/
namespace NS
open PySem PySem.Spec PyProof.Rows L2 ZS
theorem Kp.with {H H' : Hp} (z : Kp H H') {p : Addr} {o : HO} (h : H' p = some o) (n : ∀ ps, o ≠ .tbl ps) : Kp (upd H p o) H' := by
  refine ⟨fun b u e q => ?_, fun b ps e => ?_⟩
  · by_cases c : b = p
    · rw [c, upd_same] at e
      rw [c, h, e]
    · rw [upd_ne c] at e
      exact z.k b u e q
  · by_cases c : b = p
    · rw [c, upd_same] at e
      exact absurd (Option.some.inj e) (n ps)
    · rw [upd_ne c] at e
      exact z.t b ps e
section
variable {P : Program} {w : World} {K : PySem.W.Frag} {mg : Str → Option Value} {base : Heap} {f : Addr} {fd : FuncData} {pT pA C : Addr} {S : Addr → Option Sp}
end
end NS
end
section
set_option maxHeartbeats 4000000
/-! N6: covers, asked of houses -/
namespace NS
open PySem PySem.Spec PyProof.Rows L2 ZS
/-- a value that is no turn of n halls by its kind or its length -/
def OddV (K : PySem.W.Frag) (H : Hp) (n : Nat) (x : V) : Prop := (∃ T : String, (∀ H', Kp H H' → TyX K H' x (.type T)) ∧ kitB T "tuple" = some false) ∨ ∃ a ys, x = .ref a ∧ SqT K H a ys ∧ ys.length ≠ n
/-- the turns without a like in M -/
structure UncL (ts L M D : List (List Int)) : Prop where
  pw : D.Pairwise ltT
  nd : D.Nodup
  mem : ∀ a, a ∈ D ↔ a ∈ L ∧ ¬ ∃ m ∈ M, Rch likeS ts m a
section
variable {P : Program} {w : World} {K : PySem.W.Frag} {mg : Str → Option Value} {base : Heap} {f : Addr} {fd : FuncData} {pT pA C : Addr} {S : Addr → Option Sp}
end
end NS
end
section
set_option maxHeartbeats 4000000
/-! N7: covers: counted, shown -/
namespace NS
open PySem PySem.Spec PyProof.Rows L2 ZS
theorem TupEl.kp {K : PySem.W.Frag} {H H' : Hp} (z : Kp H H') {r : V} {R : List (List Int)} (h : TupEl H (ElT K H) r R) : TupEl H' (ElT K H') r R := by
  obtain ⟨p1, o1, v1, e1, h1, d1, pr1⟩ := h
  exact ⟨p1, o1, v1, e1, z.k _ _ h1 (fun _ q => by cases q), d1, pr1.mono fun _ _ q => q.tup z.tup⟩
section
variable {P : Program} {w : World} {K : PySem.W.Frag} {mg : Str → Option Value} {base : Heap} {f : Addr} {fd : FuncData} {pT pA C : Addr} {S : Addr → Option Sp}
end
end NS
end
section
set_option maxHeartbeats 4000000
/-! N8: shows_uncovered -/
namespace NS
open PySem PySem.Spec PyProof.Rows L2 ZS
theorem OddV.kp {K : PySem.W.Frag} {H H' : Hp} (z : Kp H H') {n : Nat} {x : V} (h : OddV K H n x) : OddV K H' n x := by
  rcases h with ⟨T, h, k⟩ | ⟨a, ys, e, h, l⟩
  · exact .inl ⟨T, fun H2 z2 => h H2 (z.trans z2), k⟩
  · exact .inr ⟨a, ys, e, z.sqT h, l⟩
section
variable {P : Program} {w : World} {K : PySem.W.Frag} {mg : Str → Option Value} {base : Heap} {f : Addr} {fd : FuncData}
end
section
variable {P : Program} {w : World} {K : PySem.W.Frag} {mg : Str → Option Value} {base : Heap} {f : Addr} {fd : FuncData} {pT pA C : Addr} {S : Addr → Option Sp}
end
end NS
end
section
set_option maxHeartbeats 4000000
/-! L11: what law k12 wants besides -/
namespace NS
open PySem PySem.Spec PyProof.Rows L2 ZS
def dInts (l : List Int) : PyData := .tuple (l.map .int)
section
variable {P : Program} {w : World} {K : PySem.W.Frag} {mg : Str → Option Value} {base : Heap} {f : Addr} {fd : FuncData}
end
theorem TupEl.kpb {K : PySem.W.Frag} {r : Addr} {H H' : Hp} (z : KpB r H H') {x : V} {R : List (List Int)} (h : TupEl H (ElT K H) x R) : TupEl H' (ElT K H') x R := by
  obtain ⟨p1, o1, v1, e1, h1, d1, pr1⟩ := h
  exact ⟨p1, o1, v1, e1, z.k _ _ h1 (fun _ q => by cases q) (fun _ q => by cases q), d1, pr1.mono fun _ _ q => q.tup z.tup⟩
theorem house_dtA {K : PySem.W.Frag} {H : Hp} {n : Nat} {ts : List (List Int)} {v : V} (h : HouseAt K H v n ts) : IsDt K H (houseD (n, ts)) v := by
  obtain ⟨a, tv, rfl, hT, tb, xs, rfl, hs, pr⟩ := h
  refine dt_tup hT (dts_cons (dt_int _) (dts_cons (dt_tup hs ?_) dts_nil))
  clear hT hs
  show IsDts K H (ts.map dT) xs
  induction pr with
  | nil => exact dts_nil
  | cons e _ ih => exact dts_cons (NS.TI.dt e) ih
end NS
end
section
set_option maxHeartbeats 4000000
/-! N10: NotWhole -/
namespace NS
open PySem PySem.Spec PyProof.Rows L2 ZS
section
variable {P : Program} {w : World} {K : PySem.W.Frag} {mg : Str → Option Value} {base : Heap} {f : Addr} {fd : FuncData} {pT pA C : Addr}
end
end NS
end
section
set_option maxHeartbeats 4000000
/-! RLam: a lambda as a value, kept in a list, called in the frame that made it -/
namespace LamY
open PySem PySem.Spec PyProof.Rows L2 LamX
/-- the lambda's function, its defaults at dv -/
abbrev lf (q : Str) (params : Arguments) (body : Expr) (scope : Scope) (cl : List (Str × Addr)) (pm cdv ct dv : Value) : FuncData :=
  { name := "<lambda>", qualname := q, params, body := .expr body, scope, globals := mainGlobals, closure := cl, defaults := dv, kwdefaults := .none, doc := .none, pyModule := pm, annotations := none, code := cdv, closureTuple := ct, builtins := builtinsNs }
abbrev lo (q : Str) (params : Arguments) (body : Expr) (scope : Scope) (cl : List (Str × Addr)) (pm : Value) (c' : Addr) (ct dv : Value) : Obj :=
  { cls := .type "function", data := .func (lf q params body scope cl pm (.ref c') ct dv) }
section
variable {M : Model} {A : Around} {E : Value → Shared → Prop} {s : Shared} {qual : Str} {params : Arguments} {body : Expr} {scope : Scope} {env : Env} {c P : Addr} {ps : Array Value} {pos : Pos} {firstLine : Nat} {mg : Str → Option Value}
  {clos : List (Str × Addr)} {Q : Value → Shared → Prop} {dv : Value}
end
/-- the code objects that the table at P tells for lines behind 150 bear the name q -/
def TabL (H : Hp) (P : Addr) (q : Str) : Prop := ∃ ps : Array Value, H P = some (.tbl ps) ∧ TriplesOk ps.toList ∧ ∀ (p : Pos) (cv : Value), 150 < p.line → codeAmong p ps.toList = some cv → ∃ c, cv = .ref c ∧ H c = some (CodeO c q)
section
variable {X : Cx} {pins : List (Addr × Obj)} {σ : L2.St} {H : Hp} {s : Shared}
end
/-! ### calling it -/
/-- captured names and globals; a parameter that is no name of the maker's -/
structure LamZ (N : List Str) (sc scope : Scope) : Prop where
  kind : scope.kind = .function
  co : scope.isCoroutine = false
  gen : scope.isGenerator = false
  own : ∀ y ∈ scope.names, y.2 ≠ .cell ∧ (y.2 = .local → y.1 ∉ N)
  free : ∀ y ∈ scope.names, y.2 = .free → sc.names.lookup y.1 = some .cell ∨ sc.names.lookup y.1 = some .free
theorem LamZ.has {X : Cx} {scope : Scope} (L : LamZ X.N X.env.scope scope) (ok : X.Ok) : ∀ y ∈ scope.names, y.2 = .free → ∃ c, X.env.cells.lookup y.1 = some c := fun y hy e => by
  rcases L.free y hy e with k | k
  · exact ok.has _ (.inl k)
  · exact ok.has _ (.inr k)
section
variable {X : Cx} {pins : List (Addr × Obj)} {σ : L2.St} {H HZ : Hp} {s s1 : Shared}
end
end LamY
end
section
set_option maxHeartbeats 4000000
/-! L14: lambdas in a law -/
namespace NS
open PySem PySem.Spec PyProof.Rows L2 ZS LamY
/-- all but the table at P stands -/
structure KpL (P : Addr) (H H' : Hp) : Prop where
  e : LamX.ExtN H H'
  t : ∀ b ps, H b = some (.tbl ps) → b ≠ P → H' b = some (.tbl ps)
theorem KpL.tup {P : Addr} {H H' : Hp} (z : KpL P H H') : Tup H H' := ⟨fun c xs h => z.e c _ h (fun _ q => by cases q), fun c o u h => z.e c _ h (fun _ q => by cases q)⟩
theorem tabL_g {H : Hp} {P : Addr} {q : Str} (h : TabL H P q) : GxR.TabG H P := by
  obtain ⟨ps, hP, ht, _⟩ := h
  exact ⟨ps, hP, ht⟩
theorem tabG_l {P p : Addr} {q : Str} {H H' : Hp} (z : KpL P H H') (l : TabL H' P q) (h : GxR.TabG H p) : GxR.TabG H' p := by
  by_cases e : p = P
  · rw [e]; exact tabL_g l
  · obtain ⟨ps, h1, h2⟩ := h
    exact ⟨ps, z.t _ _ h1 e, h2⟩
theorem Sta.l {K : PySem.W.Frag} {H H' : Hp} {r sa : Addr} {v : V} {n : Nat} {ts : List (List Int)} {pT pA P : Addr} {q : Str} (h : Sta K H r sa v n ts pT pA) (z : KpL P H H') (l : TabL H' P q) : Sta K H' r sa v n ts pT pA := by
  obtain ⟨⟨⟨i, sd, rest, e, hr⟩, ns, hs⟩, hv, gT, gA⟩ := h
  refine ⟨⟨⟨i, sd, rest, z.e _ _ e (fun _ q => by cases q), hr⟩, ns, ?_⟩, NS.Tup.house z.tup hv, tabG_l z l gT, tabG_l z l gA⟩
  rcases hs with (h | ⟨o, h⟩) | h
  · exact .inl (.inl (z.e _ _ h (fun _ q => by cases q)))
  · exact .inl (.inr ⟨o, z.e _ _ h (fun _ q => by cases q)⟩)
  · exact .inr h
section
variable {X : Cx} {k : Nat} {t : XK → TE} {H H' : Hp} {v : V}
end
section
variable {X X0 : Cx}
end
end NS
end
section
set_option maxHeartbeats 4000000
/-! M17: parts, and what they cover -/
namespace NS
open PySem PySem.Spec PyProof.Rows L2 ZS
section
variable {n : Nat} {ts us U L M R D : List (List Int)}
end
end NS
end
section
set_option maxHeartbeats 4000000
/-! M18: what groups alike have alike; counts and their sums -/
namespace NS
open PySem PySem.Spec PyProof.Rows L2 ZS
section
variable {n : Nat} {ts L : List (List Int)}
theorem sq_rank (hT : ∀ t ∈ ts, IsT n t) (aL : Asc ltT (Grp n ts) L) {LL : List (List (List Int))} (nd : LL.Nodup) (mem : ∀ k, k ∈ LL ↔ Lots2 n ts k) : (L.map fun t => (keptL t).length * (keptL t).length).sum = L.length * LL.length := by
  obtain ⟨LLp, pl, cm⟩ := pl_ex (n := n) hT
  rw [sum_kept2 hT aL.nd aL.mem pl cm, rank_eq hT nd mem pl cm]
variable {m : List Int} {L' : List (List Int)}
theorem conj_perm (hm : IsT n m) (hT : ∀ t ∈ ts, IsT n t) (aL : Asc ltT (Grp n ts) L) (aL' : Asc ltT (Grp n (ts.map (conj m))) L') : L'.Perm (L.map (conj m)) := by
  have is : ∀ t ∈ L, IsT n t := fun t ht => grp_isT hT ((aL.mem t).mp ht)
  refine (List.perm_ext_iff_of_nodup aL'.nd (nodup_map aL.nd fun a ha b hb e => like_inj (is a ha) (is b hb) hm e)).mpr fun x => ?_
  rw [aL'.mem, grp_conj hm hT, List.mem_map]
  exact ⟨fun ⟨y, h, e⟩ => ⟨y, (aL.mem y).mpr h, e.symm⟩, fun ⟨y, h, e⟩ => ⟨y, (aL.mem y).mp h, e.symm⟩⟩
theorem conj_len (hm : IsT n m) (hT : ∀ t ∈ ts, IsT n t) (aL : Asc ltT (Grp n ts) L) (aL' : Asc ltT (Grp n (ts.map (conj m))) L') : L'.length = L.length := by
  rw [(conj_perm hm hT aL aL').length_eq, List.length_map]
theorem conj_is (hm : IsT n m) (hT : ∀ t ∈ ts, IsT n t) : ∀ t ∈ ts.map (conj m), IsT n t := fun t ht => by
  obtain ⟨u, hu, rfl⟩ := List.mem_map.mp ht
  exact IsT.conj hm (hT u hu)
theorem conj_room (hm : IsT n m) (hT : ∀ t ∈ ts, IsT n t) {U : List (List Int)} (rm : Room' n comp ts (idt n) U) : Room' n comp (ts.map (conj m)) (idt n) (U.map (conj m)) where
  a0 := List.mem_map.mpr ⟨idt n, rm.a0, conj_idt hm⟩
  cl := fun a ha t ht => by
    obtain ⟨b, hb, rfl⟩ := List.mem_map.mp ha
    obtain ⟨u, hu, rfl⟩ := List.mem_map.mp ht
    rw [← conj_comp hm (rm.is b hb) (hT u hu)]
    exact List.mem_map.mpr ⟨_, rm.cl b hb u hu, rfl⟩
  is := fun a ha => by
    obtain ⟨b, hb, rfl⟩ := List.mem_map.mp ha
    exact IsT.conj hm (rm.is b hb)
  few := by rw [List.length_map]; exact rm.few
end
end NS
end
section
set_option maxHeartbeats 4000000
/-! M19: groups worked out by hand -/
namespace NS
open PySem PySem.Spec PyProof.Rows L2 ZS
def isB (n : Nat) (t : List Int) : Bool := decide (t.length = n) && (t.all fun x => decide (0 ≤ x) && decide (x < (n : Int))) && decide t.Nodup
theorem isB_is {n : Nat} {t : List Int} (h : isB n t = true) : IsT n t := by
  unfold isB at h
  simp only [Bool.and_eq_true, decide_eq_true_iff, List.all_eq_true] at h
  exact ⟨h.1.1, fun x hx => h.1.2 x hx, h.2⟩
theorem isB_all {n : Nat} {ts : List (List Int)} (h : (ts.all fun t => isB n t) = true) : ∀ t ∈ ts, IsT n t := fun t ht => isB_is (List.all_eq_true.mp h t ht)
def grpB (p : Nat × List (List Int)) (L : List (List Int)) : Bool := (clK p).contains (idt p.1) && ((clK p).all fun a => p.2.all fun t => (clK p).contains (comp a t)) && decide (L.Pairwise ltT) && ((clK p).all fun a => L.contains a) && L.all fun a => (clK p).contains a
theorem pw_nd {α : Type} {lt : α → α → Prop} (irr : ∀ a, ¬ lt a a) {L : List α} (pw : L.Pairwise lt) : L.Nodup := by
  refine List.Pairwise.imp (S := fun a b => a ≠ b) (fun {a b} (h : lt a b) (e : a = b) => ?_) pw
  rw [e] at h
  exact irr b h
theorem grpB_asc {n : Nat} {ts L : List (List Int)} (h : grpB (n, ts) L = true) : Asc ltT (Grp n ts) L := by
  unfold grpB at h
  simp only [Bool.and_eq_true, decide_eq_true_iff, List.all_eq_true, List.contains_iff_mem] at h
  obtain ⟨⟨⟨⟨h1, h2⟩, h3⟩, h4⟩, h5⟩ := h
  refine ⟨h3, pw_nd ltT_irr h3, fun x => ⟨fun hx => ?_, fun hx => h4 x (hx.inU h1 fun a ha t ht => h2 a ha t ht)⟩⟩
  refine clo_sub (P := Grp n ts) (fun a ha t ht => .next ha ht) 200 _ _ (fun a ha => ?_) (fun a ha => ?_) x (h5 x hx)
  · rw [List.mem_singleton.mp ha]; exact .base
  · rw [List.mem_singleton.mp ha]; exact .base
section
variable {n : Nat} {ts L : List (List Int)}
theorem rank_of (hT : ∀ t ∈ ts, IsT n t) (aL : Asc ltT (Grp n ts) L) {R : Nat} (e : (L.map fun t => (keptL t).length * (keptL t).length).sum = L.length * R) {LL : List (List (List Int))} (nd : LL.Nodup) (mem : ∀ k, k ∈ LL ↔ Lots2 n ts k) : LL.length = R := by
  have h := sq_rank hT aL nd mem
  rw [e] at h
  exact (Nat.eq_of_mul_eq_mul_left (List.length_pos_of_mem ((aL.mem (idt n)).mpr .base)) h).symm
end
end NS
end
section
set_option maxHeartbeats 4000000
/-! L12: what is uncovered, asked by laws -/
namespace NS
open PySem PySem.Spec PyProof.Rows L2 ZS
def spNo (sp : Sp) : Sp := fun vs H Q _ => sp vs H Q fun _ _ _ => False
section
variable {P : Program} {w : World} {K : PySem.W.Frag} {mg : Str → Option Value} {base : Heap} {f : Addr} {fd : FuncData} {pT pA C : Addr}
theorem UncL.uniq {ts L Mi D D' : List (List Int)} (h : UncL ts L Mi D) (h' : UncL ts L Mi D') : D = D' := Asc.uniq ltT_irr ltT_tr (G := fun a => a ∈ L ∧ ¬ ∃ m ∈ Mi, Rch likeS ts m a) ⟨h.pw, h.nd, h.mem⟩ ⟨h'.pw, h'.nd, h'.mem⟩
theorem asc_some {G : List Int → Prop} (U : List (List Int)) (h : ∀ x, G x → x ∈ U) : ∃ M, Asc ltT G M := by
  classical
  obtain ⟨M0, nd0, mem0⟩ := nd_of U
  obtain ⟨k, pm, pw⟩ := asc_exists (lt := ltT) (fun a b c h1 h2 => lexI_tr a b c h1 h2) (fun a b h => by
    cases e : lexI a b with
    | true => exact .inl e
    | false =>
      cases e2 : lexI b a with
      | true => exact .inr e2
      | false => exact absurd (lexI_tot a b e e2) h) (M0.filter fun x => decide (G x)) (List.Pairwise.filter _ nd0)
  refine ⟨k, pw, pm.nodup_iff.mpr (List.Pairwise.filter _ nd0), fun x => ?_⟩
  rw [pm.mem_iff, List.mem_filter, decide_eq_true_eq, mem0]
  exact ⟨fun h => h.2, fun g => ⟨h x g, g⟩⟩
theorem asc_grp {n : Nat} {us U : List (List Int)} (rm : Room' n comp us (idt n) U) : ∃ M, Asc ltT (Grp n us) M := asc_some U fun x g => g.inU rm.a0 rm.cl
end
end NS
end
section
set_option maxHeartbeats 4000000
/-! M20: the written turns -/
namespace NS
open PySem PySem.Spec PyProof.Rows L2 ZS
def insT (x : List Int) : List (List Int) → List (List Int)
  | [] => [x]
  | y :: l => if ltT x y then x :: y :: l else y :: insT x l
def srtT (l : List (List Int)) : List (List Int) := l.foldr insT []
def tB7 (p : Int × List (List Int)) : Bool := decide (p.1 = (p.1.toNat : Int)) && decide (2 ≤ p.1.toNat) && decide (p.1.toNat ≤ 8) && decide (p.1.toNat ≠ 6) && decide (1 ≤ p.2.length) && decide (p.2.length ≤ 6) && (p.2.all fun t => isB p.1.toNat t) &&
  (decide (p.1.toNat ≤ 5) || (known.contains (p.1.toNat, p.2) && decide (p.2.map (conj (idt p.1.toNat)) = p.2))) && grpB (p.1.toNat, p.2) (srtT (clK (p.1.toNat, p.2))) && decide ((srtT (clK (p.1.toNat, p.2))).length = p.1.toNat * p.1.toNat - p.1.toNat) &&
  decide (((srtT (clK (p.1.toNat, p.2))).map fun t => (keptL t).length * (keptL t).length).sum = (srtT (clK (p.1.toNat, p.2))).length * 2) && decide (((srtT (clK (p.1.toNat, p.2))).map fun t => (keptL t).length).sum = (srtT (clK (p.1.toNat, p.2))).length)
theorem turns_ok : turnsT.all tB7 = true := by decide +kernel
theorem turns_mem {k : Int} {ts : List (List Int)} : ∀ {l : List (Int × List (List Int))}, l.lookup k = some ts → (k, ts) ∈ l
  | [], h => by cases h
  | (j, t) :: l, h => by
    rw [List.lookup_cons] at h
    split at h
    · rename_i e
      have e := eq_of_beq e
      subst e
      cases h
      exact List.mem_cons_self
    · exact List.mem_cons_of_mem _ (turns_mem h)
/-- a whole house whose group is sharp -/
structure Sh7 (n : Nat) (ts : List (List Int)) : Prop where
  n2 : 2 ≤ n
  hi : IsH n ts
  rm : ∃ U, Room' n comp ts (idt n) U
  ex : ∃ L, Asc ltT (Grp n ts) L ∧ L.length = n * n - n ∧ (L.map fun t => (keptL t).length).sum = L.length ∧ (L.map fun t => (keptL t).length * (keptL t).length).sum = L.length * 2
theorem turn_facts {n : Nat} {ts : List (List Int)} (h : turnsT.lookup (n : Int) = some ts) : n ≠ 6 ∧ Sh7 n ts := by
  have hb := List.all_eq_true.mp turns_ok _ (turns_mem h)
  unfold tB7 at hb
  simp only [Bool.and_eq_true, Bool.or_eq_true, decide_eq_true_iff, Int.toNat_natCast] at hb
  obtain ⟨⟨⟨⟨⟨⟨⟨⟨⟨⟨⟨h1, h2⟩, h3⟩, h4⟩, h5⟩, h6⟩, h7⟩, h8⟩, h9⟩, h10⟩, h11⟩, h12⟩ := hb
  have is := isB_all h7
  have hi : IsH n ts := ⟨by omega, h3, h5, h6, is⟩
  refine ⟨h4, h2, hi, good_room ⟨hi, ?_⟩, _, grpB_asc h9, h10, h12, h11⟩
  rcases h8 with h8 | ⟨h8, e⟩
  · exact .inr h8
  · exact .inl ⟨(n, ts), List.contains_iff_mem.mp h8, idt n, rfl, idt_isT n, e.symm⟩
variable {n : Nat} {ts : List (List Int)} {m : List Int}
theorem Sh7.whl (f : Sh7 n ts) : Whl n ts := by
  obtain ⟨n2, hi, _, L, aL, e, e1, e2⟩ := f
  refine ⟨n2, fun LL as => ?_⟩
  have h := sum_kept hi.is aL.nd aL.mem as.nd as.mem
  rw [e1] at h
  have pos : 0 < L.length := List.length_pos_of_mem ((aL.mem (idt n)).mpr .base)
  exact (Nat.eq_of_mul_eq_mul_left pos (by omega : L.length * 1 = L.length * LL.length)).symm
theorem Sh7.two (f : Sh7 n ts) {LL : List (List (List Int))} (nd : LL.Nodup) (mem : ∀ k, k ∈ LL ↔ Lots2 n ts k) : LL.length = 2 := by
  obtain ⟨n2, hi, _, L, aL, e, e1, e2⟩ := f
  exact rank_of hi.is aL e2 nd mem
theorem Sh7.len (f : Sh7 n ts) : ∃ W : List (List Int), W.Nodup ∧ (∀ x, x ∈ W ↔ Grp n ts x) ∧ W.length = n * n - n := by
  obtain ⟨n2, hi, _, L, aL, e, e1, e2⟩ := f
  exact ⟨L, aL.nd, aL.mem, e⟩
theorem Sh7.conj (f : Sh7 n ts) (hm : IsT n m) : Sh7 n (ts.map (NS.conj m)) := by
  obtain ⟨n2, hi, ⟨U, rm⟩, L, aL, e, e1, e2⟩ := f
  have rm' := conj_room hm hi.is rm
  obtain ⟨L', aL'⟩ := asc_grp rm'
  refine ⟨n2, ⟨hi.n1, hi.n8, by rw [List.length_map]; exact hi.t1, by rw [List.length_map]; exact hi.t6, conj_is hm hi.is⟩, ⟨_, rm'⟩, L', aL', by rw [conj_len hm hi.is aL aL', e], ?_, ?_⟩
  · rw [conj_len hm hi.is aL aL', ← e1, sum_perm ((conj_perm hm hi.is aL aL').map fun t => (keptL t).length), List.map_map]
    refine sum_map_congr fun t ht => ?_
    show (keptL (NS.conj m t)).length = _
    rw [kept_conj hm (grp_isT hi.is ((aL.mem t).mp ht))]
  · rw [conj_len hm hi.is aL aL', ← e2, sum_perm ((conj_perm hm hi.is aL aL').map fun t => (keptL t).length * (keptL t).length), List.map_map]
    refine sum_map_congr fun t ht => ?_
    show (keptL (NS.conj m t)).length * (keptL (NS.conj m t)).length = _
    rw [kept_conj hm (grp_isT hi.is ((aL.mem t).mp ht))]
/-- a sharp house's answer -/
theorem Sh7.shows (f : Sh7 n ts) {b : Bool} (h : ¬ Whl n ts ∧ b = false ∨ Whl n ts ∧ ∃ LL : List (List (List Int)), LL.Nodup ∧ (∀ k, k ∈ LL ↔ Lots2 n ts k) ∧ ∀ W : List (List Int), W.Nodup → (∀ x, x ∈ W ↔ Grp n ts x) → (b = true ↔ LL.length = 2 ∧ W.length = n * n - n)) : b = true := by
  rcases h with ⟨h, _⟩ | ⟨_, LL, nd, mem, h⟩
  · exact absurd f.whl h
  · obtain ⟨W, ndW, mW, e⟩ := f.len
    exact (h W ndW mW).mpr ⟨f.two nd mem, e⟩
theorem lots2_ex {n : Nat} {ts : List (List Int)} (hT : ∀ t ∈ ts, IsT n t) : ∃ LL : List (List (List Int)), LL.Nodup ∧ ∀ k, k ∈ LL ↔ Lots2 n ts k := by
  classical
  have go : ∀ gs : List (Nat × Nat), (∀ p ∈ gs, p ∈ grid n n) → ∃ LL : List (List (List Int)), LL.Nodup ∧ ∀ k, k ∈ LL ↔ ∃ p, p ∈ gs ∧ Lot2 ts (pr2 p) k := by
    intro gs
    induction gs with
    | nil => exact fun _ => ⟨[], .nil, fun k => ⟨fun h => (by cases h), fun ⟨p, h, _⟩ => (by cases h)⟩⟩
    | cons p gs ih =>
      intro hg
      obtain ⟨LL, nd, mem⟩ := ih fun q hq => hg q (List.mem_cons_of_mem _ hq)
      obtain ⟨h1, h2⟩ := mem_grid.mp (hg p List.mem_cons_self)
      obtain ⟨k, ak⟩ := asc_some (G := Rch comp ts (pr2 p)) (G2 n) fun x hx => hx.inU (pair_g2 h1 h2) (g2_cl hT)
      by_cases hk : k ∈ LL
      · refine ⟨LL, nd, fun j => (mem j).trans ⟨fun ⟨q, hq, l⟩ => ⟨q, List.mem_cons_of_mem _ hq, l⟩, fun ⟨q, hq, l⟩ => ?_⟩⟩
        rcases List.mem_cons.mp hq with rfl | hq
        · rw [lot2_uniq l ak]
          exact (mem k).mp hk
        · exact ⟨q, hq, l⟩
      · refine ⟨k :: LL, List.nodup_cons.mpr ⟨hk, nd⟩, fun j => ?_⟩
        rw [List.mem_cons, mem]
        constructor
        · rintro (rfl | ⟨q, hq, l⟩)
          · exact ⟨p, List.mem_cons_self, ak⟩
          · exact ⟨q, List.mem_cons_of_mem _ hq, l⟩
        · rintro ⟨q, hq, l⟩
          rcases List.mem_cons.mp hq with rfl | hq
          · exact .inl (lot2_uniq l ak)
          · exact .inr ⟨q, hq, l⟩
  exact go _ fun _ h => h
theorem Sh7.lsharp {n : Nat} {ts : List (List Int)} (f : Sh7 n ts) {b : Bool} (h : ∀ (LL : List (List (List Int))) (W : List (List Int)), LL.Nodup → (∀ k, k ∈ LL ↔ Lots2 n ts k) → W.Nodup → (∀ x, x ∈ W ↔ Grp n ts x) → (b = true ↔ 1 < n ∧ LL.length = 2 ∧ W.length = n * n - n)) : b = true := by
  obtain ⟨LL, nd, mem⟩ := lots2_ex f.hi.is
  obtain ⟨W, ndW, mW, e⟩ := f.len
  exact (h LL W nd mem ndW mW).mpr ⟨f.n2, f.two nd mem, e⟩
theorem rch_off {n : Nat} {ts : List (List Int)} (hT : ∀ t ∈ ts, IsT n t) {a b : Int} (ha : 0 ≤ a ∧ a < n) (hb : 0 ≤ b ∧ b < n) (ne : a ≠ b) {x : List Int} (h : Rch comp ts [a, b] x) : ∃ c d : Int, x = [c, d] ∧ (0 ≤ c ∧ c < n) ∧ (0 ≤ d ∧ d < n) ∧ c ≠ d := by
  induction h with
  | base => exact ⟨a, b, rfl, ha, hb, ne⟩
  | @next x t _ ht ih =>
    obtain ⟨c, d, rfl, hc, hd, ne⟩ := ih
    have it := hT t ht
    have g1 := it.getD (i := c.toNat) (by omega)
    have g2 := it.getD (i := d.toNat) (by omega)
    refine ⟨t.getD c.toNat 0, t.getD d.toNat 0, rfl, by omega, by omega, fun e => ne ?_⟩
    have := it.inj (i := c.toNat) (j := d.toNat) (by omega) (by omega) (by omega)
    omega
theorem rch_diag {ts : List (List Int)} {a : Int} {x : List Int} (h : Rch comp ts [a, a] x) : ∃ c : Int, x = [c, c] ∧ Orb ts a c := by
  induction h with
  | base => exact ⟨a, rfl, .base⟩
  | @next x t _ ht ih =>
    obtain ⟨c, rfl, hc⟩ := ih
    exact ⟨t.getD c.toNat 0, rfl, .next hc ht⟩
/-- two lots of pairs: a whole house -/
theorem two_one {n : Nat} {ts : List (List Int)} (n2 : 2 ≤ n) (hT : ∀ t ∈ ts, IsT n t) {LL : List (List (List Int))} (nd : LL.Nodup) (mem : ∀ k, k ∈ LL ↔ Lots2 n ts k) (e : LL.length = 2) : ∀ i : Nat, i < n → Orb ts 0 (i : Int) := by
  have lot : ∀ a b : Nat, a < n → b < n → ∃ k, k ∈ LL ∧ Lot2 ts [(a : Int), (b : Int)] k := fun a b ha hb => by
    obtain ⟨k, ak⟩ := asc_some (G := Rch comp ts [(a : Int), (b : Int)]) (G2 n) fun x hx => hx.inU (pair_g2 ha hb) (g2_cl hT)
    exact ⟨k, (mem k).mpr ⟨(a, b), mem_grid.mpr ⟨ha, hb⟩, ak⟩, ak⟩
  obtain ⟨k00, m00, l00⟩ := lot 0 0 (by omega) (by omega)
  obtain ⟨k01, m01, l01⟩ := lot 0 1 (by omega) (by omega)
  have off : ∀ i : Nat, i < n → ∀ k, Lot2 ts [(i : Int), (i : Int)] k → k ≠ k01 := fun i hi k l q => by
    have : [(i : Int), (i : Int)] ∈ k := (l.mem _).mpr .base
    rw [q] at this
    obtain ⟨c, d, e1, _, _, ne⟩ := rch_off hT (by omega) (by omega) (by decide) ((l01.mem _).mp this)
    cases e1
    exact ne rfl
  intro i hi
  obtain ⟨kii, mii, lii⟩ := lot i i hi hi
  have n0 := off 0 (by omega) k00 l00
  have ni := off i hi kii lii
  have ek : kii = k00 := by
    match LL, e, nd, m00, m01, mii with
    | [u, v], _, nd, m00, m01, mii =>
      simp only [List.mem_cons, List.mem_nil_iff, or_false] at m00 m01 mii
      rcases m00 with rfl | rfl <;> rcases m01 with rfl | rfl <;> rcases mii with rfl | rfl <;> first | rfl | exact absurd rfl n0 | exact absurd rfl ni
  subst ek
  have : [(i : Int), (i : Int)] ∈ kii := (lii.mem _).mpr .base
  obtain ⟨c, e1, o⟩ := rch_diag ((l00.mem _).mp this)
  cases e1
  exact o
/-- both answers agree -/
theorem same_sharp {n : Nat} {ts U : List (List Int)} {b1 b2 : Bool} (n2 : 2 ≤ n) (hi : IsH n ts) (rm : Room' n comp ts (idt n) U)
    (h1 : ¬ Whl n ts ∧ b1 = false ∨ Whl n ts ∧ ∃ LL : List (List (List Int)), LL.Nodup ∧ (∀ k, k ∈ LL ↔ Lots2 n ts k) ∧ ∀ W : List (List Int), W.Nodup → (∀ x, x ∈ W ↔ Grp n ts x) → (b1 = true ↔ LL.length = 2 ∧ W.length = n * n - n))
    (h2 : ∀ (LL : List (List (List Int))) (W : List (List Int)), LL.Nodup → (∀ k, k ∈ LL ↔ Lots2 n ts k) → W.Nodup → (∀ x, x ∈ W ↔ Grp n ts x) → (b2 = true ↔ 1 < n ∧ LL.length = 2 ∧ W.length = n * n - n)) : b1 = b2 := by
  obtain ⟨W, aW⟩ := asc_grp rm
  rcases h1 with ⟨nw, rfl⟩ | ⟨whl, LL, nd, mem, h⟩
  · obtain ⟨LL, nd, mem⟩ := lots2_ex hi.is
    cases b2 with
    | false => rfl
    | true =>
      obtain ⟨_, e, _⟩ := (h2 LL W nd mem aW.nd aW.mem).mp rfl
      exact absurd (whl_of n2 hi.is (two_one n2 hi.is nd mem e)) nw
  · rw [Bool.eq_iff_iff, h W aW.nd aW.mem, h2 LL W nd mem aW.nd aW.mem]
    exact ⟨fun e => ⟨n2, e⟩, fun e => e.2⟩
abbrev gT8 : List (List Int) := [[1, 2, 3, 4, 5, 6, 7, 0], [1, 0, 2, 3, 4, 5, 6, 7]]
theorem g8_is : IsH 8 gT8 := ⟨by decide, by decide, by decide, by decide, isB_all (by decide +kernel)⟩
theorem great_not {b : Bool} (h : ¬ Whl 8 gT8 ∧ b = false ∨ Whl 8 gT8 ∧ ∃ LL : List (List (List Int)), LL.Nodup ∧ (∀ k, k ∈ LL ↔ Lots2 8 gT8 k) ∧ ∀ W : List (List Int), W.Nodup → (∀ x, x ∈ W ↔ Grp 8 gT8 x) → (b = true ↔ LL.length = 2 ∧ W.length = 8 * 8 - 8)) : b = false := by
  rcases h with ⟨_, h⟩ | ⟨_, LL, nd, mem, h⟩
  · exact h
  · obtain ⟨W, aW⟩ := asc_some (G := Grp 8 gT8) (listsB 8 8) fun x g => by
      have it := grp_isT g8_is.is g
      exact mem_listsB.mpr ⟨it.len, it.low⟩
    cases b with
    | false => rfl
    | true =>
      obtain ⟨e2, eW⟩ := (h W aW.nd aW.mem).mp rfl
      have one := two_one (by decide) g8_is.is nd mem e2
      obtain ⟨LLp, g⟩ := grpd_ex (by decide) g8_is.is aW.nd aW.mem one
      have ep : LLp.length = 2 := by rw [← rank_eq g8_is.is nd mem g.pl g.cm]; exact e2
      have tw := (g.twice ep).1
      rw [eW] at tw
      have c1 : cnt W p01 = 1 := by omega
      have sg := (g.sing_cnt ep).mpr c1
      have it : IsT 8 [1, 0, 2, 3, 4, 5, 6, 7] := g8_is.is _ (List.mem_cons_of_mem _ List.mem_cons_self)
      have hm : [1, 0, 2, 3, 4, 5, 6, 7] ∈ W := (aW.mem _).mpr (by
        have := Rch.next (step := comp) (ts := gT8) (Rch.base (a0 := idt 8)) (List.mem_cons_of_mem _ List.mem_cons_self : [1, 0, 2, 3, 4, 5, 6, 7] ∈ gT8)
        rwa [idt_comp it] at this)
      have := sg _ hm
      exact absurd this (by decide +kernel)
abbrev gT3 : List (List Int) := [[1, 2, 0]]
theorem g3_is : IsH 3 gT3 := ⟨by decide, by decide, by decide, by decide, isB_all (by decide +kernel)⟩
theorem g3_grp : grpB (3, gT3) [[0, 1, 2], [1, 2, 0], [2, 0, 1]] = true := by decide +kernel
theorem three_not {b : Bool} (h : ¬ Whl 3 gT3 ∧ b = false ∨ Whl 3 gT3 ∧ ∃ LL : List (List (List Int)), LL.Nodup ∧ (∀ k, k ∈ LL ↔ Lots2 3 gT3 k) ∧ ∀ W : List (List Int), W.Nodup → (∀ x, x ∈ W ↔ Grp 3 gT3 x) → (b = true ↔ LL.length = 2 ∧ W.length = 3 * 3 - 3)) : b = false := by
  rcases h with ⟨_, h⟩ | ⟨_, LL, nd, mem, h⟩
  · exact h
  · have aW := grpB_asc g3_grp
    cases b with
    | false => rfl
    | true => exact absurd ((h _ aW.nd aW.mem).mp rfl).2 (by decide)
theorem g1_is : IsH 1 [[0]] := ⟨by decide, by decide, by decide, by decide, isB_all (by decide +kernel)⟩
theorem g2_is : IsH 2 [[0, 1]] := ⟨by decide, by decide, by decide, by decide, isB_all (by decide +kernel)⟩
/-- the odd values of the law, but the great house -/
def Odd7 (K : PySem.W.Frag) (H : Hp) (x : V) : Prop :=
  (∃ p, x = .ref p ∧ SqT K H p []) ∨ x = .int 5 ∨ x = .str "house" ∨ (∃ p, x = .ref p ∧ SqT K H p [.int 3]) ∨ HouseAt K H x 1 [[0]] ∨
  (∃ p a b, x = .ref p ∧ H p = some (.lst [.int 2, .ref a]) ∧ SqT K H a [.ref b] ∧ SqT K H b [.int 1, .int 0]) ∨
  (∃ p a b, x = .ref p ∧ SqT K H p [.int 2, .ref a] ∧ H a = some (.lst [.ref b]) ∧ SqT K H b [.int 1, .int 0]) ∨ HouseAt K H x 2 [[0, 1]] ∨ HouseAt K H x 3 gT3
theorem Odd7.kp {K : PySem.W.Frag} {H H' : Hp} (z : Kp H H') {x : V} (h : Odd7 K H x) : Odd7 K H' x := by
  rcases h with ⟨p, e, s⟩ | h | h | ⟨p, e, s⟩ | h | ⟨p, a, b, e, s1, s2, s3⟩ | ⟨p, a, b, e, s1, s2, s3⟩ | h | h
  · exact .inl ⟨p, e, z.sqT s⟩
  · exact .inr (.inl h)
  · exact .inr (.inr (.inl h))
  · exact .inr (.inr (.inr (.inl ⟨p, e, z.sqT s⟩)))
  · exact .inr (.inr (.inr (.inr (.inl (z.house h)))))
  · exact .inr (.inr (.inr (.inr (.inr (.inl ⟨p, a, b, e, z.lst s1, z.sqT s2, z.sqT s3⟩)))))
  · exact .inr (.inr (.inr (.inr (.inr (.inr (.inl ⟨p, a, b, e, z.sqT s1, z.lst s2, z.sqT s3⟩))))))
  · exact .inr (.inr (.inr (.inr (.inr (.inr (.inr (.inl (z.house h))))))))
  · exact .inr (.inr (.inr (.inr (.inr (.inr (.inr (.inr (z.house h))))))))
theorem dp_ti {K : PySem.W.Frag} {H : Hp} {v : V} {t : List Int} (h : TI K H v t) : Dp K H v (dInts t) := by
  obtain ⟨p, rfl, hp⟩ := h
  exact .tup hp (dp_ints t)
theorem dp_tis {K : PySem.W.Frag} {H : Hp} {vs : List V} {L : List (List Int)} (h : Paired (TI K H) vs L) : DpAll K H vs (L.map dInts) := by
  induction h with
  | nil => exact .nil
  | cons e _ ih => exact .cons (dp_ti e) ih
theorem dp_house {K : PySem.W.Frag} {H : Hp} {v : V} {n : Nat} {ts : List (List Int)} (h : HouseAt K H v n ts) : Dp K H v (.tuple [.int n, .tuple (ts.map dInts)]) := by
  obtain ⟨a, tv, rfl, hT, tb, xs, rfl, hs, pr⟩ := h
  exact .tup hT (.cons (.int _) (.cons (.tup hs (dp_tis pr)) .nil))
theorem odd_ne {K : PySem.W.Frag} {H : Hp} {x y : V} (h : Odd7 K H x) (hg : HouseAt K H y 8 gT8) {Q : VK} (q : Q (.bl true) H) : rNeD K x y H Q := by
  have key : ∀ d : PyData, Dp K H x d → SeqAt.shaped d = true → PyData.eqv d (.tuple [.int (8 : Nat), .tuple (gT8.map dInts)]) = false → rNeD K x y H Q := fun d hd sd e => ⟨d, _, hd, dp_house hg, sd, by decide +kernel, by rw [e]; exact q⟩
  rcases h with ⟨p, rfl, s⟩ | rfl | rfl | ⟨p, rfl, s⟩ | h | ⟨p, a, b, rfl, s1, s2, s3⟩ | ⟨p, a, b, rfl, s1, s2, s3⟩ | h | h
  · exact key (.tuple []) (.tup s .nil) (by decide +kernel) (by decide +kernel)
  · exact key (.int 5) (.int 5) (by decide +kernel) (by decide +kernel)
  · exact key (.str "house") (.str _) (by decide +kernel) (by decide +kernel)
  · exact key (.tuple [.int 3]) (.tup s (.cons (.int 3) .nil)) (by decide +kernel) (by decide +kernel)
  · exact key _ (dp_house h) (by decide +kernel) (by decide +kernel)
  · exact key (.list [.int 2, .tuple [.tuple [.int 1, .int 0]]]) (.lst (SqL.of s1) (.cons (.int 2) (.cons (.tup s2 (.cons (.tup s3 (.cons (.int 1) (.cons (.int 0) .nil))) .nil)) .nil))) (by decide +kernel) (by decide +kernel)
  · exact key (.tuple [.int 2, .list [.tuple [.int 1, .int 0]]]) (.tup s1 (.cons (.int 2) (.cons (.lst (SqL.of s2) (.cons (.tup s3 (.cons (.int 1) (.cons (.int 0) .nil))) .nil)) .nil))) (by decide +kernel) (by decide +kernel)
  · exact key _ (dp_house h) (by decide +kernel) (by decide +kernel)
  · exact key _ (dp_house h) (by decide +kernel) (by decide +kernel)
theorem great_ne {K : PySem.W.Frag} {H : Hp} {x : V} (hg : HouseAt K H x 8 gT8) {Q : VK} (q : Q (.bl false) H) : rNeD K x x H Q :=
  ⟨_, _, dp_house hg, dp_house hg, by decide +kernel, by decide +kernel, by
    rw [show PyData.eqv (.tuple [.int (8 : Nat), .tuple (gT8.map dInts)]) (.tuple [.int (8 : Nat), .tuple (gT8.map dInts)]) = true by decide +kernel]
    exact q⟩
theorem lst_notTy {K : PySem.W.Frag} {H : Hp} {p : Addr} {xs : List V} (h : H p = some (.lst xs)) : NotTy K H (.ref p) "tuple" := ⟨"list", fun H' z => .base (.lst (z.lst h)), by decide +kernel⟩
theorem odd_case {K : PySem.W.Frag} {H : Hp} {x : V} (h : Odd7 K H x) : (∃ r, x ≠ .non ∧ FaultX K H x r ∧ r ≠ .non) ∨ (∃ (m : Nat) (ts : List (List Int)), HouseAt K H x m ts ∧ IsH m ts ∧ m ≠ 3) ∨ HouseAt K H x 3 gT3 := by
  rcases h with ⟨p, rfl, s⟩ | rfl | rfl | ⟨p, rfl, s⟩ | h | ⟨p, a, b, rfl, s1, s2, s3⟩ | ⟨p, a, b, rfl, s1, s2, s3⟩ | h | h
  · exact .inl ⟨_, fun e => (by cases e), .inr (.inl ⟨p, _, rfl, s, by decide, rfl⟩), fun e => (by cases e)⟩
  · exact .inl ⟨_, fun e => (by cases e), .inl ⟨⟨"int", fun _ _ => .base (.int _), by decide +kernel⟩, rfl⟩, fun e => (by cases e)⟩
  · exact .inl ⟨_, fun e => (by cases e), .inl ⟨⟨"str", fun _ _ => .base (.str _), by decide +kernel⟩, rfl⟩, fun e => (by cases e)⟩
  · exact .inl ⟨_, fun e => (by cases e), .inr (.inl ⟨p, _, rfl, s, by decide, rfl⟩), fun e => (by cases e)⟩
  · exact .inr (.inl ⟨1, _, h, g1_is, by decide⟩)
  · exact .inl ⟨_, fun e => (by cases e), .inl ⟨lst_notTy s1, rfl⟩, fun e => (by cases e)⟩
  · exact .inl ⟨.str "turns", fun e => (by cases e), .inr (.inr (.inr ⟨p, 2, .ref a, false, rfl, s1, by decide, by decide, .inl ⟨lst_notTy s2, rfl⟩, rfl⟩)), fun e => (by cases e)⟩
  · exact .inr (.inl ⟨2, _, h, g2_is, by decide⟩)
  · exact .inr (.inr h)
end NS
end
section
set_option maxHeartbeats 4000000
/-! LW7: law k07 -/
namespace NS
open PySem PySem.Spec PyProof.Rows L2 ZS
abbrev nLaw : List Str := ["script", "row", "halls", "told", "turn", "house", "great", "odd", "e", "value"]
theorem scLaw : FnScope nLaw ["script"] (defScope sLaw) := ⟨rfl, rfl, rfl, by decide +kernel, rfl, by decide +kernel, by decide +kernel⟩
def spLaw (K : PySem.W.Frag) (pT pA : Addr) : Sp := fun vs H Q _ => ∃ (a : Addr) (ns : List Int), vs = [.ref a] ∧ SqL K H a (ns.map V.int) ∧ GxR.TabG H pT ∧ GxR.TabG H pA ∧ ∀ H', Q (.bl true) H'
def rIsNB : R2 := fun x y H Q => ∃ a b, x = .bl a ∧ y = .bl b ∧ Q (.bl (!decide (a = b))) H
/-- all the defs that the law calls -/
structure Defs (P : Program) (w : World) (K : PySem.W.Frag) (mg : Str → Option Value) (base : Heap) (pT pA C : Addr) : Prop where
  taken : Has P w K mg base "_law_taken" 1 [] (spTaken K)
  pick : Has P w K mg base "_law_pick" 2 [] (spPick K)
  turn : Has P w K mg base "_law_turn" 2 [] (spLTurn K)
  circle : Has P w K mg base "_law_circle" 1 [] spLCircle
  whole : Has P w K mg base "_law_whole" 4 [] (spLWhole K)
  mixed : Has P w K mg base "_law_mixed" 3 [] (spLMixed K)
  alike : Has P w K mg base "_law_alike" 1 [] (spAlike K 0)
  lsharp : Has P w K mg base "_law_is_sharp" 2 [] (spLSharp K)
  shows : Has P w K mg base "shows_sharp" 12 [] (spShowsX K pT pA)
  sharph : HasX P w K mg base "sharp_house" 4 (spSharpHX K C)
  nb : ExcC K mg "BadNumber" C
/-- what stands all along: the row of draws, the tables -/
structure St7 (K : PySem.W.Frag) (H : Hp) (r sa pT pA : Addr) : Prop where
  dr : Draws K H r sa
  gT : GxR.TabG H pT
  gA : GxR.TabG H pA
theorem St7.kp {K : PySem.W.Frag} {H H' : Hp} {r sa pT pA : Addr} (h : St7 K H r sa pT pA) (z : Kp H H') : St7 K H' r sa pT pA := ⟨h.dr.k z, z.tabG h.gT, z.tabG h.gA⟩
theorem St7.kpb {K : PySem.W.Frag} {H H' : Hp} {r sa pT pA : Addr} (h : St7 K H r sa pT pA) (z : KpB r H H') (ra : RowAt H' r sa) : St7 K H' r sa pT pA := ⟨h.dr.b z ra, z.tabG h.gT, z.tabG h.gA⟩
/-- what sharp_house tells -/
def T7 (K : PySem.W.Frag) (H : Hp) (n : Nat) (t : V) : Prop := (n = 6 ∧ t = .non) ∨ ∃ ts, turnsT.lookup (n : Int) = some ts ∧ HouseAt K H t n ts
theorem T7.kp {K : PySem.W.Frag} {H H' : Hp} {n : Nat} {t : V} (h : T7 K H n t) (z : Kp H H') : T7 K H' n t := h.imp id fun ⟨ts, e, hv⟩ => ⟨ts, e, z.house hv⟩
section
variable {P : Program} {w : World} {K : PySem.W.Frag} {mg : Str → Option Value} {base : Heap} {f : Addr} {fd : FuncData} {pT pA C : Addr}
theorem ok_law (F : FnP K "law" sLaw f fd) (B : Bl mg) (M : Defs P w K mg base pT pA C) : FnOk P w K mg base CX0 13 f fd ["script"] (spLaw K pT pA) := by
  refine F.ok scLaw (fun vs H Q E h => ?_) (fun cdv A outer s H vs Q E hr h => ⟨_, PSs.nox (
    pss_cons (ps_set (i := 1) scLaw.nd rfl (Or.inl rfl) (pe_lst (pa_cons (pv 0) (pa_cons pe_int (pa_cons pe_int (pa_cons pe_int pa_nil))))))
    (pss_cons (ps_set (i := 2) scLaw.nd rfl (Or.inl rfl) (pe_op op_add pe_int (pe_has M.taken hr (by decide) (pa_cons (pv 1) (pa_cons pe_int pa_nil)))))
    (pss_cons (ps_mid (ps_set (i := 3) scLaw.nd rfl (Or.inl rfl) (pe_has (show Has P w K mg base "sharp_house" 4 [] (spNo (spSharpHX K C)) from M.sharph.no) hr (by decide) (pa_cons (pv 2) pa_nil))))
    (pss_cons (ps_mid (ps_if (PW.pt (pw_or (pt_cmpR op_ne (pe_cmp (pc_isN (pv 3))) (pe_cmpR op_eq (pv 2) pe_int (nomark _)) (nomark _)) (pw_or1 (pt_cmpR op_isnot_bl (pe_has M.shows hr (by decide) (pa_cons (pv 2) (pa_cons (pv 3) pa_nil))) pe_bl (nomark _))))) pss_never pss_nil))
    (pss_cons (ps_mid (ps_if (pt_cmpR op_ne (pe_has M.shows hr (by decide) (pa_cons (pv 2) (pa_cons pe_non pa_nil))) (pe_cmpR op_eq (pv 2) pe_int (nomark _)) (nomark _)) pss_never pss_nil))
    (pss_cons (ps_mid (ps_if (pt_cmp (pc_notN (pv 3)))
      (pss_cons (ps_mid (ps_if (PW.pt (pw_or (pt_cmpR op_ne (pe_ix (r := rIxT K) ix_tup (pv 3) pe_int (fun _ _ => rfl)) (pv 2) (nomark _)) (pw_or (pt_cmpR op_gt (pe_callB call_len_seq rfl B.len PySem.boot_len (pa_cons (pe_ix (r := rIxT K) ix_tup (pv 3) pe_int (fun _ _ => rfl)) pa_nil)) pe_int (nomark _)) (pw_or1 (pt_not (pt_val (pe_has M.lsharp hr (by decide) (pa_cons (pv 3) pa_nil)))))))) pss_never pss_nil))
      (pss_one (ps_if (pt_cmpR op_isnot_bl (pe_has M.shows hr (by decide) (pa_cons (pv 2) (pa_cons (pe_has M.mixed hr (by decide) (pa_cons (pv 1) (pa_cons (pv 3) pa_nil))) pa_nil))) pe_bl (nomark _)) pss_never pss_nil))) pss_nil))
    (pss_cons (ps_for PassesOwn.never rfl (pi_range1 rfl B.range (pa_cons pe_int pa_nil)) (pg_name (i := 4) scLaw.nd rfl (Or.inl rfl))
      (pss_cons (ps_set (i := 5) scLaw.nd rfl (Or.inl rfl) (pe_has M.whole hr (by decide) (pa_cons (pv 1) pa_nil)))
      (pss_one (ps_if (pt_not (pt_val (pe_has M.alike hr (by decide) (pa_cons (pe_has M.shows hr (by decide) (pa_cons (pe_ix (r := rIxT K) ix_tup (pv 5) pe_int (fun _ _ => rfl)) (pa_cons (pv 5) pa_nil))) (pa_cons (pe_has M.lsharp hr (by decide) (pa_cons (pv 5) pa_nil)) pa_nil))))) pss_never pss_nil))))
    (pss_cons (ps_set (i := 2) scLaw.nd rfl (Or.inl rfl) (pe_op op_add pe_int (pe_has M.taken hr (by decide) (pa_cons (pv 1) (pa_cons pe_int pa_nil)))))
    (pss_cons (ps_set (i := 5) scLaw.nd rfl (Or.inl rfl) (pe_tup (pa_cons (pv 2) (pa_cons (pe_tup (pa_cons (pe_has M.turn hr (by decide) (pa_cons (pv 1) (pa_cons (pv 2) pa_nil))) (pa_cons (pe_has M.turn hr (by decide) (pa_cons (pv 1) (pa_cons (pv 2) pa_nil))) pa_nil))) pa_nil))))
    (pss_cons (ps_mid (ps_if (pt_not (pt_val (pe_has M.alike hr (by decide) (pa_cons (pe_has M.shows hr (by decide) (pa_cons (pv 2) (pa_cons (pv 5) pa_nil))) (pa_cons (pe_has M.lsharp hr (by decide) (pa_cons (pv 5) pa_nil)) pa_nil))))) pss_never pss_nil))
    (pss_cons (ps_set (i := 6) scLaw.nd rfl (Or.inr rfl) (pe_tup (pa_cons pe_int (pa_cons (pe_tup (pa_cons (pe_has M.circle hr (by decide) (pa_cons pe_int (pa_cons pe_int pa_nil))) (pa_cons (pe_tup (pa_cons pe_int (pa_cons pe_int (pa_cons pe_int (pa_cons pe_int (pa_cons pe_int (pa_cons pe_int (pa_cons pe_int (pa_cons pe_int pa_nil))))))))) pa_nil))) pa_nil))))
    (pss_cons (ps_set (i := 7) scLaw.nd rfl (Or.inl rfl) (pe_lst (pa_cons (pe_tup pa_nil) (pa_cons pe_int (pa_cons pe_str (pa_cons (pe_tup (pa_cons pe_int pa_nil)) (pa_cons (pe_tup (pa_cons pe_int (pa_cons (pe_tup (pa_cons (pe_tup (pa_cons pe_int pa_nil)) pa_nil)) pa_nil))) (pa_cons (pe_lst (pa_cons pe_int (pa_cons (pe_tup (pa_cons (pe_tup (pa_cons pe_int (pa_cons pe_int pa_nil))) pa_nil)) pa_nil))) pa_nil))))))))
    (pss_cons (ps_mid (ps_set (i := 7) scLaw.nd rfl (Or.inl rfl) (pe_op op_cat (pv 7) (pe_lst (pa_cons (pe_tup (pa_cons pe_int (pa_cons (pe_lst (pa_cons (pe_tup (pa_cons pe_int (pa_cons pe_int pa_nil))) pa_nil)) pa_nil))) (pa_cons (pe_tup (pa_cons pe_int (pa_cons (pe_tup (pa_cons (pe_tup (pa_cons pe_int (pa_cons pe_int pa_nil))) pa_nil)) pa_nil))) (pa_cons (pv 6) (pa_cons (pe_tup (pa_cons pe_int (pa_cons (pe_tup (pa_cons (pe_tup (pa_cons pe_int (pa_cons pe_int (pa_cons pe_int pa_nil)))) pa_nil)) pa_nil))) pa_nil))))))))
    (pss_cons (ps_mid (ps_if (pt_cmpR (op_neNil hr.units) (pe_lc (own := [("value", 9)]) (g := gName 9) (tt := tTest (tOp rIsNB (tCall (spShowsX K pT pA) [] E0 (tCons (tIf (tTest (tOp (rNeD K) (tVar 9) (tVar 6))) (tC (.int 3)) (tC (.int 8))) (tCons (tVar 9) tNil))) (tC (.bl false)))) (te := tVar 9) rfl scLaw.nd (pi_list (pv 7)) (blkOk_by (N := nLaw) (sc := defScope sLaw) (by decide +kernel))
      (fun _ _ _ _ _ => pg_name (i := 9) scLaw.nd rfl (Or.inl rfl)) (fun _ _ _ _ _ => pts_one (pt_cmpR op_isnot_bl (pe_has M.shows hr (by decide) (pa_cons (pe_ifExp (pt_cmpR (op_neD hr.units) (pv 9) (pv 6) (nomark _)) pe_int pe_int) (pa_cons (pv 9) pa_nil))) pe_bl (nomark _))) (fun _ _ _ _ _ => pv 9)) (pe_lst pa_nil) (nomark _)) pss_never pss_nil))
    (pss_cons (ps_try_as (i := 8) rfl rfl scLaw.nd rfl rfl ⟨rfl, by decide, .inl M.nb.g⟩ takes0
      (fun W pn xe tk _ => pss_one (ps_expr (pe_hasX M.sharph hr (by decide) tk (pa_cons (pe_has M.pick hr (by decide) (pa_cons (pv 1) (pa_cons (pe_lst (pa_cons pe_non (pa_cons pe_int (pa_cons pe_int (pa_cons pe_bl (pa_cons pe_str (pa_cons pe_int pa_nil))))))) pa_nil))) pa_nil))))
      (fun a oe cls d pn hz hf => pss_one (ps_ret pe_bl)))
    (pss_one (ps_ret pe_bl))))))))))))))))), ?_⟩)
  · obtain ⟨a, ns, rfl, _⟩ := h
    rfl
  · obtain ⟨sa, ns, rfl, hs, gT, gA, q⟩ := h
    refine ⟨_, rfl, ⟨(by show 4 ≤ sizeLine; decide), fun r hr0 => ?_⟩⟩
    have z1 := (Kp.refl H).new hr0 (o := .lst [.ref sa, .int 0, .int 5707, .int 0])
    have ra1 : RowAt (upd H r (.lst [.ref sa, .int 0, .int 5707, .int 0])) r sa := ⟨0, 5707, 0, upd_same, Int.le_refl _⟩
    have S1 : St7 K (upd H r (.lst [.ref sa, .int 0, .int 5707, .int 0])) r sa pT pA := ⟨⟨ra1, ns, z1.sqL hs⟩, z1.tabG gT, z1.tabG gA⟩
    generalize upd H r (.lst [.ref sa, .int 0, .int 5707, .int 0]) = H1 at S1 ⊢
    clear z1 ra1 hs gT gA hr0
    refine ⟨_, rfl, r, sa, 7, rfl, S1.dr, by decide, by decide, fun k2 H2 z2 ra2 k0 k1 => ?_⟩
    refine ⟨_, _, rfl, rfl, ?_⟩
    obtain ⟨n, en, n2, n8⟩ : ∃ n : Nat, (2 : Int) + k2 = (n : Int) ∧ 2 ≤ n ∧ n ≤ 8 := ⟨(2 + k2).toNat, by omega, by omega, by omega⟩
    show gName 2 (V.int (2 + k2)) _ _ _
    rw [en]
    have S2 := S1.kpb z2 ra2
    clear S1 z2 ra2 k0 k1 en k2 H1
    -- told
    refine ⟨fun σ H' => ∃ t, σ = [some (.ref sa), some (.ref r), some (.int n), some t, none, none, none, none, none, none] ∧ St7 K H' r sa pT pA ∧ T7 K H' n t, ?c1, ?told⟩
    case told =>
      refine ⟨_, rfl, .int n, true, rfl, .inl ⟨n, rfl, (decide_eq_true (by omega)).symm⟩, fun e => (by cases e), fun _ i ei => ?_⟩
      cases ei
      refine ⟨fun hk => ⟨_, rfl, S2, .inl ⟨?_, rfl⟩⟩, fun ts hts p b hp kt => ⟨_, rfl, S2.kp ((Kp.refl H2).new hp), .inr ⟨ts, hts, ?_⟩⟩⟩
      · simp only [List.mem_cons, List.mem_nil_iff, or_false, not_or] at hk
        omega
      · obtain ⟨xs, sq, pr⟩ := kt (upd H2 p (.tup [.int (n : Int), .ref b]))
        exact ⟨p, .ref b, rfl, SqT.of upd_same, b, xs, rfl, sq, pr⟩
    clear S2
    rintro σ H3 ⟨t, rfl, S3, ht3⟩
    -- told shows
    refine ⟨fun σ H' => σ = [some (.ref sa), some (.ref r), some (.int n), some t, none, none, none, none, none, none] ∧ St7 K H' r sa pT pA ∧ T7 K H' n t, ?c2, ?shows⟩
    case shows =>
      rcases ht3 with ⟨rfl, rfl⟩ | ⟨ts, hts, hv⟩
      · refine ⟨_, rfl, _, rfl, rfl, rfl, _, rfl, ?_⟩
        refine ifF (A := _) (B := _) (by decide +kernel) ?_
        refine ⟨_, rfl, _, rfl, .non, 6, rfl, by decide, by decide, S3.gT, S3.gA, .inl ⟨rfl, ?_⟩⟩
        refine ⟨_, _, rfl, rfl, _, rfl, ifF (A := _) (B := _) (by decide +kernel) ⟨rfl, S3, .inl ⟨rfl, rfl⟩⟩⟩
      · obtain ⟨n6, sh⟩ := turn_facts hts
        have tn : t ≠ .non := fun e => by
          obtain ⟨a, tv, e2, _⟩ := hv
          rw [e] at e2
          cases e2
        refine ⟨_, rfl, _, rfl, rfl, rfl, _, rfl, ?_⟩
        refine ifF (A := _) (B := _) (by
          show (!decide (V.bl (decide (t = .non)) = V.bl (decide (V.int (n : Int) = V.int 6)))) = false
          rw [decide_eq_false tn, decide_eq_false (show ¬ V.int (n : Int) = V.int 6 from fun e => n6 (by have := V.int.inj e; omega))]
          first | done | rfl) ?_
        refine ⟨_, rfl, _, rfl, t, n, rfl, n2, n8, S3.gT, S3.gA, .inr (.inr (.inr ⟨ts, hv, sh.hi, fun b H' z hb => ?_⟩))⟩
        have eb := sh.shows hb
        subst eb
        exact ⟨_, _, rfl, rfl, _, rfl, ifF (A := _) (B := _) (by decide +kernel) ⟨rfl, S3.kp z, .inr ⟨ts, hts, z.house hv⟩⟩⟩
    clear S3 ht3
    rintro σ H4 ⟨rfl, S4, ht4⟩
    refine ⟨fun σ H' => σ = [some (.ref sa), some (.ref r), some (.int n), some t, none, none, none, none, none, none] ∧ St7 K H' r sa pT pA ∧ T7 K H' n t, ?c3, ?none⟩
    case none =>
      refine ⟨_, rfl, .non, n, rfl, n2, n8, S4.gT, S4.gA, .inl ⟨rfl, ?_⟩⟩
      refine ⟨_, rfl, rfl, rfl, _, rfl, ifF (A := _) (B := _) ?_ ⟨rfl, S4, ht4⟩⟩
      rw [Bool.not_eq_false', decide_eq_true_iff]
      have : n = 2 ∨ n = 3 ∨ n = 4 ∨ n = 5 ∨ n = 6 ∨ n = 7 ∨ n = 8 := by omega
      rcases this with rfl | rfl | rfl | rfl | rfl | rfl | rfl <;> decide +kernel
    clear S4 ht4
    rintro σ H5 ⟨rfl, S5, ht5⟩
    refine ⟨fun σ H' => ∃ x5, σ = [some (.ref sa), some (.ref r), some (.int n), some t, none, x5, none, none, none, none] ∧ St7 K H' r sa pT pA, ?c4, ?mixed⟩
    case mixed =>
      rcases ht5 with ⟨rfl, rfl⟩ | ⟨ts, hts, hv⟩
      · exact ⟨_, rfl, _, rfl, ifF (A := _) (B := _) rfl ⟨_, rfl, S5⟩⟩
      · obtain ⟨n6, sh⟩ := turn_facts hts
        have hi := sh.hi
        obtain ⟨U, rm⟩ := sh.rm
        have t6 := hi.t6
        obtain ⟨a, tv, rfl, hT, tb, xs, rfl, hTb, hp⟩ := id hv
        have xl := hp.length
        refine ⟨_, rfl, _, rfl, ifT (A := _) (B := _) rfl ?_⟩
        refine ⟨fun σ H' => σ = [some (.ref sa), some (.ref r), some (.int n), some (.ref a), none, none, none, none, none, none] ∧ St7 K H' r sa pT pA ∧ HouseAt K H' (.ref a) n ts, ?d1, ?d2⟩
        case d2 =>
          refine ⟨_, rfl, a, _, 0, _, rfl, rfl, hT, rfl, _, rfl, rfl, _, rfl, ifF (A := _) (B := _) (by simp) ?_⟩
          refine ⟨_, rfl, a, _, 1, _, rfl, rfl, hT, rfl, tb, xs, rfl, .inr hTb, _, _, rfl, rfl, _, rfl, ifF (A := _) (B := _) (decide_eq_false (by omega)) ?_⟩
          refine ⟨_, rfl, _, n, ts, U, rfl, hv, hi, rm, fun b H' z hb => ?_⟩
          have eb := sh.lsharp hb
          subst eb
          exact ⟨_, rfl, ifF (A := _) (B := _) rfl ⟨rfl, S5.kp z, z.house hv⟩⟩
        clear S5 hv hT hTb hp xl
        rintro σ H6 ⟨rfl, S6, hv6⟩
        refine ⟨_, rfl, _, rfl, _, rfl, r, sa, .ref a, (n, ts), rfl, S6.dr, house_dtA hv6, hi, fun v H7 m z7 ra7 im hv7 => ?_⟩
        have shc := sh.conj im
        have S7 := S6.kpb z7 ra7
        refine ⟨v, n, rfl, n2, n8, S7.gT, S7.gA, .inr (.inr (.inr ⟨_, hv7, shc.hi, fun b H' z hb => ?_⟩))⟩
        have eb := shc.shows hb
        subst eb
        exact ⟨_, _, rfl, rfl, _, rfl, ifF (A := _) (B := _) (by decide +kernel) ⟨_, rfl, S7.kp z⟩⟩
    clear S5 ht5
    rintro σ H6 ⟨x5, rfl, S6⟩
    refine ⟨_, rfl, by decide, by decide, ?_⟩
    refine forG (Wlk.rng (H := fun _ => none) 0 4) (fun i σ H' => ∃ x4 x5, σ = [some (.ref sa), some (.ref r), some (.int n), some t, x4, x5, none, none, none, none] ∧ St7 K H' r sa pT pA) ⟨none, x5, rfl, S6⟩ (fun i σ H' _ _ => ⟨fun b o e => (by cases e), fun b o e => (by cases e)⟩) (fun i x σ H2 H3 hi' hpv z45 hx => ?_) (fun σ H7 ⟨x4, x5, e, S7⟩ => ?_)
    · obtain ⟨x4, x5, rfl, S7⟩ := hpv
      have S8 := S7.kp z45
      refine ⟨_, rfl, r, sa, rfl, S8.dr, fun v H9 k ts z9 ra9 kn hv => ?_⟩
      have S9 := S8.kpb z9 ra9
      have hi := kn.1
      have k2 := (known_one kn).1
      obtain ⟨U, rm⟩ := good_room kn.good
      obtain ⟨a, tv, ev, hT, hp⟩ := id hv
      refine ⟨_, rfl, a, _, 0, _, ev, rfl, hT, rfl, _, rfl, v, k, rfl, k2, hi.n8, S9.gT, S9.gA, .inr (.inr (.inr ⟨ts, hv, hi, fun b1 H10 z10 h1 => ?_⟩))⟩
      refine ⟨_, rfl, v, k, ts, U, rfl, z10.house hv, hi, rm, fun b2 H11 z11 h2 => ?_⟩
      have eb := same_sharp k2 hi rm h1 h2
      subst eb
      exact ⟨_, _, .bl b1, rfl, (by rw [depth_bl]; omega), small_bl _, dt_bl _, dt_bl _, fun H12 z12 => ⟨_, rfl, ifF (A := _) (B := _) rfl ⟨_, _, rfl, ((S9.kp z10).kp z11).kp z12⟩⟩⟩
    subst e
    clear S6
    -- two turns
    refine ⟨_, rfl, r, sa, 3, rfl, S7.dr, by decide, by decide, fun k2 H8 z8 ra8 k0 k1 => ?_⟩
    refine ⟨_, _, rfl, rfl, ?_⟩
    obtain ⟨k, ek, h2, h4⟩ : ∃ k : Nat, (2 : Int) + k2 = (k : Int) ∧ 2 ≤ k ∧ k ≤ 4 := ⟨(2 + k2).toNat, by omega, by omega, by omega⟩
    show gName 2 (V.int (2 + k2)) _ _ _
    rw [ek]
    have S8 := S7.kpb z8 ra8
    refine ⟨_, rfl, _, rfl, _, rfl, r, sa, k, rfl, S8.dr, by omega, by omega, fun v5 H9 t1 z9 ra9 pt1 it1 => ?_⟩
    have S9 := S8.kpb z9 ra9
    refine ⟨_, rfl, _, rfl, r, sa, k, rfl, S9.dr, by omega, by omega, fun v6 H10 t2 z10 ra10 pt2 it2 => ?_⟩
    have S10 := S9.kpb z10 ra10
    have pt1' := NS.Tup.pt z10.tup pt1
    refine ⟨(by show 2 ≤ sizeLine; decide), fun q7 hq7 => ⟨(by show 2 ≤ sizeLine; decide), fun c8 hc8 => ?_⟩⟩
    have k7 := (Kp.refl H10).new hq7 (o := .tup [v5, v6])
    have k8 := (Kp.refl _).new hc8 (o := .tup [.int k, .ref q7])
    have S11 := (S10.kp k7).kp k8
    have hv : HouseAt K (upd (upd H10 q7 (.tup [v5, v6])) c8 (.tup [.int k, .ref q7])) (.ref c8) k [t1, t2] := ⟨c8, .ref q7, rfl, SqT.of upd_same, q7, [v5, v6], rfl, k8.sqT (SqT.of upd_same), .cons ((k7.trans k8).pt pt1').ti (.cons ((k7.trans k8).pt pt2).ti .nil)⟩
    generalize upd (upd H10 q7 (.tup [v5, v6])) c8 (.tup [.int k, .ref q7]) = H11 at S11 hv ⊢
    clear k8 k7 hc8 hq7 pt1' S10 S9 S8 z10 z9 z8 ra10 ra9 ra8 pt1 pt2 v5 v6 ek k0 k1 k2 S7
    have hi : IsH k [t1, t2] := ⟨by omega, by omega, by show 1 ≤ 2; decide, by show 2 ≤ 6; decide, fun u hu => by
      rcases List.mem_cons.mp hu with e | e
      · rw [e]; exact it1
      · rw [List.mem_singleton.mp e]; exact it2⟩
    obtain ⟨U, rm⟩ := small_room (by omega) hi.is
    refine ⟨fun σ H' => ∃ x4, σ = [some (.ref sa), some (.ref r), some (.int k), some t, x4, some (.ref c8), none, none, none, none] ∧ St7 K H' r sa pT pA, ?f1, ?f2⟩
    case f2 =>
      refine ⟨_, rfl, _, rfl, .ref c8, k, rfl, h2, by omega, S11.gT, S11.gA, .inr (.inr (.inr ⟨_, hv, hi, fun b1 H12 z12 h1 => ?_⟩))⟩
      refine ⟨_, rfl, .ref c8, k, _, U, rfl, z12.house hv, hi, rm, fun b2 H13 z13 h2' => ?_⟩
      have eb := same_sharp h2 hi rm h1 h2'
      subst eb
      exact ⟨_, _, .bl b1, rfl, (by rw [depth_bl]; omega), small_bl _, dt_bl _, dt_bl _, fun H14 z14 => ⟨_, rfl, ifF (A := _) (B := _) rfl ⟨_, rfl, ((S11.kp z12).kp z13).kp z14⟩⟩⟩
    clear S11 hv hi rm U
    rintro σ H12 ⟨x4, rfl, S12⟩
    -- great
    refine ⟨8, 1, rfl, by decide, by decide, fun vc H13 z13 pc => ⟨(by show 8 ≤ sizeLine; decide), fun g1 hg1 => ⟨(by show 2 ≤ sizeLine; decide), fun g2 hg2 => ⟨(by show 2 ≤ sizeLine; decide), fun g hg => ?_⟩⟩⟩⟩
    have S13 := S12.kp z13
    have ec : circ 8 1 = [1, 2, 3, 4, 5, 6, 7, 0] := by decide +kernel
    rw [ec] at pc
    have c1 := (Kp.refl H13).new hg1 (o := .tup [.int 1, .int 0, .int 2, .int 3, .int 4, .int 5, .int 6, .int 7])
    have c2 := (Kp.refl _).new hg2 (o := .tup [vc, .ref g1])
    have c3 := (Kp.refl _).new hg (o := .tup [.int 8, .ref g2])
    have S16 := S13.kp ((c1.trans c2).trans c3)
    have hv8 : HouseAt K (upd (upd (upd H13 g1 (.tup [.int 1, .int 0, .int 2, .int 3, .int 4, .int 5, .int 6, .int 7])) g2 (.tup [vc, .ref g1])) g (.tup [.int 8, .ref g2])) (.ref g) 8 gT8 :=
      ⟨g, .ref g2, rfl, SqT.of upd_same, g2, [vc, .ref g1], rfl, c3.sqT (SqT.of upd_same), .cons (((c1.trans c2).trans c3).pt pc).ti (.cons ⟨g1, rfl, (c2.trans c3).sqT (SqT.of upd_same)⟩ .nil)⟩
    generalize upd (upd (upd H13 g1 (.tup [.int 1, .int 0, .int 2, .int 3, .int 4, .int 5, .int 6, .int 7])) g2 (.tup [vc, .ref g1])) g (.tup [.int 8, .ref g2]) = H16 at S16 hv8 ⊢
    clear c1 c2 c3 hg hg2 hg1 pc z13 S13 S12
    -- odd
    refine ⟨Nat.zero_le _, fun o1 ho1 => ⟨(by show 1 ≤ sizeLine; decide), fun o4 ho4 => ⟨(by show 1 ≤ sizeLine; decide), fun a5 ha5 => ⟨(by show 1 ≤ sizeLine; decide), fun b5 hb5 => ⟨(by show 2 ≤ sizeLine; decide), fun o5 ho5 => ⟨(by show 2 ≤ sizeLine; decide), fun a6 ha6 => ⟨(by show 1 ≤ sizeLine; decide), fun b6 hb6 => ⟨(by show 2 ≤ sizeLine; decide), fun o6 ho6 => ⟨(by show 6 ≤ sizeLine; decide), fun l7 hl7 => ?_⟩⟩⟩⟩⟩⟩⟩⟩⟩
    have k1 := (Kp.refl H16).new ho1 (o := .tup [])
    have k2 := (Kp.refl _).new ho4 (o := .tup [.int 3])
    have k3 := (Kp.refl _).new ha5 (o := .tup [.int 0])
    have k4 := (Kp.refl _).new hb5 (o := .tup [.ref a5])
    have k5 := (Kp.refl _).new ho5 (o := .tup [.int 1, .ref b5])
    have k6 := (Kp.refl _).new ha6 (o := .tup [.int 1, .int 0])
    have k7 := (Kp.refl _).new hb6 (o := .tup [.ref a6])
    have k8 := (Kp.refl _).new ho6 (o := .lst [.int 2, .ref b6])
    have k9 := (Kp.refl _).new hl7 (o := .lst [.ref o1, .int 5, .str "house", .ref o4, .ref o5, .ref o6])
    have s8 := k8.trans k9
    have s7 := k7.trans s8
    have s6 := k6.trans s7
    have s5 := k5.trans s6
    have s4 := k4.trans s5
    have s3 := k3.trans s4
    have s2 := k2.trans s3
    have S20 := S16.kp (k1.trans s2)
    have hv20 := (k1.trans s2).house hv8
    have od1 : ∀ x ∈ [V.ref o1, .int 5, .str "house", .ref o4, .ref o5, .ref o6], Odd7 K (upd (upd (upd (upd (upd (upd (upd (upd (upd H16 o1 (.tup [])) o4 (.tup [.int 3])) a5 (.tup [.int 0])) b5 (.tup [.ref a5])) o5 (.tup [.int 1, .ref b5])) a6 (.tup [.int 1, .int 0])) b6 (.tup [.ref a6])) o6 (.lst [.int 2, .ref b6])) l7 (.lst [.ref o1, .int 5, .str "house", .ref o4, .ref o5, .ref o6])) x := by
      intro x hx
      simp only [List.mem_cons, List.mem_nil_iff, or_false] at hx
      rcases hx with rfl | rfl | rfl | rfl | rfl | rfl
      · exact .inl ⟨o1, rfl, s2.sqT (SqT.of upd_same)⟩
      · exact .inr (.inl rfl)
      · exact .inr (.inr (.inl rfl))
      · exact .inr (.inr (.inr (.inl ⟨o4, rfl, s3.sqT (SqT.of upd_same)⟩)))
      · exact .inr (.inr (.inr (.inr (.inl ⟨o5, .ref b5, rfl, s6.sqT (SqT.of upd_same), b5, [.ref a5], rfl, s5.sqT (SqT.of upd_same), .cons ⟨a5, rfl, s4.sqT (SqT.of upd_same)⟩ .nil⟩))))
      · exact .inr (.inr (.inr (.inr (.inr (.inl ⟨o6, b6, a6, rfl, k9.lst upd_same, s8.sqT (SqT.of upd_same), s7.sqT (SqT.of upd_same)⟩)))))
    have l20 : upd (upd (upd (upd (upd (upd (upd (upd (upd H16 o1 (.tup [])) o4 (.tup [.int 3])) a5 (.tup [.int 0])) b5 (.tup [.ref a5])) o5 (.tup [.int 1, .ref b5])) a6 (.tup [.int 1, .int 0])) b6 (.tup [.ref a6])) o6 (.lst [.int 2, .ref b6])) l7 (.lst [.ref o1, .int 5, .str "house", .ref o4, .ref o5, .ref o6]) l7 = some (.lst [.ref o1, .int 5, .str "house", .ref o4, .ref o5, .ref o6]) := upd_same
    generalize upd (upd (upd (upd (upd (upd (upd (upd (upd H16 o1 (.tup [])) o4 (.tup [.int 3])) a5 (.tup [.int 0])) b5 (.tup [.ref a5])) o5 (.tup [.int 1, .ref b5])) a6 (.tup [.int 1, .int 0])) b6 (.tup [.ref a6])) o6 (.lst [.int 2, .ref b6])) l7 (.lst [.ref o1, .int 5, .str "house", .ref o4, .ref o5, .ref o6]) = H20 at S20 hv20 od1 l20 ⊢
    clear s8 s7 s6 s5 s4 s3 s2 k1 k2 k3 k4 k5 k6 k7 k8 k9 ho1 ho4 ha5 hb5 ho5 ha6 hb6 ho6 hl7 S16 hv8
    refine ⟨fun σ H' => ∃ l9 xs, σ = [some (.ref sa), some (.ref r), some (.int k), some t, x4, some (.ref c8), some (.ref g), some (.ref l9), none, none] ∧ St7 K H' r sa pT pA ∧ HouseAt K H' (.ref g) 8 gT8 ∧ H' l9 = some (.lst xs) ∧ xs.length = 10 ∧ ∀ x ∈ xs, x = .ref g ∨ Odd7 K H' x, ?h1, ?h2⟩
    case h2 =>
      refine ⟨_, rfl, (by show 2 ≤ sizeLine; decide), fun a7 ha7 => ⟨(by show 1 ≤ sizeLine; decide), fun b7 hb7 => ⟨(by show 2 ≤ sizeLine; decide), fun o7 ho7 => ⟨(by show 2 ≤ sizeLine; decide), fun a8 ha8 => ⟨(by show 1 ≤ sizeLine; decide), fun b8 hb8 => ⟨(by show 2 ≤ sizeLine; decide), fun o8 ho8 => ⟨_, rfl, (by show 3 ≤ sizeLine; decide), fun a9 ha9 => ⟨(by show 1 ≤ sizeLine; decide), fun b9 hb9 => ⟨(by show 2 ≤ sizeLine; decide), fun o9 ho9 => ⟨(by show 4 ≤ sizeLine; decide), fun l8 hl8 => ?_⟩⟩⟩⟩⟩⟩⟩⟩⟩⟩
      have k1 := (Kp.refl H20).new ha7 (o := .tup [.int 1, .int 0])
      have k2 := (Kp.refl _).new hb7 (o := .lst [.ref a7])
      have k3 := (Kp.refl _).new ho7 (o := .tup [.int 2, .ref b7])
      have k4 := (Kp.refl _).new ha8 (o := .tup [.int 0, .int 1])
      have k5 := (Kp.refl _).new hb8 (o := .tup [.ref a8])
      have k6 := (Kp.refl _).new ho8 (o := .tup [.int 2, .ref b8])
      have k7 := (Kp.refl _).new ha9 (o := .tup [.int 1, .int 2, .int 0])
      have k8 := (Kp.refl _).new hb9 (o := .tup [.ref a9])
      have k9 := (Kp.refl _).new ho9 (o := .tup [.int 3, .ref b9])
      have k10 := (Kp.refl _).new hl8 (o := .lst [.ref o7, .ref o8, .ref g, .ref o9])
      have s9 := k9.trans k10
      have s8 := k8.trans s9
      have s7 := k7.trans s8
      have s6 := k6.trans s7
      have s5 := k5.trans s6
      have s4 := k4.trans s5
      have s3 := k3.trans s4
      have s2 := k2.trans s3
      have s1 := k1.trans s2
      refine ⟨l7, l8, _, _, rfl, rfl, s1.lst l20, upd_same, by show 10 ≤ sizeLine; decide, fun l9 hl9 => ?_⟩
      have y := (Kp.refl _).new hl9 (o := .lst ([.ref o1, .int 5, .str "house", .ref o4, .ref o5, .ref o6] ++ [.ref o7, .ref o8, .ref g, .ref o9]))
      refine ⟨l9, _, rfl, (S20.kp s1).kp y, (s1.trans y).house hv20, upd_same, rfl, fun x hx => ?_⟩
      rcases List.mem_append.mp hx with hx | hx
      · exact .inr ((od1 x hx).kp (s1.trans y))
      · simp only [List.mem_cons, List.mem_nil_iff, or_false] at hx
        rcases hx with rfl | rfl | rfl | rfl
        · exact .inr (.inr (.inr (.inr (.inr (.inr (.inr (.inl ⟨o7, b7, a7, rfl, (s4.trans y).sqT (SqT.of upd_same), (s3.trans y).lst upd_same, (s2.trans y).sqT (SqT.of upd_same)⟩)))))))
        · exact .inr (.inr (.inr (.inr (.inr (.inr (.inr (.inr (.inl ⟨o8, .ref b8, rfl, (s7.trans y).sqT (SqT.of upd_same), b8, [.ref a8], rfl, (s6.trans y).sqT (SqT.of upd_same), .cons ⟨a8, rfl, (s5.trans y).sqT (SqT.of upd_same)⟩ .nil⟩))))))))
        · exact .inl rfl
        · exact .inr (.inr (.inr (.inr (.inr (.inr (.inr (.inr (.inr ⟨o9, .ref b9, rfl, (k10.trans y).sqT (SqT.of upd_same), b9, [.ref a9], rfl, (s9.trans y).sqT (SqT.of upd_same), .cons ⟨a9, rfl, (s8.trans y).sqT (SqT.of upd_same)⟩ .nil⟩))))))))
    clear od1 l20 S20 hv20
    rintro σ H21 ⟨l9, xs, rfl, S21, hv21, hl21, xl, ods⟩
    refine ⟨fun σ H' => ∃ x9, σ = [some (.ref sa), some (.ref r), some (.int k), some t, x4, some (.ref c8), some (.ref g), some (.ref l9), none, x9] ∧ St7 K H' r sa pT pA, ?i1, ?i2⟩
    case i2 =>
      refine ⟨_, rfl, l9, rfl, ⟨_, SqL.of hl21⟩, fun E12 hE12 => ?_⟩
      refine lcG (Wlk.lst (SqL.of hl21)) hE12 (by rw [xl]; show 10 < sizeLine; decide) (fun _ => false) (fun _ _ _ => True) (fun _ _ _ _ _ _ => trivial) (fun i x H22 Q1 Q0 hi12 z22 hx12 q1 q0 => ?_) (fun ys H22 z22 hD12 hpr12 => ?_)
      · have S22 := S21.kp z22
        have hv22 := z22.house hv21
        refine ⟨rfl, ?_⟩
        rcases ods x (List.mem_of_getElem? hx12) with rfl | od
        · refine ⟨_, rfl, _, rfl, great_ne hv22 ⟨_, rfl, iteF (A := _) ⟨_, rfl, .ref g, 8, rfl, by decide, by decide, S22.gT, S22.gA, .inr (.inr (.inr ⟨_, hv22, g8_is, fun b H23 z23 hb => ?_⟩))⟩⟩⟩
          have eb := great_not hb
          subst eb
          exact ⟨_, _, rfl, rfl, _, rfl, ifF (A := _) (B := _) rfl (q0 _ rfl z23)⟩
        · have od := od.kp z22
          refine ⟨_, rfl, _, rfl, odd_ne od hv22 ⟨_, rfl, iteT (B := _) ⟨_, rfl, x, 3, rfl, by decide, by decide, S22.gT, S22.gA, ?_⟩⟩⟩
          rcases odd_case od with ⟨r', nn, fx, rn⟩ | ⟨m', ts, hvm, him, ne⟩ | h3
          · exact .inr (.inl ⟨r', nn, fx, rn, fun H23 z23 => ⟨_, _, rfl, rfl, _, rfl, ifF (A := _) (B := _) rfl (q0 _ rfl z23)⟩⟩)
          · exact .inr (.inr (.inl ⟨m', ts, hvm, him, ne, fun H23 z23 => ⟨_, _, rfl, rfl, _, rfl, ifF (A := _) (B := _) rfl (q0 _ rfl z23)⟩⟩))
          · refine .inr (.inr (.inr ⟨_, h3, g3_is, fun b H23 z23 hb => ?_⟩))
            have eb := three_not hb
            subst eb
            exact ⟨_, _, rfl, rfl, _, rfl, ifF (A := _) (B := _) rfl (q0 _ rfl z23)⟩
      have eY : ys = [] := by
        rw [List.filter_eq_nil_iff.mpr (fun _ _ h => by cases h)] at hpr12
        cases hpr12
        rfl
      subst eY
      refine ⟨Nat.zero_le _, fun e13 he13 => ?_⟩
      have z23 := (Kp.refl H22).new he13 (o := .lst [])
      exact ⟨E12, e13, [], rfl, rfl, z23.sqL (SqL.of hD12), SqL.of upd_same, _, rfl, ifF (A := _) (B := _) rfl ⟨_, rfl, S21.kp (z22.trans z23)⟩⟩
    clear S21 hv21 hl21 ods xl xs
    rintro σ H22 ⟨x9, rfl, S22⟩
    -- what is no number of halls
    refine ⟨_, rfl, (by show 6 ≤ sizeLine; decide), fun l hl => ?_⟩
    have z23 := (Kp.refl H22).new hl (o := .lst [.non, .int 1, .int 9, .bl true, .str "3", .int 0])
    have S23 := S22.kp z23
    have lr : l ≠ r := fun e => by
      obtain ⟨xs, h⟩ := S22.dr.1.lst
      rw [e, h] at hl
      cases hl
    refine ⟨r, sa, l, _, rfl, S23.dr, lr, SqL.of upd_same, (by simp), (by decide), fun x H24 z24 ra24 hx => ?_⟩
    refine ⟨x, false, rfl, ?_, fun _ => ⟨true, M.nb.m, fun _ a ha => q _, fun h => (by cases h)⟩, fun e => (by cases e)⟩
    simp only [List.mem_cons, List.mem_nil_iff, or_false] at hx
    rcases hx with rfl | rfl | rfl | rfl | rfl | rfl
    · exact .inr ⟨.inr ⟨"NoneType", fun _ _ => .base .non, by decide +kernel⟩, rfl⟩
    · exact .inl ⟨1, rfl, by decide⟩
    · exact .inl ⟨9, rfl, by decide⟩
    · exact .inr ⟨.inl ⟨_, rfl⟩, rfl⟩
    · exact .inr ⟨.inr ⟨"str", fun _ _ => .base (.str _), by decide +kernel⟩, rfl⟩
    · exact .inl ⟨0, rfl, by decide⟩
end
end NS
end
section
set_option maxHeartbeats 4000000
/-! HE: all the defs from the head's facts -/
namespace NS
open PySem PySem.Spec PyProof.Rows L2 ZS
section
variable {P : Program} {w : World} {K : PySem.W.Frag} {mg : Str → Option Value} {h base : Heap} {x : Str} {st : Stmt} {f : Addr} {fd : FuncData}
theorem code_ref (F : FnP K x st (He.ga K x) fd) : fd.code = .ref (He.codeOf K (x, none)) := by
  obtain ⟨oc, od, dV, kV, doc, pm, an, cdv, ct, osl, rfl, lk, hcd, _, _⟩ := F.ex
  obtain ⟨c, rfl⟩ := He.codeIn_ref hcd
  have e := He.codeOf_eq (p := (x, none)) (c := c) lk rfl
  rw [e]
theorem fnAt (c : He.SaysD fa fn K) (i : Nat) (e : fn[i]? = some (dd x st [])) : ∃ fd, FnP K x st (He.ga K x) fd := c.def_ i e
theorem tabG0 {H : Hp} {p : Addr} (e : H p = some (.tbl #[])) : GxR.TabG H p := ⟨#[], e, trivial⟩
theorem reached_binds (F : FunD K "reached" "reached" (defArgs sReached) (defBody sReached) (defScope sReached) [.non] [] f fd) : (∃ d, Vals [] d ∧ Binds K fd ["start", "turns", "lead", "most"] d) ∧ ∃ d, Vals [.non] d ∧ Binds K fd ["start", "turns", "lead", "most"] d := by
  obtain ⟨d4, v4, b4⟩ := FunD.binds1 (ps := ["start", "turns", "lead", "most"]) F 4 1 (by simp) rfl (fun T kV doc pm an cdv ct us its h1 h2 => match us, its, h1, h2 with | [_, _, _, _], [_], _, _ => ⟨_, rfl, rfl⟩)
  obtain ⟨d3, v3, b3⟩ := FunD.binds1 (ps := ["start", "turns", "lead", "most"]) F 3 0 (by simp) rfl (fun T kV doc pm an cdv ct us its h1 h2 => match us, its, h1, h2 with | [_, _, _], [_], _, _ => ⟨_, rfl, rfl⟩)
  exact ⟨⟨d4, v4, b4⟩, d3, v3, b3⟩
theorem reachedM_has {S : Addr → Option Sp} (F : FunD K "reached" "reached" (defArgs sReached) (defBody sReached) (defScope sReached) [.non] [] f fd) (m : mg "reached" = some (.ref f)) (B : Bl mg) (A : ∀ f sp, S f = some sp → Held P w K mg base 2 f sp) :
    Has P w K mg base "reached" 3 [] (spReachedM K P w S) := by
  obtain ⟨⟨d4, v4, b4⟩, _⟩ := reached_binds F
  exact ⟨f, fd, _, d4, m, F.kp, b4, v4, ok_reachedM (P := P) (w := w) (mg := mg) (base := base) F B A⟩
theorem reached_has {S : Addr → Option Sp} (F : FunD K "reached" "reached" (defArgs sReached) (defBody sReached) (defScope sReached) [.non] [] f fd) (m : mg "reached" = some (.ref f)) (B : Bl mg) (A : ∀ f sp, S f = some sp → Held P w K mg base 2 f sp) :
    Has P w K mg base "reached" 3 [] (spReached K P w S) ∧ Has P w K mg base "reached" 3 [.non] (spReached K P w S) := by
  have ok := ok_reached (P := P) (w := w) (mg := mg) (base := base) F B A
  obtain ⟨⟨d4, v4, b4⟩, d3, v3, b3⟩ := reached_binds F
  exact ⟨⟨f, fd, _, d4, m, F.kp, b4, v4, ok⟩, ⟨f, fd, _, d3, m, F.kp, b3, v3, ok⟩⟩
theorem reachedL_has {S : Addr → Option Sp} (F : FunD K "reached" "reached" (defArgs sReached) (defBody sReached) (defScope sReached) [.non] [] f fd) (m : mg "reached" = some (.ref f)) (B : Bl mg) (A : ∀ f sp, S f = some sp → Held P w K mg base 2 f sp) :
    Has P w K mg base "reached" 3 [] (spReachedL K P w S) := by
  obtain ⟨⟨d4, v4, b4⟩, _⟩ := reached_binds F
  exact ⟨f, fd, _, d4, m, F.kp, b4, v4, ok_reachedL (P := P) (w := w) (mg := mg) (base := base) F B A⟩
theorem bl_of (X : K.In h) (G : h.Ns mainGlobals mg) (c : He.SaysD fa fn K) : Bl mg :=
  ⟨He.free_ok X G (c.fact 32 (f := .free "tuple") rfl), He.free_ok X G (c.fact 33 (f := .free "list") rfl), He.free_ok X G (c.fact 34 (f := .free "len") rfl), He.free_ok X G (c.fact 35 (f := .free "range") rfl), He.free_ok X G (c.fact 36 (f := .free "isinstance") rfl), He.free_ok X G (c.fact 37 (f := .free "set") rfl), He.free_ok X G (c.fact 38 (f := .free "sorted") rfl), He.free_ok X G (c.fact 39 (f := .free "all") rfl), He.free_ok X G (c.fact 40 (f := .free "sum") rfl), He.free_ok X G (c.fact 41 (f := .free "enumerate") rfl), He.free_ok X G (c.fact 42 (f := .free "int") rfl), He.free_ok X G (c.fact 43 (f := .free "bool") rfl), He.free_ok X G (c.fact 44 (f := .free "str") rfl), He.free_ok X G (c.fact 45 (f := .free "any") rfl), He.free_ok X G (c.fact 46 (f := .free "min") rfl)⟩
/-- the only lead that is asked for -/
def S1 (a : Addr) (sp : Sp) : Addr → Option Sp := fun b => if b = a then some sp else none
theorem s1_self {a : Addr} {sp : Sp} : S1 a sp a = some sp := if_pos rfl
theorem s1_held {a : Addr} {sp : Sp} {k : Nat} (h : Held P w K mg base k a sp) : ∀ f sp', S1 a sp f = some sp' → Held P w K mg base k f sp' := fun f sp' e => by
  unfold S1 at e
  split at e
  · rename_i q
    cases e
    rw [q]
    exact h
  · cases e
theorem Held.up {f : Addr} {sp : Sp} {j k : Nat} (hk : j ≤ k) (h : Has P w K mg base x j [] sp) (e : mg x = some (.ref f)) : Held P w K mg base k f sp := by
  obtain ⟨fd, ps, h5, h2, h3⟩ := h.held e
  exact ⟨fd, ps, h5.mono hk, h2, h3⟩
abbrev pTA (K : PySem.W.Frag) : Addr := (He.cT K ("is_turn", none)).2
abbrev pAA (K : PySem.W.Frag) : Addr := (He.cT K ("are_turns", none)).2
theorem law_all (X : K.In h) (G : h.Ns mainGlobals mg) (c : He.SaysD fa fn K) {base : Heap} {fd : FuncData} (FLaw : FnP K "law" sLaw (He.ga K "law") fd) (XB : exB K = true) (T_is_turn : GxR.TabB base mg (He.codeOf K ("is_turn", none)) (pTA K)) (T_are_turns : GxR.TabB base mg (He.codeOf K ("are_turns", none)) (pAA K)) :
    FnOk P w K mg base CX0 13 (He.ga K "law") fd ["script"] (spLaw K (pTA K) (pAA K)) := by
  have B := bl_of X G c
  have g : ∀ {x : Str} (i : Nat), fa[i]? = some (.glo x) → mg x = some (.ref (He.ga K x)) := fun i e => He.glo_ok X G (c.fact i e)
  obtain ⟨t_MOST_HALLS, m_MOST_HALLS⟩ := He.int_ok X G (c.fact 47 (f := .int "MOST_HALLS" 8) rfl)
  have mi_MOST_HALLS : ∃ t, mg "MOST_HALLS" = some (.int 8 t) := ⟨_, m_MOST_HALLS⟩
  obtain ⟨t_MOST_TURNS, m_MOST_TURNS⟩ := He.int_ok X G (c.fact 48 (f := .int "MOST_TURNS" 6) rfl)
  have mi_MOST_TURNS : ∃ t, mg "MOST_TURNS" = some (.int 6 t) := ⟨_, m_MOST_TURNS⟩
  obtain ⟨t_FEWEST_HALLS, m_FEWEST_HALLS⟩ := He.int_ok X G (c.fact 49 (f := .int "FEWEST_HALLS" 2) rfl)
  have mi_FEWEST_HALLS : ∃ t, mg "FEWEST_HALLS" = some (.int 2 t) := ⟨_, m_FEWEST_HALLS⟩
  have d_TURNS := dicVB_ok X G (x := "TURNS") (l := turnsT) XB
  have dI_TURNS : ∃ d, mg "TURNS" = some (.ref d) ∧ DicI K d keysT := let ⟨d, e, D⟩ := d_TURNS; ⟨d, e, D.dicI⟩
  have e_BadNumber : ExcC K mg "BadNumber" (He.ga K "BadNumber") := by
    obtain ⟨x1, x2, x3, x4⟩ := He.exc_ok (c.fact 51 (f := .exc "BadNumber") rfl)
    exact ⟨g 50 rfl, x1, x2, x3, x4, of_decide_eq_true (c.fact 52 (f := .exm "BadNumber" "BadNumber" true) rfl)⟩
  obtain ⟨_, F⟩ := fnAt c 0 (x := "is_number") (st := sNumber) rfl
  have h_is_number := has_number (P := P) (w := w) (mg := mg) (base := base) F (g 0 rfl) B
  have hn_is_number := has_numX (P := P) (w := w) (mg := mg) (base := base) F (g 0 rfl) B
  clear F
  obtain ⟨_, F⟩ := fnAt c 1 (x := "is_turn") (st := sIsTurn) rfl
  have h_is_turn := has_isturn (P := P) (w := w) (mg := mg) (base := base) F (g 1 rfl) B h_is_number (code_ref F) T_is_turn
  have hn_is_turn := has_turnX (P := P) (w := w) (mg := mg) (base := base) F (g 1 rfl) B hn_is_number (code_ref F) T_is_turn
  clear F
  obtain ⟨_, F⟩ := fnAt c 2 (x := "are_turns") (st := sAreTurns) rfl
  have h_are_turns := has_turnsX (P := P) (w := w) (mg := mg) (base := base) F (g 2 rfl) B mi_MOST_TURNS hn_is_turn (code_ref F) T_are_turns
  clear F
  obtain ⟨_, F⟩ := fnAt c 3 (x := "house_fault") (st := sFault) rfl
  have h_house_fault := has_faultX (P := P) (w := w) (mg := mg) (base := base) F (g 3 rfl) B mi_MOST_HALLS hn_is_number h_are_turns
  clear F
  obtain ⟨_, F⟩ := fnAt c 4 (x := "check_house") (st := sCheckHouse) rfl
  have h_check_house := has_checkhouse (P := P) (w := w) (mg := mg) (base := base) F (g 4 rfl) (fault_house h_house_fault)
  clear F
  obtain ⟨_, F⟩ := fnAt c 5 (x := "check_number") (st := sChkNum) rfl
  have h_check_number := has_chknum (P := P) (w := w) (mg := mg) (base := base) F (g 5 rfl) h_is_number
  have hn_check_number := has_chknumX (P := P) (w := w) (mg := mg) (base := base) F (g 5 rfl) e_BadNumber hn_is_number
  clear F
  obtain ⟨_, F⟩ := fnAt c 6 (x := "still") (st := sStill) rfl
  have h_still := has_still (P := P) (w := w) (mg := mg) (base := base) F (g 6 rfl) B
  clear F
  obtain ⟨_, F⟩ := fnAt c 7 (x := "then") (st := sThen) rfl
  have h_then := has_then (P := P) (w := w) (mg := mg) (base := base) F (g 7 rfl) B
  clear F
  obtain ⟨_, F⟩ := fnAt c 8 (x := "hall_led") (st := sHall) rfl
  have h_hall_led := has_hall (P := P) (w := w) (mg := mg) (base := base) F (g 8 rfl)
  clear F
  obtain ⟨_, F⟩ := fnAt c 9 (x := "pair_led") (st := sPair) rfl
  have h_pair_led := has_pair (P := P) (w := w) (mg := mg) (base := base) F (g 9 rfl)
  clear F
  obtain ⟨_, FR⟩ := c.def_ 10 (d := dd "reached" sReached [.non]) rfl
  have r_then := reached_has (P := P) (w := w) (mg := mg) (base := base) (S := S1 (He.ga K "then") (spThen K)) FR (g 10 rfl) B (s1_held (Held.up (k := 2) (by decide) h_then (g 7 rfl)))
  have rL_then := reachedL_has (P := P) (w := w) (mg := mg) (base := base) (S := S1 (He.ga K "then") (spThen K)) FR (g 10 rfl) B (s1_held (Held.up (k := 2) (by decide) h_then (g 7 rfl)))
  have r_hall_led := reached_has (P := P) (w := w) (mg := mg) (base := base) (S := S1 (He.ga K "hall_led") (spHall K)) FR (g 10 rfl) B (s1_held (Held.up (k := 2) (by decide) h_hall_led (g 8 rfl)))
  have r_pair_led := reached_has (P := P) (w := w) (mg := mg) (base := base) (S := S1 (He.ga K "pair_led") (spPair K)) FR (g 10 rfl) B (s1_held (Held.up (k := 2) (by decide) h_pair_led (g 9 rfl)))
  obtain ⟨_, F⟩ := fnAt c 11 (x := "is_house") (st := sIsHouse) rfl
  have h_is_house := has_ishouseX (P := P) (w := w) (mg := mg) (base := base) F (g 11 rfl) h_house_fault
  clear F
  obtain ⟨_, F⟩ := fnAt c 12 (x := "parts") (st := sParts) rfl
  have h_parts := has_parts (P := P) (w := w) (mg := mg) (base := base) F (g 12 rfl) B (g 8 rfl) s1_self h_check_house (r_hall_led).2
  clear F
  obtain ⟨_, F⟩ := fnAt c 13 (x := "is_transitive") (st := sTrans) rfl
  have h_is_transitive := has_trans (P := P) (w := w) (mg := mg) (base := base) F (g 13 rfl) B h_parts
  clear F
  obtain ⟨_, F⟩ := fnAt c 14 (x := "rank") (st := sRank) rfl
  have h_rank := has_rank (P := P) (w := w) (mg := mg) (base := base) F (g 14 rfl) B (g 9 rfl) s1_self h_check_house (r_pair_led).2
  clear F
  obtain ⟨_, F⟩ := fnAt c 15 (x := "check_whole") (st := sChkWhole) rfl
  have h_check_whole := has_chkwholeG (P := P) (w := w) (mg := mg) (base := base) F (g 15 rfl) h_is_transitive
  clear F
  obtain ⟨_, F⟩ := fnAt c 16 (x := "is_sharp") (st := sSharp) rfl
  have h_is_sharp := has_sharpG (P := P) (w := w) (mg := mg) (base := base) F (g 16 rfl) B (g 7 rfl) s1_self h_check_whole h_rank h_still rL_then
  clear F
  obtain ⟨_, F⟩ := fnAt c 17 (x := "check_halls") (st := sChkHalls) rfl
  have h_check_halls := has_chkhalls (P := P) (w := w) (mg := mg) (base := base) F (g 17 rfl) mi_FEWEST_HALLS mi_MOST_HALLS h_check_number
  have hn_check_halls := has_chkhallsX (P := P) (w := w) (mg := mg) (base := base) F (g 17 rfl) mi_FEWEST_HALLS mi_MOST_HALLS hn_check_number
  clear F
  obtain ⟨_, F⟩ := fnAt c 18 (x := "sharp_house") (st := sSharpH) rfl
  have h_sharp_house := has_sharphX (P := P) (w := w) (mg := mg) (base := base) F (g 18 rfl) d_TURNS hn_check_halls
  clear F
  obtain ⟨_, F⟩ := fnAt c 19 (x := "shows_sharp") (st := sShowsS) rfl
  have h_shows_sharp := has_showsX (P := P) (w := w) (mg := mg) (base := base) F (g 19 rfl) dI_TURNS h_check_halls h_is_house h_is_transitive h_is_sharp
  clear F
  obtain ⟨_, F⟩ := fnAt c 20 (x := "_law_taken") (st := sTaken) rfl
  have h__law_taken := has_taken (P := P) (w := w) (mg := mg) (base := base) F (g 20 rfl) B
  clear F
  obtain ⟨_, F⟩ := fnAt c 21 (x := "_law_pick") (st := sPick) rfl
  have h__law_pick := has_pick (P := P) (w := w) (mg := mg) (base := base) F (g 21 rfl) B h__law_taken
  clear F
  obtain ⟨_, F⟩ := fnAt c 22 (x := "_law_alike") (st := sAlike) rfl
  have h__law_alike := has_alike (P := P) (w := w) (mg := mg) (base := base) F (g 22 rfl) B 0
  clear F
  obtain ⟨_, F⟩ := fnAt c 23 (x := "_law_turn") (st := sLTurn) rfl
  have h__law_turn := has_lturn (P := P) (w := w) (mg := mg) (base := base) F (g 23 rfl) B h__law_taken
  clear F
  obtain ⟨_, F⟩ := fnAt c 24 (x := "_law_circle") (st := sLCircle) rfl
  have h__law_circle := has_lcircle (P := P) (w := w) (mg := mg) (base := base) F (g 24 rfl) B
  clear F
  obtain ⟨_, F⟩ := fnAt c 25 (x := "_law_members") (st := sLMembers) rfl
  have h__law_members := has_lmembers (P := P) (w := w) (mg := mg) (base := base) F (g 25 rfl) B
  clear F
  obtain ⟨_, F⟩ := fnAt c 26 (x := "_law_known_groups") (st := sLKnown) rfl
  have h__law_known_groups := has_lknown (P := P) (w := w) (mg := mg) (base := base) F (g 26 rfl) B h__law_circle
  clear F
  obtain ⟨_, F⟩ := fnAt c 27 (x := "_law_mixed") (st := sLMixed) rfl
  have h__law_mixed := has_lmixed (P := P) (w := w) (mg := mg) (base := base) F (g 27 rfl) B h__law_turn
  clear F
  obtain ⟨_, F⟩ := fnAt c 28 (x := "_law_whole") (st := sLWhole) rfl
  have h__law_whole := has_lwhole (P := P) (w := w) (mg := mg) (base := base) F (g 28 rfl) h__law_mixed h__law_pick h__law_known_groups
  clear F
  obtain ⟨_, F⟩ := fnAt c 29 (x := "_law_pairs") (st := sLPairs) rfl
  have h__law_pairs := has_lpairs (P := P) (w := w) (mg := mg) (base := base) F (g 29 rfl) B
  clear F
  obtain ⟨_, F⟩ := fnAt c 30 (x := "_law_is_sharp") (st := sLSharp) rfl
  have h__law_is_sharp := has_lsharp (P := P) (w := w) (mg := mg) (base := base) F (g 30 rfl) B h__law_members h__law_pairs
  clear F
  exact ok_law FLaw B ⟨h__law_taken, h__law_pick, h__law_turn, h__law_circle, h__law_whole, h__law_mixed, h__law_alike, h__law_is_sharp, h_shows_sharp, h_sharp_house, e_BadNumber⟩
end
end NS
open PySem PySem.W PySem.Calls PyProof.Rows
theorem PySem.Challenge.cw_nobodystays_k07_whole_sharps_holds : PySem.Challenge.rw_nobodystays_k07_whole_sharps.Holds := by
  w_on; o_law
  refine HandSHeadRun.head_any (r := OpenLaw.row PySem.Challenge.rw_nobodystays_k07_whole_sharps) (q := view (OpenLaw.row PySem.Challenge.rw_nobodystays_k07_whole_sharps).prog [45]) (H := NS.hk) (ob := NS.ob) (M := 16000) (loose := NS.names) (d := HandSHeadRun.topDef (OpenLaw.row PySem.Challenge.rw_nobodystays_k07_whole_sharps).prog 45) (kwd := []) NS.ob_eq
    (by kernel_rfl) (fun s => by kernel_rfl) NS.run (by kernel_rfl) (by kernel_rfl) (by kernel_rfl) (by rfl) (by first | assumption | decide +kernel) (by decide +kernel) ⟨rfl, rfl, rfl, rfl, rfl, by decide +kernel⟩ ?hw ?hc
  case hw => w_witness2
  case hc =>
    refine LamX.walk_ofTsE (l := PySem.Challenge.rw_nobodystays_k07_whole_sharps) (n := 63) (k := 13) (x := "script") (CX := fun _ => L2.CX0) rfl (by decide) (by kernel_rfl) ⟨rfl, by decide, by decide⟩ ?F (fun _ _ _ _ _ z => z)
    intro w mg fa h Y G hmg0
    obtain ⟨K, KX, c⟩ := Y
    have hmg : mg ("law" : PySem.Str) = some (.ref fa) := by
      have e : (HandSHeadRun.topDef (OpenLaw.row PySem.Challenge.rw_nobodystays_k07_whole_sharps).prog 45).name = ("law" : PySem.Str) := by kernel_rfl
      rw [← e]
      exact hmg0
    have e := hmg.symm.trans (He.glo_ok KX G (c.t.d.fact 31 (f := .glo "law") rfl))
    cases e
    refine ⟨K, KX, ?_⟩
    obtain ⟨fd, FX⟩ := NS.fnAt c.t.d 31 (x := "law") (st := NS.sLaw) rfl
    have b := L2.FunD.bindsA (ps := ["script"]) FX fun _ _ _ _ _ _ us hl => match us, hl with | [_], _ => rfl
    refine ⟨fd, NS.tf.map (He.cT K), NS.spLaw K (NS.pTA K) (NS.pAA K), fun p hp => ?_, fun p hp => ?_, fun p hp => ?_, fun s v => b s [v] rfl, fun H a ns hl hb hT hS => ⟨a, ns, rfl, hS, NS.tabG0 (hT (He.cT K ("is_turn", none)) (List.mem_map.mpr ⟨_, List.mem_cons_self, rfl⟩)), NS.tabG0 (hT (He.cT K ("are_turns", none)) (List.mem_map.mpr ⟨_, List.mem_cons_of_mem _ List.mem_cons_self, rfl⟩)), fun _ => rfl⟩, fun base KB GB TB => ?_⟩
    · obtain ⟨d, hd, rfl⟩ := List.mem_map.mp hp
      exact c.empty d hd
    · obtain ⟨d, hd, rfl⟩ := List.mem_map.mp hp
      exact c.out d hd
    · obtain ⟨d, hd, rfl⟩ := List.mem_map.mp hp
      exact PySem.W.codeHd_of_K KX (c.hd d hd)
    · have z1 := TB (He.cT K ("is_turn", none)) (List.mem_map.mpr ⟨_, List.mem_cons_self, rfl⟩)
      have z2 := TB (He.cT K ("are_turns", none)) (List.mem_map.mpr ⟨_, List.mem_cons_of_mem _ List.mem_cons_self, rfl⟩)
      exact NS.law_all KX G c.t.d FX c.more ⟨z1.code, z1.bm, z1.gP⟩ ⟨z2.code, z2.bm, z2.gP⟩
end
