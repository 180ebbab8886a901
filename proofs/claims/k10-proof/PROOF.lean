import PyProof.Rows.All
import Wide.All
import OpenK.AllK
import Wide.FinOn
import HandS.ForMost
import HandS.AnyAll
import HandS.GenList
import PyProof.ConsumeS
import PyProof.Rows.SeqGen
import HandS.Set
import HandS.TupSets
import KE.KeyNested
import HandS.SortInts
import KE.KSortTupAny
import HandS.Strs
import HandS.SetBool
import HandS.Comp
import HandS.SetFor
import PyProof.Draws
import PyProof.EnumMake
import HandS.Iter
import HandS.Deep
import HandS.CallLocal
import HandS.Defaults
import HandS.TupAny
import HandS.Conv
import HandS.IsInst
import KE.KDictDisplayH
import KE.KDictKeyed
import KE.KDictWalk
import KE.KDictCopyH
import PyProof.Rows.TupTab
import PyProof.NeKinds
import PyProof.EqAt
import PyProof.WalksMore
import PyProof.Rows.SumAny
import HandS.List
import HandS.ForExc
import HandS.Star
import HandS.Lambda
import HandS.Exc
import HandS.ExcIs
import HandS.ExcField
import KE.KExcIs
import HandS.ExcInit
import HandS.ExcBuiltin
import HandS.HeadHook1
import HandS.More
import HandS.HeadHook3
import HandS.Codes
import HandS.ReplaceList
import PyProof.StrOps2
import KE.GoesEnumKw
import HandS.FStr
import HandS.TupMul
import HandS.TupLe
import HandS.Property
import HandS.HeadNt
import HandS.HeadHook2
import HandS.HeadHook4
import HandS.Head0
import HandS.Head1
import HandS.Head2
import HandS.HeadEnd
import HandS.HeadWalk
import PySem.Challenge.RW_nobodystays_k10_all_refused
set_option Elab.async false
set_option linter.all false
set_option maxRecDepth 100000
namespace ZS
end ZS
section
namespace NS
open PySem PySem.Spec PyProof.Rows L2
abbrev PR : Program := PySem.Challenge.pw_nobodystays_k10_all_refused
def top (i : Nat) : Stmt := PR.main.body.getD i (.Pass ⟨0, 0, 0, 0⟩)
abbrev sStill : Stmt := top 23
abbrev sThen : Stmt := top 24
abbrev sUndone : Stmt := top 25
abbrev sHall : Stmt := top 26
abbrev sPair : Stmt := top 27
abbrev sLike : Stmt := top 28
abbrev sNumber : Stmt := top 14
abbrev sIsTurn : Stmt := top 15
abbrev sAreTurns : Stmt := top 16
abbrev sFault : Stmt := top 17
abbrev sCheckHouse : Stmt := top 18
abbrev sCheckTurn : Stmt := top 19
abbrev sCheckRow : Stmt := top 20
abbrev sReached : Stmt := top 29
abbrev sMade : Stmt := top 31
abbrev sMembers : Stmt := top 32
abbrev sOrder : Stmt := top 33
abbrev sIsMember : Stmt := top 34
abbrev sLikes : Stmt := top 38
abbrev sParts : Stmt := top 35
abbrev sTrans : Stmt := top 36
abbrev sRank : Stmt := top 37
abbrev sKept : Stmt := top 50
abbrev sStayers : Stmt := top 51
abbrev sRings : Stmt := top 52
abbrev sTable : Stmt := top 53
abbrev sTaken : Stmt := top 76
abbrev sPick : Stmt := top 77
abbrev sLCircle : Stmt := top 78
abbrev sChkWhole : Stmt := top 56
abbrev sRoamers : Stmt := top 60
abbrev sCountR : Stmt := top 62
abbrev sLeast : Stmt := top 63
abbrev sSpare : Stmt := top 64
abbrev sFewest : Stmt := top 65
abbrev sSharp : Stmt := top 66
abbrev sSurplus : Stmt := top 68
abbrev sSingle : Stmt := top 69
abbrev sCore : Stmt := top 70
abbrev sCoreG : Stmt := top 71
def oexB (K : PySem.W.Frag) (C : Addr) : Bool := (match K.lookup C with
  | some ⟨.type "type", _, .cls cd, sl⟩ => (match cd.mro, sl.toList with
    | .ref C' :: bm, [_, _, _, _, some (.builtin n), _] => C' == C && n == "ValueError.__new__" && !cd.hasDel && cd.hasDict && PySem.HandSPX.refsVE bm
    | _, _ => false)
  | _ => false) && decide (PySem.W.findIn K (.ref C) "__setattr__" = some (some (.builtin "object.__setattr__"))) && decide (PySem.W.subIn K (.ref C) (.type "BaseException") = some true) && decide (PySem.W.typeIn K (.ref C) = some (.type "type")) && PySem.W.keepIn K (.ref C)
/-- a part of a class's text -/
def clsIt : Stmt → Nat → Stmt
  | .ClassDef _ _ _ body .., i => body.getD i (.Pass ⟨0, 0, 0, 0⟩)
  | _, _ => .Pass ⟨0, 0, 0, 0⟩
abbrev sBadInit : Stmt := clsIt (top 2) 0
inductive E6 where
  | b | r | m | t | w | u
  deriving DecidableEq
structure ErrA where
  c : E6 → Addr
  e : Addr
def E6.nm : E6 → Str
  | .b => "BadHouse" | .r => "BadRow" | .m => "TooMany" | .t => "BadTurn" | .w => "NotWithin" | .u => "Unlike"
abbrev sLErr : Stmt := top 79
abbrev sIsPower : Stmt := top 57
abbrev sArePowers : Stmt := top 58
abbrev sIsPlain : Stmt := top 59
abbrev sPlain : Stmt := top 61
abbrev sBoth : Stmt := top 40
abbrev sLies : Stmt := top 41
abbrev sPartG : Stmt := top 42
abbrev sCovT : Stmt := top 43
abbrev sUncT : Stmt := top 44
abbrev sWithin : Stmt := top 45
abbrev sCountC : Stmt := top 46
abbrev sUnc : Stmt := top 47
abbrev sShowsU : Stmt := top 48
abbrev sWriteTurn : Stmt := top 73
abbrev sWriteHouse : Stmt := top 74
abbrev sIsHouse : Stmt := top 30
abbrev sRowInit : Stmt := clsIt (top 4) 0
abbrev sManyInit : Stmt := clsIt (top 9) 0
abbrev sLCalls : Stmt := top 80
abbrev sLParted : Stmt := top 81
abbrev sLMore : Stmt := top 82
abbrev sLaw : Stmt := top 83
def md (x m qual : Str) (st : Stmt) : He.DefD := ⟨(x, some m), m, qual, defArgs st, defBody st, defScope st, [], []⟩
def excB (K : PySem.W.Frag) (D : Addr) : Bool := (decide (PySem.W.findIn K (.ref D) "__getattribute__" = some (some (.builtin "BaseException.__getattribute__"))) && decide (PySem.W.findIn K (.ref D) "__getattr__" = some none)) && ((decide (PySem.W.subIn K (.ref D) (.type "BaseException") = some true) && PySem.W.hasDictIn K D) && ((decide (PySem.W.findIn K (.ref D) "__class__" = some (some (.builtin "object.__class__"))) && decide (PySem.W.specialIn K (.builtin "object.__class__") "__get__" = some (some (.builtin "getset_descriptor.__get__")))) && (decide (PySem.W.takesIn K (.builtin "object.__class__") = some true) && decide (PySem.W.mroIn K D (.type "object") = some true))))
def e6s : List E6 := [.b, .r, .m, .t, .w, .u]
abbrev aeK (K : PySem.W.Frag) : ErrA := ⟨fun i => He.ga K i.nm, He.ga K "TurnError"⟩
def exD (K : PySem.W.Frag) : Bool := (e6s.all fun i => excB K ((aeK K).c i) && (decide (PySem.W.exmOne K (.ref ((aeK K).c i)) (.ref (aeK K).e) = some true) && e6s.all fun j => decide (PySem.W.kitOne K (.ref ((aeK K).c i)) (.ref ((aeK K).c j)) = some (decide (i = j))))) &&
  ((decide (PySem.W.kitOne K (.ref ((aeK K).c .b)) (.type "ValueError") = some true) && (xfB K ((aeK K).c .b) && (xfB K ((aeK K).c .r) && xfB K ((aeK K).c .m)))) && (decide (PySem.W.findIn K (.ref ((aeK K).c .b)) "part" = some none) && (decide (PySem.W.findIn K (.ref ((aeK K).c .r)) "index" = some none) && decide (PySem.W.findIn K (.ref ((aeK K).c .m)) "most" = some none))))
end NS
end
section
set_option maxHeartbeats 0
/-! HD: the head -/
namespace NS
open PySem PySem.Spec PyProof.Rows L2 ZS
def dd (x : Str) (st : Stmt) (df : List He.Dv) : He.DefD := ⟨(x, none), x, x, defArgs st, defBody st, defScope st, df, []⟩
def fn : List He.DefD := [dd "is_number" sNumber [], dd "is_turn" sIsTurn [], dd "are_turns" sAreTurns [], dd "house_fault" sFault [], dd "check_house" sCheckHouse [], dd "check_turn" sCheckTurn [], dd "check_row" sCheckRow [], dd "still" sStill [], dd "then" sThen [], dd "undone" sUndone [], dd "hall_led" sHall [], dd "pair_led" sPair [], dd "like" sLike [], dd "reached" sReached [.non], dd "is_house" sIsHouse [], dd "made" sMade [], dd "members" sMembers [], dd "order" sOrder [], dd "is_member" sIsMember [], dd "parts" sParts [], dd "is_transitive" sTrans [], dd "rank" sRank [], dd "likes" sLikes [], dd "both_groups" sBoth [], dd "lies_within" sLies [], dd "part_groups" sPartG [], dd "covered_turns" sCovT [], dd "uncovered_turns" sUncT [], dd "is_within" sWithin [], dd "count_covered" sCountC [], dd "uncovered" sUnc [], dd "shows_uncovered" sShowsU [], dd "halls_kept" sKept [], dd "stayers" sStayers [], dd "rings" sRings [], dd "table" sTable [], dd "check_whole" sChkWhole [], dd "is_power" sIsPower [], dd "are_powers" sArePowers [], dd "is_plain" sIsPlain [], dd "roamers" sRoamers [], dd "plain_roamers" sPlain [], dd "count_roamers" sCountR [], dd "least_roamer" sLeast [], dd "spare" sSpare [], dd "has_fewest" sFewest [], dd "is_sharp" sSharp [], dd "surplus" sSurplus [], dd "is_single" sSingle [], dd "core" sCore [], dd "core_is_group" sCoreG [], dd "write_turn" sWriteTurn [], dd "write_house" sWriteHouse [], dd "_law_taken" sTaken [], dd "_law_pick" sPick [], dd "_law_circle" sLCircle [], dd "_law_error" sLErr [], dd "_law_calls" sLCalls [], dd "_law_parted" sLParted [], dd "_law_more" sLMore [], dd "law" sLaw [], md "BadHouse" "__init__" "BadHouse.__init__" sBadInit, md "BadRow" "__init__" "BadRow.__init__" sRowInit, md "TooMany" "__init__" "TooMany.__init__" sManyInit]
def fa1 : List He.Fa := [.glo "is_number", .glo "is_turn", .glo "are_turns", .glo "house_fault", .glo "check_house", .glo "check_turn", .glo "check_row", .glo "still", .glo "then", .glo "undone", .glo "hall_led", .glo "pair_led", .glo "like", .glo "reached", .glo "is_house", .glo "made", .glo "members", .glo "order", .glo "is_member", .glo "parts", .glo "is_transitive", .glo "rank", .glo "likes", .glo "both_groups", .glo "lies_within", .glo "part_groups", .glo "covered_turns", .glo "uncovered_turns", .glo "is_within", .glo "count_covered", .glo "uncovered", .glo "shows_uncovered", .glo "halls_kept", .glo "stayers", .glo "rings", .glo "table", .glo "check_whole", .glo "is_power", .glo "are_powers", .glo "is_plain", .glo "roamers", .glo "plain_roamers", .glo "count_roamers", .glo "least_roamer", .glo "spare", .glo "has_fewest", .glo "is_sharp", .glo "surplus", .glo "is_single", .glo "core", .glo "core_is_group", .glo "write_turn", .glo "write_house", .glo "_law_taken", .glo "_law_pick", .glo "_law_circle", .glo "_law_error", .glo "_law_calls", .glo "_law_parted", .glo "_law_more", .glo "law"]
def fa2 : List He.Fa := [.free "tuple", .free "list", .free "len", .free "range", .free "isinstance", .free "set", .free "sorted", .free "all", .free "sum", .free "enumerate", .free "int", .free "bool", .free "str", .free "any", .free "min", .int "MOST_HALLS" 8, .int "MOST_TURNS" 6, .int "LONGEST_ROW" 100, .int "MOST_MEMBERS" 5040]
def fa3 : List He.Fa := [.glo "BadTurn", .exc "BadTurn", .exm "BadTurn" "BadTurn" true, .glo "NotWithin", .exc "NotWithin", .exm "NotWithin" "NotWithin" true, .glo "Unlike", .exc "Unlike", .exm "Unlike" "Unlike" true]
def fa4 : List He.Fa := [.glo "BadHouse", .meth "BadHouse" "__init__", .noat "BadHouse" "part", .exm "BadHouse" "BadHouse" true, .glo "BadRow", .meth "BadRow" "__init__", .noat "BadRow" "index", .exm "BadRow" "BadRow" true, .glo "TooMany", .meth "TooMany" "__init__", .noat "TooMany" "most", .exm "TooMany" "TooMany" true, .glo "TurnError", .free "ValueError"]
def fa : List He.Fa := fa1 ++ fa2 ++ fa3 ++ fa4
def tf : List He.Defn := [("is_turn", none), ("are_turns", none), ("law", none), ("_law_calls", none), ("_law_parted", none), ("_law_more", none)]
def exB (K : PySem.W.Frag) : Bool := oexB K (He.ga K "BadHouse") && oexB K (He.ga K "BadRow") && oexB K (He.ga K "TooMany") && exD K && decide (([(He.cT K ("law", none)).2, (He.cT K ("_law_calls", none)).2, (He.cT K ("_law_parted", none)).2, (He.cT K ("_law_more", none)).2]).Nodup)
def names1 : List PySem.Str := ["TurnError", "BadHouse", "BadTurn", "BadRow", "NotWhole", "NotSingle", "NotWithin", "Unlike", "TooMany", "MOST_HALLS", "MOST_TURNS", "LONGEST_ROW", "MOST_MEMBERS", "PRIMES", "is_number", "is_turn", "are_turns", "house_fault", "check_house", "check_turn"]
def names2 : List PySem.Str := ["check_row", "still", "then", "undone", "hall_led", "pair_led", "like", "reached", "is_house", "made", "members", "order", "is_member", "parts", "is_transitive", "rank", "likes", "both_groups", "lies_within", "part_groups"]
def names3 : List PySem.Str := ["covered_turns", "uncovered_turns", "is_within", "count_covered", "uncovered", "shows_uncovered", "halls_kept", "stayers", "rings", "table", "check_whole", "is_power", "are_powers", "is_plain", "roamers", "plain_roamers", "count_roamers", "least_roamer", "spare", "has_fewest"]
def names4 : List PySem.Str := ["is_sharp", "surplus", "is_single", "core", "core_is_group", "write_turn", "write_house", "_law_taken", "_law_pick", "_law_circle", "_law_error", "_law_calls", "_law_parted", "_law_more"]
def names : List PySem.Str := names1 ++ names2 ++ names3 ++ names4
abbrev RR : PySem.W.OpenRow := PySem.W.OpenLaw.row PySem.Challenge.rw_nobodystays_k10_all_refused
abbrev hk : PySem.W.Hook := He.hookX 5 fa fn [] tf exB
def ob (s : PySem.W.SharedT) : He.AlX := He.obsX 5 fa fn [] tf exB (HandSHeadRun.getT s)
theorem ob_eq (s : PySem.W.SharedT) : ob s = hk.obs s.abs := He.obsX_eq (HandSHeadRun.getT_eq s)
theorem run (w : World) : HandSHeadRun.RunEq RR (PySem.W.view RR.prog [83]) hk ob 4000 names w := by
  intro os
  kernel_rfl
end NS
end
section
set_option maxHeartbeats 4000000
/-! GAll: all(test for x in a tuple), the test any expression of the frame (calls of own defs within) -/
namespace GA
open PySem PySem.Spec PyProof.Rows L2 GenW
/-- a generator expression's frame, as a context -/
def gx (X : Cx) (N : List Str) (env : Env) (A : Around) (s : Shared) (H : Hp) (ex : List Addr) : Cx :=
  { prog := X.prog, w := X.w, K := X.K, mg := X.mg, base := X.base, A := A, N := N, s_0 := s, H_0 := H, env := env,
    outer := X.stack, stack := env :: X.stack, ex := ex, fn := fun _ => false, calm := true, pn := [], xe := fun _ _ => False }
structure Wk (s s' : Shared) : Prop where
  os : s'.os = s.os
  bare : AllBare s'.gens
  heap : s'.heap = s.heap
theorem Wk.inv {X : Cx} {pins : List (Addr × Obj)} {σ : L2.St} {H : Hp} {s s' : Shared} (k : Wk s s') (I : Inv X pins σ H s) : Inv X pins σ H s' :=
  I.call' (ch := []) k.os (by rw [k.heap]; exact Un.refl) (by rw [k.heap]; exact I.hok) k.bare (fun b z => absurd z (by simp))
section
variable {X : Cx} {pins : List (Addr × Obj)} {it : Addr} {vs : List (Option V)} {fp : List Addr} {tn : Nat → Heap → Prop} {W : Nat → Hp → Prop} {Qf : Hp → Prop} {pb : Nat → Bool} {n0 : Nat} {ag : Addr} {g : Nat}
def Top (X : Cx) (pins : List (Addr × Obj)) (it : Addr) (vs : List (Option V)) (fp : List Addr) (tn : Nat → Heap → Prop) (W : Nat → Hp → Prop) (i : Nat) (s : Shared) : Prop :=
  ∃ y H, Inv X pins (some (.ref it) :: y :: vs) H s ∧ tn i s.heap ∧ (∀ b ∈ fp, FpOk X pins H b) ∧ W i H
def Here (X : Cx) (pins : List (Addr × Obj)) (it : Addr) (vs : List (Option V)) (R : Hp → Prop) (s : Shared) : Prop :=
  ∃ y H, Inv X pins (some (.ref it) :: y :: vs) H s ∧ R H
/-- handed out: the truth of the test; it goes on only behind a true one -/
def Yp (X : Cx) (pins : List (Addr × Obj)) (it : Addr) (vs : List (Option V)) (Qf : Hp → Prop) (pb : Nat → Bool) (n0 : Nat) : Protocol := fun m _ v s kap =>
  ∃ i, (m + i = n0 ∧ i < n0) ∧ v = .bool (pb i) ∧ Here X pins it vs (fun H => pb i = false → Qf H) s ∧ (pb i = true → ∀ s', Wk s s' → kap (.send .none) s')
abbrev Rp (X : Cx) (pins : List (Addr × Obj)) (it : Addr) (vs : List (Option V)) (W : Nat → Hp → Prop) (n0 : Nat) : GenEnd := fun n _ r s₁ => r = .ok .next ∧ (n = 1 ∧ Here X pins it vs (W n0) s₁)
theorem Top.wake {i : Nat} {s s' : Shared} (k : Wk s s') (h : Top X pins it vs fp tn W i s) : Top X pins it vs fp tn W i s' := by
  obtain ⟨y, H, I, t, f, w⟩ := h
  exact ⟨y, H, k.inv I, by rw [k.heap]; exact t, f, w⟩
/-- the generator's own loop -/
theorem seg_loop {A : Around} {elt iter : Expr} {x : Str} {px pos : Pos} {scope : Scope} {xs : List V} {a : Addr} {te : TE}
    (hA : A.over (.compLoop (.GeneratorExp elt [⟨.Name x px, iter, [], 0⟩] scope pos) 0 (.ref it) .none X.env) [] = X.A) (hc : X.calm = true) (hco : X.env.scope.isCoroutine = false) (hxe : X.xe = fun _ _ => False)
    (T : Turn X.prog X.w X.K (.Name x px) (Itt X.K a) fp it tn) (hg : PG X (.Name x px) (gName 1)) (hel : PE X elt te) (hl : xs.length = n0)
    (hxs : ∀ i H, W i H → SqT X.K H a xs)
    (step : ∀ i v H, xs[i]? = some v → W i H → te (some (.ref it) :: some v :: vs) H fun b H3 => b = .bl (pb i) ∧ (pb i = true → W (i + 1) H3) ∧ (pb i = false → Qf H3)) :
    ∀ (k i : Nat) (s₀ s : Shared), n0 - i = k → i ≤ n0 → Top X pins it vs fp tn W i s →
      Seg (model X.prog X.w) A (Rp X pins it vs W n0) (Yp X pins it vs Qf pb n0) (k + 1) s₀ (.compLoop (.GeneratorExp elt [⟨.Name x px, iter, [], 0⟩] scope pos) 0 (.ref it) .none X.env)
        ((model X.prog X.w).den (.compLoop (.GeneratorExp elt [⟨.Name x px, iter, [], 0⟩] scope pos) 0 (.ref it) .none X.env)) [] s := by
  intro k
  induction k with
  | zero =>
    intro i s₀ s hk hi ⟨y, H, I, t, f, w⟩
    have ei : i = n0 := by omega
    subst ei
    show Seg _ A _ _ _ s₀ _ ((compTurn (.GeneratorExp elt [⟨.Name x px, iter, [], 0⟩] scope pos) 0 (.ref it) .none X.env).onRaise (leaving X.env)) [] s
    rw [compTurn_gen, Sem.onRaise_eq_wrap]
    refine seg_bind_wrap (wpAny_standAt (seg_bind_wrap ?_))
    rw [hA]
    refine thn (T.done X rfl rfl rfl hc i pins s _ H _ I f t ⟨xs, hxs _ _ w, by omega⟩) fun r s1 ⟨hr, I1⟩ => ?_
    subst hr
    exact seg_end (.ok .next) ⟨rfl, rfl, y, H, I1, w⟩
  | succ k ih =>
    intro i s₀ s hk hi ⟨y, H, I, t, f, w⟩
    have hlt : i < xs.length := by omega
    obtain ⟨v, hv⟩ : ∃ v, xs[i]? = some v := ⟨xs[i], List.getElem?_eq_getElem hlt⟩
    show Seg _ A _ _ _ s₀ _ ((compTurn (.GeneratorExp elt [⟨.Name x px, iter, [], 0⟩] scope pos) 0 (.ref it) .none X.env).onRaise (leaving X.env)) [] s
    rw [compTurn_gen, Sem.onRaise_eq_wrap]
    refine seg_bind_wrap (wpAny_standAt (seg_bind_wrap ?_))
    rw [hA]
    refine thn (T.item X rfl rfl rfl hc i pins s _ H _ I f t ⟨xs, v, hxs _ _ w, hv⟩) fun r s1 ⟨u, hr, h1⟩ => ?_
    subst hr
    refine seg_bind_wrap ?_
    rw [hA]
    refine thn h1 fun _ s2 ⟨x2, H2, I2, r2, y2, t2, f2⟩ => ?_
    obtain ⟨eH, ex⟩ := y2
    subst eH
    have ev : x2 = v := Option.some.inj ((ex xs (hxs _ _ w)).symm.trans hv)
    subst ev
    have J2 := I2.pinned f (T.obj _ _ t2)
    refine seg_bind_wrap ?_
    rw [hA]
    refine wpAny_mono (hg.run _ s2 _ _ x2 u (fun σ' H' => σ' = some (.ref it) :: some x2 :: vs ∧ H' = H2) J2 r2 ⟨rfl, rfl⟩) (fun _ s3 h3 => ?_) fun e s3 z => (by rw [hxe] at z; exact z.elim)
    obtain ⟨σ3, H3, I3, e3, eH3⟩ := h3
    subst e3 eH3
    simp only [List.forIn_nil]
    refine seg_bind_wrap (wpAny_pure ?_)
    simp only [if_true]
    have hy : ∀ z, yieldOut X.env z = yieldValue z := fun z => by unfold yieldOut; simp only [hco, Bool.false_eq_true, if_false]
    simp only [hy]
    rw [Sem.bind_eq_wrap', Sem.bind_eq_wrap', Sem.wrap_wrap, Sem.wrap_wrap]
    refine seg_wrap ?_
    rw [hA]
    refine wpAny_mono (hel.run _ s3 _ _ _ I3 (step i x2 H3 hv w)) (fun z s4 h4 => ?_) fun e s4 z => (by rw [hxe] at z; exact z.elim)
    obtain ⟨b, H4, I4, r4, eb, q1, q2⟩ := h4
    subst eb
    have ez : z = Value.bool (pb i) := r4
    subst ez
    have t4 : tn (i + 1) s4.heap := T.keep _ _ _ t2 fun b hb o e => (I4.pin (b, o) (List.mem_append_right _ (List.mem_append_right _ (mem_pinsAt hb e)))).1
    have f4 : ∀ b ∈ fp, FpOk X pins H4 b := fun b hb => by
      obtain ⟨o, e, d⟩ := T.obj _ _ t2 b hb
      exact ⟨(I4.pin (b, o) (List.mem_append_right _ (List.mem_append_right _ (mem_pinsAt hb e)))).2.1, (f b hb).2⟩
    refine seg_at (seg_yield rfl rfl rfl ⟨i, ⟨by omega, by omega⟩, rfl, ⟨some x2, H4, I4.unpinned, q2⟩, fun hp s'' hw => ?_⟩)
    exact seg_again rfl (ih (i + 1) s'' s'' (by omega) (by omega) (Top.wake hw ⟨some x2, H4, I4.unpinned, t4, f4, q1 hp⟩))
theorem seg_begin {A : Around} {elt iter : Expr} {x : Str} {px pos : Pos} {scope : Scope} {xs : List V} {a : Addr} {te : TE}
    (hA : A.over (.compLoop (.GeneratorExp elt [⟨.Name x px, iter, [], 0⟩] scope pos) 0 (.ref it) .none X.env) [] = X.A) (hc : X.calm = true) (hco : X.env.scope.isCoroutine = false) (hxe : X.xe = fun _ _ => False)
    (T : Turn X.prog X.w X.K (.Name x px) (Itt X.K a) fp it tn) (hg : PG X (.Name x px) (gName 1)) (hel : PE X elt te) (hl : xs.length = n0)
    (hxs : ∀ i H, W i H → SqT X.K H a xs)
    (step : ∀ i v H, xs[i]? = some v → W i H → te (some (.ref it) :: some v :: vs) H fun b H3 => b = .bl (pb i) ∧ (pb i = true → W (i + 1) H3) ∧ (pb i = false → Qf H3))
    (s₀ s : Shared) (h : Top X pins it vs fp tn W 0 s) :
      Seg (model X.prog X.w) A (Rp X pins it vs W n0) (Yp X pins it vs Qf pb n0) (n0 + 1) s₀ (.compStart (.GeneratorExp elt [⟨.Name x px, iter, [], 0⟩] scope pos) 0 (.ref it) .none X.env)
        ((model X.prog X.w).den (.compStart (.GeneratorExp elt [⟨.Name x px, iter, [], 0⟩] scope pos) 0 (.ref it) .none X.env)) [] s := by
  have loop := seg_loop (A := A) (elt := elt) (iter := iter) (px := px) (scope := scope) (pos := pos) hA hc hco hxe T hg hel hl hxs step n0 0 s₀ s (Nat.sub_zero _) (Nat.zero_le _) h
  obtain ⟨y, H, I, t, f, w⟩ := h
  show Seg _ A _ _ _ s₀ _ ((compStart (.GeneratorExp elt [⟨.Name x px, iter, [], 0⟩] scope pos) 0 (.ref it) .none X.env).onRaise (leaving X.env)) [] s
  unfold compStart
  rw [Sem.onRaise_eq_wrap]
  show Seg _ A _ _ _ s₀ _ ((ask >>= _).wrap _ _ _ _) [] s
  refine seg_bind_wrap (wpAny_askSetting ?_)
  split
  · exact seg_again rfl loop
  · refine seg_bind_wrap (wpAny_rule ?_)
    show Seg _ A _ _ _ s₀ _ ((standAt iter.pos >>= _).wrap _ _ _ _) [] s
    exact seg_bind_wrap (wpAny_standAt (seg_bind_wrap (T.self _ 0 s _ _ t (seg_again rfl loop))))
/-- what the consumer knows between two turns -/
def Con (X : Cx) (pins : List (Addr × Obj)) (it : Addr) (vs : List (Option V)) (W : Nat → Hp → Prop) (Qf : Hp → Prop) (pb : Nat → Bool) (n0 : Nat) (ag : Addr) (g : Nat) (A : Around) (i : Nat) (s : Shared) : Prop :=
  s.heap.IsGen ag g ∧ s.heap.NoLimit ∧ AllBare s.gens ∧ ∃ gs, s.gens[g]? = some gs ∧ ∀ s', Wk s s' → gs.Goes (model X.prog X.w) A (Rp X pins it vs W n0) (Yp X pins it vs Qf pb n0) (n0 - i + 1) (.send .none) s'
theorem all_loop {prog : Program} {w : World} (ep : X.prog = prog) (ew : X.w = w) {A : Around} {R : Result → Shared → Prop} (hh : A.handled = none) (hd : A.depth < recursionLimit) (hpin : ∀ s, (∃ σ H, Inv X pins σ H s) → s.heap.IsGen ag g)
    (hT : ∀ s s', Here X pins it vs (W n0) s → s'.os = s.os → AllBare s'.gens → (∀ b o, s.heap.get? b = some o → s'.heap.get? b = some o) → R (.ok (.ret (.bool true))) s')
    (hF : ∀ s s', Here X pins it vs Qf s → Wk s s' → R (.ok (.ret (.bool false))) s') :
    ∀ (k i : Nat) (s : Shared), n0 - i = k → i ≤ n0 → Con X pins it vs W Qf pb n0 ag g A.in1.in1 i s → codeAny (model prog w) A (.builtin "all.loop" ⟨[.ref ag], []⟩) R s := by
  subst ep ew
  intro k
  induction k with
  | zero =>
    intro i s hk hi ⟨hg, hl, hb, gs, hgs, hgo⟩
    refine codeAny_builtin F.entry_all_loop ?_
    rw [Around.under_plainId F.plain_all_loop _]
    show wpAny _ A.in1 (pyNext (.ref ag) >>= _) _ _ s
    have go0 := hgo (s.setGen g .running) ⟨rfl, allBare_setGen hb rfl, rfl⟩
    rw [hk] at go0
    refine wpAny_bind (wpAny_pyNext_genexpQ (A := A.in1) (P := fun n _ s₁ => n = 1 ∧ Here X pins it vs (W n0) s₁) hh hl hd hg hgs go0 (fun v s₁ gs' hbare hv => ?_) (fun s₁ hp h' hk' => ?_))
    · obtain ⟨j, e, _⟩ := hv
      omega
    · obtain ⟨_, hp⟩ := hp
      refine wpAny_bind (wpAny_rule (wpAny_pure ?_))
      obtain ⟨y, H, I, _⟩ := id hp
      exact hT s₁ _ hp rfl (allBare_setGen I.bare rfl) hk'
  | succ k ih =>
    intro i s hk hi ⟨hg, hl, hb, gs, hgs, hgo⟩
    have hgl : g < s.gens.size := (Array.getElem?_eq_some_iff.mp hgs).1
    refine codeAny_builtin F.entry_all_loop ?_
    rw [Around.under_plainId F.plain_all_loop _]
    show wpAny _ A.in1 (pyNext (.ref ag) >>= _) _ _ s
    have go0 := hgo (s.setGen g .running) ⟨rfl, allBare_setGen hb rfl, rfl⟩
    rw [hk] at go0
    refine wpAny_bind (wpAny_gsz (n := g + 1) hgl (wpAny_pyNext_genexpQ (A := A.in1) (P := fun n _ s₁ => n = 1 ∧ Here X pins it vs (W n0) s₁) hh hl hd hg hgs go0 (fun v s₁ gs' hbare hv hsz => ?_) (fun s₁ hp h' hk' => ?_)))
    · obtain ⟨j, e, ev, hH, hgo'⟩ := hv
      have ej : j = i := by omega
      subst ej
      subst ev
      obtain ⟨y, H, I, q⟩ := hH
      have hsz1 : g < s₁.gens.size := by
        have z : g + 1 ≤ (s₁.setGen g gs').gens.size := hsz
        rw [setGen_size] at z
        omega
      refine wpAny_bind (wpAny_holding (wpAny_truthy_bool ?_))
      refine wpAny_bind (wpAny_letGo ?_)
      cases hb' : pb j with
      | true =>
        simp only [if_true]
        refine wpAny_pure ⟨plainId_quiet F.plain_all_loop _, ih (j + 1) _ (by omega) (by omega) ?_⟩
        refine ⟨show s₁.heap.IsGen ag g from hpin s₁ ⟨_, _, I⟩, show s₁.heap.NoLimit from I.nolimit, allBare_setGen I.bare hbare, gs', setGen_at hsz1, fun s' hw => ?_⟩
        have ek : n0 - (j + 1) + 1 = k + 1 := by omega
        rw [ek]
        exact hgo' hb' s' ⟨hw.os, hw.bare, hw.heap⟩
      | false =>
        simp only [Bool.false_eq_true, if_false]
        refine wpAny_bind (wpAny_rule (wpAny_pure ?_))
        exact hF s₁ _ ⟨y, H, I, q hb'⟩ ⟨rfl, allBare_setGen I.bare hbare, rfl⟩
    · intro _
      have z := hp.1
      omega
end
end GA
namespace GA
open PySem PySem.Spec PyProof.Rows L2 GenW
section
variable {env : Env} {scope : Scope} {x : Str}
theorem clo_at (S : GxR.GenS env scope x) {y : Str} {c : Addr} (h : (cloFrom env.cells scope.names []).lookup y = some c) : env.cells.lookup y = some c := by
  rcases cloFrom_mem (PySem.mem_of_lookup h) with z | ⟨h1, h2⟩
  · cases z
  · obtain ⟨c', e⟩ := S.free _ h1 rfl
    rw [h2, e]
    rfl
theorem clo_has (S : GxR.GenS env scope x) {y : Str} (h : scope.names.lookup y = some .free) : ∃ c, (cloFrom env.cells scope.names []).lookup y = some c ∧ env.cells.lookup y = some c := by
  obtain ⟨c, e⟩ := mem_lookup (cloFrom_has (cells := env.cells) (acc := []) (PySem.mem_of_lookup h))
  exact ⟨c, e, clo_at S e⟩
end
/-- the table at P has at most one place more, of the line gl -/
def Grew (P : Addr) (gl : Nat) (H H' : Hp) : Prop := GxR.Tabbed P H H' ∧ ∀ ps, H P = some (.tbl ps) → ∃ more : Array Value, H' P = some (.tbl (ps ++ more)) ∧ (more = #[] ∨ ∃ (col : Nat) (c : Value), more = #[rawInt gl, rawInt col, c])
/-- all(test for x in e), e a tuple xs; W: what holds ahead of the i-th test; fr: the captured names' slots -/
def tAllG (K : PySem.W.Frag) (P : Addr) (gl : Nat) (fr : List Nat) (te elr : TE) : TE := fun σ H Q => te σ H fun v H1 => ∃ (a : Addr) (xs : List V), v = .ref a ∧ SqT K H1 a xs ∧ GxR.TabG H1 P ∧ ∃ (pb : Nat → Bool) (W : Nat → Hp → Prop),
  (∀ H2, Grew P gl H1 H2 → W 0 H2) ∧ (∀ i H2, W i H2 → SqT K H2 a xs) ∧
  (∀ i v H2 it, xs[i]? = some v → W i H2 → elr (some (.ref it) :: some v :: fr.map fun j => σ.getD j none) H2 fun b H3 => b = .bl (pb i) ∧ (pb i = true → W (i + 1) H3) ∧ (pb i = false → Q (.bl false) H3)) ∧
  ∀ H2, W xs.length H2 → Q (.bl true) H2
section
variable {X : Cx}
theorem inv_gen {pins : List (Addr × Obj)} {σ : L2.St} {H : Hp} {s : Shared} {scope : Scope} {x : Str} {code : Value} {A : Around} {it : Addr} {fr : List (Str × Nat)} {h' : Heap} {G : Array GenState} {tk : Nat}
    (S : GxR.GenS X.env scope x) (I : Inv X pins σ H s) (hA : A.handled = none) (hfr : A.frames = some (genEnv scope (cloFrom X.env.cells scope.names []) s.heap.objs.size code builtinsNs X.env :: X.stack))
    (hit : it < s.heap.objs.size) (hitB : X.base.objs.size ≤ it) (hitS : it ∉ frs X.stack) (hitC : ∀ y c, X.env.cells.lookup y = some c → c ≠ it)
    (hN : ∀ p ∈ fr, X.N[p.2]? = some p.1 ∧ scope.names.lookup p.1 = some .free ∧ (X.env.kindOf p.1 = some .cell ∨ X.env.kindOf p.1 = some .free))
    (hn : h'.Ns s.heap.objs.size fun y => if y = ".0" then some (.ref it) else none) (hk : ∀ b o, s.heap.get? b = some o → h'.get? b = some o) (hG : AllBare G) :
    Inv (gx X (".0" :: x :: fr.map (·.1)) (genEnv scope (cloFrom X.env.cells scope.names []) s.heap.objs.size code builtinsNs X.env) A s H [it]) [] (some (.ref it) :: none :: fr.map fun p => σ.getD p.2 none) H { s with heap := h', gens := G, toks := tk } := by
  have e0 := I.env0
  have cellOf : ∀ {y c}, (cloFrom X.env.cells scope.names []).lookup y = some c → X.env.cells.lookup y = some c := fun h => clo_at S h
  refine ⟨⟨I.ok.mod, S.kind, I.ok.glob, rfl, Nat.le_refl _, fun y z c h1 h2 => I.ok.inj y z c (cellOf h1) (cellOf h2), fun y hy => ?_, fun y c z => absurd z (by simp [gx]), fun _ => hA, hfr, .inr ⟨rfl, rfl⟩, fun b hb => ?_, e0.bs, e0.bsz, fun b o e hb => ?_, fun b hb => ?_, e0.funs, e0.frf⟩,
    rfl, hG, Un.kept hk, ⟨_, hn, fun i y v h1 h2 h3 => ?_⟩, fun y c h => ?_, I.hok.fresh (Nat.le_refl _), fun y c h => I.freeC y c (cellOf h), fun p hp => absurd (show p ∈ ([] : List (Addr × Obj)) from hp) (by simp), I.hok.kept hk, ?_⟩
  · rcases hy with hy | hy
    · exact absurd rfl (S.cell _ (PySem.mem_of_lookup hy))
    · obtain ⟨c, e, _⟩ := clo_has S hy
      exact ⟨c, e⟩
  · obtain rfl : b = it := by simpa [gx] using hb
    exact ⟨Nat.ne_of_lt hit, fun y c e => hitC y c (cellOf e)⟩
  · obtain rfl : b = it := by simpa [gx] using hb
    exact absurd (Nat.lt_of_lt_of_le (Heap.lt_size e) hitB) (Nat.lt_irrefl _)
  · obtain rfl : b = it := by simpa [gx] using hb
    exact hitS
  · match i, h1, h2 with
    | 0, h1, h2 =>
      have ey : ".0" = y := Option.some.inj h1
      have ev : V.ref it = v := Option.some.inj (Option.some.inj h2)
      subst ey ev
      exact ⟨.ref it, rfl, .inl ⟨S.dot, by simp⟩⟩
    | 1, h1, h2 => exact absurd (show (none : Option V) = some v from Option.some.inj h2) (fun z => nomatch z)
    | j + 2, h1, h2 =>
      have h1' : (fr.map (·.1))[j]? = some y := h1
      have h2' : (fr.map fun p => σ.getD p.2 none)[j]? = some (some v) := h2
      rw [List.getElem?_map] at h1' h2'
      cases q : fr[j]? with
      | none => rw [q] at h1'; cases h1'
      | some p =>
        rw [q] at h1' h2'
        have ey : p.1 = y := Option.some.inj h1'
        have ev : σ.getD p.2 none = some v := Option.some.inj h2'
        obtain ⟨a1, a2, a3⟩ := hN p (List.mem_of_getElem? q)
        subst ey
        have ev' : σ[p.2]? = some (some v) := by
          rw [List.getD_eq_getElem?_getD] at ev
          cases z : σ[p.2]? with
          | none => rw [z] at ev; cases ev
          | some w => rw [z] at ev; exact congrArg some ev
        obtain ⟨m, _, hl⟩ := I.loc
        obtain ⟨u, ru, lk⟩ := hl p.2 p.1 v a1 ev' (by
          rcases a3 with z | z
          · exact .inr (.inl z)
          · exact .inr (.inr z))
        obtain ⟨c, ec, ec'⟩ := clo_has S a2
        rcases lk with ⟨z, _⟩ | ⟨_, c', e1, e2⟩
        · rcases a3 with w | w
          · rw [w] at z; cases z
          · rw [w] at z; cases z
        · rw [ec'] at e1
          cases e1
          obtain ⟨o, ho, hd⟩ := e2
          exact ⟨u, ru, .inr ⟨.inr a2, c, ec, o, hk _ _ ho, hd⟩⟩
  · obtain ⟨v, o, ho, hd⟩ := I.cell y c (cellOf h)
    exact ⟨v, o, hk _ _ ho, hd⟩
  · simp [gx]
end
end GA
namespace GA
open PySem PySem.Spec PyProof.Rows L2 GenW
section
variable {X : Cx}
theorem gen_around {A : Around} {elt iter : Expr} {x : Str} {px pos : Pos} {scope : Scope} {env : Env} {it : Addr} {st : List Env} (hf : A.frames = some st) :
    (A.over (.compLoop (.GeneratorExp elt [⟨.Name x px, iter, [], 0⟩] scope pos) 0 (.ref it) .none env) []).frames = some (env :: st) := by
  show pushEnvs [env] (pushEnvs [] A.frames) = _
  rw [hf]
  rfl
theorem gen_room {k : Nat} {A : Around} {elt iter : Expr} {x : Str} {px pos : Pos} {scope : Scope} {env : Env} {it : Addr} (r : Room (k + 1) A) :
    Room k (A.in1.in1.over (.compLoop (.GeneratorExp elt [⟨.Name x px, iter, [], 0⟩] scope pos) 0 (.ref it) .none env) []) := by
  have h1 := r.dp
  have h2 := r.un
  refine ⟨r.hd, ?_, ?_⟩
  · show A.depth + 0 + 1 + 3 * k + 5 < _
    omega
  · show A.units + 1 + 1 + 0 + 3 + 16 * k + 200 < _
    omega
theorem pe_allG {c P : Addr} {elt iter : Expr} {x : Str} {px p pos gpos : Pos} {scope : Scope} {te elr : TE} {k : Nat} (fr : List (Str × Nat))
    (hr : Room (k + 1) X.A) (hcalm : X.calm = true) (hg : Gl X "all") (hm : X.mg "all" = none) (TB : GxR.TabB X.base X.mg c P) (hcode : X.env.code = .ref c) (S : GxR.GenS X.env scope x) (hnd : ((".0" : Str) :: x :: fr.map (·.1)).Nodup)
    (hN : ∀ p ∈ fr, X.N[p.2]? = some p.1 ∧ scope.names.lookup p.1 = some .free ∧ (X.env.kindOf p.1 = some .cell ∨ X.env.kindOf p.1 = some .free))
    (hi : PE X iter te)
    (hel : ∀ (C : Addr) (code : Value) (A : Around) (s : Shared) (H : Hp) (ex : List Addr), Room k A →
      PE (gx X (".0" :: x :: fr.map (·.1)) (genEnv scope (cloFrom X.env.cells scope.names []) C code builtinsNs X.env) A s H ex) elt elr)
    (hs : ∀ v, genFold iter X.env v = pure v := by intro _; rfl)
    (he : starEach [.GeneratorExp elt [⟨.Name x px, iter, [], 0⟩] scope gpos] X.env = (false, eval (.GeneratorExp elt [⟨.Name x px, iter, [], 0⟩] scope gpos) X.env) :: starEach [] X.env := by rfl) :
    PE X (.Call (.Name "all" p) [.GeneratorExp elt [⟨.Name x px, iter, [], 0⟩] scope gpos] [] pos) (tAllG X.K P gpos.line (fr.map (·.2)) te elr) := by
  refine ⟨fun pins s σ H Q I h => wpAny_Call_Name_kw (ld_blt I hg hm boot_all (PyProof.Rows.callWith_builtin1 ?_ he (by rfl)))⟩
  rw [he]
  have hdp := hr.dp
  show wpAny (model X.prog X.w) X.A (spliced ((false, eval (.GeneratorExp elt [⟨.Name x px, iter, [], 0⟩] scope gpos) X.env) :: backTo pos (starEach [] X.env))) _ _ s
  refine Calls.spliced_cons (wpAny_GeneratorExp_make S.co (closure_ok S.free) S.cell S.dot S.kind (by omega) ?_ hs)
  refine thn (hi.run pins s σ H _ I h) fun xv s1 ⟨v, H1, I1, r1, q1⟩ => ?_
  obtain ⟨a, xs, rfl, hT, ⟨ps, hP, ht⟩, pb, W, w0, wT, step, fin⟩ := q1
  obtain rfl : xv = Value.ref a := r1
  obtain ⟨its, rv, pT, hz⟩ := I1.tuple hT
  refine wpAny_pyIter_tuple (show s1.heap.IsTuple a its.toArray from pT) ⟨I1.nolimit.push _, ?_⟩
  generalize ho : ({ cls := .type "tuple_iterator", data := .fields #[.ref a, .int 0 0] } : Obj) = o
  have hpush : ∀ b u, s1.heap.get? b = some u → (s1.heap.push o).get? b = some u := fun b u e => Heap.get?_push_of_some _ e
  have hsz2 : (s1.heap.push o).objs.size = s1.heap.objs.size + 1 := Heap.size_push ..
  have hit2 : (s1.heap.push o).IsTupleIter s1.heap.objs.size a 0 := by
    subst ho
    exact ⟨_, Heap.get?_push_size _ rfl, rfl, rfl⟩
  have fpo := I1.fpOk (b := s1.heap.objs.size) (Nat.le_refl _) (I1.hok.fresh (Nat.le_refl _))
  have hPs : s1.heap.get? P = some { cls := .none, data := .fields ps } := I1.hok P _ hP
  have hPlt : P < s1.heap.objs.size := Heap.lt_size hPs
  have hP2 := hpush P _ hPs
  have cd : PySem.W.CodeHd (s1.heap.push o) c P := TB.code.keeps fun b u e => hpush b u (I1.bk b u e)
  have main : ∀ (code : Value) (h3 : Heap) (tk : Nat) (more : Array Value), Heap.ExtBut P (s1.heap.push o) h3 → (s1.heap.push o).objs.size ≤ h3.objs.size → h3.get? P = some { cls := .none, data := .fields (ps ++ more) } → TriplesOk (ps ++ more).toList → (more = #[] ∨ ∃ (col : Nat) (c : Value), more = #[rawInt gpos.line, rawInt col, c]) →
      wpAny (model X.prog X.w) X.A (builtinsFor X.env.globals X.env.builtins) (fun bi s₄ =>
        ∀ h', h'.Ns s₄.heap.objs.size (fun y => if y = ".0" then some (.ref s1.heap.objs.size) else none) → Heap.SameBut s₄.heap.objs.size (s₄.heap.push { cls := .type "frame", data := .dict #[] }) h' →
          wpAny (model X.prog X.w) X.A (spliced (backTo pos (starEach [] X.env))) (fun us s' => wpAny (model X.prog X.w) X.A (call (.builtin "all") (.ref h'.objs.size :: us)) (EP X pins σ Q) X.xe s') X.xe { s₄ with
            gens := s₄.gens.push (.fresh (.compStart (.GeneratorExp elt [⟨.Name x px, iter, [], 0⟩] scope gpos) 0 (.ref s1.heap.objs.size) .none (genEnv scope (cloFrom X.env.cells scope.names []) s₄.heap.objs.size code bi X.env))),
            toks := s₄.toks + 1 + 1 + 1,
            heap := h'.push { cls := .type "generator", data := .fields #[.int s₄.gens.size 0, .str "<genexpr>" (s₄.toks + 1), .str (X.env.qual ++ "<genexpr>") (s₄.toks + 1 + 1)] } }) X.xe { s1 with heap := h3, toks := tk } := by
    intro code h3 tk more hx hge hP3 ht3 hmo
    have kb : ∀ b u, b ≠ P → s1.heap.get? b = some u → h3.get? b = some u := fun b u hb e => hx b u hb (hpush b u e)
    have I3 : Inv X pins σ (upd H1 P (.tbl (ps ++ more))) { s1 with heap := h3, gens := s1.gens, drawn := s1.drawn, toks := tk } :=
      GxR.inv_tab I1 hP kb hP3 I1.bare
    obtain ⟨bm, ob, e1, e2, e3, e4, e5, e6, e7, e8⟩ := TB.bm
    refine wpAny_builtinsFor (m := X.mg) (by rw [I1.ok.glob]; exact I3.mod.glob.keeps I3.bk) e1 e2 (I3.bk _ _ e5) e6 e7 e8 ?_
    intro h' hn hsb
    have lt1 : s1.heap.objs.size < h3.objs.size := by omega
    have hsz' : h'.objs.size = h3.objs.size + 1 := by rw [hsb.1, Heap.size_push]
    have k' : ∀ b u, h3.get? b = some u → h'.get? b = some u := fun b u e => hsb.extBut b u (Nat.ne_of_lt (Heap.lt_size e)) (Heap.get?_push_of_some _ e)
    generalize hgo : ({ cls := .type "generator", data := .fields #[.int s1.gens.size 0, .str "<genexpr>" (tk + 1), .str (X.env.qual ++ "<genexpr>") (tk + 1 + 1)] } : Obj) = go
    have k5 : ∀ b u, h3.get? b = some u → (h'.push go).get? b = some u := fun b u e => Heap.get?_push_of_some _ (k' b u e)
    have hgo5 : (h'.push go).get? h'.objs.size = some go := by subst hgo; exact Heap.get?_push_size _ rfl
    have gend : ∀ v, go.data ≠ .cell v := fun v z => by subst hgo; cases z
    have isg : ∀ h : Heap, h.get? h'.objs.size = some go → h.IsGen h'.objs.size s1.gens.size := fun h e => by
      subst hgo
      exact ⟨_, _, _, e, rfl, rfl, rfl⟩
    -- the iterator is none of what stands
    have itS : s1.heap.objs.size ∉ frs X.stack := fun hb => by
      obtain ⟨_, u, hu, _⟩ := I1.env0.funs.mem hb
      exact absurd (Heap.lt_size hu) (Nat.lt_irrefl _)
    obtain ⟨f0, f1, f2, f3, f4, f5⟩ := fpo
    obtain ⟨Ag, hAg⟩ : ∃ Ag, Ag = X.A.in1.in1.over (.compLoop (.GeneratorExp elt [⟨.Name x px, iter, [], 0⟩] scope gpos) 0 (.ref s1.heap.objs.size) .none (genEnv scope (cloFrom X.env.cells scope.names []) h3.objs.size code builtinsNs X.env)) [] := ⟨_, rfl⟩
    have rg : Room k Ag := by rw [hAg]; exact gen_room hr
    have frg : Ag.frames = some (genEnv scope (cloFrom X.env.cells scope.names []) h3.objs.size code builtinsNs X.env :: X.stack) := by
      rw [hAg]
      exact gen_around (A := X.A.in1.in1) I1.ok.frames
    have J0 := inv_gen (x := x) (fr := fr) (code := code) (A := Ag) (it := s1.heap.objs.size) (h' := h'.push go) (G := s1.gens.push (.fresh (.compStart (.GeneratorExp elt [⟨.Name x px, iter, [], 0⟩] scope gpos) 0 (.ref s1.heap.objs.size) .none (genEnv scope (cloFrom X.env.cells scope.names []) h3.objs.size code builtinsNs X.env)))) (tk := tk + 1 + 1 + 1) S I3 rg.hd frg lt1 (Nat.le_trans I1.ok.bsz I1.sz) itS f4 hN (hn.push go) k5 (I1.bare.push rfl)
    generalize hXg : gx X (".0" :: x :: fr.map (·.1)) (genEnv scope (cloFrom X.env.cells scope.names []) h3.objs.size code builtinsNs X.env) Ag { s1 with heap := h3, gens := s1.gens, drawn := s1.drawn, toks := tk } (upd H1 P (.tbl (ps ++ more))) [s1.heap.objs.size] = Xg at J0
    have J : Inv Xg [(h'.objs.size, go)] (some (.ref s1.heap.objs.size) :: none :: fr.map fun p => σ.getD p.2 none) (upd H1 P (.tbl (ps ++ more))) { s1 with heap := h'.push go, gens := s1.gens.push (.fresh (.compStart (.GeneratorExp elt [⟨.Name x px, iter, [], 0⟩] scope gpos) 0 (.ref s1.heap.objs.size) .none (genEnv scope (cloFrom X.env.cells scope.names []) h3.objs.size code builtinsNs X.env))), toks := tk + 1 + 1 + 1 } := by
      refine J0.pins_of fun q hq => ?_
      rw [List.mem_singleton.mp hq]
      refine ⟨hgo5, I3.hok.fresh (by show h3.objs.size ≤ h'.objs.size; omega), ?_, fun hb => ?_, gend⟩
      · subst hXg
        show h'.objs.size ≠ h3.objs.size
        omega
      · subst hXg
        obtain ⟨_, u, hu, _⟩ := I3.env0.funs.mem hb
        have z : h'.objs.size < h3.objs.size := Heap.lt_size hu
        omega
    have back : ∀ (b : Bool) (R : Hp → Prop) (s9 s' : Shared), (∀ H9, R H9 → Q (.bl b) H9) → Here Xg [(h'.objs.size, go)] s1.heap.objs.size (fr.map fun p => σ.getD p.2 none) R s9 → s'.os = s9.os → AllBare s'.gens → (∀ b o, s9.heap.get? b = some o → s'.heap.get? b = some o) → EP X pins σ Q (.bool b) s' := by
      intro b R s9 s' hR hH hos hb hk
      obtain ⟨y, H9, I9, q9⟩ := hH
      have hbase := I9.base
      have hos9 := I9.os
      have hok9 := I9.hok
      subst hXg
      refine ⟨.bl b, H9, I3.call' (ch := [s1.heap.objs.size]) (hos.trans hos9) ((show Un (frs X.stack) [s1.heap.objs.size] (upd H1 P (.tbl (ps ++ more))) H9 h3 s9.heap from hbase).trans (Un.kept hk)) (HOk.kept (show HOk X.prog X.w H9 s9.heap from hok9) hk) hb fun d hd => ?_, rfl, hR H9 q9⟩
      rw [List.mem_singleton.mp hd]
      exact ⟨f3, f1, f4, f5⟩
    refine Calls.spliced_nil (call_function_tree F.kind_all F.plain_all F.entry_all (F.args_all1 _) ?_)
    unfold Builtin.«all»
    refine wpAny_bind (m := oneArg "all" _) (wpAny_pure (wpAny_bind (wpAny_pyIter_gen (isg _ hgo5) (wpAny_pure ⟨plainId_quiet F.plain_all_loop _, ?_⟩))))
    have T : Turn X.prog X.w X.K (.Name x px) (Itt X.K a) [s1.heap.objs.size] s1.heap.objs.size (fun i h => h.IsTupleIter s1.heap.objs.size a i) := turn_tuple a _
    refine all_loop (X := Xg) (by subst hXg; rfl) (by subst hXg; rfl) (pins := [(h'.objs.size, go)]) (it := s1.heap.objs.size) (vs := fr.map fun p => σ.getD p.2 none) (W := W) (Qf := fun H9 => Q (.bl false) H9) (pb := pb) (n0 := xs.length) (ag := h'.objs.size) (g := s1.gens.size) hr.hd hr.depth (fun s9 h9 => ?_) (fun s9 s' h9 h1 h2 h3' => ?_) (fun s9 s' h9 hw => ?_) xs.length 0 _ (Nat.sub_zero _) (Nat.zero_le _) ?_
    · obtain ⟨σ9, H9, I9⟩ := h9
      exact isg _ (I9.pin (h'.objs.size, go) (List.mem_append_right _ (List.mem_singleton.mpr rfl))).1
    · exact back true _ s9 s' (fun H9 q => fin H9 q) h9 h1 h2 h3'
    · exact back false _ s9 s' (fun H9 q => q) h9 hw.os hw.bare fun b u e => by rw [hw.heap]; exact e
    · refine ⟨isg _ hgo5, J.nolimit, J.bare, _, Array.getElem?_push_size .., fun s' hw => ⟨rfl, ?_⟩⟩
      have hTop : Top Xg [(h'.objs.size, go)] s1.heap.objs.size (fr.map fun p => σ.getD p.2 none) [s1.heap.objs.size] (fun i h => h.IsTupleIter s1.heap.objs.size a i) W 0 s' := by
        refine Top.wake hw ⟨none, _, J, ?_, fun b hb => ?_, w0 _ ⟨⟨⟨ps ++ more, upd_same, ht3⟩, fun b hb => upd_ne hb⟩, fun qs e => by rw [hP] at e; cases e; exact ⟨more, upd_same, hmo⟩⟩⟩
        · exact (hit2.at fun u e => k5 _ u (hx _ u (Nat.ne_of_gt hPlt) e))
        · obtain rfl : b = s1.heap.objs.size := List.mem_singleton.mp hb
          subst hXg
          refine ⟨by rw [upd_ne (Nat.ne_of_gt hPlt)]; exact f0, Nat.ne_of_lt lt1, itS, .inl (List.mem_singleton.mpr rfl), fun y c e => f4 y c (clo_at S e), fun q hq => ?_⟩
          rw [List.mem_singleton.mp hq]
          show h'.objs.size ≠ s1.heap.objs.size
          omega
      have hel' := hel h3.objs.size code Ag { s1 with heap := h3, gens := s1.gens, drawn := s1.drawn, toks := tk } (upd H1 P (.tbl (ps ++ more))) [s1.heap.objs.size] rg
      rw [hXg] at hel'
      have hgn : PG Xg (.Name x px) (gName 1) := by
        subst hXg
        exact pg_name hnd rfl (.inl S.loc) (.inr S.loc)
      have e1 : Xg.prog = X.prog := by subst hXg; rfl
      have e2 : Xg.w = X.w := by subst hXg; rfl
      have e3' : Xg.K = X.K := by subst hXg; rfl
      have e4' : Xg.env = genEnv scope (cloFrom X.env.cells scope.names []) h3.objs.size code builtinsNs X.env := by subst hXg; rfl
      have e5' : Xg.A = Ag := by subst hXg; rfl
      have e6' : Xg.calm = true := by subst hXg; rfl
      have e7' : Xg.xe = fun _ _ => False := by subst hXg; rfl
      have hB := seg_begin (X := Xg) (pins := [(h'.objs.size, go)]) (it := s1.heap.objs.size) (vs := fr.map fun p => σ.getD p.2 none) (fp := [s1.heap.objs.size]) (tn := fun i h => h.IsTupleIter s1.heap.objs.size a i) (W := W) (Qf := fun H9 => Q (.bl false) H9) (pb := pb) (n0 := xs.length)
        (A := X.A.in1.in1) (elt := elt) (iter := iter) (x := x) (px := px) (pos := gpos) (scope := scope) (xs := xs) (a := a) (te := elr)
        (by rw [e4', e5', hAg]) e6' (by rw [e4']; exact S.co) e7' (by rw [e1, e2, e3']; exact T) hgn hel' rfl (fun i H9 w => by rw [e3']; exact wT i H9 w) (fun i v H9 hv w => by
          have z := step i v H9 s1.heap.objs.size hv w
          rw [List.map_map] at z
          exact z) s' s' hTop
      rw [e4'] at hB
      rw [Nat.sub_zero]
      exact hB
  cases hf : codeAmong gpos ps.toList with
  | none =>
    refine wpAny_genexprCodeX hcode (cd.code hP2 ht) (cd.tab hP2) hf fun c' h' tk hx hge hlt hco' _ htab' _ => ?_
    obtain ⟨o1, vs, f1, tf, fl, tg, inF, tx, tt, op, _, _, _, _, _, _, _, _, _, htr, _⟩ := hco'
    exact main _ h' tk _ hx (Nat.le_trans hge (Nat.le_of_lt hlt)) htab'.2 htr (.inr ⟨_, _, rfl⟩)
  | some cv =>
    refine wpAny_genexprCode_hit hcode (cd.code hP2 ht) hf ?_
    exact main cv (s1.heap.push o) s1.toks #[] (Heap.ExtBut.refl _ _) (Nat.le_refl _) (by simpa using hP2) (by simpa using ht) (.inl rfl)
end
end GA
end
section
set_option maxHeartbeats 4000000
/-! RCol: a great plain set gathered into a list -/
namespace ZCol
open PySem PySem.Spec PyProof.Rows L2
section
variable {P : Program} {w : World} {A : Around} {E : Value → Shared → Prop} {s : Shared} {a : Addr} {es : Array (Int × Value)} {ep : Nat} {t : SetTable}
theorem it_plain {Q : Value → Shared → Prop} (ha : SetAt s.heap a es ep t) (hf : t.fits es.size = true) (r : Ris t.place.toList) (pl : t.plain = true) (hl : w.params.followText "set-order" = true ∨ t.led = true)
    (hQ : ∀ s₂ I, SetIt P w s a es s₂ I → Q (.ref I) s₂) : wpAny (model P w) A (pyIter (.ref a)) Q E s := by
  obtain ⟨o, ho, hc, hd⟩ := id ha
  have hT : s.TypeIs (.ref a) "set" := ⟨o, ho, hc⟩
  have ne : a ≠ s.heap.objs.size := Nat.ne_of_lt (Heap.lt_size ho)
  have hdr : (!t.plain && decide (es.size > 1)) = false := by rw [pl]; rfl
  have out : ∀ b ∈ [s.heap.objs.size, a], b = a ∨ s.heap.objs.size ≤ b := fun b hb => by
    rcases List.mem_cons.mp hb with e | e
    · exact .inr (Nat.le_of_eq e.symm)
    · exact .inl (List.mem_singleton.mp e)
  refine wpAny_pyIter_slot hT F.slot_set_iter (wpAny_call_entry F.slot_set_iter hT entry_s_iter ?_ (F.args_set_iter_1 _))
  unfold Builtin.«frozenset.__iter__»
  refine wpAny_bind (m := Builtin.Frozenset.slot0 "__iter__" _) (wpAny_of_eq (a := a) (by rfl) (wpAny_bind (m := Builtin.Frozenset.sizeOf a) ?_))
  unfold Builtin.Frozenset.sizeOf
  refine wpAny_bind (wpAny_setEntries_of ho hd hf (wpAny_pure ?_))
  first | refine wpAny_bind (setDrawn_at ha hf ?_) | refine wpAny_bind (wpAny_bind (setDrawn_at ha hf ?_))
  refine wp_if_neg (by rw [hdr]; simp) ?_
  first | refine wpAny_bind (wpAny_pure ?_) | refine wpAny_pure ?_
  refine wpAny_bind (wpAny_setEpoch_of ho hd hf (wpAny_bind (wpAny_newObj_type (wpAny_pure ⟨_, rfl, "set_iterator", _, ⟨_, Heap.get?_push_size _ rfl, rfl⟩, slot_si_next.lookup, ?_⟩))))
  have ha2 := fun ob : Obj => ha.at (h' := s.heap.push ob) fun u e => Heap.get?_push_of_some _ e
  cases hb : w.params.followText "set-order" with
  | true =>
    refine hQ _ _ (SetIt.of (fun A' hA' => walks_text (P := P) (ep := ep) hA' ne hf hb) (by rw [List.length_map, Array.length_toList]) (fun b u e => Heap.get?_push_of_some _ e) rfl rfl rfl (Nat.le_refl _) out ((pick_perm (w.params.setOrder a ep) es).map _)
      (fun j v q => by rw [List.getElem?_map, Array.getElem?_toList]; exact q) ⟨⟨_, Heap.get?_push_size _ rfl, rfl, rfl⟩, ha2 _⟩)
  | false =>
    have hled : t.led = true := hl.resolve_left (by rw [hb]; exact Bool.false_ne_true)
    refine hQ _ _ (SetIt.of (fun A' hA' => walks_led (P := P) (ep := ep) hA' ne hf r hb hdr hled) (by rw [List.length_map, Array.length_toList]) (fun b u e => Heap.get?_push_of_some _ e) rfl rfl rfl (Nat.le_refl _) out (List.Perm.refl _)
      (fun j v q => by rw [List.getElem?_map, Array.getElem?_toList]; exact q) ⟨⟨_, Heap.get?_push_size _ rfl, rfl, rfl⟩, ha2 _⟩)
theorem gather {Q : List Value → Shared → Prop} (hh : A.handled = none) (ha : SetAt s.heap a es ep t) (hf : t.fits es.size = true) (hn : es.size ≤ sizeLine) (r : Ris t.place.toList) (pl : t.plain = true) (hl : w.params.followText "set-order" = true ∨ t.led = true)
    (hQ : ∀ s' out, (∀ b o, s.heap.get? b = some o → s'.heap.get? b = some o) → s.heap.objs.size ≤ s'.heap.objs.size → s'.gens = s.gens → s'.os = s.os → out.Perm (es.toList.map (·.2)) → Q out s') :
    wpAny (model P w) A (collect (.ref a)) Q E s := by
  obtain ⟨o, ho, hc, hd⟩ := id ha
  have hlt : a < s.heap.objs.size := Heap.lt_size ho
  generalize hob : (({ cls := .type "list", data := .seq ([] : List Value).toArray } : Obj)) = ob
  have hS : (s.heap.push ob).get? s.heap.objs.size = some ob := by rw [← hob]; exact Heap.get?_push_size _ rfl
  unfold collect
  refine wpAny_bind (wpAny_runValue (codeAny_builtin F.entry_proto_collect ?_))
  rw [Around.under_plainId F.plain_proto_collect _]
  show wpAny _ A.in1 (newList [] >>= fun l => again (.builtin "list.__iadd__" ⟨[l, .ref a], []⟩)) _ _ s
  refine wpAny_bind (wpAny_newObj_type (wpAny_pure ⟨plainId_quiet F.plain_list_iadd _, codeAny_builtin F.entry_list_iadd ?_⟩))
  rw [Around.under_plainId F.plain_list_iadd _, hob]
  have ha1 : SetAt (s.heap.push ob) a es ep t := ha.at fun u e => Heap.get?_push_of_some _ e
  have hz1 : (s.heap.push ob).objs.size = s.heap.objs.size + 1 := size_push' _ _
  show wpAny _ A.in1 (Builtin.List.listExtendWith (.ref s.heap.objs.size) (.ref a) (.ref s.heap.objs.size)) _ _ _
  unfold Builtin.List.listExtendWith
  refine wpAny_bind (wpAny_typeOf (T := "set") ⟨o, Heap.get?_push_of_some _ ho, hc⟩ ?_)
  have h1 : Builtin.List.listSameRef (.ref s.heap.objs.size) (.ref a) = false := by simp [Builtin.List.listSameRef, Nat.ne_of_gt hlt]
  simp only [h1, (by decide : (Value.type "set" == Value.type "list") = false), (by decide : (Value.type "set" == Value.type "tuple") = false), Bool.or_false, Bool.false_eq_true, if_false]
  refine wpAny_bind (it_plain (s := { s with heap := s.heap.push ob }) ha1 hf r pl hl fun s₂ I hit => ?_)
  obtain ⟨fp, St, out, Pv, k2, g2, o2, t2, hI, hfp, hp, hW, hPv, hst⟩ := hit
  have hI' : s.heap.objs.size + 1 ≤ I := by rw [← hz1]; exact hI
  have hSf : s.heap.objs.size ∉ fp := fun hm => by
    rcases hfp _ hm with z | z
    · exact Nat.ne_of_gt hlt z
    · have z' : s.heap.objs.size + 1 ≤ s.heap.objs.size := by rw [← hz1]; exact z
      exact Nat.not_succ_le_self _ z'
  have hT2 : s₂.TypeIs (.ref a) "set" := ⟨o, k2 a o (Heap.get?_push_of_some _ ho), hc⟩
  refine wpAny_bind (wpAny_holding ?_)
  unfold Builtin.List.listLengthHint
  refine wpAny_bind (wpAny_specialOf hT2 F.slot_set_len.lookup ?_)
  (generalize hid : ("set.__len__" : String) = id0; (fail_if_success (clear hid id0)); wp_delta; rw [show splitId id0 = some ("set", "__len__") from by subst hid; decide +kernel]; subst hid)
  refine wpAny_bind (wpAny_isInstance (b := true) hT2 sub_set_self ?_)
  show wpAny _ A.in1 (typeOf (.ref a) >>= _) _ _ _
  refine wpAny_bind (wpAny_typeOf hT2 (wpAny_pure ?_))
  show wpAny _ A.in1 (rule "list.extend.makes-room" >>= fun _ => Builtin.List.listTouch (.ref s.heap.objs.size) >>= fun _ =>
    again (.builtin "list.extend.loop" ⟨[.ref s.heap.objs.size, .ref I, .ref s.heap.objs.size], []⟩)) _ _ _
  have hS2 : s₂.heap.get? s.heap.objs.size = some { cls := .type "list", data := .seq ([] : List Value).toArray } := by rw [hob]; exact k2 _ _ hS
  refine wpAny_bind (wpAny_rule (wpAny_bind ?_))
  show wpAny _ A.in1 (updateSeq s.heap.objs.size (·.push .none) >>= fun _ => updateSeq s.heap.objs.size (·.pop)) _ _ _
  have hS3 := Heap.get?_update_self (Obj.mapSeq (·.push Value.none)) hS2 rfl
  refine wpAny_bind (wpAny_updateSeq hS2 rfl (wpAny_updateSeq hS3 rfl ?_))
  have hS4 := Heap.get?_update_self (Obj.mapSeq (·.pop)) hS3 rfl
  have oth : ∀ b u, b ≠ s.heap.objs.size → s₂.heap.get? b = some u → ((s₂.heap.update s.heap.objs.size (Obj.mapSeq (·.push Value.none))).update s.heap.objs.size (Obj.mapSeq (·.pop))).get? b = some u :=
    fun b u hb e => (Heap.get?_update_other _ _ (Ne.symm hb)).trans ((Heap.get?_update_other _ _ (Ne.symm hb)).trans e)
  have hno : out.length ≤ sizeLine := by rw [hp.length_eq, List.length_map, Array.length_toList]; exact hn
  have W := hW A.in1 hh
  have hst2 : St 0 ((s₂.heap.update s.heap.objs.size (Obj.mapSeq (·.push Value.none))).update s.heap.objs.size (Obj.mapSeq (·.pop))) := W.frame 0 _ _ hst fun b hb u e => oth b u (fun z => hSf (z ▸ hb)) e
  refine wpAny_pure ⟨plainId_quiet F.plain_extend_loop _, codeAny_extend_loopS W.toS hno _ hSf _ out.length 0 _ _ _ rfl (Nat.zero_le _) hst2 hS4 (ItemsOf.nil Pv) fun s' acc' c' hm hS' hacc => ?_⟩
  show wpAny _ A (load s.heap.objs.size >>= _) _ _ s'
  refine wpAny_bind (wpAny_load hS' (wpAny_pure ?_))
  show Q acc'.toList s'
  rw [items_out hacc hPv]
  refine hQ s' out (fun b u e => ?_) (Nat.le_of_lt (Heap.lt_size hS')) (Eq.trans hm.gens g2) (Eq.trans hm.os o2) hp
  have hbl : b < s.heap.objs.size := Heap.lt_size e
  have far : ∀ c, s.heap.objs.size ≤ c → b ≠ c := fun c hc z => Nat.lt_irrefl _ (Nat.lt_of_lt_of_le (by rw [← z]; exact hbl) hc)
  refine hm.heap b u (fun z => ?_) (oth b u (Nat.ne_of_lt hbl) (k2 b u (Heap.get?_push_of_some _ e)))
  have hI2 : s.heap.objs.size ≤ I := Nat.le_of_succ_le hI'
  simp only [List.mem_cons, List.mem_singleton, List.not_mem_nil, or_false] at z
  rcases z with z | z
  · exact far _ (by first | exact hI2 | exact Nat.le_refl _) z
  · exact far _ (by first | exact hI2 | exact Nat.le_refl _) z
end
end ZCol
end
section
set_option maxHeartbeats 4000000
/-! sets of tuples of ints, of any size that a program of ours reaches: the table's round -/
namespace ZS
open PySem PySem.Spec PyProof.Rows L2
/-! ### i -> 5 i + 1 by powers of two -/
def seq5 : Nat → Nat
  | 0 => 0
  | n + 1 => seq5 n * 5 + 1
theorem seq5_add (m : Nat) : ∀ n, seq5 (n + m) = 5 ^ n * seq5 m + seq5 n
  | 0 => by rw [Nat.zero_add, Nat.pow_zero, Nat.one_mul]; rfl
  | n + 1 => by
    have h := seq5_add m n
    have e : n + 1 + m = (n + m) + 1 := by omega
    rw [e]
    show seq5 (n + m) * 5 + 1 = 5 ^ (n + 1) * seq5 m + (seq5 n * 5 + 1)
    have e2 : 5 ^ (n + 1) * seq5 m = 5 ^ n * seq5 m * 5 := by
      rw [Nat.pow_succ, Nat.mul_right_comm]
    omega
theorem pow5 : ∀ n, ∃ r, 5 ^ n = 4 * r + 1
  | 0 => ⟨0, rfl⟩
  | n + 1 => by
    obtain ⟨r, h⟩ := pow5 n
    exact ⟨5 * r + 1, by rw [Nat.pow_succ]; omega⟩
theorem odd_mul (a b : Nat) : (2 * a + 1) * (2 * b + 1) = 2 * (2 * (a * b) + a + b) + 1 := by
  have h1 : (2 * a + 1) * (2 * b + 1) = 2 * a * (2 * b) + 2 * a + (2 * b) + 1 := by
    rw [Nat.add_mul, Nat.mul_add, Nat.one_mul, Nat.mul_one]
    omega
  have h2 : 2 * a * (2 * b) = 4 * (a * b) := by
    rw [Nat.mul_mul_mul_comm]
  omega
/-- the 2^e-th is 2^e times an odd number -/
theorem seq5_pow : ∀ e, ∃ q, seq5 (2 ^ e) = 2 ^ e * (2 * q + 1)
  | 0 => ⟨0, rfl⟩
  | e + 1 => by
    obtain ⟨q, h⟩ := seq5_pow e
    obtain ⟨r, hr⟩ := pow5 (2 ^ e)
    have e1 : 2 ^ (e + 1) = 2 ^ e + 2 ^ e := by rw [Nat.pow_succ]; omega
    refine ⟨2 * (r * q) + r + q, ?_⟩
    rw [e1, seq5_add, h, hr]
    have h1 : (4 * r + 1) * (2 ^ e * (2 * q + 1)) + 2 ^ e * (2 * q + 1) = 2 ^ e * (((4 * r + 1) + 1) * (2 * q + 1)) := by
      generalize 4 * r + 1 = A
      generalize 2 * q + 1 = B
      rw [Nat.mul_left_comm, ← Nat.mul_add, Nat.add_mul, Nat.one_mul]
    rw [h1]
    have h2 : ((4 * r + 1) + 1) * (2 * q + 1) = 2 * ((2 * r + 1) * (2 * q + 1)) := by
      rw [← Nat.mul_assoc]
      congr 1
      omega
    rw [h2, odd_mul, ← Nat.two_mul, Nat.mul_assoc, Nat.mul_left_comm]
theorem seq5_all : ∀ e j, ∃ b, b < 2 ^ e ∧ seq5 b % 2 ^ e = j % 2 ^ e
  | 0, j => ⟨0, by decide, by rw [Nat.pow_zero, Nat.mod_one, Nat.mod_one]⟩
  | e + 1, j => by
    obtain ⟨b, hb, h⟩ := seq5_all e j
    have e1 : 2 ^ (e + 1) = 2 * 2 ^ e := by rw [Nat.pow_succ]; omega
    have hp : 0 < 2 ^ e := Nat.pow_pos (by decide)
    by_cases c : seq5 b % 2 ^ (e + 1) = j % 2 ^ (e + 1)
    · exact ⟨b, by omega, c⟩
    · refine ⟨b + 2 ^ e, by omega, ?_⟩
      obtain ⟨q, hq⟩ := seq5_pow e
      obtain ⟨r, hr⟩ := pow5 b
      have h5 : 5 ^ b = 2 * (2 * r) + 1 := by omega
      rw [seq5_add, hq, h5]
      have h1 : (2 * (2 * r) + 1) * (2 ^ e * (2 * q + 1)) = 2 ^ e * (2 * (2 * (2 * r * q) + 2 * r + q) + 1) := by
        rw [Nat.mul_left_comm, odd_mul]
      rw [h1]
      generalize 2 * (2 * r * q) + 2 * r + q = t
      have h2 : 2 ^ e * (2 * t + 1) + seq5 b = (2 ^ e + seq5 b) + 2 * 2 ^ e * t := by
        rw [Nat.mul_add, Nat.mul_one, Nat.mul_left_comm, Nat.mul_assoc]
        omega
      rw [h2, e1, Nat.add_mul_mod_self_left]
      rw [e1] at c
      -- both by 2 * 2 ^ e
      generalize 2 ^ e = M at hp h c
      generalize seq5 b = u at h c
      have d1 := Nat.div_add_mod u (2 * M)
      have d2 := Nat.div_add_mod j (2 * M)
      have l1 := Nat.mod_lt u (show 0 < 2 * M by omega)
      have l2 := Nat.mod_lt j (show 0 < 2 * M by omega)
      have m1 : u % (2 * M) % M = u % M := Nat.mod_mul_left_mod u 2 M
      have m2 : j % (2 * M) % M = j % M := Nat.mod_mul_left_mod j 2 M
      have m3 : (M + u) % (2 * M) = (M + u % (2 * M)) % (2 * M) := by rw [Nat.add_mod_mod]
      rw [m3]
      generalize u % (2 * M) = x at c l1 m1
      generalize j % (2 * M) = y at c l2 m2
      have hxy : x % M = y % M := by rw [m1, m2, h]
      have modM : ∀ z, z < 2 * M → z % M = if z < M then z else z - M := fun z hz => by
        split
        · exact Nat.mod_eq_of_lt (by assumption)
        · rw [Nat.mod_eq_sub_mod (by omega), Nat.mod_eq_of_lt (by omega)]
      rw [modM x l1, modM y l2] at hxy
      by_cases hx : x < M
      · rw [if_pos hx] at hxy
        by_cases hy : y < M
        · rw [if_pos hy] at hxy; exact absurd hxy c
        · rw [if_neg hy] at hxy
          rw [Nat.mod_eq_of_lt (by omega)]
          omega
      · rw [if_neg hx] at hxy
        by_cases hy : y < M
        · rw [if_pos hy] at hxy
          rw [Nat.mod_eq_sub_mod (by omega), Nat.mod_eq_of_lt (by omega)]
          omega
        · rw [if_neg hy] at hxy
          exact absurd (by omega) c
theorem lcgN_seq (m : Nat) : ∀ k, lcgN m k = seq5 k % (m + 1)
  | 0 => (Nat.zero_mod _).symm
  | k + 1 => by
    show (lcgN m k * 5 + 1) % (m + 1) = (seq5 k * 5 + 1) % (m + 1)
    rw [lcgN_seq m k, Nat.add_mod, Nat.mod_mul_mod, ← Nat.add_mod]
/-- the masks that come: one less than a power of two -/
def Msk (m : Nat) : Prop := ∃ e, 3 ≤ e ∧ e ≤ 16 ∧ m + 1 = 2 ^ e
theorem Msk.bd {m : Nat} (h : Msk m) : 7 ≤ m ∧ m < 65536 := by
  obtain ⟨e, h1, h2, h3⟩ := h
  have a : 2 ^ 3 ≤ 2 ^ e := Nat.pow_le_pow_right (by decide) h1
  have b : 2 ^ e ≤ 2 ^ 16 := Nat.pow_le_pow_right (by decide) h2
  omega
theorem Msk.odd {m : Nat} (h : Msk m) : m % 2 = 1 := by
  obtain ⟨e, h1, h2, h3⟩ := h
  obtain ⟨d, rfl⟩ : ∃ d, e = d + 1 := ⟨e - 1, by omega⟩
  rw [Nat.pow_succ] at h3
  omega
theorem round_all {m : Nat} (hm : Msk m) {i j : Nat} (hi : i ≤ m) (hj : j ≤ m) : ∃ k, k ≤ m ∧ lcgI m i k = j := by
  obtain ⟨e, _, _, he⟩ := hm
  have pe : ∀ n, lcgN m (2 ^ e + n) = lcgN m n := fun n => by
    obtain ⟨q, hq⟩ := seq5_pow e
    rw [lcgN_seq, lcgN_seq, he, Nat.add_comm, seq5_add, hq, Nat.mul_left_comm, Nat.add_comm, Nat.add_mul_mod_self_left]
  obtain ⟨a, ha, ea⟩ := seq5_all e i
  obtain ⟨b, hb, eb⟩ := seq5_all e j
  have ea' : lcgN m a = i := by rw [lcgN_seq, he, ea]; exact Nat.mod_eq_of_lt (by omega)
  have eb' : lcgN m b = j := by rw [lcgN_seq, he, eb]; exact Nat.mod_eq_of_lt (by omega)
  rw [← ea']
  by_cases c : a ≤ b
  · refine ⟨b - a, by omega, ?_⟩
    rw [lcgN_add, show a + (b - a) = b by omega, eb']
  · refine ⟨2 ^ e + b - a, by omega, ?_⟩
    rw [lcgN_add, show a + (2 ^ e + b - a) = 2 ^ e + b by omega, pe, eb']
/-- within a round no slot comes twice -/
theorem round_dif {m : Nat} (hm : Msk m) {i : Nat} (hi : i ≤ m) : ((List.range (m + 1)).map (lcgI m i)).Nodup := by
  have h := perm_range (m + 1) ((List.range (m + 1)).map (lcgI m i)) (by simp) fun j hj => by
    obtain ⟨k, hk, e⟩ := round_all hm hi (Nat.le_of_lt_succ hj)
    exact List.mem_map.mpr ⟨k, List.mem_range.mpr (Nat.lt_succ_of_le hk), e⟩
  exact h.nodup_iff.mpr List.nodup_range
/-- among the first runs one begins at a slot that is not in a short list -/
theorem run_out {m : Nat} (hm : Msk m) (h : Int) (D : List Nat) (hD : D.length ≤ m) : ∃ n, n ≤ D.length + 12 ∧ runI m (SetTable.bits h) n ∉ D := by
  have dif := round_dif hm (runI_le m (SetTable.bits h) 12)
  have sub : ((List.range (D.length + 1)).map (lcgI m (runI m (SetTable.bits h) 12))).Nodup := by
    refine List.Sublist.nodup (List.Sublist.map _ ?_) dif
    exact List.range_sublist.mpr (by omega)
  refine Classical.byContradiction fun no => ?_
  have all : ∀ z ∈ (List.range (D.length + 1)).map (lcgI m (runI m (SetTable.bits h) 12)), z ∈ D := fun z hz => by
    obtain ⟨k, hk, e⟩ := List.mem_map.mp hz
    have hk' := List.mem_range.mp hk
    refine Classical.byContradiction fun w => no ⟨12 + k, by omega, ?_⟩
    rw [runI_tail (bits_lt h), e]
    exact w
  have := nat_nodup_len _ D sub all
  rw [List.length_map, List.length_range] at this
  omega
/-- every slot is the start of one of the first runs -/
theorem run_to {m : Nat} (hm : Msk m) (h : Int) {j : Nat} (hj : j ≤ m) : ∃ n, n ≤ m + 12 ∧ runI m (SetTable.bits h) n = j := by
  obtain ⟨k, hk, e⟩ := round_all hm (runI_le m (SetTable.bits h) 12) hj
  refine ⟨12 + k, by omega, ?_⟩
  rw [runI_tail (bits_lt h), e]
theorem way_out {m : Nat} (hm : Msk m) (h : Int) (D : List Nat) (hD : D.length ≤ m) : ∃ k, k ≤ 10 * (D.length + 12) ∧ way m h k ∉ D := by
  obtain ⟨n, hn, e⟩ := run_out hm h D hD
  obtain ⟨k, hk, e2⟩ := run_nth m (SetTable.bits h) n
  refine ⟨k, by omega, ?_⟩
  show (nth m (runAt m (SetTable.bits h % (m + 1)) (SetTable.bits h)) k).j ∉ D
  rw [e2]
  exact e
theorem way_in {m : Nat} (h : Int) (k : Nat) : way m h k ≤ m := by
  have h0 : SetTable.bits h % (m + 1) ≤ m := Nat.le_of_lt_succ (Nat.mod_lt _ (Nat.succ_pos _))
  obtain ⟨r1, r2, _⟩ := runEnd_bd h0
  have q := nth_in k (runAt m (SetTable.bits h % (m + 1)) (SetTable.bits h)) (m := m) (by
    show SetTable.bits h % (m + 1) + (SetTable.runEnd m (SetTable.bits h % (m + 1)) - SetTable.bits h % (m + 1)) ≤ m
    omega)
  exact Nat.le_trans (Nat.le_add_right _ _) q
end ZS
end
section
set_option maxHeartbeats 4000000
namespace ZS
open PySem PySem.Spec PyProof.Rows L2
/-- a table without dummies in which each hash's own way leads to its slot over full slots -/
structure Tab (t : SetTable) (hs : List Int) : Prop where
  up : Ris t.place.toList
  nod : t.dummies = #[]
  len : t.place.size = hs.length
  msk : Msk t.mask
  low : ∀ z ∈ t.place.toList, z ≤ t.mask
  found : ∀ (i : Nat) (h : Int) (j : Nat), hs[i]? = some h → t.place.toList[i]? = some j → ∃ k, way t.mask h k = j ∧ ∀ n, n < k → way t.mask h n ∈ t.place.toList
section
variable {t : SetTable} {hs : List Int}
theorem Tab.gap (T : Tab t hs) (room : hs.length ≤ t.mask) (h : Int) : ∃ N, N ≤ 10 * (hs.length + 12) ∧ way t.mask h N ∉ t.place.toList ∧ ∀ n, n < N → way t.mask h n ∈ t.place.toList := by
  have full : t.place.toList.length = hs.length := by rw [Array.length_toList]; exact T.len
  obtain ⟨k, hk, free⟩ := way_out T.msk h t.place.toList (by omega)
  obtain ⟨N, a, b, c⟩ := st_least (p := fun n => way t.mask h n ∉ t.place.toList) k free
  exact ⟨N, by omega, b, fun n hn => Classical.byContradiction fun z => c n hn z⟩
theorem Tab.ahead (T : Tab t hs) {h : Int} {N i j : Nat} (hN : way t.mask h N ∉ t.place.toList) (hi : hs[i]? = some h) (hj : t.place.toList[i]? = some j) : ∃ n, n < N ∧ way t.mask h n = j := by
  obtain ⟨k, ek, full⟩ := T.found i h j hi hj
  refine ⟨k, Nat.lt_of_not_le fun z => ?_, ek⟩
  rcases Nat.lt_or_eq_of_le z with z | z
  · exact hN (full N z)
  · rw [z, ek] at hN
    exact hN (List.mem_of_getElem? hj)
/-- a new hash is put into the first gap of its way -/
structure Put (t : SetTable) (hs : List Int) (h : Int) (j p : Nat) : Prop where
  at_ : (t.put j).2 = p
  le : p ≤ hs.length
  tab : Tab (t.put j).1 (hs.take p ++ h :: hs.drop p)
  mask : (t.put j).1.mask = t.mask
  led : (t.put j).1.led = t.led
  plain : (t.put j).1.plain = t.plain
  fill : (t.put j).1.fill = hs.length + 1
theorem Tab.put (T : Tab t hs) {h : Int} {N : Nat} (hN : way t.mask h N ∉ t.place.toList) (full : ∀ n, n < N → way t.mask h n ∈ t.place.toList) :
    Put t hs h (way t.mask h N) (SetTable.below t.place (way t.mask h N)) := by
  have hle := way_in (m := t.mask) h N
  generalize hj : way t.mask h N = j at hN hle ⊢
  obtain ⟨cut, _, _⟩ := below_cut T.up j
  have hnew : t.place[SetTable.below t.place j]? ≠ some j := fun e => hN (List.mem_of_getElem? (by rw [Array.getElem?_toList]; exact e))
  have hP := put_place t j
  have h2 : (t.put j).2 = SetTable.below t.place j := rfl
  have up' := ris_insert T.up hnew
  have nod' := put_dm T.nod j
  have len := T.len
  have hlist : t.place.toList.length = hs.length := by rw [Array.length_toList]; exact len
  generalize SetTable.below t.place j = p at cut hP up' h2 ⊢
  have hp : p ≤ hs.length := by omega
  have hp' : p ≤ t.place.toList.length := by omega
  have hcount : (t.put j).1.place.size = hs.length + 1 := by
    have := len_ins t.place.toList hp' j
    rw [← hP, Array.length_toList] at this
    omega
  have more : ∀ z, z ∈ t.place.toList → z ∈ (t.put j).1.place.toList := fun z hz => by rw [hP]; exact mem_ins.2 (.inr hz)
  have lift : ∀ {h' : Int} {j' : Nat}, (∃ k, way t.mask h' k = j' ∧ ∀ n, n < k → way t.mask h' n ∈ t.place.toList) → ∃ k, way t.mask h' k = j' ∧ ∀ n, n < k → way t.mask h' n ∈ (t.put j).1.place.toList :=
    fun ⟨k, a, b⟩ => ⟨k, a, fun n hn => more _ (b n hn)⟩
  refine ⟨?_, hp, ⟨by rw [hP]; rw [SetTable.toList_insertAt] at up'; exact up', nod', ?_, T.msk, fun z hz => ?_, fun i h' j' a b => ?_⟩, rfl, rfl, rfl, ?_⟩
  · exact h2
  · rw [len_ins hs hp h]; exact hcount
  · rw [hP] at hz
    rcases mem_ins.1 hz with e | e
    · rw [e]; exact hle
    · exact T.low z e
  · rw [tins_get hs hp] at a
    rw [hP, tins_get _ hp'] at b
    show ∃ k, way t.mask h' k = j' ∧ ∀ n, n < k → way t.mask h' n ∈ (t.put j).1.place.toList
    by_cases c : i < p
    · rw [if_pos c] at a b
      exact lift (T.found i h' j' a b)
    · rw [if_neg c] at a b
      by_cases d : i = p
      · rw [if_pos d] at a b
        obtain rfl : h = h' := Option.some.inj a
        obtain rfl : j = j' := Option.some.inj b
        exact lift ⟨N, hj, full⟩
      · rw [if_neg d] at a b
        exact lift (T.found (i - 1) h' j' a b)
  · show (t.put j).1.place.size + (t.put j).1.dummies.size = _
    rw [hcount, nod']
    rfl
end
/-! ### all laid anew -/
theorem spot {m : Nat} (hm : Msk m) (owner : Array (Option Nat)) (h : Int) {j : Nat} (hj : j ≤ m) (hf : oAt owner j = none) :
    ∃ N, SetTable.layClean.free m owner (SetTable.turns m) (SetTable.bits h % (m + 1)) (SetTable.bits h) = some (way m h N) ∧ oAt owner (way m h N) = none ∧ ∀ n, n < N → oAt owner (way m h n) ≠ none := by
  obtain ⟨n, hn, en⟩ := run_to hm h hj
  have at_ : way m h (off m (SetTable.bits h % (m + 1)) (SetTable.bits h) n) = j := by
    show (nth m (runAt m (SetTable.bits h % (m + 1)) (SetTable.bits h)) _).j = j
    rw [nth_off, itL_run, ← en]
    rfl
  obtain ⟨N, a, b, c⟩ := st_least (p := fun n => oAt owner (way m h n) = none) _ (show oAt owner (way m h (off m (SetTable.bits h % (m + 1)) (SetTable.bits h) n)) = none by rw [at_]; exact hf)
  have ht : SetTable.turns m = m + 15 := rfl
  refine ⟨N, free_spec m owner (SetTable.turns m) n _ _ N (by omega) a (fun k hk => ?_) ?_, b, c⟩
  · have z := c k hk
    exact Option.isNone_eq_false_iff.mpr (Option.ne_none_iff_isSome.mp z)
  · exact Option.isNone_iff_eq_none.mpr b
theorem own_next {m : Nat} (hm : Msk m) {done : List Int} {owner : Array (Option Nat)} (W : Own m done owner) (room : done.length ≤ m) (h : Int) :
    ∃ j, SetTable.layClean.free m owner (SetTable.turns m) (SetTable.bits h % (m + 1)) (SetTable.bits h) = some j ∧ Own m (done ++ [h]) (owner.setIfInBounds j (some done.length)) := by
  obtain ⟨ps, lps, hps⟩ := W.ps
  obtain ⟨f, hf, nf⟩ := st_missing ps (m + 1) (by omega)
  have empty : oAt owner f = none := Classical.byContradiction fun z => nf (hps f (Nat.le_of_lt_succ hf) z)
  obtain ⟨N, fnd, isn, full⟩ := spot hm owner h (Nat.le_of_lt_succ hf) empty
  have hw := way_in (m := m) h N
  generalize hj : way m h N = j at fnd isn hw
  have inb : j < owner.size := by have := W.sz; omega
  have here := oAt_set_self (some done.length) inb
  have there : ∀ i, i ≠ j → oAt (owner.setIfInBounds j (some done.length)) i = oAt owner i := fun i hi => oAt_set_ne _ hi
  have stay : ∀ i, oAt owner i ≠ none → oAt (owner.setIfInBounds j (some done.length)) i ≠ none := fun i hi => by
    by_cases c : i = j
    · rw [c, here]; exact Option.some_ne_none _
    · rw [there i c]; exact hi
  have llen : (done ++ [h]).length = done.length + 1 := by simp
  refine ⟨j, fnd, ?_⟩
  constructor
  · rw [Array.size_setIfInBounds]; exact W.sz
  · intro i k hi e
    by_cases c : i = j
    · rw [c, here] at e
      obtain rfl : done.length = k := Option.some.inj e
      exact ⟨h, N, by simp, by rw [hj, c], fun n hn => stay _ (full n hn)⟩
    · rw [there i c] at e
      obtain ⟨h', K, a1, a2, a3⟩ := W.at_ i k hi e
      have hk : k < done.length := (List.getElem?_eq_some_iff.mp a1).1
      exact ⟨h', K, by rw [List.getElem?_append_left hk]; exact a1, a2, fun n hn => stay _ (a3 n hn)⟩
  · intro k hk
    rw [llen] at hk
    by_cases c : k = done.length
    · exact ⟨j, hw, by rw [c]; exact here⟩
    · obtain ⟨i, hi, e⟩ := W.all k (by omega)
      refine ⟨i, hi, ?_⟩
      rw [there i fun z => by rw [z, isn] at e; cases e]
      exact e
  · refine ⟨j :: ps, by rw [llen, List.length_cons, lps], fun i hi e => ?_⟩
    by_cases c : i = j
    · rw [c]; exact List.mem_cons_self
    · rw [there i c] at e
      exact List.mem_cons_of_mem _ (hps i hi e)
theorem own_all {m : Nat} (hm : Msk m) : ∀ (rest done : List Int) (owner : Array (Option Nat)), Own m done owner → done.length + rest.length ≤ m →
    ∃ o, rest.foldl (stepF m) (some (owner, done.length)) = some (o, (done ++ rest).length) ∧ Own m (done ++ rest) o
  | [], done, owner, W, _ => ⟨owner, by simp, by rw [List.append_nil]; exact W⟩
  | h :: rest, done, owner, W, hl => by
    rw [List.length_cons] at hl
    obtain ⟨j, e, V⟩ := own_next hm W (by omega) h
    obtain ⟨o, f, U⟩ := own_all hm rest (done ++ [h]) _ V (by simp; omega)
    have ea : done ++ [h] ++ rest = done ++ h :: rest := by simp
    have el : (done ++ [h]).length = done.length + 1 := by simp
    rw [ea] at f U
    rw [el] at f
    refine ⟨o, ?_, U⟩
    rw [List.foldl_cons, stepF_some e]
    exact f
theorem laid_own {m : Nat} (hm : Msk m) {hs : Array Int} (room : hs.size ≤ m) : ∃ o, SetTable.layClean m hs = some o ∧ Own m hs.toList o := by
  obtain ⟨o, f, W⟩ := own_all hm hs.toList [] _ (Own.init m) (by simpa using room)
  refine ⟨o, ?_, W⟩
  have f2 : hs.toList.foldl (stepF m) (some (Array.replicate (m + 1) none, 0)) = some (o, hs.toList.length) := f
  rw [layClean_eq, f2]
  rfl
/-- the table anew: all hashes, in another order -/
theorem anew (t : SetTable) {hs : Array Int} {wanted M : Nat} (hw : SetTable.sizeAbove wanted - 1 = M) (hM : Msk M) (room : hs.size ≤ M) :
    ∃ t' order, t.relaid hs wanted = some (t', order) ∧ order.toList.Perm (List.range hs.size) ∧ Tab t' (order.toList.map fun i => hs.getD i 0) ∧ t'.mask = M ∧ t'.led = t.led ∧ t'.plain = t.plain := by
  obtain ⟨o, e, W⟩ := laid_own hM room
  have hr : t.relaid hs wanted = some (tabOf t M o, ((liveOf M o).map (·.2)).toArray) := by
    rw [relaid_eq, hw, e]
    rfl
  obtain ⟨up, low⟩ := ris_live (fun j => o.getD j none) (List.range (M + 1)) List.pairwise_lt_range
  have up1 : Ris ((liveOf M o).map (·.1)) := up
  have low1 : ∀ z ∈ (liveOf M o).map (·.1), z ∈ List.range (M + 1) := low
  have count : (liveOf M o).length = hs.size := by
    obtain ⟨ps, p1, p2⟩ := W.ps
    have nd1 : ((liveOf M o).map (·.1)).Nodup := (List.Pairwise.imp (fun z => Nat.ne_of_lt z) (show List.Pairwise (· < ·) ((liveOf M o).map (·.1)) from up1))
    have le1 := nat_nodup_len ((liveOf M o).map (·.1)) ps nd1 fun z hz => by
      obtain ⟨⟨y, k⟩, hq, rfl⟩ := List.mem_map.mp hz
      obtain ⟨b1, b2⟩ := (mem_live W.sz).1 hq
      exact p2 y b1 (by rw [b2]; exact Option.some_ne_none _)
    have le2 := nat_nodup_len (List.range hs.size) ((liveOf M o).map (·.2)) List.nodup_range fun k hk => by
      obtain ⟨j, b1, b2⟩ := W.all k (by simpa using hk)
      exact List.mem_map.mpr ⟨(j, k), (mem_live W.sz).2 ⟨b1, b2⟩, rfl⟩
    have : hs.toList.length = hs.size := rfl
    rw [List.length_map] at le1 le2
    rw [List.length_range] at le2
    omega
  refine ⟨_, _, hr, ?_, ⟨up1, rfl, ?_, hM, fun z hz => ?_, fun i h j a b => ?_⟩, rfl, rfl, rfl⟩
  · refine perm_range hs.size _ (by simpa using count) fun k hk => ?_
    obtain ⟨j, b1, b2⟩ := W.all k (by simpa using hk)
    exact List.mem_map.mpr ⟨(j, k), (mem_live W.sz).2 ⟨b1, b2⟩, rfl⟩
  · show ((liveOf M o).map (·.1)).toArray.size = _
    simp
  · exact Nat.le_of_lt_succ (List.mem_range.mp (low1 z hz))
  · have a' : (((liveOf M o).map (·.2)).map fun i => hs.getD i 0)[i]? = some h := a
    have b' : ((liveOf M o).map (·.1))[i]? = some j := b
    rw [List.getElem?_map, List.getElem?_map] at a'
    rw [List.getElem?_map] at b'
    cases hq : (liveOf M o)[i]? with
    | none => rw [hq] at b'; cases b'
    | some q =>
      obtain ⟨y, k⟩ := q
      rw [hq] at a' b'
      obtain rfl : y = j := Option.some.inj b'
      have eh : hs.getD k 0 = h := Option.some.inj a'
      obtain ⟨b1, b2⟩ := (mem_live W.sz).1 (List.mem_of_getElem? hq)
      obtain ⟨h0, K, a1, a2, a3⟩ := W.at_ y k b1 b2
      have e0 : h0 = h := by
        rw [← eh, Array.getD_eq_getD_getElem?, ← Array.getElem?_toList, a1]
        rfl
      subst e0
      refine ⟨K, a2, fun n hn => ?_⟩
      show way M h0 n ∈ (liveOf M o).map (·.1)
      obtain ⟨k2, z⟩ := Option.ne_none_iff_exists'.mp (a3 n hn)
      exact List.mem_map.mpr ⟨(way M h0 n, k2), (mem_live W.sz).2 ⟨way_in h0 n, z⟩, rfl⟩
end ZS
end
section
set_option maxHeartbeats 4000000
namespace ZS
open PySem PySem.Spec PyProof.Rows L2
/-- what a set may hold at addresses: keys whose search tells nothing -/
structure ZK (P : Program) (w : World) (K : Type) [DecidableEq K] where
  is : Heap → K → Addr → Prop
  hash : K → Int
  toks : K → Nat
  room : Around → Prop
  inj : ∀ {h : Heap} {a : Addr} {x y : K}, is h x a → is h y a → x = y
  keep : ∀ {h h' : Heap} {k : K} {b : Addr}, is h k b → (∀ c o vs n, h.get? c = some o → o.data = .seq vs n → h'.get? c = some o) → is h' k b
  ask : ∀ {A : Around} {E : Value → Shared → Prop} {s : Shared} {k : K} {a : Addr} {Q : Int → Shared → Prop}, room A → is s.heap k a → Q (hash k) { s with toks := s.toks + toks k } → wpAny (model P w) A (pyHash (.ref a)) Q E s
  eqB : ∀ {A : Around} {E : Value → Shared → Prop} {s : Shared} {x y : K} {a b : Addr} {Q : Bool → Shared → Prop}, room A → is s.heap x a → is s.heap y b → Q (decide (x = y)) s → wpAny (model P w) A (eqBool (.ref a) (.ref b)) Q E s
  quiet : ∀ {A : Around} {E : Value → Shared → Prop} {s : Shared} {k : K} {a : Addr} {Q : Bool → Shared → Prop}, is s.heap k a → Q true s → wpAny (model P w) A (eqIsQuiet 8 (.ref a)) Q E s
  noCls : ∀ {A : Around} {E : Value → Shared → Prop} {s : Shared} {k : K} {a : Addr} {Q : Bool → Shared → Prop}, is s.heap k a → Q false s → wpAny (model P w) A (ofAClassStatement 8 (.ref a)) Q E s
  byV : ∀ {A : Around} {E : Value → Shared → Prop} {s : Shared} {k : K} {a : Addr} {Q : Bool → Shared → Prop}, is s.heap k a → Q true s → wpAny (model P w) A (hashByValue 8 (.ref a)) Q E s
/-! ### tuples of ints, and of such -/
mutual
def nums : NestedKey → Bool
  | .none => false
  | .num _ => true
  | .text _ => false
  | .tup ks => numsAll ks
def numsAll : List NestedKey → Bool
  | [] => true
  | k :: ks => nums k && numsAll ks
end
section
variable {P : Program} {w : World}
mutual
theorem cls_key : ∀ (k : NestedKey) (v : Value) (n : Nat) (s : Shared), NestedIs s.heap k v → k.depth ≤ n → ∀ (A : Around) (E : Value → Shared → Prop) (Q : Bool → Shared → Prop), Q false s → wpAny (model P w) A (ofAClassStatement n v) Q E s
  | k, v, n, s, h, hd, A, E, Q, q => by
    cases h with
    | none => cases n <;> exact wpAny_pure q
    | bool _ => cases n <;> exact wpAny_pure q
    | int _ _ => cases n <;> exact wpAny_pure q
    | text _ _ => cases n <;> exact wpAny_pure q
    | @tup a o vs m ks ho hc hdt hall =>
      have hdk : NestedKey.depthAll ks + 1 ≤ n := by rw [NestedKey.depth] at hd; exact hd
      obtain ⟨n', rfl⟩ : ∃ n', n = n' + 1 := ⟨n - 1, by omega⟩
      unfold ofAClassStatement
      refine wpAny_bind (wpAny_typeOf (T := "tuple") ⟨o, ho, hc⟩ ?_)
      dsimp only
      simp only [show (("tuple" : String) == "tuple") = true from by decide, if_true, Bool.not_true, Bool.false_eq_true, if_false]
      try refine wpAny_bind (wpAny_pure ?_)
      try simp only [Bool.not_true, Bool.false_eq_true, if_false]
      show wpAny _ _ (seqItems? (.ref a) >>= _) _ _ s
      refine wpAny_bind (wpAny_seqItems ho hdt ?_)
      dsimp only
      refine wpAny_bind ?_
      show wpAny _ _ (forIn vs _ _) _ _ s
      rw [← Array.forIn_toList]
      refine wpAny_forIn_list _ (fun rest r s' => r.1 = none ∧ s' = s ∧ ∀ v ∈ rest, v ∈ vs.toList) _ ?_ ?_ _ _ ⟨rfl, rfl, fun _ z => z⟩
      · rintro v rest r s' ⟨hr, rfl, hm⟩
        refine wpAny_bind (cls_keys ks vs.toList n' s' hall (by omega) v (hm v List.mem_cons_self) _ _ _ ?_)
        simp only [Bool.false_eq_true, if_false]
        exact wpAny_pure ⟨rfl, rfl, fun u hu => hm u (List.mem_cons_of_mem _ hu)⟩
      · rintro ⟨r1, r2⟩ s' ⟨hr, rfl, _⟩
        simp only at hr
        subst hr
        exact wpAny_pure q
theorem cls_keys : ∀ (ks : List NestedKey) (vs : List Value) (n : Nat) (s : Shared), NestedAll s.heap ks vs → NestedKey.depthAll ks ≤ n → ∀ v ∈ vs, ∀ (A : Around) (E : Value → Shared → Prop) (Q : Bool → Shared → Prop), Q false s → wpAny (model P w) A (ofAClassStatement n v) Q E s
  | [], [], _, _, _, _, _, hv => by cases hv
  | k :: ks, v :: vs, n, s, h, hd, u, hu => by
    rw [NestedKey.depthAll] at hd
    cases h with
    | cons h1 h2 =>
      intro A E Q q
      rcases List.mem_cons.mp hu with e | e
      · rw [e]; exact cls_key k v n s h1 (by omega) A E Q q
      · exact cls_keys ks vs n s h2 (by omega) u e A E Q q
end
mutual
theorem byv_key : ∀ (k : NestedKey) (v : Value) (n : Nat) (s : Shared), NestedIs s.heap k v → k.depth ≤ n → nums k = true → ∀ (A : Around) (E : Value → Shared → Prop) (Q : Bool → Shared → Prop), Q true s → wpAny (model P w) A (hashByValue n v) Q E s
  | k, v, n, s, h, hd, hn, A, E, Q, q => by
    cases h with
    | none => exact absurd hn (by decide)
    | bool _ => cases n <;> exact wpAny_pure q
    | int _ _ => cases n <;> exact wpAny_pure q
    | text _ _ => exact absurd hn (by simp [nums])
    | @tup a o vs m ks ho hc hdt hall =>
      have hdk : NestedKey.depthAll ks + 1 ≤ n := by rw [NestedKey.depth] at hd; exact hd
      obtain ⟨n', rfl⟩ : ∃ n', n = n' + 1 := ⟨n - 1, by omega⟩
      rw [nums] at hn
      unfold hashByValue
      refine wpAny_bind (wpAny_specialOf (T := "tuple") ⟨o, ho, hc⟩ F.slot_tuple_hash.lookup ?_)
      show wpAny _ _ (seqItems? (.ref a) >>= _) _ _ s
      refine wpAny_bind (wpAny_seqItems ho hdt (wpAny_bind ?_))
      show wpAny _ _ (forIn vs _ _) _ _ s
      rw [← Array.forIn_toList]
      refine wpAny_forIn_list _ (fun rest r s' => r.1 = none ∧ s' = s ∧ ∀ v ∈ rest, v ∈ vs.toList) _ ?_ ?_ _ _ ⟨rfl, rfl, fun _ z => z⟩
      · rintro v rest r s' ⟨hr, rfl, hm⟩
        refine wpAny_bind (byv_keys ks vs.toList n' s' hall (by omega) hn v (hm v List.mem_cons_self) _ _ _ ?_)
        simp only [Bool.not_true, Bool.false_eq_true, if_false]
        exact wpAny_pure ⟨rfl, rfl, fun u hu => hm u (List.mem_cons_of_mem _ hu)⟩
      · rintro ⟨r1, r2⟩ s' ⟨hr, rfl, _⟩
        simp only at hr
        subst hr
        exact wpAny_pure q
theorem byv_keys : ∀ (ks : List NestedKey) (vs : List Value) (n : Nat) (s : Shared), NestedAll s.heap ks vs → NestedKey.depthAll ks ≤ n → numsAll ks = true → ∀ v ∈ vs, ∀ (A : Around) (E : Value → Shared → Prop) (Q : Bool → Shared → Prop), Q true s → wpAny (model P w) A (hashByValue n v) Q E s
  | [], [], _, _, _, _, _, _, hv => by cases hv
  | k :: ks, v :: vs, n, s, h, hd, hn, u, hu => by
    rw [NestedKey.depthAll] at hd
    rw [numsAll, Bool.and_eq_true] at hn
    cases h with
    | cons h1 h2 =>
      intro A E Q q
      rcases List.mem_cons.mp hu with e | e
      · rw [e]; exact byv_key k v n s h1 (by omega) hn.1 A E Q q
      · exact byv_keys ks vs n s h2 (by omega) hn.2 u e A E Q q
end
/-- the kind -/
def zk (P : Program) (w : World) : ZK P w NestedKey where
  is := fun h k a => NestedIs h k (.ref a) ∧ k.depth ≤ 8 ∧ nums k = true
  hash := fun k => k.hash w
  toks := fun k => k.draws
  room := fun A => A.units + 8 < cLine
  inj := fun hx hy => NestedIs.inj _ _ _ hx.1 hy.1
  keep := fun hx k => ⟨NestedIs.at k _ _ hx.1, hx.2⟩
  ask := fun hr hx q => pyHash_key _ _ _ _ _ hx.1 (Nat.lt_of_le_of_lt (Nat.add_le_add_left hx.2.1 _) hr) q
  eqB := fun hr hx hy q => (nestedKind P w).eqBool hr ⟨hx.1, hx.2.1⟩ ⟨hy.1, hy.2.1⟩ q
  quiet := fun hx q => (nestedKind P w).quiet ⟨hx.1, hx.2.1⟩ q
  noCls := fun hx q => cls_key _ _ 8 _ hx.1 hx.2.1 _ _ _ q
  byV := fun hx q => byv_key _ _ 8 _ hx.1 hx.2.1 hx.2.2 _ _ _ q
end
end ZS
end
section
set_option maxHeartbeats 4000000
namespace ZS
open PySem PySem.Spec PyProof.Rows L2
def zBound : Nat := 9000
def zrows {P : Program} {w : World} {K : Type} [DecidableEq K] (Z : ZK P w K) (L : List (Addr × K)) : List (Int × Value) := L.map fun p => (Z.hash p.2, Value.ref p.1)
/-- a set of such keys: its rows in the table's order -/
structure SetZ {P : Program} {w : World} {K : Type} [DecidableEq K] (Z : ZK P w K) (h : Heap) (a : Addr) (L : List (Addr × K)) (es : Array (Int × Value)) (ep : Nat) (t : SetTable) : Prop where
  obj : ∃ o, h.get? a = some o ∧ o.ExactSet ∧ o.data = .set es ep t
  row : es.toList = zrows Z L
  tab : Tab t (L.map fun p => Z.hash p.2)
  dif : (L.map (·.2)).Nodup
  tup : ∀ p ∈ L, Z.is h p.2 p.1
  pln : t.plain = true
  led : w.params.followText "set-order" = true ∨ t.led = true
  room : L.length * 5 < t.mask * 3
  few : L.length < zBound
section
variable {P : Program} {w : World} {K : Type} [DecidableEq K] {Z : ZK P w K} {A : Around} {E : Value → Shared → Prop} {s : Shared} {a : Addr} {L : List (Addr × K)} {es : Array (Int × Value)} {ep : Nat} {t : SetTable}
theorem zseen (Z : ZK P w K) {k : K} {b : Addr} {Q : Bool → Shared → Prop} (hk : Z.is s.heap k b) {ys : List Value} (hy : ∀ y ∈ ys, ∃ k' c, y = Value.ref c ∧ Z.is s.heap k' c) (h : Q false s) :
    wpAny (model P w) A (searchCouldBeSeen (.ref b) ys) Q E s := by
  unfold searchCouldBeSeen
  refine wpAny_bind (wpAny_forIn_list _ (fun rest r s' => r.1 = none ∧ s' = s ∧ ∀ y ∈ rest, ∃ k' c, y = Value.ref c ∧ Z.is s.heap k' c) _ ?_ ?_ _ _ ⟨rfl, rfl, hy⟩)
  · rintro v rest r s' ⟨hr, rfl, hall⟩
    obtain ⟨k', c, rfl, hc⟩ := hall v List.mem_cons_self
    have left := fun u hu => hall u (List.mem_cons_of_mem _ hu)
    dsimp only
    by_cases hv : (b == c || (carriedByValue (.ref b) && carriedByValue (.ref c))) = true
    · refine wp_if_pos hv ?_
      exact wpAny_pure ⟨rfl, rfl, left⟩
    · refine wp_if_neg hv (wpAny_bind (Z.quiet hk ?_))
      simp only [Bool.not_true, Bool.false_eq_true, if_false]
      refine wpAny_bind (Z.quiet hc ?_)
      simp only [Bool.not_true, Bool.false_eq_true, if_false]
      refine wpAny_bind (Z.noCls hk ?_)
      simp only [Bool.false_eq_true, if_false]
      refine wpAny_bind (Z.noCls hc ?_)
      simp only [Bool.false_eq_true, if_false]
      exact wpAny_pure ⟨rfl, rfl, left⟩
  · rintro ⟨r1, r2⟩ s' ⟨hr, rfl, _⟩
    simp only at hr
    subst hr
    exact wpAny_pure h
theorem zrows_put (L : List (Addr × K)) (p : Nat) (x : Addr) (k : K) : zrows Z (L.take p ++ (x, k) :: L.drop p) = (zrows Z L).take p ++ (Z.hash k, Value.ref x) :: (zrows Z L).drop p := by
  unfold zrows
  simp [List.map_take, List.map_drop]
theorem zsame {h h' : Heap} {k : K} {a b : Addr} {o : Obj} {es : Array (Int × Value)} {ep : Nat} {t : SetTable} (hb : Z.is h k b) (ho : h.get? a = some o) (hd : o.data = .set es ep t) (hs : Heap.SameBut a h h') : Z.is h' k b :=
  Z.keep hb fun c oc vs n hc hdc => by
    have hne : c ≠ a := fun z => by
      rw [z, ho] at hc
      cases hc
      rw [hd] at hdc
      cases hdc
    exact (hs.2 c hne).trans hc
theorem zorder (L : List (Addr × K)) (es : Array (Int × Value)) (order : Array Nat) (hr : es.toList = zrows Z L) (hp : order.toList.Perm (List.range L.length)) :
    ∃ L2, (order.filterMap (es[·]?)).toList = zrows Z L2 ∧ L2.Perm L ∧ (L2.map fun p => Z.hash p.2) = order.toList.map fun i => (es.map (·.1)).getD i 0 := by
  have cell : ∀ i (h : i < L.length), es[i]? = some (Z.hash (L[i]).2, Value.ref (L[i]).1) := fun i h => by
    rw [← Array.getElem?_toList, hr]
    show (L.map _)[i]? = _
    rw [List.getElem?_map, List.getElem?_eq_getElem h]
    rfl
  have all : ∀ l : List Nat, (∀ i ∈ l, i < L.length) → l.filterMap (fun i => es[i]?) = zrows Z (l.filterMap fun i => L[i]?) ∧ ((l.filterMap fun i => L[i]?).map fun p => Z.hash p.2) = l.map fun i => (es.map (·.1)).getD i 0 := by
    intro l
    induction l with
    | nil => intro _; exact ⟨rfl, rfl⟩
    | cons i l ih =>
      intro hl
      have hi := hl i List.mem_cons_self
      obtain ⟨e1, e2⟩ := ih fun j hj => hl j (List.mem_cons_of_mem _ hj)
      rw [List.filterMap_cons_some (cell i hi), List.filterMap_cons_some (List.getElem?_eq_getElem hi), e1]
      refine ⟨rfl, ?_⟩
      rw [List.map_cons, List.map_cons, e2]
      congr 1
      rw [Array.getD_eq_getD_getElem?, Array.getElem?_map, cell i hi]
      rfl
  obtain ⟨a1, a2⟩ := all order.toList fun i hi => List.mem_range.mp (hp.mem_iff.mp hi)
  refine ⟨_, by rw [← a1]; simp, ?_, a2⟩
  refine (hp.filterMap _).trans ?_
  have whole : ∀ n, n ≤ L.length → (List.range n).filterMap (fun i => L[i]?) = L.take n := fun n => by
    induction n with
    | zero => intro _; rfl
    | succ n ih =>
      intro hn
      have hlt : n < L.length := hn
      rw [List.range_succ, List.filterMap_append, ih (Nat.le_of_lt hlt), List.take_add_one, List.getElem?_eq_getElem hlt]
      simp [hlt]
  rw [whole _ (Nat.le_refl _), List.take_length]
theorem zrows_len {es : Array (Int × Value)} (h : es.toList = zrows Z L) : es.size = L.length := by
  rw [← Array.length_toList, h]
  exact List.length_map _
theorem SetZ.size (R : SetZ Z s.heap a L es ep t) : es.size = L.length := zrows_len R.row
theorem fits_of {n : Nat} (h1 : t.place.size = n) (h2 : t.dummies = #[]) (h3 : n ≤ t.mask) : t.fits n = true := by
  unfold SetTable.fits SetTable.fill
  rw [h2, h1]
  simp [h3]
theorem SetZ.fits (R : SetZ Z s.heap a L es ep t) : t.fits es.size = true := by
  have h1 := R.tab.len
  have h2 := R.room
  rw [List.length_map] at h1
  exact fits_of (by rw [h1, R.size]) R.tab.nod (by rw [R.size]; omega)
theorem SetZ.entry (R : SetZ Z s.heap a L es ep t) {i : Nat} {p : Addr × K} (h : L[i]? = some p) : es[i]? = some (Z.hash p.2, Value.ref p.1) := by
  rw [← Array.getElem?_toList, R.row]
  show (L.map _)[i]? = _
  rw [List.getElem?_map, h]
  rfl
theorem SetZ.steady (R : SetZ Z s.heap a L es ep t) : ¬ t.gaveWay = true := by
  unfold SetTable.gaveWay
  rw [R.tab.msk.odd]
  decide
theorem nth_dummy (m : Nat) : ∀ (n : Nat) (p : SetTable.Probe), p.dummy = none → (nth m p n).dummy = none
  | 0, _, h => h
  | n + 1, p, h => nth_dummy m n (adv m p) (by unfold adv; split <;> exact h)
/-- from the c-th step on -/
theorem hunt (R : SetZ Z s.heap a L es ep t) {x : Addr} {k : K} (hx : Z.is s.heap k x) (hu : Z.room A) {add : Bool} {N : Nat} (hN : N < 10 * SetTable.turns t.mask)
    (gap : way t.mask (Z.hash k) N ∉ t.place.toList) (full : ∀ n, n < N → way t.mask (Z.hash k) n ∈ t.place.toList) {Q : SetFound → Shared → Prop}
    (yes : k ∈ L.map (·.2) → ∀ r : Option Nat, r.isSome = !add → Q (.there r) s) (no : k ∉ L.map (·.2) → Q (.free (way t.mask (Z.hash k) N) false) s) :
    ∀ (f c : Nat) (stand : Option SetTable.Probe), stand.getD (t.probeStart (Z.hash k)) = nth t.mask (runAt t.mask (SetTable.bits (Z.hash k) % (t.mask + 1)) (SetTable.bits (Z.hash k))) c → c ≤ N → N - c < f →
      (∀ (i : Nat) p, L[i]? = some p → p.2 = k → ∃ d, c ≤ d ∧ d < N ∧ t.place.toList[i]? = some (way t.mask (Z.hash k) d)) →
      wpAny (model P w) A (setSearchFrom a (.ref x) (Z.hash k) add f stand) Q E s
  | 0, c, stand, _, _, hf, _ => absurd hf (Nat.not_lt_zero _)
  | f + 1, c, stand, hst, hc, hf, left => by
    obtain ⟨o, ho, hex, hd⟩ := R.obj
    generalize hp0 : runAt t.mask (SetTable.bits (Z.hash k) % (t.mask + 1)) (SetTable.bits (Z.hash k)) = p0 at hst
    have wayE : ∀ n, way t.mask (Z.hash k) n = (nth t.mask p0 n).j := fun n => by rw [← hp0]
    have later : ∀ q, nth t.mask (nth t.mask p0 c) q = nth t.mask p0 (c + q) := fun q => (nth_add t.mask c p0 q).symm
    have wayL : ∀ q, (nth t.mask (nth t.mask p0 c) q).j = way t.mask (Z.hash k) (c + q) := fun q => by rw [later, wayE]
    have nd : (nth t.mask p0 c).dummy = none := nth_dummy _ c p0 (by rw [← hp0]; rfl)
    have eN : c + (N - c) = N := by omega
    have spec := go_spec t R.tab.up R.tab.nod (fun i => (es[i]?.map (fun e : Int × Value => e.1)).getD 0) (Z.hash k) (10 * SetTable.turns t.mask) (N - c) _ nd (by omega) (fun q hq => by rw [wayL]; exact full _ (by omega)) (by rw [wayL, eN]; exact gap)
    have hashAt : ∀ (i : Nat) p, L[i]? = some p → (es[i]?.map (fun e : Int × Value => e.1)).getD 0 = Z.hash p.2 := fun i p hp => by rw [R.entry hp]; rfl
    have skip : ∀ {q : Nat} (hno : ∀ k' i', k' < q → t.place.toList[i']? = some (nth t.mask (nth t.mask p0 c) k').j → (fun i => (es[i]?.map (fun e : Int × Value => e.1)).getD 0) i' ≠ Z.hash k) {i : Nat} {p : Addr × K} {d : Nat},
        L[i]? = some p → p.2 = k → c ≤ d → t.place.toList[i]? = some (way t.mask (Z.hash k) d) → c + q ≤ d := fun {q} hno {i p d} hi hk hcd hpl => by
      rcases Nat.lt_or_ge d (c + q) with z | z
      · refine absurd ?_ (hno (d - c) i (by omega) (by rw [wayL, show c + (d - c) = d by omega]; exact hpl))
        show (es[i]?.map (fun e : Int × Value => e.1)).getD 0 = _
        rw [hashAt i p hi, hk]
      · exact z
    rw [setSearchFrom_succ]
    refine wpAny_bind (wpAny_setState_of ho hd R.fits ?_)
    dsimp only
    refine wp_if_neg R.steady ?_
    try refine wpAny_bind (wpAny_pure ?_)
    have probeE : t.probe (fun i => (es[i]?.map (fun e : Int × Value => e.1)).getD 0) (Z.hash k) (stand.getD (t.probeStart (Z.hash k))) = SetTable.probe.go t (fun i => (es[i]?.map (fun e : Int × Value => e.1)).getD 0) (Z.hash k) (10 * SetTable.turns t.mask) (nth t.mask p0 c) := by rw [hst]; rfl
    rw [probeE]
    rcases spec with ⟨q, i, hq, hi, hh, hno, hpr⟩ | ⟨hno, hpr⟩
    · rw [hpr]
      dsimp only
      rw [wayL] at hi ⊢
      have hil : i < L.length := by
        have h1 := (List.getElem?_eq_some_iff.mp hi).1
        have h2 := R.tab.len
        rw [List.length_map] at h2
        rw [Array.length_toList] at h1
        omega
      obtain ⟨p, hp⟩ : ∃ p, L[i]? = some p := ⟨L[i], List.getElem?_eq_getElem hil⟩
      have hmem : p ∈ L := List.mem_of_getElem? hp
      have hsl : t.slot (way t.mask (Z.hash k) (c + q)) = .live i := slot_live R.tab.up hi
      have rest : wpAny (model P w) A (searchRest a (.ref x) (Z.hash k) add f es t (way t.mask (Z.hash k) (c + q)) i (nth t.mask (nth t.mask p0 c) (q + 1))) Q E s := by
        unfold searchRest
        rw [R.entry hp]
        dsimp only
        refine wpAny_bind (wpAny_holding (Z.eqB hu (R.tup p hmem) hx ?_))
        refine wpAny_bind (wpAny_setState_of ho hd R.fits ?_)
        dsimp only
        have tail : p.2 ≠ k ∨ add = false → wpAny (model P w) A (do
            let some same := t.sameMemory t.moves t.mask | unsupported "set.changed-during-lookup:is-the-new-block-at-the-old-address"
            let still ← match (if same then t.slot (way t.mask (Z.hash k) (c + q)) else .empty) with
              | .live i' => match es[i']? with
                | some (_, y') => do pure (if ← isSame y' (.ref p.1) then some i' else none)
                | none => pure none
              | _ => pure none
            match still with
            | none => rule "set.search.anew"; setSearchFrom a (.ref x) (Z.hash k) add f none
            | some i' => if decide (p.2 = k) then return .there (some i') else setSearchFrom a (.ref x) (Z.hash k) add f (some (nth t.mask (nth t.mask p0 c) (q + 1)))) Q E s := fun hor => by
          rw [sameMem]
          dsimp only
          simp only [if_true, hsl, R.entry hp]
          refine wpAny_bind (wpAny_isSame_ref_self (wpAny_bind (wpAny_pure ?_)))
          simp only [if_true]
          by_cases hk : p.2 = k
          · refine wp_if_pos (by simp [hk]) (wpAny_pure (yes (List.mem_map.mpr ⟨p, hmem, hk⟩) _ ?_))
            rcases hor with z | z
            · exact absurd hk z
            · rw [z]; rfl
          · refine wp_if_neg (by simp [hk]) ?_
            refine hunt R hx hu hN gap full yes no f (c + (q + 1)) _ (by show nth t.mask (nth t.mask p0 c) (q + 1) = _; rw [later, hp0]) (by omega) (by omega) fun i0 p1 h1 hk1 => ?_
            obtain ⟨d, d1, d2, d3⟩ := left i0 p1 h1 hk1
            have d4 := skip hno h1 hk1 d1 d3
            refine ⟨d, ?_, d2, d3⟩
            rcases Nat.lt_or_eq_of_le d4 with z | z
            · omega
            · exfalso
              rw [← z] at d3
              have s0 := slot_live R.tab.up d3
              rw [hsl] at s0
              injection s0 with s0
              rw [← s0, hp] at h1
              exact hk ((congrArg Prod.snd (Option.some.inj h1)).trans hk1)
        cases hadd : add with
        | true =>
          by_cases hk : p.2 = k
          · refine wp_if_pos (by simp [hk]) (wpAny_pure (yes (List.mem_map.mpr ⟨p, hmem, hk⟩) none (by rw [hadd]; rfl)))
          · refine wp_if_neg (by simp [hk]) ?_
            try refine wpAny_bind (wpAny_pure ?_)
            have z := tail (.inl hk)
            rw [hadd] at z
            exact z
        | false =>
          refine wp_if_neg (by simp) ?_
          try refine wpAny_bind (wpAny_pure ?_)
          have z := tail (.inr hadd)
          rw [hadd] at z
          exact z
      by_cases hl : t.led = true
      · refine wp_if_neg (by simp [hl]) ?_
        try refine wpAny_bind (wpAny_pure ?_)
        exact rest
      · refine wp_if_pos (by simp [hl]) (wpAny_bind (zseen Z hx (fun y hy => ?_) ?_))
        · obtain ⟨e, he, ee⟩ := List.mem_map.mp hy
          have he1 : e ∈ es.toList := by
            have : e ∈ es ∧ e.1 = Z.hash k := by simpa using he
            simpa using this.1
          rw [R.row] at he1
          obtain ⟨p2, hp2, e2⟩ := List.mem_map.mp he1
          exact ⟨p2.2, p2.1, by rw [← ee, ← e2], R.tup p2 hp2⟩
        · refine wp_if_neg (by decide) ?_
          try refine wpAny_bind (wpAny_pure ?_)
          exact rest
    · rw [hpr]
      dsimp only
      rw [wayL, eN]
      refine wpAny_pure (no fun hm => ?_)
      obtain ⟨p1, h1, hk1⟩ := List.mem_map.mp hm
      obtain ⟨i0, hi0⟩ := List.mem_iff_getElem?.mp h1
      obtain ⟨d, d1, d2, d3⟩ := left i0 p1 hi0 hk1
      have d4 := skip hno hi0 hk1 d1 d3
      omega
theorem search (R : SetZ Z s.heap a L es ep t) {x : Addr} {k : K} (hx : Z.is s.heap k x) (hu : Z.room A) {add : Bool} {Q : SetFound → Shared → Prop}
    (yes : k ∈ L.map (·.2) → ∀ r : Option Nat, r.isSome = !add → Q (.there r) s)
    (no : ∀ N, k ∉ L.map (·.2) → way t.mask (Z.hash k) N ∉ t.place.toList → (∀ n, n < N → way t.mask (Z.hash k) n ∈ t.place.toList) → Q (.free (way t.mask (Z.hash k) N) false) s) :
    wpAny (model P w) A (setSearch a (.ref x) (Z.hash k) add) Q E s := by
  have room := R.room
  have few := R.few
  have hz : zBound = 9000 := rfl
  obtain ⟨N, hN, gap, full⟩ := R.tab.gap (by rw [List.length_map]; omega) (Z.hash k)
  rw [List.length_map] at hN
  have ht : SetTable.turns t.mask = t.mask + 15 := rfl
  unfold setSearch
  refine hunt R hx hu (by omega) gap full yes (fun hm => no N hm gap full) 100000 0 none rfl (Nat.zero_le _) (by omega) fun i p hp hk => ?_
  have hi : (L.map fun p => Z.hash p.2)[i]? = some (Z.hash k) := by rw [List.getElem?_map, hp, ← hk]; rfl
  have hil : i < t.place.toList.length := by
    have h1 := (List.getElem?_eq_some_iff.mp hp).1
    have h2 := R.tab.len
    rw [List.length_map] at h2
    rw [Array.length_toList]
    omega
  obtain ⟨n, hn, e⟩ := R.tab.ahead gap hi (List.getElem?_eq_getElem hil)
  exact ⟨n, Nat.zero_le _, hn, by rw [e]; exact List.getElem?_eq_getElem hil⟩
end
end ZS
end
section
set_option maxHeartbeats 4000000
namespace ZS
open PySem PySem.Spec PyProof.Rows L2
theorem above_go {n : Nat} (hn : n < 2 ^ 16) : ∀ (f e : Nat), n < 2 ^ (e + f) → e ≤ 16 → ∃ e', e ≤ e' ∧ e' ≤ 16 ∧ SetTable.sizeAbove.go n f (2 ^ e) = 2 ^ e' ∧ n < 2 ^ e'
  | 0, e, h, he => ⟨e, Nat.le_refl _, he, rfl, h⟩
  | f + 1, e, h, he => by
    unfold SetTable.sizeAbove.go
    by_cases c : 2 ^ e ≤ n
    · have e16 : e ≠ 16 := fun z => by rw [z] at c; omega
      obtain ⟨e', a1, a2, a3, a4⟩ := above_go hn f (e + 1) (by rw [show e + 1 + f = e + (f + 1) by omega]; exact h) (by omega)
      refine ⟨e', by omega, a2, ?_, a4⟩
      rw [if_pos c, ← a3, Nat.pow_succ]
    · exact ⟨e, Nat.le_refl _, he, if_neg c, by omega⟩
theorem above_ok {n : Nat} (hn : n < 2 ^ 16) : ∃ M, SetTable.sizeAbove n - 1 = M ∧ Msk M ∧ n ≤ M ∧ SetTable.sizeAbove n ≤ 2 ^ 16 := by
  have h64 : n < 2 ^ (3 + 64) := Nat.lt_trans hn (by decide)
  obtain ⟨e, a1, a2, a3, a4⟩ := above_go hn 64 3 h64 (by decide)
  have es : SetTable.sizeAbove n = 2 ^ e := a3
  have b : 2 ^ e ≤ 2 ^ 16 := Nat.pow_le_pow_right (by decide) a2
  refine ⟨2 ^ e - 1, by rw [es], ⟨e, a1, a2, by omega⟩, by omega, by omega⟩
section
variable {P : Program} {w : World} {K : Type} [DecidableEq K] {Z : ZK P w K} {A : Around} {E : Value → Shared → Prop} {s : Shared} {a : Addr} {L : List (Addr × K)} {es : Array (Int × Value)} {ep : Nat} {t : SetTable}
theorem relay {o : Obj} (ho : s.heap.get? a = some o) (hex : o.ExactSet) (hd : o.data = .set es ep t) (row : es.toList = zrows Z L) (len : t.place.size = es.size) (nod : t.dummies = #[]) (room : es.size ≤ t.mask)
    (dif : (L.map (·.2)).Nodup) (tup : ∀ p ∈ L, Z.is s.heap p.2 p.1) (pln : t.plain = true) (led : w.params.followText "set-order" = true ∨ t.led = true) (few : L.length < zBound) {n : Nat} (hn : n = L.length) {Q : Unit → Shared → Prop}
    (hQ : ∀ h' L' es' ep' t', Heap.SameBut a s.heap h' → SetZ Z h' a L' es' ep' t' → L'.Perm L → Q () { s with heap := h' }) : wpAny (model P w) A (setRelay a (SetTable.grown n)) Q E s := by
  subst hn
  have hz : zBound = 9000 := rfl
  have hl : sizeLine = 16777216 := by decide
  have sz := zrows_len row
  have hg : SetTable.grown L.length = L.length * 4 := by unfold SetTable.grown; rw [if_neg (by omega)]
  rw [hg]
  obtain ⟨M, hM, mM, leM, big⟩ := above_ok (n := L.length * 4) (by omega)
  obtain ⟨t', order, e, hp, T, em, el, epl⟩ := anew t (hs := es.map (·.1)) hM mM (by rw [Array.size_map, sz]; omega)
  rw [Array.size_map, sz] at hp
  obtain ⟨L2, r1, r2, r3⟩ := zorder L es order row hp
  rw [← r3] at T
  have s2 : (order.filterMap (es[·]?)).size = L.length := by rw [zrows_len r1, r2.length_eq]
  rw [setRelay_eq]
  refine wpAny_bind (wpAny_setState_of ho hd (fits_of len nod room) ?_)
  dsimp only
  refine wp_if_neg (by omega) ?_
  try refine wpAny_bind (wpAny_pure ?_)
  rw [e]
  dsimp only
  refine wpAny_bind (wp_if_neg (by rw [s2, sz]; simp) ?_)
  try refine wpAny_bind (wpAny_pure ?_)
  refine wpAny_pure ?_
  dsimp only
  refine wpAny_storeSet_of ho hd ?_ (by rw [s2]; omega)
  have sb : Heap.SameBut a s.heap (s.heap.update a (Obj.putSet (order.filterMap (es[·]?)) t')) := Heap.SameBut.update ..
  refine hQ _ L2 _ (ep + 1) t' sb ⟨⟨_, store_at ho hd, ⟨hex.1, hex.2.1, hex.2.2⟩, rfl⟩, r1, T, (r2.map (·.2)).nodup_iff.mpr dif, fun p h => zsame (tup p (r2.mem_iff.mp h)) ho hd sb, by rw [epl]; exact pln, by rw [el]; exact led, ?_, by rw [r2.length_eq]; exact few⟩ r2
  rw [r2.length_eq, em]
  have := mM.bd
  omega
theorem adds (R : SetZ Z s.heap a L es ep t) {x : Addr} {k : K} (hx : Z.is s.heap k x) (hu : Z.room A) (few : L.length + 1 < zBound) {Q : Bool → Shared → Prop}
    (hQ : ∀ b h' L' es' ep' t', Heap.SameBut a s.heap h' → SetZ Z h' a L' es' ep' t' → (k ∈ L.map (·.2) → L' = L) → (k ∉ L.map (·.2) → L'.Perm ((x, k) :: L)) → Q b { s with heap := h' }) :
    wpAny (model P w) A (setAddHashed a (.ref x) (Z.hash k)) Q E s := by
  obtain ⟨o, ho, hex, hd⟩ := R.obj
  have hz : zBound = 9000 := rfl
  have hl : sizeLine = 16777216 := by decide
  have sz := R.size
  have room := R.room
  unfold setAddHashed
  refine wpAny_holding ?_
  rw [show (100000 : Nat) = 99999 + 1 from rfl, setAddHashedIn_succ]
  refine wpAny_bind (wpAny_setState_of ho hd R.fits ?_)
  dsimp only
  refine wp_if_neg (by simp [byScan, Value.scannable]) ?_
  try refine wpAny_bind (wpAny_pure ?_)
  refine wpAny_bind (search R hx hu (fun hm r hr => ?_) fun N hm gap full => ?_)
  · dsimp only
    exact wpAny_pure (hQ false s.heap L es ep t (Heap.SameBut.refl a s.heap) R (fun _ => rfl) fun z => absurd hm z)
  · dsimp only
    refine wpAny_bind (wpAny_setState_of ho hd R.fits ?_)
    dsimp only
    have B := R.tab.put gap full
    obtain ⟨b1, b2, b3, b4, b5, b6, b7⟩ := B
    have pl1 : (t.put (way t.mask (Z.hash k) N)).1.plain = true := by rw [b6]; exact R.pln
    generalize t.put (way t.mask (Z.hash k) N) = tp at b1 b3 b4 b5 b6 b7 pl1 ⊢
    obtain ⟨t1, p1⟩ := tp
    dsimp only at b1 b3 b4 b5 b6 b7 pl1 ⊢
    subst b1
    refine wp_if_pos pl1 (wpAny_bind (Z.byV hx ?_))
    simp only [if_true]
    rw [List.length_map] at b2 b7
    have ins := SetTable.toList_insertAt es (SetTable.below t.place (way t.mask (Z.hash k) N)) (Z.hash k, Value.ref x)
    rw [R.row, ← zrows_put] at ins
    generalize SetTable.below t.place (way t.mask (Z.hash k) N) = p at b2 b3 ins ⊢
    have pm := put_perm L p (x, k)
    have hh : (L.take p ++ (x, k) :: L.drop p).map (fun q => Z.hash q.2) = (L.map fun q => Z.hash q.2).take p ++ Z.hash k :: (L.map fun q => Z.hash q.2).drop p := by
      simp [List.map_take, List.map_drop]
    rw [← hh] at b3
    have dif1 : ((L.take p ++ (x, k) :: L.drop p).map (·.2)).Nodup := (pm.map (·.2)).nodup_iff.mpr (List.nodup_cons.mpr ⟨hm, R.dif⟩)
    have sz1 := zrows_len ins
    have ln1 := pm.length_eq
    rw [List.length_cons] at ln1
    generalize SetTable.insertAt es p (Z.hash k, Value.ref x) = es1 at ins sz1 ⊢
    generalize L.take p ++ (x, k) :: L.drop p = L1 at pm b3 dif1 ins sz1 ln1
    refine wpAny_bind (wpAny_storeSet_of ho hd ?_ (by omega))
    have sb : Heap.SameBut a s.heap (s.heap.update a (Obj.putSet es1 t1)) := Heap.SameBut.update ..
    have ho1 := store_at (es' := es1) (t' := t1) ho hd
    generalize s.heap.update a (Obj.putSet es1 t1) = h1 at sb ho1 ⊢
    have tup1 : ∀ q ∈ L1, Z.is h1 q.2 q.1 := fun q hq => by
      rcases List.mem_cons.mp (pm.mem_iff.mp hq) with e | hq
      · rw [e]; exact zsame hx ho hd sb
      · exact zsame (R.tup q hq) ho hd sb
    have led1 : w.params.followText "set-order" = true ∨ t1.led = true := by rw [b5]; exact R.led
    have tl := b3.len
    rw [List.length_map] at tl
    have hex1 : Obj.ExactSet { o with data := .set es1 (ep + 1) t1 } := ⟨hex.1, hex.2.1, hex.2.2⟩
    by_cases hf : t1.tooFull = true
    · have tail : wpAny (model P w) A (setRelay a (SetTable.grown (es.size + 1))) (fun _ s' => wpAny (model P w) A (pure true) Q E s') E { s with heap := h1 } := by
        have hb : 7 ≤ t1.mask := (b3.msk).bd.1
        refine relay (s := { s with heap := h1 }) ho1 hex1 rfl ins (by rw [tl, sz1]) b3.nod (by omega) dif1 tup1 pl1 led1 (by omega) (by omega) fun h2 L2 es2 ep2 t2 sb2 R2 pm2 => ?_
        exact wpAny_pure (hQ true h2 L2 es2 ep2 t2 (sb.trans sb2) R2 (fun z => absurd z hm) fun _ => pm2.trans pm)
      first
        | exact wpAny_bind (wp_if_pos (by simp [hf]) tail)
        | exact wp_if_pos (by simp [hf]) (wpAny_bind tail)
    · have tail : wpAny (model P w) A (pure true) Q E { s with heap := h1 } := by
        refine wpAny_pure (hQ true h1 L1 es1 (ep + 1) t1 sb ⟨⟨_, ho1, hex1, rfl⟩, ins, b3, dif1, tup1, pl1, led1, ?_, by omega⟩ (fun z => absurd z hm) fun _ => pm)
        unfold SetTable.tooFull at hf
        rw [decide_eq_true_eq, b7] at hf
        omega
      first
        | exact wp_if_neg (by simp [hf]) tail
        | exact wpAny_bind (wp_if_neg (by simp [hf]) (wpAny_pure tail))
theorem finds (R : SetZ Z s.heap a L es ep t) {x : Addr} {k : K} (hx : Z.is s.heap k x) (hu : Z.room A) {Q : Option Nat → Shared → Prop}
    (hQ : ∀ r : Option Nat, r.isSome = decide (k ∈ L.map (·.2)) → Q r s) : wpAny (model P w) A (setFind a (.ref x) (Z.hash k)) Q E s := by
  obtain ⟨o, ho, hex, hd⟩ := R.obj
  unfold setFind setFindIn
  refine wpAny_bind (wpAny_setState_of ho hd R.fits ?_)
  dsimp only
  refine wp_if_neg (by simp [byScan, Value.scannable]) ?_
  try refine wpAny_bind (wpAny_pure ?_)
  refine wpAny_bind (search R hx hu (fun hm r hr => ?_) fun N hm gap full => ?_)
  · exact wpAny_pure (hQ r (by rw [hr, decide_eq_true hm]; rfl))
  · exact wpAny_pure (hQ none (by rw [decide_eq_false hm]; rfl))
end
end ZS
end
section
set_option maxHeartbeats 4000000
namespace ZS
open PySem PySem.Spec PyProof.Rows L2
/-- the tuples' order -/
def lexI : List Int → List Int → Bool
  | _, [] => false
  | [], _ :: _ => true
  | x :: r, y :: t => if x = y then lexI r t else decide (x < y)
theorem lexI_cons (x y : Int) (r t : List Int) : lexI (x :: r) (y :: t) = if x = y then lexI r t else decide (x < y) := rfl
theorem lexI_irr : ∀ a, lexI a a = false
  | [] => rfl
  | x :: r => by rw [lexI_cons, if_pos rfl]; exact lexI_irr r
theorem lexI_asym : ∀ a b, lexI a b = true → lexI b a = false
  | [], [], h => by cases h
  | [], _ :: _, _ => rfl
  | _ :: _, [], h => by cases h
  | x :: r, y :: t, h => by
    rw [lexI_cons] at h ⊢
    by_cases e : x = y
    · rw [if_pos e] at h
      rw [if_pos e.symm]
      exact lexI_asym r t h
    · rw [if_neg e] at h
      rw [if_neg (Ne.symm e)]
      have := of_decide_eq_true h
      exact decide_eq_false (by omega)
theorem lexI_neg : ∀ a b c, lexI b a = false → lexI c b = false → lexI c a = false
  | [], _, c, _, _ => by cases c <;> rfl
  | _ :: _, [], _, h, _ => by cases h
  | _ :: _, _ :: _, [], _, h => by cases h
  | x :: r, y :: t, z :: u, h1, h2 => by
    rw [lexI_cons] at h1 h2 ⊢
    by_cases e1 : y = x
    · rw [if_pos e1] at h1
      by_cases e2 : z = y
      · rw [if_pos e2] at h2
        rw [if_pos (e2.trans e1)]
        exact lexI_neg r t u h1 h2
      · rw [if_neg e2] at h2
        have := of_decide_eq_false h2
        rw [if_neg (by omega)]
        exact decide_eq_false (by omega)
    · rw [if_neg e1] at h1
      have h1' := of_decide_eq_false h1
      by_cases e2 : z = y
      · rw [if_neg (by omega)]
        exact decide_eq_false (by omega)
      · rw [if_neg e2] at h2
        have h2' := of_decide_eq_false h2
        rw [if_neg (by omega)]
        exact decide_eq_false (by omega)
theorem lexI_tot : ∀ a b, lexI a b = false → lexI b a = false → a = b
  | [], [], _, _ => rfl
  | [], _ :: _, h, _ => by cases h
  | _ :: _, [], _, h => by cases h
  | x :: r, y :: t, h1, h2 => by
    rw [lexI_cons] at h1 h2
    by_cases e : x = y
    · rw [if_pos e] at h1
      rw [if_pos e.symm] at h2
      rw [e, lexI_tot r t h1 h2]
    · rw [if_neg e] at h1
      rw [if_neg (Ne.symm e)] at h2
      have a1 := of_decide_eq_false h1
      have a2 := of_decide_eq_false h2
      omega
theorem lexI_tr (a b c : List Int) (h1 : lexI a b = true) (h2 : lexI b c = true) : lexI a c = true := by
  cases h : lexI a c with
  | true => rfl
  | false =>
    have := lexI_neg b c a (lexI_asym _ _ h2) h
    rw [h1] at this
    cases this
theorem swo_lexI (k : Value → List Int) : SrtO.Swo fun v u => lexI (k v) (k u) :=
  ⟨fun x y h => lexI_asym _ _ h, fun x y z h1 h2 => lexI_neg _ _ _ h1 h2⟩
section
variable {prog : Program} {w : World} {A : Around} {s : Shared}
theorem kat_ints {fin : Bool} {Q : Bool → Shared → Prop} : ∀ (ps qs : List Value) (as bs : List Int) (i : Nat), IntsAre ps as → IntsAre qs bs → fin = decide (as.length < bs.length) → Q (lexI as bs) s → PySem.W.KatLex prog w A true fin Q (ps.zip qs) i s
  | _, _, [], [], i, .nil, .nil, hf, hq => by rw [hf]; exact hq
  | _, _, [], _ :: _, i, .nil, .cons _ _ _, hf, hq => by
    rw [hf]
    exact hq
  | _, _, _ :: _, [], i, .cons _ _ _, .nil, hf, hq => by
    rw [hf]
    exact hq
  | _, _, x :: r, y :: t, i, .cons _ tx hr, .cons _ ty ht, hf, hq => by
    refine PySem.W.kat_cons (SeqAt.EqAt.int_int x tx y ty prog w _ _ ?_)
    rw [lexI_cons] at hq
    refine PySem.W.kat_go (fun e => PySem.W.kat_yes ?_) (fun e => PySem.W.kat_no ?_)
    · have e' : x = y := by simpa using e
      rw [if_pos e'] at hq
      refine kat_ints _ _ r t (i + 1) hr ht ?_ hq
      rw [hf]
      simp
    · have e' : ¬ x = y := by simpa using e
      rw [if_neg e'] at hq
      exact PyProof.Rows.oneLt_any_int hq
/-- v is a tuple of the ints k, not the empty one -/
def TupN (h : Heap) (v : Value) (k : List Int) : Prop := TS.TupInts h v k ∧ k ≠ []
theorem tups_cmp {vs : List Value} {k : Value → List Int} (hp : ∀ v ∈ vs, TupN s.heap v (k v)) : SrtO.Cmp prog w A s (tuples' true) (fun p => p.1 ∈ vs) (SrtO.lt2 fun v u => lexI (k v) (k u)) := by
  intro p q hm hm'
  obtain ⟨⟨a, xs, e, ⟨o, ho, hc, n, hd⟩, i1⟩, _⟩ := hp _ hm
  obtain ⟨⟨b, ys, e', ⟨o', ho', hc', n', hd'⟩, i2⟩, _⟩ := hp _ hm'
  show wpAny (model prog w) A (keyLt' (tuples' true) p.1 q.1) (fun r s' => s' = s ∧ r = lexI (k p.1) (k q.1)) (fun _ _ => False) s
  generalize k p.1 = as at i1 ⊢
  generalize k q.1 = bs at i2 ⊢
  rw [e, e']
  refine PySem.W.kat_lt ho hd ho' hd' (kat_ints _ _ as bs 0 i1 i2 ?_ ⟨rfl, rfl⟩)
  rw [← i1.length, ← i2.length, Array.length_toList, Array.length_toList]
theorem heads {h : Heap} {k : Value → List Int} : ∀ vs : List Value, (∀ v ∈ vs, TupN h v (k v)) → ∃ fs, PySem.W.KatTups h vs fs ∧ fs.length = vs.length ∧ ∀ f, f ∈ fs → ∃ n t, f = Value.int n t
  | [], _ => ⟨[], PySem.W.KatTups.nil, rfl, fun f hf => by cases hf⟩
  | v :: vs, x => by
    obtain ⟨fs, h1, h2, h3⟩ := heads vs fun u hu => x u (List.mem_cons_of_mem _ hu)
    obtain ⟨⟨a, xs, e, ⟨o, ho, hc, n, hd⟩, i⟩, ne⟩ := x v List.mem_cons_self
    subst e
    generalize k (.ref a) = ks at i ne
    cases hx : xs.toList with
    | nil =>
      rw [hx] at i
      cases i
      exact absurd rfl ne
    | cons f r =>
      rw [hx] at i
      cases i with
      | cons m t i' =>
        refine ⟨.int m t :: fs, PySem.W.KatTups.cons ho hc hd ?_ h1, by simp [h2], fun g hg => ?_⟩
        · rw [← Array.getElem?_toList, hx]
          rfl
        · rcases List.mem_cons.mp hg with z | z
          · exact ⟨m, t, z⟩
          · exact h3 g z
theorem tups_sortable {a : Addr} {vs : List Value} {k : Value → List Int} (h0 : 0 < vs.length) (hp : ∀ v ∈ vs, TupN s.heap v (k v)) (ha : ∀ o, s.heap.get? a = some o → o.cls ≠ .type "tuple") : SrtO.SortableO prog w A s a vs fun v u => lexI (k v) (k u) := by
  intro h' keep
  have hp' : ∀ v ∈ vs, TupN h' v (k v) := fun v hm => ⟨(hp v hm).1.keeps fun b o e c => keep b o (fun z => by subst z; exact ha o e c) e, (hp v hm).2⟩
  obtain ⟨fs, h1, h2, h3⟩ := heads vs hp'
  refine ⟨tuples' true, fun Q E hq => PySem.W.kat_kind (T := .type "int") h1 (by omega) (fun f hm => ?_) (by rfl) ?_, tups_cmp hp'⟩
  · obtain ⟨x, t, rfl⟩ := h3 f hm
    exact PySem.W.Looks.now
  · rw [show (Value.type "int" != Value.type "tuple") = true by decide +kernel]
    exact hq
end
end ZS
end
section
set_option maxHeartbeats 4000000
namespace ZS
open PySem PySem.Spec PyProof.Rows L2
abbrev NK := NestedKey
abbrev tk (k : List Int) : NK := .tup (k.map .num)
abbrev ttk (kk : List (List Int)) : NK := .tup (kk.map tk)
/-- v is a tuple of the ints k -/
def TI (K : PySem.W.Frag) (H : Hp) (v : V) (k : List Int) : Prop := ∃ a, v = .ref a ∧ SqT K H a (k.map V.int)
/-- v is a tuple of tuples of ints -/
def TTI (K : PySem.W.Frag) (H : Hp) (v : V) (kk : List (List Int)) : Prop := ∃ a xs, v = .ref a ∧ SqT K H a xs ∧ Paired (TI K H) xs kk
/-- at b stands the key k -/
def ElK (K : PySem.W.Frag) (H : Hp) (b : Addr) (k : NK) : Prop := (∃ ns, k = tk ns ∧ TI K H (.ref b) ns) ∨ (∃ kk, k = ttk kk ∧ TTI K H (.ref b) kk)
/-- tuples and what is locked stay -/
structure Tup (H H' : Hp) : Prop where
  t : ∀ b xs, H b = some (.tup xs) → H' b = some (.tup xs)
  f : ∀ b o u, H b = some (.frz o u) → H' b = some (.frz o u)
theorem Tup.refl (H : Hp) : Tup H H := ⟨fun _ _ h => h, fun _ _ _ h => h⟩
theorem Tup.trans {H H1 H2 : Hp} (a : Tup H H1) (b : Tup H1 H2) : Tup H H2 := ⟨fun c xs h => b.t c xs (a.t c xs h), fun c o u h => b.f c o u (a.f c o u h)⟩
theorem Tup.new {H : Hp} {p : Addr} {o : HO} (h : H p = none) : Tup H (upd H p o) :=
  ⟨fun b xs e => by rw [upd_ne (ne_of_none e h)]; exact e, fun b x u e => by rw [upd_ne (ne_of_none e h)]; exact e⟩
theorem Tup.put {H : Hp} {p : Addr} {o : HO} (h : Mut (H p)) : Tup H (upd H p o) := by
  refine ⟨fun b xs e => ?_, fun b x u e => ?_⟩
  · rw [upd_ne fun z => by rw [z] at e; rw [e] at h; exact h]; exact e
  · rw [upd_ne fun z => by rw [z] at e; rw [e] at h; exact h]; exact e
theorem Tup.same {H H' : Hp} (h : Same H H') : Tup H H' := ⟨fun _ _ e => h _ _ e, fun _ _ _ e => h _ _ e⟩
section
variable {K : PySem.W.Frag} {H H' : Hp}
theorem Tup.sq (z : Tup H H') {a : Addr} {xs : List V} (h : SqT K H a xs) : SqT K H' a xs := by
  rcases h with (h | ⟨o, h⟩) | h
  · exact .inl (.inl (z.t _ _ h))
  · exact .inl (.inr ⟨o, z.f _ _ _ h⟩)
  · exact .inr h
theorem Tup.ti (z : Tup H H') {v : V} {k : List Int} (h : TI K H v k) : TI K H' v k := let ⟨a, e, s⟩ := h; ⟨a, e, z.sq s⟩
theorem Tup.tti (z : Tup H H') {v : V} {kk : List (List Int)} (h : TTI K H v kk) : TTI K H' v kk := let ⟨a, xs, e, s, p⟩ := h; ⟨a, xs, e, z.sq s, Paired.mapP p fun _ _ q => z.ti q⟩
theorem Tup.el (z : Tup H H') {b : Addr} {k : NK} (h : ElK K H b k) : ElK K H' b k := by
  rcases h with ⟨ns, e, q⟩ | ⟨kk, e, q⟩
  · exact .inl ⟨ns, e, z.ti q⟩
  · exact .inr ⟨kk, e, z.tti q⟩
end
section
variable {P : Program} {w : World}
theorem all_ints {h : Heap} : ∀ {us : List Value} {k : List Int}, Vals (k.map V.int) us → NestedAll h (k.map .num) us
  | _, [], .nil => .nil
  | _, n :: k, .cons r t => by
    obtain ⟨tk, rfl⟩ := r
    exact .cons (.int n tk) (all_ints t)
theorem depth_ints : ∀ k : List Int, NestedKey.depthAll (k.map .num) = 0
  | [] => rfl
  | n :: k => by
    show max (NestedKey.depth (.num n)) (NestedKey.depthAll (k.map .num)) = 0
    rw [depth_ints k]
    rfl
theorem nums_ints : ∀ k : List Int, numsAll (k.map .num) = true
  | [] => rfl
  | n :: k => by
    show (nums (.num n) && numsAll (k.map .num)) = true
    rw [nums_ints k]
    rfl
theorem depth_tk (k : List Int) : (tk k).depth = 1 := by
  show NestedKey.depthAll (k.map .num) + 1 = 1
  rw [depth_ints]
theorem depth_tks : ∀ kk : List (List Int), NestedKey.depthAll (kk.map tk) ≤ 1
  | [] => Nat.zero_le _
  | k :: kk => by
    show max (tk k).depth (NestedKey.depthAll (kk.map tk)) ≤ 1
    have := depth_tks kk
    rw [depth_tk]
    omega
theorem nums_tks : ∀ kk : List (List Int), numsAll (kk.map tk) = true
  | [] => rfl
  | k :: kk => by
    show (nums (tk k) && numsAll (kk.map tk)) = true
    rw [nums_tks kk]
    show (numsAll (k.map .num) && true) = true
    rw [nums_ints]
    rfl
end
section
variable {X : Cx} {pins : List (Addr × Obj)} {σ : L2.St} {H : Hp} {s : Shared}
theorem ti_at (I : Inv X pins σ H s) {v : V} {u : Value} {k : List Int} (h : TI X.K H v k) (r : RelV v u) : NestedIs s.heap (tk k) u := by
  obtain ⟨a, rfl, hT⟩ := h
  obtain rfl : u = Value.ref a := r
  obtain ⟨its, rv, ⟨o, ho, hc, n, hd⟩, _⟩ := I.tuple hT
  exact .tup ho hc hd (by simpa using all_ints rv)
theorem tis_at (I : Inv X pins σ H s) : ∀ {vs : List V} {us : List Value} {kk : List (List Int)}, Paired (TI X.K H) vs kk → Vals vs us → NestedAll s.heap (kk.map tk) us
  | _, _, _, .nil, .nil => .nil
  | _, _, _, .cons a b, .cons r t => .cons (ti_at I a r) (tis_at I b t)
theorem el_at (I : Inv X pins σ H s) {b : Addr} {k : NK} (h : ElK X.K H b k) : (zk X.prog X.w).is s.heap k b := by
  rcases h with ⟨ns, rfl, h⟩ | ⟨kk, rfl, a, xs, e, hT, hp⟩
  · refine ⟨ti_at I h rfl, by rw [depth_tk]; decide, ?_⟩
    show numsAll (ns.map .num) = true
    exact nums_ints ns
  · cases e
    obtain ⟨its, rv, ⟨o, ho, hc, n, hd⟩, _⟩ := I.tuple hT
    refine ⟨.tup ho hc hd (by simpa using tis_at I hp rv), ?_, nums_tks kk⟩
    have := depth_tks kk
    show NestedKey.depthAll (kk.map tk) + 1 ≤ 8
    omega
end
/-! ### as a tracked thing -/
structure SetZ0 (P : Program) (w : World) (h : Heap) (a : Addr) (L : List (Addr × NK)) : Prop where
  ex : ∃ (es : Array (Int × Value)) (ep : Nat) (t : SetTable), (∃ o, h.get? a = some o ∧ o.ExactSet ∧ o.data = .set es ep t) ∧ es.toList = zrows (zk P w) L ∧ Tab t (L.map fun p => (zk P w).hash p.2) ∧ (L.map (·.2)).Nodup ∧ t.plain = true ∧
    (w.params.followText "set-order" = true ∨ t.led = true) ∧ L.length * 5 < t.mask * 3 ∧ L.length < zBound
def ZSet (P : Program) (w : World) (a : Addr) (L : List (Addr × NK)) : HO := .ext fun h => SetZ0 P w h a L
section
variable {P : Program} {w : World} {h h' : Heap} {a : Addr} {L : List (Addr × NK)} {es : Array (Int × Value)} {ep : Nat} {t : SetTable}
theorem SetZ.low (R : SetZ (zk P w) h a L es ep t) : SetZ0 P w h a L := ⟨es, ep, t, R.obj, R.row, R.tab, R.dif, R.pln, R.led, R.room, R.few⟩
theorem SetZ0.full (R : SetZ0 P w h a L) (ht : ∀ p ∈ L, (zk P w).is h p.2 p.1) : ∃ es ep t, SetZ (zk P w) h a L es ep t := by
  obtain ⟨es, ep, t, h1, h2, h3, h4, h5, h6, h7, h8⟩ := R.ex
  exact ⟨es, ep, t, h1, h2, h3, h4, ht, h5, h6, h7, h8⟩
theorem SetZ0.laid (R : SetZ0 P w h a L) (H : Hp) : ObjOk P w H h a (ZSet P w a L) := by
  have ⟨es, ep, t, ⟨o, ho, _⟩, _⟩ := R.ex
  refine ⟨R, ⟨o, ho⟩, fun h1 h2 p k => ?_⟩
  have ⟨es', ep', t', ⟨o', ho', r'⟩, q'⟩ := SetZ0.ex p
  exact ⟨es', ep', t', ⟨o', k o' ho', r'⟩, q'⟩
theorem SetZ0.nil (w : World) (ho : h.get? a = some { cls := .type "set", dict := none, data := .set #[] 0 (.fresh 0 0 (!w.params.followText "set-order")) }) : SetZ0 P w h a [] := by
  refine ⟨#[], 0, _, ⟨_, ho, ⟨rfl, rfl, rfl⟩, rfl⟩, rfl, ⟨List.Pairwise.nil, rfl, rfl, ⟨3, by decide, by decide, rfl⟩, fun z hz => (by cases hz), fun i h j hi => (by simp at hi)⟩, List.nodup_nil, rfl, ?_, (by show 0 * 5 < 7 * 3; decide), (by show 0 < 9000; decide)⟩
  show _ ∨ (!w.params.followText "set-order") = true
  cases w.params.followText "set-order"
  · exact .inr rfl
  · exact .inl rfl
end
section
variable {X : Cx} {pins : List (Addr × Obj)} {σ : L2.St} {H : Hp} {s : Shared} {a b : Addr} {k : NK} {L : List (Addr × NK)}
theorem zset_at (I : Inv X pins σ H s) (ha : H a = some (ZSet X.prog X.w a L)) (he : ∀ p ∈ L, ElK X.K H p.1 p.2) : ∃ es ep t, SetZ (zk X.prog X.w) s.heap a L es ep t :=
  SetZ0.full (I.hok a _ ha).1 fun p hp => el_at I (he p hp)
/-- setAdd itself -/
theorem zset_add {A : Around} {E : Value → Shared → Prop} (I : Inv X pins σ H s) (hr : A.units + 8 < cLine) (ha : H a = some (ZSet X.prog X.w a L)) (he : ∀ p ∈ L, ElK X.K H p.1 p.2) (hk : ElK X.K H b k) (few : L.length + 1 < zBound) {Q : Bool → Shared → Prop}
    (hQ : ∀ r L' s', (k ∈ L.map (·.2) → L' = L) → (k ∉ L.map (·.2) → L'.Perm ((b, k) :: L)) → Inv X pins σ (upd H a (ZSet X.prog X.w a L')) s' → Q r s') :
    wpAny (model X.prog X.w) A (setAdd a (.ref b)) Q E s := by
  obtain ⟨es, ep, t, R⟩ := zset_at I ha he
  unfold setAdd
  refine wpAny_holding (wpAny_bind ((zk X.prog X.w).ask hr (el_at I hk) ?_))
  have R' : SetZ (zk X.prog X.w) ({ s with toks := s.toks + (zk X.prog X.w).toks k } : Shared).heap a L es ep t := R
  refine adds R' (el_at I hk) hr few fun r h' L' es' ep' t' sb R2 c1 c2 => ?_
  obtain ⟨o, ho, _⟩ := R2.obj
  exact hQ r L' _ c1 c2 (I.write (e := a) (by rw [ha]; trivial) (.inl rfl) (fun c u hc hu => (sb.2 c hc).trans hu) ⟨o, ho⟩ (R2.low.laid _))
/-- x.add(k) of such a set -/
def rZAdd (K : PySem.W.Frag) (P : Program) (w : World) : V → List V → Hp → VK → Prop := fun x xs H Q => ∃ (a b : Addr) (k : NK) (L : List (Addr × NK)), x = .ref a ∧ xs = [.ref b] ∧ H a = some (ZSet P w a L) ∧ (∀ p ∈ L, ElK K H p.1 p.2) ∧ ElK K H b k ∧ L.length + 1 < zBound ∧
  ∀ L', (k ∈ L.map (·.2) → L' = L) → (k ∉ L.map (·.2) → L'.Perm ((b, k) :: L)) → Q .non (upd H a (ZSet P w a L'))
theorem mt_zadd (hu : X.A.units + 64 < cLine) : MtR X "set.add" (rZAdd X.K X.prog X.w) := by
  intro pins s σ H x xs v us Q I rx rxs h
  obtain ⟨a, b, k, L, rfl, rfl, ha, he, hk, few, q⟩ := h
  obtain rfl : v = Value.ref a := rx
  rw [Vals.ref1 rxs]
  obtain ⟨o, ho, hex, _⟩ : ∃ o, s.heap.get? a = some o ∧ o.ExactSet ∧ True := by
    obtain ⟨es, ep, t, ⟨o, ho, hex, _⟩, _⟩ := SetZ0.ex (I.hok a _ ha).1
    exact ⟨o, ho, hex, trivial⟩
  refine wpAny_call_entry F.slot_set_add ⟨o, ho, hex.1⟩ F.entry_set_add ?_ (F.args_set_add_2 _ _)
  unfold Builtin.«set.add» Builtin.Frozenset.oneOther
  simp only [List.isEmpty_nil, bind_assoc]
  unfold Builtin.Frozenset.addrOf
  refine wpAny_bind (wpAny_pure ?_)
  try dsimp only
  refine wpAny_bind (wpAny_pure ?_)
  try dsimp only
  refine wpAny_bind (zset_add I (by show X.A.units + 1 + 8 < cLine; omega) ha he hk few fun r L' s' c1 c2 I' => ?_)
  show wpAny _ _ (ret Value.none) _ _ _
  exact wpAny_pure ⟨_, rfl, .non, _, I', rfl, q L' c1 c2⟩
def tUAdd (K : PySem.W.Frag) (P : Program) (w : World) (to : TE) (t : TA) : TE := fun σ H Q => to σ H fun x H1 => ((∃ a L, x = .ref a ∧ H1 a = some (ZSet P w a L)) ∧ t σ H1 fun xs H2 => rZAdd K P w x xs H2 Q) ∨ ((∃ a S n, x = .ref a ∧ H1 a = some (SetO w a S n)) ∧ t σ H1 fun xs H2 => rSAdd w x xs H2 Q)
variable {o e : Expr} {es : List Expr} {to : TE} {t : TA} {apos cpos : Pos}
/-- o.add(e), o a set of ints or of such keys -/
theorem pe_uadd (hu : X.A.units + 64 < cLine) (ho : PE X o to) (ha : PA X (e :: es) t)
    (hbase : attributeBase o "add" X.env (eval o X.env) = eval o X.env := by rfl)
    (hfew : ((backTo cpos (starEach (e :: es) X.env)).all (fun x => !x.1) && (backToKw cpos (keywordEach [] X.env)).all (fun x => x.1.isSome) && decide ((e :: es).length + ([] : List Keyword).length + (if ([] : List Keyword).isEmpty then 0 else 1) < 30)) = true := by rfl)
    (hline : (apos.endLine == cpos.line) = true := by rfl) (hs : starEach (e :: es) X.env = (false, eval e X.env) :: starEach es X.env := by rfl) (hplain : (backTo cpos (starEach es X.env)).any (·.1) = false := by rfl) :
    PE X (.Call (.Attribute o "add" apos) (e :: es) [] cpos) (tUAdd X.K X.prog X.w to t) := by
  refine ⟨fun pins s σ H Q I h => wpAny_Call_method_late hbase hfew hline rfl (thn (ho.run pins s σ H _ I h) fun v s1 ⟨x, H1, I1, r1, q1⟩ => ?_)⟩
  obtain ⟨a, r, ex, ⟨ob, hob, hex⟩, hm, q⟩ : ∃ (a : Addr) (r : V → List V → Hp → VK → Prop), x = .ref a ∧ (∃ ob, s1.heap.get? a = some ob ∧ ob.ExactSet) ∧ MtR X "set.add" r ∧ t σ H1 fun xs H2 => r x xs H2 Q := by
    rcases q1 with ⟨⟨a, L, ex, hka⟩, q1⟩ | ⟨⟨a, S, n, ex, hka⟩, q1⟩
    · obtain ⟨es, ep, t, ⟨ob, hob, hex, _⟩, _⟩ := SetZ0.ex (I1.hok a _ hka).1
      exact ⟨a, _, ex, ⟨ob, hob, hex⟩, mt_zadd hu, q1⟩
    · obtain ⟨ob, _, _, _, hob, hex, _⟩ := setO_get I1 hka
      exact ⟨a, _, ex, ⟨ob, hob, hex⟩, mt_sadd, q1⟩
  subst ex
  obtain rfl : v = Value.ref a := r1
  refine ⟨"set", "set.add", F.plainAttrs_set, F.slot_set_add, F.type_set_add, ⟨ob, hob, hex.1⟩, fun b e => (by injection e with e; subst e; exact ⟨ob, hob, hex.2.1⟩), ?_⟩
  have hA := ha.run cpos pins s1 σ H1 _ I1 q
  rw [hs] at hA ⊢
  exact Calls.callWith_builtin (by show (false || (backTo cpos (starEach es X.env)).any (·.1)) = false; rw [hplain]; rfl) (Calls.evalArgs_plain (thn hA fun us s2 ⟨vs, H2, I2, r2, q2⟩ => hm pins s2 σ H2 (.ref a) vs (.ref a) us Q I2 rfl r2 q2))
/-- k in x, k not in x -/
def rZIn (K : PySem.W.Frag) (P : Program) (w : World) (neg : Bool) : V → V → Hp → VK → Prop := fun x y H Q => ∃ (a b : Addr) (k : NK) (L : List (Addr × NK)), x = .ref b ∧ y = .ref a ∧ H a = some (ZSet P w a L) ∧ (∀ p ∈ L, ElK K H p.1 p.2) ∧ ElK K H b k ∧
  Q (.bl (if neg then !decide (k ∈ L.map (·.2)) else decide (k ∈ L.map (·.2)))) H
theorem zset_has {A : Around} {E : Value → Shared → Prop} (hu : A.units + 64 < cLine) (I : Inv X pins σ H s) (ha : H a = some (ZSet X.prog X.w a L)) (he : ∀ p ∈ L, ElK X.K H p.1 p.2) (hk : ElK X.K H b k) {Q : Bool → Shared → Prop}
    (hQ : ∀ s', Inv X pins σ H s' → Q (decide (k ∈ L.map (·.2))) s') : wpAny (model X.prog X.w) A (contains (.ref a) (.ref b)) Q E s := by
  obtain ⟨es, ep, t, R⟩ := zset_at I ha he
  obtain ⟨o, ho, hex, _⟩ := R.obj
  have hT : s.TypeIs (.ref a) "set" := ⟨o, ho, hex.1⟩
  unfold contains
  try with_reducible refine wpAny_holding ?_
  refine wpAny_bind (wpAny_specialOf hT F.slot_set_contains.lookup ?_)
  show wpAny _ _ (if (some (Value.builtin "set.__contains__") == some Value.none) = true then _ else _) _ E s
  rw [if_neg (by rw [beq_builtin_none]; exact Bool.false_ne_true)]
  refine wpAny_bind (wpAny_callSpecialUnlessNone?_slot (name := Str.ofString "__contains__") hT F.slot_set_contains (wpAny_call_entry F.slot_set_contains hT entry_set_contains ?_ (F.args_set_contains_2 _ _)))
  unfold Builtin.«frozenset.__contains__» Builtin.Frozenset.oneOther
  simp only [List.isEmpty_nil, bind_assoc]
  unfold Builtin.Frozenset.addrOf Builtin.Frozenset.withSetAsKey setContains
  refine wpAny_bind (wpAny_pure ?_)
  try dsimp only
  refine wpAny_bind (wpAny_pure ?_)
  try dsimp only
  refine wpAny_bind (wpAny_tryCatch ?_)
  refine wpAny_holding (wpAny_bind ((zk X.prog X.w).ask (by show A.units + 1 + 8 < cLine; omega) (el_at I hk) ?_))
  have R' : SetZ (zk X.prog X.w) ({ s with toks := s.toks + (zk X.prog X.w).toks k } : Shared).heap a L es ep t := R
  refine wpAny_bind (finds R' (el_at I hk) (by show A.units + 1 + 8 < cLine; omega) fun r hr => wpAny_pure ?_)
  show wpAny _ _ (ret _) _ _ _
  rw [hr]
  exact wpAny_pure ⟨_, rfl, wpAny_truthy_bool (hQ _ (I.tok _))⟩
theorem or_znotin (hu : X.A.units + 64 < cLine) : OpR X (compareOp .NotIn) (rZIn X.K X.prog X.w true) := by
  intro pins s σ H x y v u Q I rx ry h
  obtain ⟨a, b, k, L, rfl, rfl, ha, he, hk, q⟩ := h
  obtain rfl : v = Value.ref b := rx
  obtain rfl : u = Value.ref a := ry
  show wpAny _ _ (do return Value.bool (!(← contains (.ref a) (.ref b)))) _ _ s
  exact wpAny_bind (zset_has hu I ha he hk fun s' I' => wpAny_pure ⟨.bl _, H, I', rfl, q⟩)
theorem OpR.either {f : Value → Value → Sem Value} {r r' : R2} (h : OpR X f r) (h' : OpR X f r') : OpR X f (fun x y H Q => r x y H Q ∨ r' x y H Q) := by
  intro pins s σ H x y v u Q I rx ry z
  rcases z with z | z
  · exact h pins s σ H x y v u Q I rx ry z
  · exact h' pins s σ H x y v u Q I rx ry z
theorem CallR.either {f : Value} {r r' : List V → Hp → VK → Prop} (h : CallR X f r) (h' : CallR X f r') : CallR X f (fun xs H Q => r xs H Q ∨ r' xs H Q) := by
  intro pins s σ H xs us Q I r z
  rcases z with z | z
  · exact h pins s σ H xs us Q I r z
  · exact h' pins s σ H xs us Q I r z
end
end ZS
end
section
set_option maxHeartbeats 4000000
namespace ZS
open PySem PySem.Spec PyProof.Rows L2
abbrev setO0 (w : World) : Obj := { cls := .type "set", dict := none, data := .set #[] 0 (.fresh 0 0 (!w.params.followText "set-order")) }
section
variable {P : Program} {w : World} {A : Around} {E : Value → Shared → Prop} {s : Shared}
/-- {e} -/
theorem display1 {road : DisplayRoad} {b : Bool} {t : Sem Value} {Q : Value → Shared → Prop} (h1 : (road == .constants) = false) (h2 : (road == .unsure) = false)
    (h : wpAny (model P w) A t (fun v s' => wpAny (model P w) A (setAdd s.heap.objs.size v) (fun _ s'' => Q (.ref s.heap.objs.size) s'') E s') E { s with heap := s.heap.push (setO0 w) }) :
    wpAny (model P w) A (setDisplay road b [(false, t)]) Q E s := by
  unfold setDisplay
  try dsimp only
  rw [if_neg (by rw [h1]; exact Bool.false_ne_true)]
  refine wpAny_bind (PpSet.newSet_ok ?_)
  dsimp only
  have e1 : (if ([(false, t)] : List (Bool × Sem Value)).length > 30 then 0 else (([(false, t)] : List (Bool × Sem Value)).findIdx? (·.1)).getD ([(false, t)] : List (Bool × Sem Value)).length) = 1 := rfl
  rw [e1]
  show wpAny _ _ (holding [Value.ref s.heap.objs.size] _ >>= _) _ _ _
  refine wpAny_bind (wpAny_holding ?_)
  show wpAny _ _ (evalAll [t] >>= _) _ _ _
  refine wpAny_bind ?_
  show wpAny _ _ (t >>= fun v => holding [v] (evalAll []) >>= fun r => pure (v :: r)) _ _ _
  refine wpAny_bind (wpAny_mono h (fun v s' h' => ?_) fun _ _ x => x)
  refine wpAny_bind (wpAny_holding (wpAny_pure (wpAny_pure ?_)))
  refine wpAny_bind (wpAny_holding ?_)
  simp only [List.forIn_cons, List.forIn_nil, bind_assoc, pure_bind, h2, Bool.false_eq_true, if_false, List.drop_one, List.tail_cons]
  refine wpAny_bind (wpAny_mono h' (fun _ s2 q => ?_) fun _ _ x => x)
  exact wpAny_pure (wpAny_pure (wpAny_pure q))
theorem int_add {a : Addr} {S : Int → Bool} {n : Nat} {k : Int} {tk : Tok} {Q : Bool → Shared → Prop} (R : SetR w s.heap a S n) (room : n + 1 < scanBound)
    (hQ : ∀ r h' t', Heap.SameBut a s.heap h' → SetR w h' a (fun j => S j || decide (j = k)) (if S k = true then n else n + 1) → Q r { s with heap := h', toks := t' }) : wpAny (model P w) A (setAdd a (.int k tk)) Q E s := by
  unfold setAdd
  refine wpAny_holding (wpAny_bind ((intKind P w).pyHash (k := k) (intKind_is _ _ _ _) ?_))
  exact setR_add_hashed (s := { s with toks := s.toks + 1 }) R room fun h' sb R' => hQ _ h' _ sb R'
end
section
variable {X : Cx} {pins : List (Addr × Obj)} {σ : L2.St} {H : Hp} {s : Shared}
/-- what was only pinned is tracked from now on -/
theorem track {D : Addr} {ob : Obj} {o : HO} (I : Inv X (pins ++ [(D, ob)]) σ H s) (hf : FpOk X pins H D) (ok : ∀ H', ObjOk X.prog X.w H' s.heap D o) : Inv X pins σ (upd H D o) s := by
  obtain ⟨f0, f1, f2, f3, f4, f5⟩ := hf
  have I0 : Inv X pins σ H s := I.unpinned
  have nD : ∀ b u, H b = some u → b ≠ D := fun b u e z => by rw [z, f0] at e; cases e
  have J := I0.step (h' := s.heap) (g' := s.gens) (d' := s.drawn) (t' := s.toks) (ch := [D]) (H' := upd H D o) (fun b hb => by rw [List.mem_singleton.mp hb]; exact ⟨f3, f1, f4, f5⟩)
    (fun b u _ _ _ e _ => e) (fun b u _ _ _ e _ => ⟨u.slots, e⟩) (fun b u hb _ n => by rw [upd_ne (fun z => hb (by rw [z]; exact List.mem_singleton.mpr rfl))]; exact n) (fun b u _ e => ⟨u, e⟩)
    (fun b xs e => by rw [upd_ne (nD b _ e)]; exact e) (fun b u z e => by rw [upd_ne (nD b _ e)]; exact e) (fun b ps e => ⟨#[], by rw [upd_ne (nD b _ e), e]; simp⟩) (fun m hm => hm) (fun b u e => ?_) I0.bare
  · exact J
  · by_cases hb : b = D
    · rw [hb, upd_same] at e
      cases e
      rw [hb]
      exact ok _
    · rw [upd_ne hb] at e
      exact (I0.hok b u e).stay (fun c v _ q => q) (fun c q => by rw [upd_ne (nD c _ q)]; exact q) fun c xs q => by rw [upd_ne (nD c _ q)]; exact q
/-- {e}, e an int or a key -/
def tSet1 (K : PySem.W.Frag) (P : Program) (w : World) (te : TE) : TE := fun σ H Q => te σ H fun v H1 => (∃ b k, v = .ref b ∧ ElK K H1 b k ∧ ∀ p, H1 p = none → Q (.ref p) (upd H1 p (ZSet P w p [(b, k)]))) ∨
  (∃ i, v = .int i ∧ ∀ p, H1 p = none → Q (.ref p) (upd H1 p (SetO w p (fun j => decide (j = i)) 1)))
theorem pe_set1 {e : Expr} {te : TE} {pos : Pos} (hu : X.A.units + 64 < cLine) (hcd : PySem.W.kdsCode X.K X.env.code = true) (he : PE X e te) (hp : PySem.W.kdsPlain e = true := by rfl) : PE X (.Set [e] 0 pos) (tSet1 X.K X.prog X.w te) := by
  refine ⟨fun pins s σ H Q I h => ?_⟩
  rw [arm_eval_Set]
  refine wpAny_bind (wpAny_standAt (wpAny_bind (PySem.W.kds_main I.kIn hcd fun b => ?_)))
  rw [PySem.W.kds_star [e] (by simp [hp])]
  refine display1 (by rfl) (by rfl) ?_
  have hob : (s.heap.push (setO0 X.w)).get? s.heap.objs.size = some (setO0 X.w) := Heap.get?_push_size _ rfl
  have I1 : Inv X pins σ H { s with heap := s.heap.push (setO0 X.w) } := I.kept (t' := s.toks) fun b u e => Heap.get?_push_of_some _ e
  have f1 := I.fpOk (b := s.heap.objs.size) (Nat.le_refl _) (I.hok.fresh (Nat.le_refl _))
  have I2 : Inv X (pins ++ [(s.heap.objs.size, setO0 X.w)]) σ H { s with heap := s.heap.push (setO0 X.w) } := I1.pins_of fun p hp => by
    rcases List.mem_append.mp hp with z | z
    · exact I1.pin p (List.mem_append_right _ z)
    · rw [List.mem_singleton.mp z]
      exact ⟨hob, f1.1, f1.2.1, f1.2.2.1, fun v q => by cases q⟩
  show wpAny _ _ (eval e X.env >>= fun v => standAt pos >>= fun _ => pure v) _ _ _
  refine wpAny_bind (thn (he.run _ _ _ _ _ I2 h) fun v s1 ⟨x, H1, I3, r3, q3⟩ => wpAny_bind (wpAny_standAt (wpAny_pure ?_)))
  obtain ⟨p1, p2, p3, p4, _⟩ := I3.pin (s.heap.objs.size, setO0 X.w) (List.mem_append_right _ (List.mem_append_right _ (List.mem_singleton.mpr rfl)))
  have f3 : FpOk X pins H1 s.heap.objs.size := ⟨p2, f1.2⟩
  rcases q3 with ⟨b, k, ex, hk, q⟩ | ⟨i, ex, q⟩
  · subst ex
    obtain rfl : v = Value.ref b := r3
    have J := track (o := ZSet X.prog X.w s.heap.objs.size []) I3 f3 fun H' => (SetZ0.nil X.w p1).laid H'
    have hk' : ElK X.K (upd H1 s.heap.objs.size (ZSet X.prog X.w s.heap.objs.size [])) b k := (Tup.new p2).el hk
    refine zset_add J (by omega) upd_same (fun p hp => by cases hp) hk' (by decide) fun r L' s' c1 c2 I' => ?_
    have eL : L' = [(b, k)] := List.perm_singleton.mp (c2 (by simp))
    rw [eL, upd_upd] at I'
    exact ⟨.ref _, _, I', rfl, q _ p2⟩
  · subst ex
    obtain ⟨tk, rfl⟩ := (show ∃ t, v = Value.int i t from r3)
    have J := track (o := SetO X.w s.heap.objs.size (fun _ => false) 0) I3 f3 fun H' => setO_new (setR_new_at (ns := []) p1 |>.congr fun k => by simp)
    refine int_add (setO_get J upd_same) (by decide) fun r h' t' sb R' => ?_
    obtain ⟨ob, _, _, _, hob', _⟩ := id R'
    have J' := J.write (x := s.heap.objs.size) (e := s.heap.objs.size) (h' := h') (t' := t') (o := SetO X.w s.heap.objs.size (fun j => decide (j = i)) 1) (by rw [upd_same]; trivial) (.inl rfl) (fun b u hb hu => (sb.2 b hb).trans hu) ⟨_, hob'⟩ (setO_new (R'.congr fun k => by simp))
    rw [upd_upd] at J'
    exact ⟨.ref _, _, J', rfl, q _ p2⟩
/-- len of such a set -/
def rZLen (K : PySem.W.Frag) (P : Program) (w : World) : List V → Hp → VK → Prop := fun vs H Q => ∃ (a : Addr) (L : List (Addr × NK)), vs = [.ref a] ∧ H a = some (ZSet P w a L) ∧ Q (.int L.length) H
theorem cr_zlen : CallR X (.builtin "len") (rZLen X.K X.prog X.w) := by
  intro pins s σ H vs us Q I r h
  obtain ⟨a, L, rfl, ha, q⟩ := h
  rw [Vals.ref1 r]
  obtain ⟨es, ep, t, ⟨o, ho, hex, hd⟩, row, tab, _, _, _, room, few⟩ := SetZ0.ex (I.hok a _ ha).1
  have sz := zrows_len row
  have tl := tab.len
  rw [List.length_map] at tl
  have hz : zBound = 9000 := rfl
  refine call_len_set ho hex hd (fits_of (by rw [tl, sz]) tab.nod (by omega)) (by omega) ⟨.int L.length, H, I.tok _, ⟨_, by rw [sz]⟩, q⟩
/-- sorted of a set of tuples of ints, none of them empty -/
def rZSort (K : PySem.W.Frag) (P : Program) (w : World) : List V → Hp → VK → Prop := fun vs H Q => ∃ (a : Addr) (L : List (Addr × List Int)), vs = [.ref a] ∧ H a = some (ZSet P w a (L.map fun p => (p.1, tk p.2))) ∧ (∀ p ∈ L, TI K H (.ref p.1) p.2 ∧ p.2 ≠ []) ∧ L.length < scanBound + 1000 ∧
  ∀ (L' : List (Addr × List Int)) (p : Addr), L'.Perm L → L'.Pairwise (fun q r => lexI q.2 r.2 = true) → H p = none → Q (.ref p) (upd H p (.lst (L'.map fun q => V.ref q.1)))
theorem tk_inj {a b : List Int} (h : tk a = tk b) : a = b := by
  have e : a.map NestedKey.num = b.map NestedKey.num := by injection h
  exact List.map_inj_right (fun x y e => by injection e) |>.mp e
theorem cr_zsort (hc : X.calm = true) : CallR X (.builtin "sorted") (rZSort X.K X.prog X.w) := by
  intro pins s σ H vs us Q I r h
  obtain ⟨a, L, rfl, ha, hk, few, q⟩ := h
  rw [Vals.ref1 r]
  obtain ⟨es, ep, t, R⟩ := zset_at I ha fun p hp => by
    obtain ⟨p0, h0, rfl⟩ := List.mem_map.mp hp
    exact .inl ⟨p0.2, rfl, (hk p0 h0).1⟩
  obtain ⟨o, ho, hex, hd⟩ := R.obj
  have sz := R.size
  rw [List.length_map] at sz
  refine Calls.call_function_entry kind_sorted plain_sorted entry_sorted (args_sorted1 _) ?_
  unfold Builtin.«sorted»
  refine wpAny_bind (m := checkCount "sorted" 1 1 _) (wpAny_pure ?_)
  refine wpAny_bind (ZCol.gather (I.ok.hd hc) ⟨o, ho, hex.1, hd⟩ R.fits (by have h2 : scanBound = 4096 := rfl; have h1 : sizeLine = 16777216 := (by decide); omega) R.tab.up R.pln R.led fun s1 us k1 hz g1 o1 pm => ?_)
  have dat : es.toList.map (·.2) = L.map fun q => Value.ref q.1 := by
    rw [R.row]
    show (List.map _ _).map _ = _
    rw [List.map_map, List.map_map]
    rfl
  rw [dat] at pm
  have tin : ∀ q ∈ L, TS.TupInts s.heap (.ref q.1) q.2 := fun q hq => by
    obtain ⟨⟨b, e, hT⟩, _⟩ := hk q hq
    cases e
    obtain ⟨its, rv, hT', _⟩ := I.tuple hT
    exact ⟨q.1, its.toArray, rfl, hT', by simpa using rv.ints⟩
  have s1sz : sizeLine = 16777216 := by decide
  have sb : scanBound = 4096 := rfl
  have ul : us.length = L.length := by rw [pm.length_eq, List.length_map]
  refine wpAny_bind (wpAny_newList ?_ (by omega))
  have hoL : (s1.heap.push (seqObj "list" us.toArray 0)).get? s1.heap.objs.size = some (seqObj "list" us.toArray 0) := Heap.get?_push_size _ rfl
  have mem : ∀ v ∈ us, ∃ q ∈ L, v = Value.ref q.1 := fun v hv => by
    obtain ⟨q, hq, e⟩ := List.mem_map.mp (pm.mem_iff.mp hv)
    exact ⟨q, hq, e.symm⟩
  have tup : ∀ v ∈ us, TupN (s1.heap.push (seqObj "list" us.toArray 0)) v (TS.intsOf s.heap v) := fun v hv => by
    obtain ⟨q, hq, rfl⟩ := mem v hv
    have z := tin q hq
    rw [z.ints]
    exact ⟨z.keeps fun b o e _ => Heap.get?_push_of_some _ (k1 b o e), (hk q hq).2⟩
  refine wpAny_bind (wpAny_holding (wpAny_call_entry slot_list_sort ⟨_, hoL, rfl⟩ entry_list_sort (SrtO.list_sort_ord (s := { s1 with heap := s1.heap.push (seqObj "list" us.toArray 0) }) (swo_lexI (TS.intsOf s.heap)) hoL (by omega) (fun h2 => tups_sortable (by omega) tup fun o' e => ?_) fun out a1 a2 => ⟨_, rfl, ?_⟩) (args_list_sort _)))
  · have e' : some o' = some (seqObj "list" us.toArray 0) := e.symm.trans hoL
    cases e'
    intro z
    exact absurd (Value.type.inj z) (by decide)
  -- the rows in the new order
  have rows : ∀ vs : List Value, (∀ v ∈ vs, ∃ q ∈ L, v = Value.ref q.1) → ∃ L1 : List (Addr × List Int), vs = L1.map (fun q => Value.ref q.1) ∧ ∀ q ∈ L1, q ∈ L := by
    intro vs
    induction vs with
    | nil => intro _; exact ⟨[], rfl, fun q hq => by cases hq⟩
    | cons v vs ih =>
      intro hv
      obtain ⟨q, hq, e⟩ := hv v List.mem_cons_self
      obtain ⟨L1, e1, h1⟩ := ih fun u hu => hv u (List.mem_cons_of_mem _ hu)
      exact ⟨q :: L1, by rw [List.map_cons, e, e1], fun r hr => (List.mem_cons.mp hr).elim (fun z => by rw [z]; exact hq) (h1 r)⟩
  obtain ⟨L', eo, hsub⟩ := rows out fun v hv => mem v (a2.perm.mem_iff.mp hv)
  have one : ∀ q ∈ L, ∀ r ∈ L, q.1 = r.1 → q = r := fun q hq r hr e => by
    have z1 := (tin q hq).ints
    have z2 := (tin r hr).ints
    rw [e, z2] at z1
    exact Prod.ext e z1.symm
  have ndL : L.Nodup := by
    have z := R.dif
    rw [List.map_map] at z
    exact nodup_of_map z
  have pL : L'.Perm L := by
    have pm1 : (L'.map fun q => Value.ref q.1).Perm (L.map fun q => Value.ref q.1) := by rw [← eo]; exact a2.perm.trans pm
    have nref : (L.map fun q => Value.ref q.1).Nodup := List.pairwise_map.mpr (List.Pairwise.imp_of_mem (fun {q r} hq hr hne e => hne (one q hq r hr (by injection e))) ndL)
    have n1 : L'.Nodup := nodup_of_map (pm1.nodup_iff.mpr nref)
    refine (List.perm_ext_iff_of_nodup n1 ndL).mpr fun q => ⟨hsub q, fun hq => ?_⟩
    obtain ⟨r, hr, e⟩ := List.mem_map.mp (pm1.mem_iff.mpr (List.mem_map.mpr ⟨q, hq, rfl⟩))
    rw [← one r (hsub r hr) q hq (by injection e)]
    exact hr
  have pw : L'.Pairwise fun q r => lexI q.2 r.2 = true := by
    rw [eo] at a1
    have z : (L'.map (·.2)).Nodup := (pL.map (·.2)).nodup_iff.mpr (by
      have z := R.dif
      rw [List.map_map] at z
      have e : L.map ((fun x : Addr × NK => x.2) ∘ fun p : Addr × List Int => (p.1, tk p.2)) = (L.map (·.2)).map tk := by rw [List.map_map]; rfl
      rw [e] at z
      exact nodup_of_map z)
    refine List.Pairwise.imp_of_mem (fun {q r} hq hr hh => ?_) ((List.pairwise_map.mp a1).and (List.pairwise_map.mp z))
    obtain ⟨h1, h2⟩ := hh
    have f1 := (tin q (hsub q hq)).ints
    have f2 := (tin r (hsub r hr)).ints
    have h1 : lexI (TS.intsOf s.heap (Value.ref r.fst)) (TS.intsOf s.heap (Value.ref q.fst)) = false := h1
    rw [f1, f2] at h1
    cases hb : lexI q.2 r.2 with
    | true => rfl
    | false => exact absurd (lexI_tot _ _ hb h1) h2
  obtain ⟨c, hc'⟩ := sortedHeap_at (vs := us) (out := out.toArray) hoL
  have keep : ∀ b u, s.heap.get? b = some u → (sortedHeap (s1.heap.push (seqObj "list" us.toArray 0)) s1.heap.objs.size us out.toArray).get? b = some u := fun b u e => by
    have e1 := k1 b u e
    have hlt := Heap.lt_size e1
    rw [sortedHeap_old (Nat.ne_of_lt hlt) (by rw [size_push']; exact Nat.lt_succ_of_lt hlt)]
    exact Heap.get?_push_of_some _ e1
  have vals : ∀ l : List (Addr × List Int), Vals (l.map fun q => V.ref q.1) (l.map fun q => Value.ref q.1) := fun l => by
    induction l with
    | nil => exact .nil
    | cons q l ih => exact .cons rfl ih
  have hn : H s1.heap.objs.size = none := I.hok.fresh hz
  have ok : ObjOk X.prog X.w (upd H s1.heap.objs.size (.lst (L'.map fun q => V.ref q.1))) (sortedHeap (s1.heap.push (seqObj "list" us.toArray 0)) s1.heap.objs.size us out.toArray) s1.heap.objs.size (.lst (L'.map fun q => V.ref q.1)) := by
    refine ⟨by rw [List.length_map, pL.length_eq]; omega, out, c, by rw [eo]; exact vals L', ?_⟩
    rw [hc']
  refine wpAny_pure ⟨_, rfl, .ref s1.heap.objs.size, upd H s1.heap.objs.size (.lst (L'.map fun q => V.ref q.1)), ?_, rfl, q L' _ pL pw hn⟩
  exact I.call' (ch := []) o1 (Un.laid keep hz hn) (I.hok.laid keep hz ok) (by show AllBare s1.gens; rw [g1]; exact I.bare) (fun _ z => nomatch z)
end
end ZS
end
section
set_option maxHeartbeats 4000000
namespace ZS
open PySem PySem.Spec PyProof.Rows L2 PpSet
/-- {elt for x in iter}, elt a key: D the new set -/
def tZsc (K : PySem.W.Frag) (P : Program) (w : World) (wi : L2.TI) (i0 : Nat) (te : TE) (vs : List Nat) : TE := fun σ H Q => wi σ H fun J H1 => ∀ D, H1 D = none → ∃ W : Nat → Nat → Hp → Prop, (∃ m, W 0 m (upd H1 D (ZSet P w D []))) ∧ ∀ i m H2, W i m H2 →
  (J.stop i H2 ∧ Q (.ref D) H2) ∨ (J.go i H2 ∧ ∀ x H3, J.yld i H2 x H3 → te ((wipe σ vs).set i0 (some x)) H3 fun y H4 => ∃ b k L, y = .ref b ∧ H4 D = some (ZSet P w D L) ∧ (∀ p ∈ L, ElK K H4 p.1 p.2) ∧ ElK K H4 b k ∧ L.length + 1 < zBound ∧
    ∀ L', (k ∈ L.map (·.2) → L' = L) → (k ∉ L.map (·.2) → L'.Perm ((b, k) :: L)) → ∃ m', m' < m ∧ W (i + 1) m' (upd H4 D (ZSet P w D L')))
section
variable {X : Cx}
theorem pe_zsc {elt iter : Expr} {x : Str} {px : Pos} {scope : Scope} {own : List (PySem.Str × Nat)} {pos : Pos} {wi : L2.TI} {i0 : Nat} {te : TE} (hu : X.A.units + 64 < cLine) (hc : X.calm = true) (hN : X.N.Nodup) (hi : PI X (.Name x px) iter wi) (ok : BlkOk X.N X.env.scope scope own) (h0 : i0 ∈ own.map (·.2))
    (hg : ∀ (s : Shared) (H : Hp) (C : Addr) (cl : List (PySem.Str × Addr)) (fp : List Addr), PG (X.blk s H scope (compEnvC scope cl C X.env) fp) (.Name x px) (gName i0))
    (he : ∀ (s : Shared) (H : Hp) (C : Addr) (cl : List (PySem.Str × Addr)) (fp : List Addr), PE (X.blk s H scope (compEnvC scope cl C X.env) fp) elt te) (hs : ∀ x, foldedSetIterable iter X.env x = pure x := by intro _; rfl) :
    PE X (.SetComp elt [⟨.Name x px, iter, [], 0⟩] scope pos) (tZsc X.K X.prog X.w wi i0 te (own.map (·.2))) := by
  refine ⟨fun pins s σ H Q I h => ?_⟩
  rw [eval_SetComp]
  have hfree : ∀ y ∈ scope.names, y.2 = .free → ∃ c, X.env.cells.lookup y.1 = some c := fun y hy e => I.ok.has _ (ok.free y hy e)
  refine wpAny_comprehension_free (use := none) rfl hs (closure_ok hfree) ok.kind (fun y hy e => by rw [ok.uniq y hy, e]) (thn (hi.run pins s σ H _ I h) fun xv s1 hx => thn hx fun itv s2 h2 => ?_)
  obtain ⟨it, fp, tn, J, H2, rfl, I2, T, st2, f2, q⟩ := h2
  refine newSet_ok (newEnv_comp ?_)
  obtain ⟨D, hD⟩ : ∃ D, D = s2.heap.objs.size := ⟨_, rfl⟩
  rw [← hD]
  have hDn : H2 D = none := I2.hok.fresh (Nat.le_of_eq hD.symm)
  obtain ⟨W, ⟨m0, w0⟩, turn⟩ := q D hDn
  obtain ⟨s3, hs3⟩ : ∃ s3 : Shared, s3 = { s2 with heap := s2.heap.push (setO0 X.w) } := ⟨_, rfl⟩
  obtain ⟨H3, hH3⟩ : ∃ H3, H3 = upd H2 D (ZSet X.prog X.w D []) := ⟨_, rfl⟩
  have h3 : s3.heap = s2.heap.push (setO0 X.w) := by rw [hs3]
  have k3 : ∀ b u, s2.heap.get? b = some u → s3.heap.get? b = some u := fun b u e => by rw [h3]; exact Heap.get?_push_of_some _ e
  have sz3 : s3.heap.objs.size = D + 1 := by rw [h3, Heap.size_push, hD]
  have I3 : Inv X pins σ H3 s3 := by
    rw [hs3, hH3]
    refine I2.laid (t' := s2.toks) (fun b u e => Heap.get?_push_of_some _ e) (Nat.le_of_eq hD.symm) ((SetZ0.nil X.w ?_).laid _)
    rw [hD]
    exact Heap.get?_push_size _ rfl
  have fD : ∀ b ∈ fp, b < D := fun b hb => by
    obtain ⟨u, e, _⟩ := T.obj _ _ st2 b hb
    rw [hD]
    exact Heap.lt_size e
  have f3 : ∀ b ∈ fp, FpOk X pins H3 b ∧ b < s3.heap.objs.size := fun b hb => by
    have hlt := fD b hb
    refine ⟨⟨?_, (f2 b hb).2⟩, by rw [sz3]; exact Nat.lt_succ_of_lt hlt⟩
    rw [hH3, upd_ne (Nat.ne_of_lt hlt)]
    exact (f2 b hb).1
  have st3 : tn 0 s3.heap := T.keep _ _ _ st2 fun b _ u e => k3 b u e
  have I4 := block_start I3 ok hN f3
  have pg := hg s3 H3 s3.heap.objs.size (cellsFrom (s3.heap.objs.size + 1) scope.names (cloFrom X.env.cells scope.names [])) fp
  have pe := he s3 H3 s3.heap.objs.size (cellsFrom (s3.heap.objs.size + 1) scope.names (cloFrom X.env.cells scope.names [])) fp
  rw [← hs3, hD, ← hD]
  show codeAny _ _ (.compStart (.SetComp elt [⟨.Name x px, iter, [], 0⟩] scope pos) 0 (.ref it) (.ref D) (compEnvC scope (cellsFrom (s3.heap.objs.size + 1) scope.names (cloFrom X.env.cells scope.names [])) s3.heap.objs.size X.env)) (compPost (model X.prog X.w) X.A X.xe none _ (.ref D) s3.heap.objs.size) { s3 with heap := pushCells (s3.heap.push { cls := .type "dict", data := .dict #[] }) scope.names }
  generalize hce : compEnvC scope (cellsFrom (s3.heap.objs.size + 1) scope.names (cloFrom X.env.cells scope.names [])) s3.heap.objs.size X.env = ce at I4 pg pe ⊢
  have locE : ce.locals = s3.heap.objs.size := by rw [← hce]; rfl
  generalize hs4 : ({ s3 with heap := pushCells (s3.heap.push { cls := .type "dict", data := .dict #[] }) scope.names } : Shared) = s4 at I4 ⊢
  have st4 : tn 0 s4.heap := T.keep _ _ _ st3 fun b _ u e => by rw [← hs4]; exact pushCells_keeps _ _ _ _ (Heap.get?_push_of_some _ e)
  obtain ⟨σw, hσw⟩ : ∃ σw, σw = wipe σ (own.map (·.2)) := ⟨_, rfl⟩
  rw [← hσw] at I4 turn
  have still : ∀ {σ' : L2.St} {H' : Hp} {s' : Shared}, Inv (X.blk s3 H3 scope ce fp) [] σ' H' s' → (∀ b ∈ fp, H' b = none) → ∀ b ∈ fp, FpOk (X.blk s3 H3 scope ce fp) [] H' b := fun {σ' H' s'} I' hn b hb =>
    ⟨hn b hb, (I'.ok.exf b hb).1, I'.ok.exfs b hb, .inl hb, fun y c e => (I'.ok.exf b hb).2 y c e, fun p hp => absurd (show p ∈ ([] : List (Addr × Obj)) ++ [] from hp) (by simp)⟩
  have uB : (X.blk s3 H3 scope ce fp).A.units + 64 < cLine := hu
  have loop : codeAny (model X.prog X.w) X.A (.compLoop (.SetComp elt [⟨.Name x px, iter, [], 0⟩] scope pos) 0 (.ref it) (.ref D) ce) (compPost (model X.prog X.w) X.A X.xe none (EP X pins σ Q) (.ref D) s3.heap.objs.size) s4 := by
    refine compLoopS_any (fun n s' => ∃ i H', Inv (X.blk s3 H3 scope ce fp) [] σw H' s' ∧ tn i s'.heap ∧ (∀ b ∈ fp, H' b = none) ∧ W i n H') ?_ m0 ⟨0, H3, I4, st4, fun b hb => (f3 b hb).1.1, by rw [hH3]; exact w0⟩
    rintro n s5 ⟨i, H5, I5, st5, n5, w5⟩
    rcases turn i n H5 w5 with ⟨stop, fin⟩ | ⟨go, step⟩
    · refine thnF (T.done (X.blk s3 H3 scope ce fp) rfl rfl rfl hc i [] s5 _ H5 (fun _ _ => False) I5 (still I5 n5) st5 stop) fun r s6 ⟨hr, I6⟩ => ?_
      subst hr
      have I7 : Inv X pins σ H5 s6 := I3.call' (ch := fp) I6.os I6.base I6.hok I6.bare fun b hb => let ⟨_, b1, _, b3, b4, b5⟩ := (f3 b hb).1; ⟨b3, b1, b4, b5⟩
      obtain ⟨m, hn, _⟩ := I6.loc
      have hn' : s6.heap.Ns s3.heap.objs.size m := by rw [← locE]; exact hn
      have nC : H5 s3.heap.objs.size = none := by rw [← locE]; exact I6.free
      obtain ⟨f0, f1, f2', f3', f4, f5⟩ := I3.fpOk (Nat.le_refl _) nC
      exact ⟨m, hn', fun h'' sb => ⟨.ref D, H5, I7.turned (t' := s6.toks) (fun b u hb e => (sb.2 b hb).trans e) f0 f1 f3' f4 f5, rfl, fin⟩⟩
    · refine thnF (T.item (X.blk s3 H3 scope ce fp) rfl rfl rfl hc i [] s5 _ H5 (fun _ _ => False) I5 (still I5 n5) st5 go) fun r s6 ⟨u, hr, h6⟩ => ?_
      subst hr
      refine thnF h6 fun _ s7 ⟨y, H7, I7, r7, y7, st7, n7⟩ => ?_
      have I7' := I7.pinned (still I7 n7) (T.obj _ _ st7)
      refine thnF (pg.run _ s7 _ H7 y u (fun σ' H' => σ' = σw.set i0 (some y) ∧ H' = H7) I7' r7 ⟨rfl, rfl⟩) fun _ s8 ⟨σ8, H8, I8, e8, eH8⟩ => ?_
      subst e8 eH8
      simp only [List.forIn_nil]
      refine wpAny_pure ?_
      simp only [if_true]
      refine thnF (pe.run _ s8 _ H8 _ I8 (step y H8 y7)) fun z s10 ⟨yv, H10, I10, r10, b, k, L, ey, hD10, hL, hk, few, nx⟩ => ?_
      subst ey
      obtain rfl : z = Value.ref b := r10
      refine thnF (mt_zadd (X := X.blk s3 H3 scope ce fp) uB _ s10 _ H10 (.ref D) [.ref b] (.ref D) [.ref b] (fun _ H' => ∃ m', m' < n ∧ W (i + 1) m' H') I10 rfl (.cons rfl .nil) ⟨D, b, k, L, rfl, rfl, hD10, hL, hk, few, nx⟩) fun _ s11 ⟨_, H11, I11, _, m', hm, w11⟩ => ?_
      have pin' : ∀ b ∈ fp, ∀ o, s7.heap.get? b = some o → s11.heap.get? b = some o ∧ H11 b = none := fun b hb o e =>
        let z := I11.pin (b, o) (List.mem_append_right _ (List.mem_append_right _ (mem_pinsAt hb e)))
        ⟨z.1, z.2.1⟩
      refine ⟨m', hm, i + 1, H11, (I11.unpinned (pins := [])).weak (by rw [List.length_set]) (fun j v e => ?_), T.keep _ _ _ st7 fun b hb o e => (pin' b hb o e).1, fun b hb => ?_, w11⟩
      · have hj : j ≠ i0 := fun z => by
          rw [hσw] at e
          exact (wipe_some e).2 (by rw [z]; exact h0)
        rw [List.getElem?_set_ne (Ne.symm hj)]
        exact e
      · obtain ⟨o, e, _⟩ := T.obj _ _ st7 b hb
        exact (pin' b hb o e).2
  exact codeAny_compStart_set loop (T.self X.A 0 _ _ _ st4 loop)
end
end ZS
end
section
set_option maxHeartbeats 4000000
namespace ZS
open PySem PySem.Spec PyProof.Rows L2 PpSet
section
variable {P : Program} {w : World} {A : Around} {E : Value → Shared → Prop} {s : Shared}
/-- set(l), l a list: the loop over the new set is what the caller knows -/
theorem set_of_list {l : Addr} {items : Array Value} {Rz : Shared → Prop} {Q : Value → Shared → Prop} (hl : s.heap.IsList l items)
    (loop : codeAny (model P w) A.in1.in1 (.builtin "set.update.loop" ⟨[.ref s.heap.objs.size, .ref (s.heap.push (setO0 w)).objs.size], []⟩) (fun r s' => r = .ok (.ret .none) ∧ Rz s')
      { s with heap := (s.heap.push (setO0 w)).push { cls := .type "list_iterator", data := .fields #[.ref l, .int 0 0] } })
    (h : ∀ s', Rz s' → Q (.ref s.heap.objs.size) s') : wpAny (model P w) A (call (.type "set") [.ref l]) Q E s := by
  obtain ⟨cl0, tl0, hmro⟩ := F.called_set.mro
  have hm1 := F.called_set.made
  have hs1 := F.called_set.sub
  refine wpAny_call (codeAny_of_tree ?_)
  show wpAny _ _ (callAny (.type "set") _) _ _ _
  refine wpAny_pure ⟨Code.quiet_builtin _ (by decide +kernel), codeAny_builtin F.entry_type_call ?_⟩
  rw [Around.under_plain (weight_type_call_type "set" [.ref l] []) rfl]
  have hn1 := F.called_set.notType
  have hn2 := F.called_set.canCreate
  have hn3 := F.typeCall_set_1 (.ref l)
  repeat (any_goals (first | assumption | wp_step))
  refine codeAny_mono (code_set_led1 (.ref l) (E := E) (Q₁ := fun z s₁ => z = .ref s.heap.objs.size ∧ s₁ = { s with heap := s.heap.push (setO0 w) }) ⟨rfl, rfl⟩) fun r s₁ hr => ?_
  match r, hr with
  | .error e, hr => exact hr
  | .ok (.ret z), hr =>
    obtain ⟨rfl, rfl⟩ := hr
    have hS : (s.heap.push (setO0 w)).get? s.heap.objs.size = some (setO0 w) := Heap.get?_push_size _ rfl
    have hT : Shared.TypeIs { s with heap := s.heap.push (setO0 w) } (.ref s.heap.objs.size) "set" := ⟨_, hS, rfl⟩
    have hi1 := F.called_set.init.lookup
    have hi2 := F.called_set.init.bind (.ref s.heap.objs.size)
    repeat (any_goals (first | assumption | wp_step))
    refine codeAny_mono (codeAny_call_builtin (R := wants (fun z s₂ => z = .none ∧ Rz s₂) E) F.called_set.init.plain F.entry_set_init (check_set_init_1 hT ?_)) fun r₂ s₂ hr₂ => ?_
    · obtain ⟨⟨ocls, odict, odata, oslots⟩, hol, hcl, nl, hdl⟩ := hl
      simp only at hcl hdl
      subst hcl
      subst hdl
      have hol' : (s.heap.push (setO0 w)).get? l = some { cls := .type "list", dict := odict, data := .seq items nl, slots := oslots } := Heap.get?_push_of_some _ hol
      have k1 := F.sub_list_set
      have k2 := F.sub_list_frozenset
      have k3 : (Value.type "list" == Value.type "dict") = false := by decide
      unfold Builtin.«set.__init__» noKeywords Builtin.Frozenset.updateFrom
      generalize hPI : pyIter = PI
      wp_walk
      subst hPI
      refine wpAny_pyIter_list ⟨_, hol', rfl, nl, rfl⟩ (wpAny_bind (wpAny_runValue (codeAny_mono loop fun r s' hr => ?_)))
      obtain ⟨rfl, hz⟩ := hr
      show wpAny _ _ _ _ _ _
      refine wpAny_pure ?_
      show wpAny _ _ (ret Value.none) _ _ _
      exact wpAny_pure ⟨rfl, hz⟩
    · match r₂, hr₂ with
      | .error e, hr₂ => exact hr₂
      | .ok (.ret z), hr₂ =>
        obtain ⟨rfl, hz⟩ := hr₂
        repeat (any_goals (first | assumption | wp_step))
        exact h _ hz
      | .ok .next, hr₂ => exact hr₂.elim
      | .ok .brk, hr₂ => exact hr₂.elim
      | .ok .cont, hr₂ => exact hr₂.elim
  | .ok .next, hr => exact hr.elim
  | .ok .brk, hr => exact hr.elim
  | .ok .cont, hr => exact hr.elim
end
/-- what came from the first i items -/
structure Came (ks : List (Addr × NK)) (i : Nat) (L : List (Addr × NK)) : Prop where
  from_ : ∀ p ∈ L, p ∈ ks.take i
  in_ : ∀ p ∈ ks.take i, p.2 ∈ L.map (·.2)
  few : L.length ≤ i
theorem Came.none (ks : List (Addr × NK)) : Came ks 0 [] := ⟨fun p h => (by cases h), fun p h => (by simp at h), Nat.le_refl _⟩
theorem Came.next {ks L L' : List (Addr × NK)} {i : Nat} {x : Addr × NK} (g : Came ks i L) (h : ks[i]? = some x) (c1 : x.2 ∈ L.map (·.2) → L' = L) (c2 : x.2 ∉ L.map (·.2) → L'.Perm (x :: L)) : Came ks (i + 1) L' := by
  have e : ks.take (i + 1) = ks.take i ++ [x] := by rw [List.take_add_one, h]; rfl
  by_cases c : x.2 ∈ L.map (·.2)
  · rw [c1 c]
    refine ⟨fun p hp => by rw [e]; exact List.mem_append_left _ (g.from_ p hp), fun p hp => ?_, Nat.le_succ_of_le g.few⟩
    rw [e] at hp
    rcases List.mem_append.mp hp with z | z
    · exact g.in_ p z
    · rw [List.mem_singleton.mp z]; exact c
  · have pm := c2 c
    refine ⟨fun p hp => ?_, fun p hp => ?_, by rw [pm.length_eq, List.length_cons]; exact Nat.succ_le_succ g.few⟩
    · rw [e]
      rcases List.mem_cons.mp (pm.mem_iff.mp hp) with z | z
      · rw [z]; exact List.mem_append_right _ (List.mem_singleton.mpr rfl)
      · exact List.mem_append_left _ (g.from_ p z)
    · rw [(pm.map (·.2)).mem_iff, List.map_cons]
      rw [e] at hp
      rcases List.mem_append.mp hp with z | z
      · exact List.mem_cons_of_mem _ (g.in_ p z)
      · rw [List.mem_singleton.mp z]; exact List.mem_cons_self
section
variable {X : Cx} {pins : List (Addr × Obj)} {σ : L2.St} {H : Hp}
/-- set(xs), xs a list or a tuple of ints -/
def rISetOf (K : PySem.W.Frag) (w : World) : List V → Hp → VK → Prop := fun xs H Q => ∃ (l : Addr) (ns : List Int), xs = [V.ref l] ∧ (SqL K H l (ns.map V.int) ∨ SqT K H l (ns.map V.int)) ∧ ns.length + 1 < scanBound ∧
  ∀ a n, H a = none → n ≤ ns.length → Q (.ref a) (upd H a (SetO w a (fun j => decide (j ∈ ns)) n))
theorem cr_isetOf (hc : X.calm = true) : CallR X (.type "set") (rISetOf X.K X.w) := by
  intro pins s σ H xs us Q I r h
  obtain ⟨l, ns, rfl, hl, few, q⟩ := h
  rw [Vals.ref1 r]
  have hn : H s.heap.objs.size = none := I.hok.fresh (Nat.le_refl _)
  rcases hl with hl | hl
  · obtain ⟨its, rv, pl, hz⟩ := I.list hl
    have ii := rv.ints
    have hsz : its.toArray.size = ns.length := by rw [List.size_toArray, ← rv.length, List.length_map]
    have hob := pl.isList
    have k1 : ∀ b u, s.heap.get? b = some u → (s.heap.push (setO0 X.w)).get? b = some u := fun b u e => Heap.get?_push_of_some _ e
    have szS : (s.heap.push (setO0 X.w)).objs.size = s.heap.objs.size + 1 := Heap.size_push ..
    have hlt : l < s.heap.objs.size := by obtain ⟨o, e, _⟩ := id hob; exact Heap.lt_size e
    have hneI : l ≠ (s.heap.push (setO0 X.w)).objs.size := by rw [szS]; exact Nat.ne_of_lt (Nat.lt_succ_of_lt hlt)
    have hl1 : (s.heap.push (setO0 X.w)).IsList l its.toArray := by obtain ⟨o, e, r⟩ := id hob; exact ⟨o, k1 _ _ e, r⟩
    have hval : ∀ (i : Nat) (v : Value), its.toArray[i]? = some v → ∃ k t, ns[i]? = some k ∧ v = .int k t := fun i v hv => by
      have hi : i < ns.length := by rw [← hsz]; exact (Array.getElem?_eq_some_iff.mp hv).1
      obtain ⟨u, hu, ru⟩ := rv.get (i := i) (x := .int ns[i]) (by rw [List.getElem?_map, List.getElem?_eq_getElem hi]; rfl)
      have hv' : its[i]? = some v := by simpa using hv
      rw [hu] at hv'
      cases hv'
      obtain ⟨t, e⟩ := ru
      exact ⟨_, t, List.getElem?_eq_getElem hi, e⟩
    refine set_of_list hob (Rz := fun s' => ∃ c, c ≤ ns.length ∧ Moved (s.heap.objs.size :: [(s.heap.push (setO0 X.w)).objs.size]) (fun a b => b = a) { s with heap := (s.heap.push (setO0 X.w)).push { cls := .type "list_iterator", data := .fields #[.ref l, .int 0 0] } } s' ∧ SetR X.w s'.heap s.heap.objs.size (fun j => decide (j ∈ ns)) c) ?_ fun s' hz' => ?_
    · have W := (Walks.list (prog := X.prog) (w := X.w) (A := X.A.in1.in1.in1) (show X.A.in1.in1.in1.handled = none from I.ok.hd hc) _ l hneI its.toArray).toS
      refine set_update_ints (A := X.A.in1.in1) W s.heap.objs.size (by rw [szS]; simp only [List.mem_cons, List.mem_singleton, List.not_mem_nil, or_false, not_or]; exact ⟨Nat.ne_of_lt (Nat.lt_succ_self _), Nat.ne_of_gt hlt⟩) ns hsz few hval ns.length 0 _ (by omega) (Nat.zero_le _) ⟨⟨_, Heap.get?_push_size _ rfl, rfl, rfl⟩, hl1.push _⟩
        ⟨0, Nat.le_refl _, setR_new_at (Heap.get?_push_of_some _ (Heap.get?_push_size _ rfl))⟩ fun s' c hm hc' hS => ⟨rfl, c, by omega, hm, hS⟩
    · obtain ⟨c, hc', hm, hS⟩ := hz'
      have kk : ∀ b u, s.heap.get? b = some u → s'.heap.get? b = some u := fun b u e => by
        have hb := Heap.lt_size e
        refine hm.heap b u (by rw [szS]; simp only [List.mem_cons, List.mem_singleton, List.not_mem_nil, or_false, not_or]; exact ⟨Nat.ne_of_lt hb, Nat.ne_of_lt (Nat.lt_succ_of_lt hb)⟩) (Heap.get?_push_of_some _ (k1 b u e))
      refine ⟨.ref _, upd H s.heap.objs.size (SetO X.w s.heap.objs.size (fun j => decide (j ∈ ns)) c), ?_, rfl, q _ c hn hc'⟩
      exact I.call' (ch := []) hm.os (Un.laid kk (Nat.le_refl _) hn) (I.hok.laid kk (Nat.le_refl _) (setO_new hS)) (by rw [hm.gens]; exact I.bare) (fun _ z => nomatch z)
  · obtain ⟨its, rv, pl, hz⟩ := I.tuple hl
    refine call_set_tupI ns (I.ok.hd hc) (show s.heap.IsTuple l its.toArray from pl) (by simpa using rv.ints) few fun h' tk c hS hc' kk => ?_
    exact ⟨.ref _, upd H s.heap.objs.size (SetO X.w s.heap.objs.size (fun j => decide (j ∈ ns)) c), I.laid kk (Nat.le_refl _) (setO_new hS), rfl, q _ c hn hc'⟩
end
end ZS
end
section
set_option maxHeartbeats 4000000
namespace ZS
open PySem PySem.Spec PyProof.Rows L2
/-! ### enumerate(tuple) -/
section
variable {prog : Program} {w : World} {A : Around} {E : Value → Shared → Prop} {s : Shared}
theorem tup_meets_enum (l : Addr) (items : Array Value) (n : Nat) (dct : Option Addr) (sl : Array (Option Value)) :
    Meets (Builtin.«enumerate.__new__» ⟨[.type "enumerate", .ref l], []⟩) (fun _ R s => s.heap.get? l = some { cls := .type "tuple", dict := dct, data := .seq items n, slots := sl } ∧
      R (.ok (.ret (.ref (s.heap.push { cls := .type "tuple_iterator", data := .fields #[.ref l, .int 0 0] }).objs.size)))
        { s with heap := (s.heap.push { cls := .type "tuple_iterator", data := .fields #[.ref l, .int 0 0] }).push { cls := .type "enumerate", data := .fields #[.none, .bool false, .ref s.heap.objs.size, rawInt 0, .none, .none] } }) :=
  .of_wp fun prog w A R s h => by
    obtain ⟨hp, g, d, tk, os⟩ := s
    obtain ⟨hl, h⟩ := h
    have hsub := sub_enumerate
    have hT : Heap.IsTuple (Shared.heap ⟨hp, g, d, tk, os⟩) l items := ⟨_, hl, rfl, n, rfl⟩
    wp_walk using AutoSeq1.wpAny_loadPart' hl
    refine wpAny_stack_any fun st => wpAny_pure ?_
    split
    · rename_i c _ _ _ _ _
      cases (c == Value.type "enumerate") <;> (wp_walk using AutoSeq1.wpAny_loadPart' hl, wpAny_pyIter_tuple hT; exact ⟨_, rfl, h⟩)
    · wp_walk using AutoSeq1.wpAny_loadPart' hl, wpAny_pyIter_tuple hT
      exact ⟨_, rfl, h⟩
theorem tup_enum {l : Addr} {items : Array Value} {Q : Value → Shared → Prop} (hT : s.heap.IsTuple l items)
    (h : ∀ h', IsEnum h' (s.heap.objs.size + 1) s.heap.objs.size 0 .none → h'.IsTupleIter s.heap.objs.size l 0 → h'.objs.size = s.heap.objs.size + 2 → (∀ b o, s.heap.get? b = some o → h'.get? b = some o) → Q (.ref (s.heap.objs.size + 1)) { s with heap := h' }) :
    wpAny (model prog w) A (call (.type "enumerate") [.ref l]) Q E s := by
  obtain ⟨⟨c, dct, dt, sl⟩, hl, hc, n, hd⟩ := hT
  obtain rfl : c = .type "tuple" := hc
  obtain rfl : dt = .seq items n := hd
  refine callType_new F.called_enumerate (by decide) (F.typeCall_enumerate_1 _) (F.newCall_enumerate_1 _) (fun obj => F.args_object_init_2 obj _) F.entry_enumerate_new (tup_meets_enum l items n dct sl) ⟨hl, ?_⟩
  have sz : (s.heap.push { cls := .type "tuple_iterator", data := .fields #[.ref l, .int 0 0] }).objs.size = s.heap.objs.size + 1 := Heap.size_push ..
  show _ ∧ _
  rw [sz]
  have en : IsEnum ((s.heap.push { cls := .type "tuple_iterator", data := .fields #[.ref l, .int 0 0] }).push { cls := .type "enumerate", data := .fields #[.none, .bool false, .ref s.heap.objs.size, rawInt 0, .none, .none] }) (s.heap.objs.size + 1) s.heap.objs.size 0 .none := by
    have q := Heap.get?_push_size (s.heap.push { cls := .type "tuple_iterator", data := .fields #[.ref l, .int 0 0] }) (o := { cls := .type "enumerate", data := .fields #[.none, .bool false, .ref s.heap.objs.size, rawInt 0, .none, .none] }) rfl
    rw [sz] at q
    exact q
  exact ⟨⟨_, en, rfl⟩, h _ en ⟨_, Heap.get?_push_of_some _ (Heap.get?_push_size _ rfl), rfl, rfl⟩ (by rw [Heap.size_push, sz]) fun b o x => Heap.get?_push_of_some _ (Heap.get?_push_of_some _ x)⟩
theorem tup_next {it l : Addr} {i : Nat} {items : Array Value} {x : Value} {Q : Value → Shared → Prop} (hit : s.heap.IsTupleIter it l i) (hl : s.heap.IsTuple l items) (hx : items[i]? = some x)
    (hQ : ∀ h', h'.IsTupleIter it l (i + 1) → Heap.SameBut it s.heap h' → Q x { s with heap := h' }) : wpAny (model prog w) A (Builtin.SmallTypes.nextOf (.ref it)) Q E s := by
  obtain ⟨o, ho, hc, hd⟩ := id hit
  obtain ⟨ol, hol, _, nl, hdl⟩ := hl
  unfold Builtin.SmallTypes.nextOf
  refine wpAny_bind (wpAny_callSpecial?_slot (name := Str.ofString "__next__") ⟨o, ho, hc⟩ F.slot_tuple_iterator_next (wpAny_call_entry F.slot_tuple_iterator_next ⟨o, ho, hc⟩ F.entry_tuple_iterator_next ?_ (F.args_tuple_iterator_next_1 _)))
  show wpAny _ _ (field (.ref it) 0 >>= _) _ _ s
  refine wpAny_bind (wpAny_field ho hd (x := .ref l) rfl ?_)
  show wpAny _ _ (if (Value.ref l == Value.none) = true then _ else _) _ _ s
  rw [if_neg (show ¬ ((Value.ref l == Value.none) = true) from Bool.false_ne_true)]
  show wpAny _ _ (field (.ref it) 1 >>= _) _ _ s
  refine wpAny_bind (wpAny_field ho hd (x := .int i 0) rfl ?_)
  show wpAny _ _ (seqItems? (.ref l) >>= _) _ _ s
  refine wpAny_bind (wpAny_seqItems hol hdl ?_)
  simp only [Int.toNat_natCast, hx]
  refine wpAny_bind (wpAny_setField ho hd (by simp) (wpAny_pure ⟨x, rfl, wpAny_pure (hQ _ ⟨_, Heap.get?_update_self _ ho (Obj.isFreed_of_fields (Obj.data_mapFields hd _)), (Obj.cls_mapFields ..).trans hc, ?_⟩ (Heap.SameBut.update ..))⟩))
  rw [Obj.data_mapFields hd]
  simp [rawInt]
theorem tup_last {it l : Addr} {i : Nat} {items : Array Value} {Q : Value → Shared → Prop} (hh : A.handled = none) (hit : s.heap.IsTupleIter it l i) (hl : s.heap.IsTuple l items) (hx : items[i]? = none)
    (hE : ∀ h' e, Heap.ExtBut it s.heap h' → (∃ o, h'.get? e = some o ∧ o.cls = .type "StopIteration") → E (.ref e) { s with heap := h' }) : wpAny (model prog w) A (Builtin.SmallTypes.nextOf (.ref it)) Q E s := by
  obtain ⟨o, ho, hc, hd⟩ := id hit
  obtain ⟨ol, hol, _, nl, hdl⟩ := hl
  unfold Builtin.SmallTypes.nextOf
  refine wpAny_bind (wpAny_callSpecial?_slot (name := Str.ofString "__next__") ⟨o, ho, hc⟩ F.slot_tuple_iterator_next (wpAny_call_entry F.slot_tuple_iterator_next ⟨o, ho, hc⟩ F.entry_tuple_iterator_next ?_ (F.args_tuple_iterator_next_1 _)))
  show wpAny _ _ (field (.ref it) 0 >>= _) _ _ s
  refine wpAny_bind (wpAny_field ho hd (x := .ref l) rfl ?_)
  show wpAny _ _ (if (Value.ref l == Value.none) = true then _ else _) _ _ s
  rw [if_neg (show ¬ ((Value.ref l == Value.none) = true) from Bool.false_ne_true)]
  show wpAny _ _ (field (.ref it) 1 >>= _) _ _ s
  refine wpAny_bind (wpAny_field ho hd (x := .int i 0) rfl ?_)
  show wpAny _ _ (seqItems? (.ref l) >>= _) _ _ s
  refine wpAny_bind (wpAny_seqItems hol hdl ?_)
  simp only [Int.toNat_natCast, hx]
  refine wpAny_bind (wpAny_rule (wpAny_bind (wpAny_setField ho hd (by simp) ?_)))
  show wpAny _ _ (newExc (.type "StopIteration") [] >>= _) _ _ _
  refine wpAny_bind ?_
  simp only [newExc, newTuple]
  refine wpAny_bind (wpAny_newObj_type ?_ (by size_fits))
  refine wpAny_bind (m := firstArgMember _ _) (wpAny_of_eq (a := Value.none) (by first | rfl | (simp only [firstArgMember]; rfl)) ?_)
  refine wpAny_newObj_type ?_ (by size_fits)
  simp only [raiseNew]
  refine wpAny_bind (wpAny_handled ?_)
  first | rw [show A.in1.handled = none from hh] | rw [hh]
  refine wpAny_bind (wpAny_pure (wpAny_throw (hE _ _ (((Heap.SameBut.update ..).extBut.push _).push _) ⟨_, Heap.get?_push_size _ rfl, rfl⟩)))
theorem enum_stop {e it l : Addr} {i : Nat} {items : Array Value} {old : Value} {c : Int} {Q : Option Value → Shared → Prop} (hh : A.handled = none) (he : IsEnum s.heap e it c old) (hit : s.heap.IsTupleIter it l i) (hl : s.heap.IsTuple l items) (hx : items[i]? = none)
    (hQ : ∀ h', Heap.ExtBut it s.heap h' → Q none { s with heap := h' }) : wpAny (model prog w) A (pyNext (.ref e)) Q E s :=
  wpAny_pyNext_enum_endD (n := 0) (P := fun _ _ => False) (fp := [it, l]) (St := fun _ h => h.IsTupleIter it l i ∧ h.IsTuple l items)
    { live := fun _ h st => let ⟨o, ho, _⟩ := st.1; ⟨o, ho⟩
      frame := fun _ _ _ st hk => ⟨st.1.at fun o e => hk it (by simp) o e, let ⟨o, e, r⟩ := st.2; ⟨o, hk l (by simp) o e, r⟩⟩
      item := fun i s' Q E hi _ _ => absurd hi (Nat.not_lt_zero _)
      done := fun s' Q E st hE => tup_last (A := A.in1) hh st.1 st.2 hx hE } he ⟨hit, hl⟩ hQ
theorem Draws.tup (hh : A.handled = none) (it l : Addr) (hne : l ≠ it) (items : Array Value) : Draws prog w A it [it, l] items.size (fun i v => items[i]? = some v) (fun i h => h.IsTupleIter it l i ∧ h.IsTuple l items) where
  live := fun _ _ st => let ⟨o, ho, _⟩ := st.1; ⟨o, ho⟩
  frame := fun _ _ _ st hk => ⟨st.1.at fun o e => hk it (by simp) o e, let ⟨o, e, r⟩ := st.2; ⟨o, hk l (by simp) o e, r⟩⟩
  item := fun i s Q E hi st hQ => tup_next st.1 st.2 (x := items[i]) (by simp [hi]) fun h' hit' hs' => hQ _ h' s.toks (by simp [hi]) ⟨hit', let ⟨o, e, r⟩ := st.2; ⟨o, hs'.extBut l o hne e, r⟩⟩ hs'
  done := fun s Q E st hE => tup_last hh st.1 st.2 (by simp) hE
end
/-- the tuple at a, in pairs with its places -/
def IteT (K : PySem.W.Frag) (a : Addr) : It :=
  ⟨fun i H => ∃ (xs : List V) (x : V), SqT K H a xs ∧ xs[i]? = some x, fun i H v H' => ∃ T x, v = .ref T ∧ H T = none ∧ H' = upd H T (.tup [.int (i : Nat), x]) ∧ ∀ xs, SqT K H a xs → xs[i]? = some x, fun i H => ∃ xs : List V, SqT K H a xs ∧ xs.length ≤ i⟩
theorem turn_enumT {P : Program} {w : World} {K : PySem.W.Frag} {elts : List Expr} {kk : Nat} {tpos : Pos} (a e it : Addr) (hai : a ≠ it) (hae : a ≠ e) :
    Turn P w K (.Tuple elts kk tpos) (IteT K a) [e, it] e (fun i h => (∃ old, IsEnum h e it ((i : Nat) : Int) old) ∧ h.IsTupleIter it a i ∧ e ≠ it) where
  mem := List.mem_cons_self
  obj := fun i h st b hb => by
    obtain ⟨⟨old, he⟩, ⟨o, ho, _, hd⟩, _⟩ := st
    rcases List.mem_cons.mp hb with z | z
    · rw [z]
      exact ⟨_, he, fun v q => nomatch q⟩
    · rw [List.mem_singleton.mp z]
      exact ⟨o, ho, fun v q => by rw [hd] at q; cases q⟩
  keep := fun i h h' st k => let ⟨⟨old, he⟩, hi, hne⟩ := st; ⟨⟨old, k e (by simp) _ he⟩, hi.at fun o q => k it (by simp) o q, hne⟩
  item := by
    intro X hP hw hK hc i pins s σ H E I hf st hg
    subst hP hw hK
    obtain ⟨⟨old, he⟩, hit, hne⟩ := st
    obtain ⟨xs, x, hq, hx⟩ := hg
    obtain ⟨its, rv, p, hz⟩ := I.tuple hq
    obtain ⟨u, hu, ru⟩ := rv.get hx
    have lte : e < s.heap.objs.size := Heap.lt_size he
    have lti : it < s.heap.objs.size := by obtain ⟨_, q, _⟩ := hit; exact Heap.lt_size q
    have hiz : i < its.toArray.size := by
      have := (List.getElem?_eq_some_iff.mp hu).1
      simpa using this
    refine wpAny_pyNext_enum_itemD (Draws.tup (prog := X.prog) (w := X.w) (A := X.A.in1) (show X.A.in1.handled = none from I.ok.hd hc) it a hai its.toArray) he ⟨hit, p⟩ hiz hne (by simp only [List.mem_cons, List.mem_singleton, List.not_mem_nil, or_false, not_or]; exact ⟨hne, Ne.symm hae⟩) fun y h' tk hy ho hst hT hsz hk => ?_
    have ey : y = u := by
      have hy' : its[i]? = some y := by simpa using hy
      rw [hu] at hy'
      exact (Option.some.inj hy').symm
    subst ey
    refine ⟨_, rfl, wpAny_letOwnedTupleGo_enum (s := { s with heap := h', toks := tk + 1 }) ho fun h'' he' sb => ?_⟩
    have hT2 : h''.get? s.heap.objs.size = some { cls := .type "tuple", data := .seq #[.int i tk, y] } := (sb.2 _ (Nat.ne_of_gt lte)).trans hT
    have new : ObjOk X.prog X.w (upd H s.heap.objs.size (.tup [.int (i : Nat), x])) h'' s.heap.objs.size (.tup [.int (i : Nat), x]) :=
      ⟨(by show 2 ≤ sizeLine; decide), [.int i tk, y], .cons ⟨_, rfl⟩ (.cons ru .nil), ⟨_, hT2, rfl, _, rfl⟩⟩
    have J : Inv X pins σ (upd H s.heap.objs.size (.tup [.int (i : Nat), x])) { s with heap := h'', toks := tk + 1 } :=
      I.turnedNew (ch := [e, it]) (fun b ob hb q => by
        have n1 : b ≠ e := fun z => hb (by simp [z])
        have n2 : b ≠ it := fun z => hb (by simp [z])
        exact (sb.2 b n1).trans (hk b ob n1 n2 q)) hf (Nat.le_refl _) new
    refine ⟨.ref s.heap.objs.size, _, J, rfl, ⟨_, x, rfl, I.hok.fresh (Nat.le_refl _), rfl, fun ys hy => by rw [I.tuple_inj hy hq]; exact hx⟩, ⟨⟨y, ?_⟩, hst.1.at fun o q => (sb.2 it (Ne.symm hne)).trans q, hne⟩, fun b hb => ?_⟩
    · rw [show ((i + 1 : Nat) : Int) = (i : Int) + 1 by omega]
      exact he'
    · have hb' : b < s.heap.objs.size := by
        rcases List.mem_cons.mp hb with z | z
        · rw [z]; exact lte
        · rw [List.mem_singleton.mp z]; exact lti
      rw [upd_ne (Nat.ne_of_lt hb')]
      exact (hf b hb).1
  done := by
    intro X hP hw hK hc i pins s σ H E I hf st hg
    subst hP hw hK
    obtain ⟨⟨old, he⟩, hit, hne⟩ := st
    obtain ⟨xs, hq, hx⟩ := hg
    obtain ⟨its, rv, p, hz⟩ := I.tuple hq
    obtain ⟨f0, f1, f2, f3, f4, f5⟩ := hf it (by simp)
    have hl := rv.length
    have hin : i = its.toArray.size ∨ its.toArray.size < i := by
      have : its.toArray.size ≤ i := by simp; omega
      omega
    exact enum_stop (I.ok.hd hc) he hit p (by simp; omega) fun h' eb => ⟨rfl, I.turned (t' := s.toks) (fun b o hb q => eb b o hb q) f0 f1 f3 f4 f5⟩
  self := fun A i s Q E st h => let ⟨⟨_, he⟩, _⟩ := st; wpAny_pyIter_enum he h
def iEnumT (K : PySem.W.Frag) (ta : TA) : L2.TI := fun σ H R => ta σ H fun vs H1 => ∃ a xs, vs = [.ref a] ∧ SqT K H1 a xs ∧ R (IteT K a) H1
theorem pi_enumT {X : Cx} {e : Expr} {ta : TA} {p pos tpos : Pos} {elts : List Expr} {kk : Nat} (hg : Gl X "enumerate") (hm : X.mg "enumerate" = none) (ha : PA X [e] ta) (hs : starEach [e] X.env = [(false, eval e X.env)] := by rfl) :
    PI X (.Tuple elts kk tpos) (.Call (.Name "enumerate" p) [e] [] pos) (iEnumT X.K ta) := by
  refine ⟨fun pins s σ H R I h => Call_ (ld_blt I hg hm boot_enumerate (PyProof.Rows.callWith_type1 (thn (ha.run pos pins s σ H _ I h) fun us s1 ⟨vs, H1, I1, r1, q1⟩ => ?_) hs rfl))⟩
  obtain ⟨a, xs, rfl, hq, q⟩ := q1
  rw [Vals.ref1 r1]
  obtain ⟨its, rv, p', hz⟩ := I1.tuple hq
  have hlt : a < s1.heap.objs.size := by obtain ⟨o, e, _⟩ := id p'; exact Heap.lt_size e
  refine tup_enum (show s1.heap.IsTuple a its.toArray from p') fun h' he hit hsz hk => wpAny_pyIter_enum he ?_
  have I2 : Inv X pins σ H1 { s1 with heap := h' } := I1.kept (t' := s1.toks) hk
  refine ⟨s1.heap.objs.size + 1, [s1.heap.objs.size + 1, s1.heap.objs.size], _, _, H1, rfl, I2, turn_enumT a (s1.heap.objs.size + 1) s1.heap.objs.size (Nat.ne_of_lt hlt) (Nat.ne_of_lt (Nat.lt_succ_of_lt hlt)), ⟨⟨.none, he⟩, hit, Nat.succ_ne_self _⟩, fun b hb => ?_, q⟩
  have hle : s1.heap.objs.size ≤ b := by
    rcases List.mem_cons.mp hb with z | z
    · rw [z]; exact Nat.le_add_right _ _
    · rw [List.mem_singleton.mp z]; exact Nat.le_refl _
  exact I1.fpOk hle (I1.hok.fresh hle)
end ZS
end
section
set_option maxHeartbeats 4000000
namespace ZS
open PySem PySem.Spec PyProof.Rows L2
section
variable {X : Cx} {pins : List (Addr × Obj)} {σ : L2.St} {H : Hp} {s : Shared}
theorem perm_lift {α β : Type} {f : α → β} {l m : List β} (h : l.Perm m) : ∀ ps : List α, m = ps.map f → ∃ ps' : List α, l = ps'.map f ∧ ps'.Perm ps := by
  induction h with
  | nil => intro ps e; exact ⟨ps, e, List.Perm.refl _⟩
  | @cons x l m h ih =>
    intro ps e
    match ps, e with
    | p :: ps, e =>
      obtain ⟨ps', e1, h1⟩ := ih ps (List.cons.inj e).2
      exact ⟨p :: ps', by rw [e1, (List.cons.inj e).1]; rfl, h1.cons p⟩
  | swap x y l =>
    intro ps e
    match ps, e with
    | [], e => cases e
    | [p], e => cases e
    | p :: p' :: ps, e =>
      obtain ⟨e1, e2⟩ := List.cons.inj e
      obtain ⟨e3, e4⟩ := List.cons.inj e2
      exact ⟨p' :: p :: ps, by rw [e1, e3, e4]; rfl, List.Perm.swap p p' ps⟩
  | trans h1 h2 ih1 ih2 =>
    intro ps e
    obtain ⟨ps', e1, p1⟩ := ih2 ps e
    obtain ⟨ps'', e2, p2⟩ := ih1 ps' e1
    exact ⟨ps'', e2, p2.trans p1⟩
end
end ZS
end
section
set_option maxHeartbeats 4000000
/-! D0: the program's defs as they stand; what a call leaves -/
namespace NS
open PySem PySem.Spec PyProof.Rows L2 ZS
abbrev FnP (K : PySem.W.Frag) (x : Str) (st : Stmt) (f : Addr) (fd : FuncData) : Prop := FunD K x x (defArgs st) (defBody st) (defScope st) [] [] f fd
/-- the built-in names that the program reads are no globals -/
structure Bl (mg : Str → Option Value) : Prop where
  tuple : mg "tuple" = none
  list : mg "list" = none
  len : mg "len" = none
  range : mg "range" = none
  isinstance : mg "isinstance" = none
  set : mg "set" = none
  sorted : mg "sorted" = none
  all : mg "all" = none
  sum : mg "sum" = none
  enumerate : mg "enumerate" = none
  int : mg "int" = none
  bool : mg "bool" = none
  str : mg "str" = none
  any : mg "any" = none
  min : mg "min" = none
/-- a code table has grown: the places of the lines behind 150 are as they were -/
def TabUp (ps ps' : Array Value) : Prop := (TriplesOk ps.toList → TriplesOk ps'.toList) ∧ (TriplesOk ps.toList → ∀ p : Pos, 150 < p.line → codeAmong p ps'.toList = codeAmong p ps.toList)
theorem TabUp.refl (ps : Array Value) : TabUp ps ps := ⟨id, fun _ _ _ => rfl⟩
theorem TabUp.trans {a b c : Array Value} (h : TabUp a b) (h' : TabUp b c) : TabUp a c := ⟨fun z => h'.1 (h.1 z), fun z p hp => (h'.2 (h.1 z) p hp).trans (h.2 z p hp)⟩
theorem among_else {p : Pos} {gl col : Nat} {c : Value} (hp : gl ≠ p.line) : ∀ l : List Value, TriplesOk l → codeAmong p (l ++ [rawInt gl, rawInt col, c]) = codeAmong p l := by
  intro l h
  fun_induction TriplesOk l with
  | case1 =>
    simp only [List.nil_append, rawInt, codeAmong]
    rw [if_neg (by simp; omega)]
  | case2 a t b u x rest ih =>
    simp only [List.cons_append, codeAmong]
    split
    · rfl
    · exact ih h
  | case3 l h1 h2 => exact h.elim
theorem TabUp.grew {gl : Nat} (hg : gl ≤ 150) {ps more : Array Value} (ht : TriplesOk (ps ++ more).toList) (h : more = #[] ∨ ∃ (col : Nat) (c : Value), more = #[rawInt gl, rawInt col, c]) : TabUp ps (ps ++ more) := by
  refine ⟨fun _ => ht, fun z p hp => ?_⟩
  rcases h with rfl | ⟨col, c, rfl⟩
  · simp
  · rw [show (ps ++ #[rawInt gl, rawInt col, c]).toList = ps.toList ++ [rawInt gl, rawInt col, c] by simp]
    exact among_else (by omega) _ z
/-- what stood still stands, tables grow -/
structure Kp (H H' : Hp) : Prop where
  k : ∀ b o, H b = some o → (∀ ps, o ≠ .tbl ps) → H' b = some o
  t : ∀ b ps, H b = some (.tbl ps) → ∃ ps' : Array Value, H' b = some (.tbl ps') ∧ TabUp ps ps'
theorem Kp.refl (H : Hp) : Kp H H := ⟨fun _ _ h _ => h, fun _ ps h => ⟨ps, h, .refl ps⟩⟩
theorem Kp.trans {H H1 H2 : Hp} (a : Kp H H1) (b : Kp H1 H2) : Kp H H2 := ⟨fun c o h n => b.k c o (a.k c o h n) n, fun c ps h => by
  obtain ⟨p1, h1, t1⟩ := a.t c ps h
  obtain ⟨p2, h2, t2⟩ := b.t c p1 h1
  exact ⟨p2, h2, t1.trans t2⟩⟩
theorem Kp.same {H H' : Hp} (h : Same H H') : Kp H H' := ⟨fun _ _ e _ => h _ _ e, fun _ ps e => ⟨ps, h _ _ e, .refl ps⟩⟩
theorem Kp.none {H H' : Hp} (z : Kp H H') {p : Addr} (h : H' p = none) : H p = none := by
  cases e : H p with
  | none => rfl
  | some o =>
    by_cases q : ∃ ps, o = .tbl ps
    · obtain ⟨ps, rfl⟩ := q
      obtain ⟨ps', h', _⟩ := z.t p ps e
      rw [h] at h'
      cases h'
    · have := z.k p o e (fun ps w => q ⟨ps, w⟩)
      rw [h] at this
      cases this
theorem Kp.put {H0 H : Hp} (z : Kp H0 H) {p : Addr} (n : H0 p = Option.none) {o : HO} : Kp H0 (upd H p o) := by
  have ne : ∀ b u, H0 b = some u → b ≠ p := fun b u e q => by rw [q, n] at e; cases e
  exact ⟨fun b u e q => by rw [upd_ne (ne b u e)]; exact z.k b u e q, fun b ps e => by rw [upd_ne (ne b _ e)]; exact z.t b ps e⟩
theorem Kp.new {H0 H : Hp} (z : Kp H0 H) {p : Addr} (n : H p = Option.none) {o : HO} : Kp H0 (upd H p o) := z.put (z.none n)
theorem Kp.tab {H H' : Hp} {P : Addr} (g : GxR.TabG H P) {gl : Nat} (hg : gl ≤ 150) (z : GA.Grew P gl H H') : Kp H H' := by
  obtain ⟨ps, hP, hT⟩ := g
  obtain ⟨⟨⟨ps', hP', hT'⟩, ho⟩, hm⟩ := z
  obtain ⟨more, hP2, hmo⟩ := hm ps hP
  rw [hP'] at hP2
  cases hP2
  refine ⟨fun b u e q => ?_, fun b qs e => ?_⟩
  · have nb : b ≠ P := fun w => by rw [w, hP] at e; exact q ps (Option.some.inj e).symm
    rw [ho b nb]
    exact e
  · by_cases nb : b = P
    · subst nb
      rw [hP] at e
      cases e
      exact ⟨_, hP', .grew hg hT' hmo⟩
    · exact ⟨qs, by rw [ho b nb]; exact e, .refl qs⟩
theorem Kp.tabG {H H' : Hp} (z : Kp H H') {P : Addr} (g : GxR.TabG H P) : GxR.TabG H' P := by
  obtain ⟨ps, hP, hT⟩ := g
  obtain ⟨ps', h', t⟩ := z.t P ps hP
  exact ⟨ps', h', t.1 hT⟩
theorem Kp.tup {H H' : Hp} (z : Kp H H') : Tup H H' := ⟨fun c xs h => z.k c _ h (fun _ q => by cases q), fun c o u h => z.k c _ h (fun _ q => by cases q)⟩
theorem Kp.lst {H H' : Hp} (z : Kp H H') {a : Addr} {xs : List V} (h : H a = some (.lst xs)) : H' a = some (.lst xs) := z.k a _ h (fun _ q => by cases q)
theorem Kp.sqT {K : PySem.W.Frag} {H H' : Hp} (z : Kp H H') {a : Addr} {xs : List V} (h : SqT K H a xs) : SqT K H' a xs := z.tup.sq h
theorem Kp.sqL {K : PySem.W.Frag} {H H' : Hp} (z : Kp H H') {a : Addr} {xs : List V} (h : SqL K H a xs) : SqL K H' a xs := by
  rcases h with (h | ⟨o, h⟩) | h
  · exact .inl (.inl (z.lst h))
  · exact .inl (.inr ⟨o, z.k _ _ h (fun _ q => by cases q)⟩)
  · exact .inr h
theorem Kp.ti {K : PySem.W.Frag} {H H' : Hp} (z : Kp H H') {v : V} {k : List Int} (h : TI K H v k) : TI K H' v k := z.tup.ti h
theorem Kp.tti {K : PySem.W.Frag} {H H' : Hp} (z : Kp H H') {v : V} {k : List (List Int)} (h : TTI K H v k) : TTI K H' v k := z.tup.tti h
/-- a def at the module's name x keeps a promise: dvs the defaults that fill up -/
structure Has (P : Program) (w : World) (K : PySem.W.Frag) (mg : Str → Option Value) (base : Heap) (x : Str) (k : Nat) (dvs : List V) (sp : Sp) : Prop where
  ex : ∃ (f : Addr) (fd : FuncData) (ps : List Str) (ds : List Value), mg x = some (.ref f) ∧ PySem.W.keepIn K (.ref f) = true ∧ Binds K fd ps ds ∧ Vals dvs ds ∧ FnOk P w K mg base CX0 k f fd ps sp
section
variable {X : Cx} {k j : Nat} {sp : Sp} {dvs : List V} {x : Str} {p pos : Pos} {e : Expr} {es : List Expr} {t : TA}
theorem pe_has (h : Has X.prog X.w X.K X.mg X.base x j dvs sp) (hr : Room k X.A) (hk : j ≤ k) (ha : PA X (e :: es) t) (hg : Gl X x := by rfl)
    (hdb : (x == ("__debug__" : Str)) = false := by decide) (he : starEach (e :: es) X.env = (false, eval e X.env) :: starEach es X.env := by rfl) (hpl : (backTo pos (starEach es X.env)).any (·.1) = false := by rfl) :
    PE X (.Call (.Name x p) (e :: es) [] pos) (tCall sp dvs E0 t) := by
  obtain ⟨f, fd, ps, ds, h1, h2, h3, h4, h5⟩ := h.ex
  exact pe_call h5 (hr.mono hk) hg h1 h2 h3 h4 pass0 ha hdb he hpl
end
section
variable {P : Program} {w : World} {K : PySem.W.Frag} {mg : Str → Option Value} {base : Heap} {x : Str} {k : Nat} {sp : Sp}
theorem Has.held {f : Addr} (h : Has P w K mg base x k [] sp) (e : mg x = some (.ref f)) : Held P w K mg base k f sp := by
  obtain ⟨g, fd, ps, ds, h1, h2, h3, h4, h5⟩ := h.ex
  cases h4
  rw [e] at h1
  cases h1
  exact ⟨fd, ps, h5, h2, h3⟩
theorem Has.imp {sp' : Sp} {dvs : List V} (h : Has P w K mg base x k dvs sp) (q : ∀ vs H Q E, sp' vs H Q E → sp vs H Q E) : Has P w K mg base x k dvs sp' := by
  obtain ⟨g, fd, ps, ds, h1, h2, h3, h4, h5⟩ := h.ex
  exact ⟨g, fd, ps, ds, h1, h2, h3, h4, h5.imp q⟩
/-- the rule for a def; cdv is the def's own code -/
theorem ok_code {qual : Str} {params : Arguments} {body : List Stmt} {scope : Scope} {dvs : List V} {kws : List (Str × V)} {f : Addr} {fd : FuncData} {CX : CXT} {N ps : List Str} (F : FunD K x qual params body scope dvs kws f fd) (S : FnScope N ps scope) (len : ∀ vs H Q E, sp vs H Q E → vs.length = ps.length)
    (hbody : ∀ (cdv : Value) (A : Around) (outer : List Env) (s : Shared) (H : Hp) (vs : List V) (Q : VK) (E : XK), cdv = fd.code → Room k (A.deeper (envOfC qual scope s.heap.objs.size f cdv)) → sp vs H Q E →
      ∃ t, PSs (cxOf CX P w K mg base N qual scope f cdv A outer s H E) body t ∧ t { nx := fun _ H' => Q .non H', rt := Q } (start N vs) H) : FnOk P w K mg base CX (k + 1) f fd ps sp := by
  obtain ⟨oc, od, dV, kV, doc, pm, an, cdv, ct, osl, rfl, lk, hcd, _, _⟩ := F.ex
  exact fn_of lk hcd S len fun A outer s H vs Q E hr hsp => hbody cdv A outer s H vs Q E rfl hr hsp
end
end NS
end
section
/-! P1: turns as lists of whole numbers -/
namespace NS
/-- the second turn behind the first -/
def comp (a b : List Int) : List Int := a.map fun x => b.getD x.toNat 0
def idt (n : Nat) : List Int := (List.range n).map fun (i : Nat) => (i : Int)
def inv (a : List Int) : List Int := (List.range a.length).map fun (i : Nat) => ((a.idxOf (i : Int) : Nat) : Int)
/-- the items are places below n -/
def Low (n : Nat) (a : List Int) : Prop := ∀ x ∈ a, 0 ≤ x ∧ x < n
structure IsT (n : Nat) (a : List Int) : Prop where
  len : a.length = n
  low : Low n a
  nd : a.Nodup
/-- the hall to which hall i is led -/
def at' (a : List Int) (i : Nat) : Nat := (a.getD i 0).toNat
theorem getD_of {α : Type} {l : List α} {i : Nat} {x d : α} (h : l[i]? = some x) : l.getD i d = x := by rw [List.getD_eq_getElem?_getD, h]; rfl
theorem map_some {α β : Type} {f : α → β} {l : List α} {i : Nat} {y : β} (h : (l.map f)[i]? = some y) : ∃ x, l[i]? = some x ∧ y = f x := by
  rw [List.getElem?_map] at h
  cases e : l[i]? with
  | none => rw [e] at h; cases h
  | some x => rw [e] at h; exact ⟨x, rfl, (Option.some.inj h).symm⟩
theorem map_range_getD {α : Type} (xs : List α) (d : α) : (List.range xs.length).map (fun i => xs.getD i d) = xs := by
  refine List.ext_getElem (by simp) fun i h1 h2 => ?_
  simp [List.getD_eq_getElem?_getD, List.getElem?_eq_getElem h2]
/-- two lists with the same items at all places -/
theorem ext_at {α : Type} {d : α} {a b : List α} (hl : a.length = b.length) (h : ∀ i, i < a.length → a.getD i d = b.getD i d) : a = b := by
  rw [← map_range_getD a d, ← map_range_getD b d, hl]
  exact List.map_congr_left fun i hi => h i (by rw [hl]; exact List.mem_range.mp hi)
theorem erase_len {α : Type} [BEq α] [LawfulBEq α] {x : α} {b : List α} (h : x ∈ b) : (b.erase x).length + 1 = b.length := by
  have := List.length_erase_of_mem h
  have := List.length_pos_of_mem h
  omega
theorem nd_le {α : Type} [BEq α] [LawfulBEq α] : ∀ {a b : List α}, a.Nodup → (∀ x ∈ a, x ∈ b) → a.length ≤ b.length
  | [], _, _, _ => Nat.zero_le _
  | x :: a, b, nd, sub => by
    obtain ⟨h1, h2⟩ := List.nodup_cons.mp nd
    have hx := sub x (List.mem_cons_self ..)
    have := nd_le (a := a) (b := b.erase x) h2 fun y hy => (List.mem_erase_of_ne (fun e => h1 (by rw [← e]; exact hy))).mpr (sub y (List.mem_cons_of_mem _ hy))
    have := erase_len hx
    simp only [List.length_cons]
    omega
/-- as many different items as there may be: all of them -/
theorem nd_all {α : Type} [BEq α] [LawfulBEq α] {a b : List α} (nd : a.Nodup) (sub : ∀ x ∈ a, x ∈ b) (hl : b.length ≤ a.length) : ∀ x ∈ b, x ∈ a := fun x hx => by
  by_cases h : x ∈ a
  · exact h
  · have := nd_le (a := x :: a) (b := b) (List.nodup_cons.mpr ⟨h, nd⟩) fun y hy => by
      rcases List.mem_cons.mp hy with e | e
      · rw [e]; exact hx
      · exact sub y e
    simp only [List.length_cons] at this
    omega
theorem nodup_map {α β : Type} {f : α → β} : ∀ {l : List α}, l.Nodup → (∀ x ∈ l, ∀ y ∈ l, f x = f y → x = y) → (l.map f).Nodup
  | [], _, _ => List.nodup_nil
  | a :: l, nd, inj => by
    obtain ⟨h1, h2⟩ := List.nodup_cons.mp nd
    rw [List.map_cons, List.nodup_cons]
    refine ⟨fun hm => ?_, nodup_map h2 fun x hx y hy => inj x (List.mem_cons_of_mem _ hx) y (List.mem_cons_of_mem _ hy)⟩
    obtain ⟨y, hy, e⟩ := List.mem_map.mp hm
    have := inj y (List.mem_cons_of_mem _ hy) a (List.mem_cons_self ..) e
    rw [this] at hy
    exact h1 hy
theorem idt_len (n : Nat) : (idt n).length = n := by unfold idt; simp
theorem idt_at {n i : Nat} (h : i < n) : (idt n).getD i 0 = (i : Int) := by
  refine getD_of ?_
  unfold idt
  rw [List.getElem?_map, List.getElem?_range h]
  rfl
theorem mem_idt {n : Nat} {x : Int} : x ∈ idt n ↔ 0 ≤ x ∧ x < n := by
  unfold idt
  rw [List.mem_map]
  constructor
  · rintro ⟨i, hi, rfl⟩
    have := List.mem_range.mp hi
    omega
  · rintro ⟨h0, h1⟩
    exact ⟨x.toNat, List.mem_range.mpr (by omega), by omega⟩
theorem idt_isT (n : Nat) : IsT n (idt n) := ⟨idt_len n, fun x hx => mem_idt.mp hx, nodup_map List.nodup_range fun x _ y _ e => by omega⟩
theorem comp_len (a b : List Int) : (comp a b).length = a.length := List.length_map ..
theorem inv_len (a : List Int) : (inv a).length = a.length := by unfold inv; simp
theorem comp_at {a b : List Int} {i : Nat} {k : Int} (h : a[i]? = some k) : (comp a b).getD i 0 = b.getD k.toNat 0 := by
  refine getD_of ?_
  unfold comp
  rw [List.getElem?_map, h]
  rfl
theorem inv_at {a : List Int} {i : Nat} (h : i < a.length) : (inv a).getD i 0 = ((a.idxOf (i : Int) : Nat) : Int) := by
  refine getD_of ?_
  unfold inv
  rw [List.getElem?_map, List.getElem?_range h]
  rfl
theorem get_some {α : Type} {l : List α} {i : Nat} (h : i < l.length) (d : α) : l[i]? = some (l.getD i d) := by
  rw [List.getD_eq_getElem?_getD, List.getElem?_eq_getElem h]
  rfl
theorem mem_getD {α : Type} {l : List α} {i : Nat} (h : i < l.length) (d : α) : l.getD i d ∈ l := List.mem_of_getElem? (get_some h d)
theorem comp_getD {a : List Int} (b : List Int) {i : Nat} (h : i < a.length) : (comp a b).getD i 0 = b.getD (at' a i) 0 := comp_at (get_some h 0)
section
variable {n : Nat} {a b c : List Int}
theorem IsT.getD (h : IsT n a) {i : Nat} (hi : i < n) : a.getD i 0 = (at' a i : Int) ∧ at' a i < n := by
  have := h.low _ (mem_getD (l := a) (i := i) (by rw [h.len]; exact hi) 0)
  unfold at'
  omega
theorem IsT.lt (h : IsT n a) {i : Nat} (hi : i < n) : at' a i < n := (h.getD hi).2
theorem IsT.mem (h : IsT n a) {i : Nat} (hi : i < n) : (i : Int) ∈ a :=
  nd_all (b := idt n) h.nd (fun x hx => mem_idt.mpr (h.low x hx)) (by rw [idt_len, h.len]; exact Nat.le_refl _) _ (mem_idt.mpr (by omega))
theorem IsT.ext (ha : IsT n a) (hb : IsT n b) (h : ∀ i, i < n → at' a i = at' b i) : a = b :=
  ext_at (d := 0) (by rw [ha.len, hb.len]) fun i hi => by
    have hi' : i < n := by rw [← ha.len]; exact hi
    rw [(ha.getD hi').1, (hb.getD hi').1, h i hi']
theorem IsT.inj (h : IsT n a) {i j : Nat} (hi : i < n) (hj : j < n) (e : at' a i = at' a j) : i = j := by
  have e' : a.getD i 0 = a.getD j 0 := by rw [(h.getD hi).1, (h.getD hj).1, e]
  have hi' : i < a.length := by rw [h.len]; exact hi
  have hj' : j < a.length := by rw [h.len]; exact hj
  have e2 : a[i] = a[j] := by
    have e3 := e'
    rw [List.getD_eq_getElem?_getD, List.getD_eq_getElem?_getD, List.getElem?_eq_getElem hi', List.getElem?_eq_getElem hj'] at e3
    exact e3
  have pw := List.pairwise_iff_getElem.mp h.nd
  rcases Nat.lt_trichotomy i j with q | q | q
  · exact absurd e2 (pw i j hi' hj' q)
  · exact q
  · exact absurd e2.symm (pw j i hj' hi' q)
theorem at_idt {i : Nat} (h : i < n) : at' (idt n) i = i := by unfold at'; rw [idt_at h]; rfl
theorem at_comp (h : IsT n a) (b : List Int) {i : Nat} (hi : i < n) : at' (comp a b) i = at' b (at' a i) := by
  unfold at'
  rw [comp_getD b (by rw [h.len]; exact hi)]
  rfl
theorem isT_of (hl : a.length = n) (f : Nat → Nat) (hf : ∀ i, i < n → a.getD i 0 = (f i : Int)) (lt : ∀ i, i < n → f i < n) (inj : ∀ i, i < n → ∀ j, j < n → f i = f j → i = j) : IsT n a := by
  have e : a = (List.range n).map fun i => (f i : Int) := by
    refine ext_at (d := 0) (by simp [hl]) fun i hi => ?_
    rw [hl] at hi
    rw [hf i hi]
    refine (getD_of ?_).symm
    rw [List.getElem?_map, List.getElem?_range hi]
    rfl
  refine ⟨hl, fun x hx => ?_, ?_⟩
  · rw [e] at hx
    obtain ⟨i, hi, rfl⟩ := List.mem_map.mp hx
    have := lt i (List.mem_range.mp hi)
    omega
  · rw [e]
    exact nodup_map List.nodup_range fun x hx y hy q => inj x (List.mem_range.mp hx) y (List.mem_range.mp hy) (by omega)
theorem IsT.comp (ha : IsT n a) (hb : IsT n b) : IsT n (comp a b) :=
  isT_of (by rw [comp_len, ha.len]) (fun i => at' b (at' a i)) (fun i hi => by rw [comp_getD b (by rw [ha.len]; exact hi), (hb.getD (ha.lt hi)).1]) (fun i hi => hb.lt (ha.lt hi))
    fun i hi j hj e => ha.inj hi hj (hb.inj (ha.lt hi) (ha.lt hj) e)
theorem idx_of (ha : IsT n a) {i : Nat} (hi : i < n) : a.idxOf (i : Int) < n ∧ at' a (a.idxOf (i : Int)) = i := by
  have hm := ha.mem hi
  have hlt : a.idxOf (i : Int) < a.length := List.idxOf_lt_length_of_mem hm
  refine ⟨by rw [← ha.len]; exact hlt, ?_⟩
  unfold at'
  have e : a.getD (a.idxOf (i : Int)) 0 = (i : Int) := by
    refine getD_of ?_
    rw [List.getElem?_eq_getElem hlt, List.getElem_idxOf]
  rw [e]
  rfl
theorem at_inv (ha : IsT n a) {i : Nat} (hi : i < n) : at' (inv a) i = a.idxOf (i : Int) := by
  unfold at'
  rw [inv_at (by rw [ha.len]; exact hi)]
  rfl
theorem IsT.inv (ha : IsT n a) : IsT n (inv a) :=
  isT_of (by rw [inv_len, ha.len]) (fun i => a.idxOf (i : Int)) (fun i hi => inv_at (by rw [ha.len]; exact hi)) (fun i hi => (idx_of ha hi).1)
    fun i hi j hj e => by rw [← (idx_of ha hi).2, ← (idx_of ha hj).2, e]
theorem inv_comp (ha : IsT n a) : NS.comp (NS.inv a) a = idt n :=
  (ha.inv.comp ha).ext (idt_isT n) fun i hi => by rw [at_comp ha.inv a hi, at_inv ha hi, at_idt hi]; exact (idx_of ha hi).2
theorem comp_inv (ha : IsT n a) : NS.comp a (NS.inv a) = idt n :=
  (ha.comp ha.inv).ext (idt_isT n) fun i hi => by
    rw [at_comp ha _ hi, at_inv ha (ha.lt hi), at_idt hi]
    exact ha.inj (idx_of ha (ha.lt hi)).1 hi (idx_of ha (ha.lt hi)).2
theorem comp_assoc (ha : IsT n a) (hb : IsT n b) (c : List Int) : NS.comp (NS.comp a b) c = NS.comp a (NS.comp b c) :=
  ext_at (d := 0) (by simp only [comp_len]) fun i hi => by
    rw [comp_len, comp_len, ha.len] at hi
    rw [comp_getD c (by rw [comp_len, ha.len]; exact hi), at_comp ha b hi, comp_getD _ (by rw [ha.len]; exact hi), comp_getD c (by rw [hb.len]; exact ha.lt hi)]
theorem idt_comp (ha : IsT n a) : NS.comp (idt n) a = a := ((idt_isT n).comp ha).ext ha fun i hi => by rw [at_comp (idt_isT n) a hi, at_idt hi]
theorem comp_idt (ha : IsT n a) : NS.comp a (idt n) = a := (ha.comp (idt_isT n)).ext ha fun i hi => by rw [at_comp ha _ hi, at_idt (ha.lt hi)]
end
end NS
end
section
set_option maxHeartbeats 4000000
/-! D1: comprehensions whose items stay -/
namespace NS
open PySem PySem.Spec PyProof.Rows L2 ZS
theorem filter_succ (pb : Nat → Bool) (i : Nat) : (List.range (i + 1)).filter pb = (List.range i).filter pb ++ (if pb i = true then [i] else []) := by
  rw [List.range_succ, List.filter_append]
  congr 1
  cases e : pb i <;> simp [List.filter, e]
theorem filter_le (pb : Nat → Bool) (i : Nat) : ((List.range i).filter pb).length ≤ i := by
  have := List.length_filter_le pb (List.range i)
  simpa using this
/-- a walk that yields Y i at turn i, n in all, as long as what stood stands -/
structure Wlk (J : It) (H : Hp) (n : Nat) (Y : Nat → V → Hp → Prop) : Prop where
  go : ∀ i H', Kp H H' → i < n → J.go i H'
  stop : ∀ H', Kp H H' → J.stop n H'
  yld : ∀ i H1 x H2, Kp H H1 → i < n → J.yld i H1 x H2 → Kp H1 H2 ∧ Y i x H2
theorem Wlk.tup {K : PySem.W.Frag} {H : Hp} {a : Addr} {xs : List V} (h : SqT K H a xs) : Wlk (Itt K a) H xs.length (fun i x _ => xs[i]? = some x) where
  go := fun i H' z hi => ⟨xs, xs[i], z.sqT h, by simp [hi]⟩
  stop := fun H' z => ⟨xs, z.sqT h, Nat.le_refl _⟩
  yld := fun i H1 x H2 z hi y => by
    obtain ⟨e, y⟩ := y
    subst e
    exact ⟨Kp.refl _, y xs (z.sqT h)⟩
theorem Wlk.lst {K : PySem.W.Frag} {H : Hp} {a : Addr} {xs : List V} (h : SqL K H a xs) : Wlk (Itl K a) H xs.length (fun i x _ => xs[i]? = some x) where
  go := fun i H' z hi => ⟨xs, xs[i], z.sqL h, by simp [hi]⟩
  stop := fun H' z => ⟨xs, z.sqL h, Nat.le_refl _⟩
  yld := fun i H1 x H2 z hi y => by
    obtain ⟨e, y⟩ := y
    subst e
    exact ⟨Kp.refl _, y xs (z.sqL h)⟩
theorem Wlk.rng {H : Hp} (lo : Int) (n : Nat) : Wlk (Itr lo n) H n (fun i x _ => x = .int (lo + i)) where
  go := fun i H' z hi => hi
  stop := fun H' z => Nat.le_refl _
  yld := fun i H1 x H2 z hi y => by
    obtain ⟨e, y⟩ := y
    subst e
    exact ⟨Kp.refl _, y⟩
theorem lcG {J : It} {g : TG} {tt : TT} {te : TE} {vs : List Nat} {σ : L2.St} {H : Hp} {D : Addr} {Qd : Hp → Prop} {n : Nat} {Y : Nat → V → Hp → Prop} (wk : Wlk J H n Y) (hD : H D = none) (hz : n < sizeLine)
    (pb : Nat → Bool) (R : Nat → V → Hp → Prop) (st : ∀ i y H1 H2, Tup H1 H2 → R i y H1 → R i y H2)
    (el : ∀ i x H' (Q1 : V → Hp → Prop) (Q0 : Hp → Prop), i < n → Kp H H' → Y i x H' → (∀ y H4, pb i = true → Kp H' H4 → R i y H4 → Q1 y H4) → (∀ H3, pb i = false → Kp H' H3 → Q0 H3) →
      g x (wipe σ vs) H' fun σ2 H2 => wipe σ2 vs = wipe σ vs ∧ tt σ2 H2 fun b H3 => if b = true then te σ2 H3 Q1 else Q0 H3)
    (fin : ∀ ys H', Kp H H' → H' D = some (.lst ys) → Paired (fun i y => R i y H') ((List.range n).filter pb) ys → Qd H') :
    ∃ W : Nat → Nat → Hp → Prop, (∃ m, W 0 m (upd H D (.lst []))) ∧ ∀ i m H, W i m H →
      (J.stop i H ∧ Qd H) ∨ (J.go i H ∧ ∃ Nx : Hp → Prop, (∀ H', Nx H' → ∃ m', m' < m ∧ W (i + 1) m' H') ∧ ∀ x H', J.yld i H x H' → g x (wipe σ vs) H' fun σ2 H2 => wipe σ2 vs = wipe σ vs ∧ tt σ2 H2 fun b H3 =>
        if b = true then te σ2 H3 fun y H4 => ∃ acc, H4 D = some (.lst acc) ∧ acc.length < sizeLine ∧ Nx (upd H4 D (.lst (acc ++ [y]))) else Nx H3) := by
  refine ⟨fun i m H' => m = n - i ∧ i ≤ n ∧ Kp H H' ∧ ∃ ys, H' D = some (.lst ys) ∧ Paired (fun i y => R i y H') ((List.range i).filter pb) ys, ⟨n, by simp, Nat.zero_le _, (Kp.refl H).new hD, [], upd_same, .nil⟩, ?_⟩
  rintro i m H1 ⟨rfl, hi, z, ys, hy, hp⟩
  by_cases hlt : i < n
  · refine .inr ⟨wk.go i H1 z hlt, fun H' => Kp H H' ∧ ∃ ys, H' D = some (.lst ys) ∧ Paired (fun i y => R i y H') ((List.range (i + 1)).filter pb) ys, fun H' ⟨p1, p2⟩ => ⟨n - (i + 1), by omega, rfl, hlt, p1, p2⟩, fun x H' y => ?_⟩
    obtain ⟨zy, yy⟩ := wk.yld i H1 x H' z hlt y
    have hl : ys.length < sizeLine := by
      have := filter_le pb i
      rw [hp.length] at this
      omega
    refine el i x H' _ _ hlt (z.trans zy) yy (fun v H4 hb z4 r4 => ?_) (fun H3 hb z3 => ?_)
    · have z14 := zy.trans z4
      have hD4 := z14.lst hy
      refine ⟨ys, hD4, hl, (z.trans z14).put hD, _, upd_same, ?_⟩
      have tz : Tup H4 (upd H4 D (.lst (ys ++ [v]))) := Tup.put (by rw [hD4]; trivial)
      rw [filter_succ, if_pos hb]
      exact Paired.snoc (hp.mono (fun a b q => st _ _ _ _ (z14.tup.trans tz) q)) (st _ _ _ _ tz r4)
    · have z13 := zy.trans z3
      refine ⟨z.trans z13, ys, z13.lst hy, ?_⟩
      rw [filter_succ, if_neg (by rw [hb]; exact Bool.false_ne_true), List.append_nil]
      exact hp.mono (fun a b q => st _ _ _ _ z13.tup q)
  · have e : i = n := by omega
    subst e
    exact .inl ⟨wk.stop H1 z, fin ys H1 z hy hp⟩
/-- no test -/
theorem lcF {J : It} {g : TG} {te : TE} {vs : List Nat} {σ : L2.St} {H : Hp} {D : Addr} {Qd : Hp → Prop} {n : Nat} {Y : Nat → V → Hp → Prop} (wk : Wlk J H n Y) (hD : H D = none) (hz : n < sizeLine)
    (R : Nat → V → Hp → Prop) (st : ∀ i y H1 H2, Tup H1 H2 → R i y H1 → R i y H2)
    (el : ∀ i x H' (Q1 : V → Hp → Prop), i < n → Kp H H' → Y i x H' → (∀ y H4, Kp H' H4 → R i y H4 → Q1 y H4) →
      g x (wipe σ vs) H' fun σ2 H2 => wipe σ2 vs = wipe σ vs ∧ te σ2 H2 Q1)
    (mono : ∀ x H' (Q Q' : L2.St → Hp → Prop), (∀ s h, Q s h → Q' s h) → g x (wipe σ vs) H' Q → g x (wipe σ vs) H' Q')
    (fin : ∀ ys H', Kp H H' → H' D = some (.lst ys) → Paired (fun i y => R i y H') (List.range n) ys → Qd H') :
    ∃ W : Nat → Nat → Hp → Prop, (∃ m, W 0 m (upd H D (.lst []))) ∧ ∀ i m H, W i m H →
      (J.stop i H ∧ Qd H) ∨ (J.go i H ∧ ∃ Nx : Hp → Prop, (∀ H', Nx H' → ∃ m', m' < m ∧ W (i + 1) m' H') ∧ ∀ x H', J.yld i H x H' → g x (wipe σ vs) H' fun σ2 H2 => wipe σ2 vs = wipe σ vs ∧ tYes σ2 H2 fun b H3 =>
        if b = true then te σ2 H3 fun y H4 => ∃ acc, H4 D = some (.lst acc) ∧ acc.length < sizeLine ∧ Nx (upd H4 D (.lst (acc ++ [y]))) else Nx H3) :=
  lcG wk hD hz (fun _ => true) R st (fun i x H' Q1 Q0 hi z y q1 _ => mono x H' _ _ (fun s h q => ⟨q.1, iteT (B := Q0 h) q.2⟩) (el i x H' Q1 hi z y fun y H4 z4 r4 => q1 y H4 rfl z4 r4)) fun ys H' z hy hp => fin ys H' z hy (by
    have e : (List.range n).filter (fun _ => true) = List.range n := List.filter_eq_self.mpr fun _ _ => rfl
    rwa [e] at hp)
/-- for, over a walk -/
theorem forG {J : It} {g : TG} {tb : TS} {D : Ends} {σ : L2.St} {H0 H : Hp} {n : Nat} {Y : Nat → V → Hp → Prop} (wk : Wlk J H0 n Y) (Pv : Nat → L2.St → Hp → Prop) (h0 : Pv 0 σ H) (kp : ∀ i σ H', i ≤ n → Pv i σ H' → Kp H0 H')
    (hs : ∀ i x σ H1 H2, i < n → Pv i σ H1 → Kp H1 H2 → Y i x H2 → g x σ H2 fun σ2 H3 => tb { D with nx := Pv (i + 1), ct := Pv (i + 1), bk := D.nx } σ2 H3) (hd : ∀ σ H', Pv n σ H' → D.nx σ H') :
    ∃ W : Nat → Nat → L2.St → Hp → Prop, (∃ m, W 0 m σ H) ∧ ∀ i m σ H, W i m σ H →
      (J.stop i H ∧ D.nx σ H) ∨ (J.go i H ∧ ∃ N : L2.St → Hp → Prop, (∀ σ' H', N σ' H' → ∃ m', m' < m ∧ W (i + 1) m' σ' H') ∧ ∀ x H', J.yld i H x H' → g x σ H' fun σ2 H2 => tb { D with nx := N, ct := N, bk := D.nx } σ2 H2) := by
  refine ⟨fun i m σ H => m = n - i ∧ i ≤ n ∧ Pv i σ H, ⟨n, by simp, Nat.zero_le _, h0⟩, ?_⟩
  rintro i m σ H ⟨rfl, hi, p⟩
  have z := kp i σ H hi p
  by_cases hlt : i < n
  · refine .inr ⟨wk.go i H z hlt, Pv (i + 1), fun σ' H' p' => ⟨n - (i + 1), by omega, rfl, hlt, p'⟩, fun x H' y => ?_⟩
    obtain ⟨zy, yy⟩ := wk.yld i H x H' z hlt y
    exact hs i x σ H H' hlt p zy yy
  · have e : i = n := by omega
    subst e
    exact .inl ⟨wk.stop H z, hd σ H p⟩
theorem Wlk.enum {K : PySem.W.Frag} {H : Hp} {a : Addr} {xs : List V} (h : SqT K H a xs) : Wlk (IteT K a) H xs.length (fun i x H2 => ∃ T v, x = .ref T ∧ H2 T = some (.tup [.int (i : Nat), v]) ∧ xs[i]? = some v) where
  go := fun i H' z hi => ⟨xs, xs[i], z.sqT h, by simp [hi]⟩
  stop := fun H' z => ⟨xs, z.sqT h, Nat.le_refl _⟩
  yld := fun i H1 x H2 z hi y => by
    obtain ⟨T, v, e, hn, eh, y⟩ := y
    subst eh
    exact ⟨(Kp.refl _).new hn, T, v, e, upd_same, y xs (z.sqT h)⟩
theorem pr_get {α β : Type} {F : α → β → Prop} : ∀ {xs : List α} {ys : List β}, Paired F xs ys → ∀ {i : Nat} {x : α}, xs[i]? = some x → ∃ y, ys[i]? = some y ∧ F x y
  | _, _, .nil, i, x, e => by simp at e
  | _, _, .cons p t, 0, x, e => by
    cases e
    exact ⟨_, rfl, p⟩
  | _, _, .cons p t, i + 1, x, e => pr_get t (i := i) (x := x) e
theorem mono_name {i : Nat} (x : V) (σ : L2.St) (H' : Hp) (Q Q' : L2.St → Hp → Prop) (h : ∀ s h, Q s h → Q' s h) (q : gName i x σ H' Q) : gName i x σ H' Q' := h _ _ q
theorem paired_map {α β : Type} {F : α → β → Prop} {f : α → β} (h : ∀ a b, F a b → b = f a) : ∀ {l : List α} {m : List β}, Paired F l m → m = l.map f
  | _, _, .nil => rfl
  | _, _, .cons p t => by rw [List.map_cons, h _ _ p, paired_map h t]
theorem paired_at {α β : Type} {F : α → β → Prop} : ∀ {xs : List α} {ys : List β}, Paired F xs ys → ∀ {i : Nat} {y : β}, ys[i]? = some y → ∃ x, xs[i]? = some x ∧ F x y
  | _, _, .nil, i, y, e => by simp at e
  | _, _, .cons p t, 0, y, e => by
    cases e
    exact ⟨_, rfl, p⟩
  | _, _, .cons p t, i + 1, y, e => paired_at t (i := i) (y := y) e
theorem at_ints {ys : List Int} {x : Int} (h0 : 0 ≤ x) (h1 : x < ys.length) : atI (ys.map V.int) x = some (.int (ys.getD x.toNat 0)) := by
  obtain ⟨j, rfl⟩ := Int.eq_ofNat_of_zero_le h0
  have hj : j < ys.length := by omega
  refine atI_nat ?_
  rw [List.getElem?_map, List.getElem?_eq_getElem hj]
  simp [List.getD_eq_getElem?_getD, List.getElem?_eq_getElem hj]
theorem paired_ints {l : List Int} {n : Nat} {ys : List V} (hl : l.length = n) (h : Paired (fun i y => y = V.int (l.getD i 0)) (List.range n) ys) : ys = l.map V.int := by
  rw [paired_map (f := fun i => V.int (l.getD i 0)) (fun _ _ e => e) h, ← hl]
  conv => rhs; rw [← map_range_getD l 0, List.map_map]
  rfl
theorem ifF {c : Bool} {A B : Prop} (h : c = false) (b : B) : if c = true then A else B := by rw [h, if_neg Bool.false_ne_true]; exact b
theorem ifT {c : Bool} {A B : Prop} (h : c = true) (a : A) : if c = true then A else B := by rw [if_pos h]; exact a
end NS
end
section
set_option maxHeartbeats 4000000
/-! T0: new tuples that have no dict of their own; t.index -/
namespace NS
open PySem PySem.Spec PyProof.Rows L2 ZS
/-- v is a tuple of the ints k, made plainly -/
def PT (H : Hp) (v : V) (k : List Int) : Prop := ∃ a o, v = .ref a ∧ H a = some (.frz o (.tup (k.map V.int))) ∧ o.dict = none
theorem PT.ti {K : PySem.W.Frag} {H : Hp} {v : V} {k : List Int} (h : PT H v k) : TI K H v k := let ⟨a, o, e, x, _⟩ := h; ⟨a, e, .inl (.inr ⟨o, x⟩)⟩
theorem Kp.pt {H H' : Hp} (z : Kp H H') {v : V} {k : List Int} (h : PT H v k) : PT H' v k := let ⟨a, o, e, x, d⟩ := h; ⟨a, o, e, z.k _ _ x (fun _ q => by cases q), d⟩
theorem Tup.pt {H H' : Hp} (z : Tup H H') {v : V} {k : List Int} (h : PT H v k) : PT H' v k := let ⟨a, o, e, x, d⟩ := h; ⟨a, o, e, z.f _ _ _ x, d⟩
theorem PT.of {H : Hp} {a : Addr} {o : Obj} {k : List Int} (h : H a = some (.frz o (.tup (k.map V.int)))) (d : o.dict = none) : PT H (.ref a) k := ⟨a, o, rfl, h, d⟩
section
variable {X : Cx}
theorem Inv.newT {pins : List (Addr × Obj)} {σ : L2.St} {H : Hp} {s : Shared} {t' : Nat} {xs : List V} {its : List Value} (I : Inv X pins σ H s) (hz : xs.length ≤ sizeLine) (r : Vals xs its) :
    Inv X pins σ (upd H s.heap.objs.size (.frz { cls := .type "tuple", data := .seq its.toArray } (.tup xs))) { s with heap := s.heap.push { cls := .type "tuple", data := .seq its.toArray }, toks := t' } :=
  I.laid (fun b o e => Heap.get?_push_of_some _ e) (Nat.le_refl _) ⟨Heap.get?_push_size _ rfl, hz, its, r, IsTup.new _ _⟩
/-- tuple(xs), xs a list -/
theorem cr_tupP : CallR X (.type "tuple") (fun xs H Q => ∃ p ys, xs = [.ref p] ∧ SqL X.K H p ys ∧ ∀ l o, H l = none → o.dict = none → Q (.ref l) (upd H l (.frz o (.tup ys)))) := by
  intro pins s σ H xs us Q I r h
  obtain ⟨p, ys, rfl, hq, q⟩ := h
  obtain ⟨u, rfl, rx⟩ := vals1 r
  cases rx
  obtain ⟨its, r', pl, hz⟩ := I.list hq
  have hlen := r'.length
  refine call_tuple_list pl.isList (fun h' kp => ?_) (by simp only [List.size_toArray] <;> omega)
  have I1 : Inv X pins σ H { s with heap := h' } := I.kept (t' := s.toks) kp
  exact ⟨.ref h'.objs.size, _, NS.Inv.newT (s := { s with heap := h' }) (t' := s.toks) I1 hz r', rfl, q _ _ (I1.hok.fresh (Nat.le_refl _)) rfl⟩
/-- (a, b) -/
def tTupP (t : TA) : TE := fun σ H Q => t σ H fun xs H1 => xs.length ≤ sizeLine ∧ ∀ p o, H1 p = none → o.dict = none → Q (.ref p) (upd H1 p (.frz o (.tup xs)))
theorem pe_tupP {x1} {es : List Expr} {t : TA} {pos : Pos} (h : PA X es t) : PE X (.Tuple es x1 pos) (tTupP t) := by
  refine ⟨fun pins s σ H Q I hq => ?_⟩
  refine wpAny_Tuple_spliced (thn (h.run pos pins s σ H _ I hq) fun us s1 ⟨xs, H1, I1, r, z, q⟩ => ⟨by rw [← r.length]; exact z, ?_⟩)
  have hf : H1 s1.heap.objs.size = none := I1.hok.fresh (Nat.le_refl _)
  exact ⟨.ref s1.heap.objs.size, _, NS.Inv.newT (t' := s1.toks) I1 z r, rfl, q _ _ hf rfl⟩
/-- tuple(range(..)) -/
def tTupRgP (te : L2.St → Hp → (Int → Int → Hp → Prop) → Prop) : TE := fun σ H Q => te σ H fun a b H1 => RgOk a b ∧ ∀ q o, H1 q = none → o.dict = none → Q (.ref q) (upd H1 q (.frz o (.tup (rgV a b))))
theorem pe_tupRgP {e : Expr} {te : L2.St → Hp → (Int → Int → Hp → Prop) → Prop} {p pos : Pos} (hc : X.calm = true) (hg : Gl X "tuple") (hm : X.mg "tuple" = none) (he : PRg X e te) (na : starEach [e] X.env = (false, eval e X.env) :: starEach [] X.env := by rfl) : PE X (.Call (.Name "tuple" p) [e] [] pos) (tTupRgP te) := by
  refine ⟨fun pins s σ H Q I h => ?_⟩
  refine Call_ (ld_blt I hg hm PyProof.Rows.boot_tuple (PyProof.Rows.callWith_type1 (args_cons (thn (he pins s σ H _ I h) fun x s1 ⟨r, a, b, t, u, v, H1, ex, hr, I1, ok, q⟩ => args_nil ?_) na) na))
  subst ex
  obtain ⟨b1, b2, b3, b4, b5⟩ := ok
  refine call_tuple_range (n := (b - a).toNat) (I1.ok.hd hc) hr (small_one b1 b2 b3 b4) (rangeSize_nat a b) b5 fun h' tk acc hk hi => ?_
  have I2 : Inv X pins σ H1 { s1 with heap := h', toks := tk } := I1.kept hk
  have hz : (rgV a b).length ≤ sizeLine := by rw [rgV_length, sizeLine_eq]; omega
  have I3 := NS.Inv.newT (s := { s1 with heap := h', toks := tk }) (t' := tk) I2 hz (vals_rg hi)
  rw [Array.toArray_toList] at I3
  exact ⟨.ref h'.objs.size, _, I3, rfl, q _ _ (I2.hok.fresh (Nat.le_refl _)) rfl⟩
variable {o e : Expr} {es : List Expr} {to : TE} {t : TA} {apos cpos : Pos}
/-- len of a set of ints -/
def rSLen (w : World) : List V → Hp → VK → Prop := fun vs H Q => ∃ (a : Addr) (S : Int → Bool) (n : Nat) (ns : List Int), vs = [.ref a] ∧ H a = some (SetO w a S n) ∧ ns.Nodup ∧ (∀ k, S k = true ↔ k ∈ ns) ∧ Q (.int ns.length) H
theorem cr_slen : CallR X (.builtin "len") (rSLen X.w) := by
  intro pins s σ H vs us Q I r h
  obtain ⟨a, S, n, ns, rfl, ha, nd, mem, q⟩ := h
  rw [Vals.ref1 r]
  obtain ⟨ob, es, ep, t, ho, hex, hd, _, nd2, m2, hb, hf, hn, _⟩ := setO_get I ha
  have e : (es.toList.map L2.keyOf).length = ns.length := Nat.le_antisymm (nd_le nd2 fun x hx => (mem x).mp ((m2 x).mpr hx)) (nd_le nd fun x hx => (m2 x).mp ((mem x).mpr hx))
  rw [List.length_map, Array.length_toList] at e
  have hz : scanBound = 4096 := rfl
  exact call_len_set ho hex hd hf (by omega) ⟨.int ns.length, H, I.tok _, ⟨_, by rw [e]⟩, q⟩
theorem tyx_T {K : PySem.W.Frag} {H : Hp} {a : Addr} {xs : List V} (h : SqT K H a xs) : TyX K H (.ref a) (.type "tuple") := by
  rcases h with (h | ⟨o, h⟩) | ⟨o, _, _, h1, h2, _⟩
  · exact .base (.tup h)
  · exact .fTuple h
  · exact .kTuple h1 h2
end
end NS
end
section
set_option maxHeartbeats 4000000
/-! G1: still, then, undone, hall_led, pair_led, like -/
namespace NS
open PySem PySem.Spec PyProof.Rows L2 ZS
theorem scStill : FnScope ["halls"] ["halls"] (defScope sStill) := ⟨rfl, rfl, rfl, by decide +kernel, rfl, by decide +kernel, by decide +kernel⟩
theorem scThen : FnScope ["first", "second", "hall"] ["first", "second"] (defScope sThen) := ⟨rfl, rfl, rfl, by decide +kernel, rfl, by decide +kernel, by decide +kernel⟩
theorem scHall : FnScope ["hall", "turn"] ["hall", "turn"] (defScope sHall) := ⟨rfl, rfl, rfl, by decide +kernel, rfl, by decide +kernel, by decide +kernel⟩
theorem scPair : FnScope ["pair", "turn", "first", "second"] ["pair", "turn"] (defScope sPair) := ⟨rfl, rfl, rfl, by decide +kernel, rfl, by decide +kernel, by decide +kernel⟩
theorem big : (1000000 : Nat) < sizeLine := by rw [sizeLine_eq]; decide
theorem TI.of {K : PySem.W.Frag} {H : Hp} {a : Addr} {k : List Int} (h : H a = some (.tup (k.map V.int))) : TI K H (.ref a) k := ⟨a, rfl, SqT.of h⟩
theorem rgV_idt (n : Nat) : rgV 0 n = (idt n).map V.int := by
  unfold rgV idt
  rw [List.map_map]
  have e : ((n : Int) - 0).toNat = n := by omega
  rw [e]
  refine List.map_congr_left fun i _ => ?_
  show V.int (0 + (i : Int)) = V.int (i : Int)
  rw [Int.zero_add]
def spStill : Sp := fun vs H Q _ => ∃ n : Nat, vs = [.int n] ∧ n ≤ 1000 ∧ ∀ v H', Kp H H' → PT H' v (idt n) → Q v H'
def spThen (K : PySem.W.Frag) : Sp := fun vs H Q _ => ∃ (u v : V) (a b : List Int), vs = [u, v] ∧ TI K H u a ∧ TI K H v b ∧ Low b.length a ∧ a.length ≤ 1000 ∧ ∀ r H', Kp H H' → PT H' r (comp a b) → Q r H'
def spHall (K : PySem.W.Frag) : Sp := fun vs H Q _ => ∃ (i : Int) (v : V) (b : List Int), vs = [.int i, v] ∧ TI K H v b ∧ (0 ≤ i ∧ i < b.length) ∧ Q (.int (b.getD i.toNat 0)) H
def spPair (K : PySem.W.Frag) : Sp := fun vs H Q _ => ∃ (u v : V) (a b : List Int), vs = [u, v] ∧ TI K H u a ∧ TI K H v b ∧ Low b.length a ∧ a.length = 2 ∧ ∀ r H', Kp H H' → PT H' r (comp a b) → Q r H'
section
variable {P : Program} {w : World} {K : PySem.W.Frag} {mg : Str → Option Value} {base : Heap} {f : Addr} {fd : FuncData}
theorem has_then (F : FnP K "then" sThen f fd) (m : mg "then" = some (.ref f)) (B : Bl mg) : Has P w K mg base "then" 1 [] (spThen K) := by
  refine ⟨f, fd, ["first", "second"], [], m, F.kp, F.bindsN (fun _ _ _ _ _ _ us hl => match us, hl with | [_, _], _ => rfl), .nil, ?_⟩
  refine F.ok scThen (fun vs H Q E h => ?_) (fun cdv A outer s H vs Q E hr h => ⟨_, PSs.nox (pss_one (ps_ret (pe_callTy cr_tupP rfl B.tuple PyProof.Rows.boot_tuple (pa_cons
    (pe_lc (own := [("hall", 2)]) (g := gName 2) (tt := tYes) rfl scThen.nd (pi_tup (pv 0)) (blkOk_by (N := ["first", "second", "hall"]) (sc := defScope sThen) (by decide +kernel))
      (fun _ _ _ _ _ => pg_name (i := 2) scThen.nd rfl (Or.inl rfl)) (fun _ _ _ _ _ => pts_nil) (fun _ _ _ _ _ => pe_ix (r := rIxT K) ix_tup (pv 1) (pv 2) (fun _ _ => rfl))) pa_nil)))), ?_⟩)
  · obtain ⟨u, v, a, b, rfl, _⟩ := h
    rfl
  · obtain ⟨u, v, a, b, rfl, ⟨pa, rfl, ha⟩, ⟨pb, rfl, hb⟩, lo, hz, q⟩ := h
    refine ⟨_, rfl, pa, rfl, ⟨_, ha⟩, fun D hD => ?_⟩
    refine lcF (Wlk.tup ha) hD (by rw [List.length_map]; have := big; omega) (fun i y _ => y = .int ((comp a b).getD i 0)) (fun _ _ _ _ _ h => h) (fun i x H' Q1 hi z hx q1 => ?_) (fun x H' Q Q' h q => h _ _ q) (fun ys H' z hD' hp => ?_)
    · obtain ⟨k, e, rfl⟩ := map_some hx
      obtain ⟨h0, h1⟩ := lo k (List.mem_of_getElem? e)
      refine ⟨rfl, _, rfl, _, rfl, pb, _, k, _, rfl, rfl, z.sqT hb, at_ints h0 h1, q1 _ _ (Kp.refl _) ?_⟩
      rw [comp_at e]
    · rw [List.length_map] at hp
      refine ⟨D, _, rfl, SqL.of hD', fun l o hl ho => ?_⟩
      rw [paired_ints (comp_len a b) hp]
      exact q _ _ (z.new hl) (.of upd_same ho)
theorem has_still (F : FnP K "still" sStill f fd) (m : mg "still" = some (.ref f)) (B : Bl mg) : Has P w K mg base "still" 1 [] spStill := by
  refine ⟨f, fd, ["halls"], [], m, F.kp, F.bindsN (fun _ _ _ _ _ _ us hl => match us, hl with | [_], _ => rfl), .nil, ?_⟩
  refine F.ok scStill (fun vs H Q E h => ?_) (fun cdv A outer s H vs Q E hr h => ⟨_, PSs.nox (pss_one (ps_ret (pe_tupRgP rfl rfl B.tuple (prg_1 rfl B.range (pv 0))))), ?_⟩)
  · obtain ⟨n, rfl, _⟩ := h
    rfl
  · obtain ⟨n, rfl, hn, q⟩ := h
    refine ⟨_, rfl, _, rfl, RgOk.of_le (by decide) (by omega) (by decide) (by omega), fun p o hp ho => q _ _ ((Kp.refl _).new hp) (.of ?_ ho)⟩
    rw [upd_same, rgV_idt]
theorem has_hall (F : FnP K "hall_led" sHall f fd) (m : mg "hall_led" = some (.ref f)) : Has P w K mg base "hall_led" 1 [] (spHall K) := by
  refine ⟨f, fd, ["hall", "turn"], [], m, F.kp, F.bindsN (fun _ _ _ _ _ _ us hl => match us, hl with | [_, _], _ => rfl), .nil, ?_⟩
  refine F.ok scHall (fun vs H Q E h => ?_) (fun cdv A outer s H vs Q E hr h => ⟨_, PSs.nox (pss_one (ps_ret (pe_ix (r := rIxT K) ix_tup (pv 1) (pv 0) (fun _ _ => rfl)))), ?_⟩)
  · obtain ⟨i, v, b, rfl, _⟩ := h
    rfl
  · obtain ⟨i, v, b, rfl, ⟨pb, rfl, hb⟩, hi, q⟩ := h
    exact ⟨_, rfl, _, rfl, pb, _, _, _, rfl, rfl, hb, at_ints hi.1 hi.2, q⟩
theorem has_pair (F : FnP K "pair_led" sPair f fd) (m : mg "pair_led" = some (.ref f)) : Has P w K mg base "pair_led" 1 [] (spPair K) := by
  refine ⟨f, fd, ["pair", "turn"], [], m, F.kp, F.bindsN (fun _ _ _ _ _ _ us hl => match us, hl with | [_, _], _ => rfl), .nil, ?_⟩
  refine F.ok scPair (fun vs H Q E h => ?_) (fun cdv A outer s H vs Q E hr h => ⟨_, PSs.nox (pss_cons (ps_asg (pv 0) (pg_tup rfl (pgs_cons (pg_name (i := 2) scPair.nd rfl (Or.inl rfl)) (pgs_cons (pg_name (i := 3) scPair.nd rfl (Or.inl rfl)) pgs_nil))))
    (pss_one (ps_ret (pe_tupP (pa_cons (pe_ix (r := rIxT K) ix_tup (pv 1) (pv 2) (fun _ _ => rfl)) (pa_cons (pe_ix (r := rIxT K) ix_tup (pv 1) (pv 3) (fun _ _ => rfl)) pa_nil)))))), ?_⟩)
  · obtain ⟨u, v, a, b, rfl, _⟩ := h
    rfl
  · obtain ⟨u, v, a, b, rfl, ⟨pa, rfl, ha⟩, ⟨pb, rfl, hb⟩, lo, hl, q⟩ := h
    match a, hl with
    | [x, y], _ =>
      obtain ⟨x0, x1⟩ := lo x (by simp)
      obtain ⟨y0, y1⟩ := lo y (by simp)
      refine ⟨_, rfl, pa, _, rfl, ha, rfl, _, _, rfl, _, _, rfl, rfl, ?_⟩
      refine ⟨_, rfl, _, rfl, pb, _, _, _, rfl, rfl, hb, at_ints x0 x1, _, rfl, _, rfl, pb, _, _, _, rfl, rfl, hb, at_ints y0 y1, (by show 2 ≤ sizeLine; decide), fun p o hp ho => ?_⟩
      exact q _ _ ((Kp.refl _).new hp) (.of upd_same ho)
end
end NS
end
section
set_option maxHeartbeats 4000000
/-! C1: checks, where all is as it should be -/
namespace NS
open PySem PySem.Spec PyProof.Rows L2 ZS
theorem scNumber : FnScope ["value", "least", "most"] ["value", "least", "most"] (defScope sNumber) := ⟨rfl, rfl, rfl, by decide +kernel, rfl, by decide +kernel, by decide +kernel⟩
theorem scIsTurn : FnScope ["halls", "value"] ["halls", "value"] (defScope sIsTurn) := ⟨rfl, rfl, rfl, by decide +kernel, rfl, by decide +kernel, by decide +kernel⟩
theorem scAreTurns : FnScope ["halls", "value"] ["halls", "value"] (defScope sAreTurns) := ⟨rfl, rfl, rfl, by decide +kernel, rfl, by decide +kernel, by decide +kernel⟩
theorem scFault : FnScope ["value", "halls", "turns"] ["value"] (defScope sFault) := ⟨rfl, rfl, rfl, by decide +kernel, rfl, by decide +kernel, by decide +kernel⟩
theorem scCheckHouse : FnScope ["house", "fault"] ["house"] (defScope sCheckHouse) := ⟨rfl, rfl, rfl, by decide +kernel, rfl, by decide +kernel, by decide +kernel⟩
theorem scCheckTurn : FnScope ["halls", "turn"] ["halls", "turn"] (defScope sCheckTurn) := ⟨rfl, rfl, rfl, by decide +kernel, rfl, by decide +kernel, by decide +kernel⟩
theorem scCheckRow : FnScope ["many", "row", "index", "number"] ["many", "row"] (defScope sCheckRow) := ⟨rfl, rfl, rfl, by decide +kernel, rfl, by decide +kernel, by decide +kernel⟩
/-- v is a tuple of plain tuples -/
def PTS (K : PySem.W.Frag) (H : Hp) (v : V) (ts : List (List Int)) : Prop := ∃ b xs, v = .ref b ∧ SqT K H b xs ∧ Paired (PT H) xs ts
/-- v is a house of n halls and these turns -/
def HouseAt (K : PySem.W.Frag) (H : Hp) (v : V) (n : Nat) (ts : List (List Int)) : Prop := ∃ a tv, v = .ref a ∧ SqT K H a [.int n, tv] ∧ PTS K H tv ts
structure IsH (n : Nat) (ts : List (List Int)) : Prop where
  n1 : 1 ≤ n
  n8 : n ≤ 8
  t1 : 1 ≤ ts.length
  t6 : ts.length ≤ 6
  is : ∀ t ∈ ts, IsT n t
theorem Kp.pts {K : PySem.W.Frag} {H H' : Hp} (z : Kp H H') {v : V} {ts : List (List Int)} (h : PTS K H v ts) : PTS K H' v ts := let ⟨b, xs, e, s, p⟩ := h; ⟨b, xs, e, z.sqT s, p.mono fun _ _ q => z.pt q⟩
theorem Kp.house {K : PySem.W.Frag} {H H' : Hp} (z : Kp H H') {v : V} {n : Nat} {ts : List (List Int)} (h : HouseAt K H v n ts) : HouseAt K H' v n ts := let ⟨a, tv, e, s, p⟩ := h; ⟨a, tv, e, z.sqT s, z.pts p⟩
theorem free1 {names : List (Str × NameKind)} {cells : List (Str × Addr)} {x : Str} {c : Addr} (h : (names.all fun y => decide (y.2 = .free → y.1 = x)) = true) (hc : cells.lookup x = some c) : ∀ y ∈ names, y.2 = .free → ∃ c, cells.lookup y.1 = some c := fun y hy e => by
  have := of_decide_eq_true (List.all_eq_true.mp h y hy) e
  exact ⟨c, by rw [this]; exact hc⟩
theorem cap1 {N : List Str} {names : List (Str × NameKind)} {kd : Str → Option NameKind} {x : Str} {i : Nat} (h1 : N[i]? = some x) (h2 : names.lookup x = some .free) (h3 : kd x = some .cell ∨ kd x = some .free) :
    ∀ p ∈ [(x, i)], N[p.2]? = some p.1 ∧ names.lookup p.1 = some .free ∧ (kd p.1 = some .cell ∨ kd p.1 = some .free) := fun p hp => by
  rw [List.mem_singleton.mp hp]
  exact ⟨h1, h2, h3⟩
def spHouse (K : PySem.W.Frag) (P P2 : Addr) : Sp := fun vs H Q _ => ∃ (v : V) (n : Nat) (ts : List (List Int)), vs = [v] ∧ HouseAt K H v n ts ∧ IsH n ts ∧ GxR.TabG H P ∧ GxR.TabG H P2 ∧ ∀ H', Kp H H' → Q .non H'
section
variable {P : Program} {w : World} {K : PySem.W.Frag} {mg : Str → Option Value} {base : Heap} {f : Addr} {fd : FuncData}
end
end NS
end
section
set_option maxHeartbeats 4000000
/-! R1: sets of ints, and of tuples of ints, in one form -/
namespace NS
open PySem PySem.Spec PyProof.Rows L2 ZS
structure One (K : PySem.W.Frag) (P : Program) (w : World) (v : V) (H : Hp) (Q : VK) : Prop where
  h : (∃ b k, v = .ref b ∧ ElK K H b k ∧ ∀ p, H p = none → Q (.ref p) (upd H p (ZSet P w p [(b, k)]))) ∨ (∃ i, v = .int i ∧ ∀ p, H p = none → Q (.ref p) (upd H p (SetO w p (fun j => decide (j = i)) 1)))
structure Nin (K : PySem.W.Frag) (P : Program) (w : World) (x y : V) (H : Hp) (Q : VK) : Prop where
  h : rZIn K P w true x y H Q ∨ rSNotIn w x y H Q
structure Add (K : PySem.W.Frag) (P : Program) (w : World) (s : Addr) (v : V) (H : Hp) (Q : VK) : Prop where
  h : ((∃ a' L', V.ref s = .ref a' ∧ H a' = some (ZSet P w a' L')) ∧ rZAdd K P w (.ref s) [v] H Q) ∨ ((∃ a' S n, V.ref s = .ref a' ∧ H a' = some (SetO w a' S n)) ∧ rSAdd w (.ref s) [v] H Q)
structure Len (K : PySem.W.Frag) (P : Program) (w : World) (xs : List V) (H : Hp) (Q : VK) : Prop where
  h : rZLen K P w xs H Q ∨ rSLen w xs H Q
structure Sor (K : PySem.W.Frag) (P : Program) (w : World) (xs : List V) (H : Hp) (Q : VK) : Prop where
  h : rZSort K P w xs H Q ∨ rSortedSet w xs H Q
theorem pe_imp {X : Cx} {e : Expr} {t t' : TE} (h : PE X e t) (q : ∀ σ H Q, t' σ H Q → t σ H Q) : PE X e t' := ⟨fun pins s σ H Q I w => h.run pins s σ H Q I (q σ H Q w)⟩
theorem op_imp {X : Cx} {f : Value → Value → Sem Value} {r r' : R2} (h : OpR X f r) (q : ∀ x y H Q, r' x y H Q → r x y H Q) : OpR X f r' := fun pins s σ H x y v u Q I rx ry w => h pins s σ H x y v u Q I rx ry (q _ _ _ _ w)
theorem cr_imp {X : Cx} {f : Value} {r r' : List V → Hp → VK → Prop} (h : CallR X f r) (q : ∀ xs H Q, r' xs H Q → r xs H Q) : CallR X f r' := fun pins s σ H xs us Q I rx w => h pins s σ H xs us Q I rx (q _ _ _ w)
def tOne (K : PySem.W.Frag) (P : Program) (w : World) (i : Nat) : TE := fun σ H Q => ∃ v, σ[i]? = some (some v) ∧ One K P w v H Q
def tAdd' (K : PySem.W.Frag) (P : Program) (w : World) (i j : Nat) : TE := fun σ H Q => ∃ s v, σ[i]? = some (some (.ref s)) ∧ σ[j]? = some (some v) ∧ Add K P w s v H Q
structure Rep (K : PySem.W.Frag) (P : Program) (w : World) (α : Type) where
  El : Hp → V → α → Prop
  St : Hp → Addr → List α → Prop
  lt : α → α → Prop
  lim : Nat
  big : lim ≤ 5095
  el_tup : ∀ {H H' : Hp} {v : V} {a : α}, Tup H H' → El H v a → El H' v a
  st_tup : ∀ {H H' : Hp} {s : Addr} {L : List α}, Tup H H' → H' s = H s → St H s L → St H' s L
  st_some : ∀ {H : Hp} {s : Addr} {L : List α}, St H s L → ∃ o, H s = some o ∧ (∀ ps, o ≠ .tbl ps) ∧ L.Nodup
  one : ∀ {H : Hp} {v : V} {a : α} {Q : VK}, El H v a → (∀ p o, H p = none → St (upd H p o) p [a] → Q (.ref p) (upd H p o)) → One K P w v H Q
  notin : ∀ {H : Hp} {v : V} {a : α} {s : Addr} {L : List α} {Q : VK}, El H v a → St H s L → (∀ b, (b = true ↔ a ∉ L) → Q (.bl b) H) → Nin K P w v (.ref s) H Q
  add : ∀ {H : Hp} {v : V} {a : α} {s : Addr} {L : List α} {Q : VK}, El H v a → St H s L → a ∉ L → L.length + 1 < lim → (∀ o, Tup H (upd H s o) → St (upd H s o) s (a :: L) → Q .non (upd H s o)) → Add K P w s v H Q
  len : ∀ {H : Hp} {s : Addr} {L : List α} {Q : VK}, St H s L → Q (.int L.length) H → Len K P w [.ref s] H Q
  sort : ∀ {H : Hp} {s : Addr} {L : List α} {Q : VK}, St H s L → L.length < lim → (∀ p vs L', L'.Perm L → L'.Pairwise lt → H p = none → Paired (El H) vs L' → Q (.ref p) (upd H p (.lst vs))) → Sor K P w [.ref s] H Q
theorem nd1 {α : Type} (a : α) : [a].Nodup := List.nodup_cons.mpr ⟨List.not_mem_nil, List.nodup_nil⟩
theorem pr_ints : ∀ ns : List Int, Paired (fun v a => v = V.int a) (ns.map V.int) ns
  | [] => .nil
  | _ :: r => .cons rfl (pr_ints r)
section
variable {K : PySem.W.Frag} {P : Program} {w : World} {H : Hp} {v : V} {s : Addr} {Q : VK}
def StI (w : World) (H : Hp) (s : Addr) (L : List Int) : Prop := L.Nodup ∧ ∃ S, H s = some (SetO w s S L.length) ∧ ∀ j, S j = true ↔ j ∈ L
theorem stI_add {a : Int} {L : List Int} (e : v = .int a) (h : StI w H s L) (na : a ∉ L) (hl : L.length + 1 < 64) (q : ∀ o, Tup H (upd H s o) → StI w (upd H s o) s (a :: L) → Q .non (upd H s o)) :
    ((∃ a' L', V.ref s = .ref a' ∧ H a' = some (ZSet P w a' L')) ∧ rZAdd K P w (.ref s) [v] H Q) ∨ ((∃ a' S n, V.ref s = .ref a' ∧ H a' = some (SetO w a' S n)) ∧ rSAdd w (.ref s) [v] H Q) := by
  obtain ⟨nd, S, h, m⟩ := h
  subst e
  have sf : S a = false := by
    cases x : S a with
    | false => rfl
    | true => exact absurd ((m a).mp x) na
  refine .inr ⟨⟨s, S, _, rfl, h⟩, s, a, S, _, rfl, rfl, h, by have : scanBound = 4096 := rfl; omega, ?_⟩
  refine q _ (Tup.put (by rw [h]; trivial)) ⟨List.nodup_cons.mpr ⟨na, nd⟩, fun j => S j || decide (j = a), ?_, fun j => ?_⟩
  · rw [upd_same, if_neg (by rw [sf]; exact Bool.false_ne_true)]
    rfl
  · show (S j || decide (j = a)) = true ↔ _
    rw [Bool.or_eq_true, decide_eq_true_iff, m, List.mem_cons]
    exact ⟨fun h => h.symm, fun h => h.symm⟩
theorem stI_sort {L : List Int} (h : StI w H s L) (hl : L.length < 64) (q : ∀ p vs L', L'.Perm L → L'.Pairwise (· < ·) → H p = none → Paired (fun v a => v = V.int a) vs L' → Q (.ref p) (upd H p (.lst vs))) : rSortedSet w [.ref s] H Q := by
  obtain ⟨nd, S, h, m⟩ := h
  refine ⟨s, S, _, rfl, h, hl, fun ns p pw mem _ hp => q p _ ns ?_ pw hp (pr_ints ns)⟩
  have nd2 : ns.Nodup := pw.imp fun h e => by omega
  exact (List.perm_ext_iff_of_nodup nd2 nd).mpr fun x => (mem x).trans (m x)
variable (K P w)
def repI : Rep K P w Int where
  El := fun _ v a => v = .int a
  St := StI w
  lt := (· < ·)
  lim := 64
  big := by decide
  el_tup := fun _ h => h
  st_tup := fun _ e ⟨nd, S, h, m⟩ => ⟨nd, S, by rw [e]; exact h, m⟩
  st_some := fun ⟨nd, S, h, m⟩ => ⟨_, h, (fun _ q => by cases q), nd⟩
  one := fun {H v a Q} e q => ⟨.inr ⟨a, e, fun p hp => q p _ hp ⟨nd1 a, _, upd_same, fun j => by simp⟩⟩⟩
  notin := fun {H v a s L Q} e ⟨nd, S, h, m⟩ q => ⟨.inr ⟨a, s, S, _, e, rfl, h, q _ (by rw [← m]; simp)⟩⟩
  add := fun e h na hl q => ⟨stI_add e h na hl q⟩
  len := fun {H s L Q} ⟨nd, S, h, m⟩ q => ⟨.inr ⟨s, S, _, L, rfl, h, nd, m, q⟩⟩
  sort := fun h hl q => ⟨.inr (stI_sort h hl q)⟩
end
section
variable {K : PySem.W.Frag} {P : Program} {w : World} {H : Hp} {v : V} {s : Addr} {Q : VK}
def ElT (K : PySem.W.Frag) (H : Hp) (v : V) (k : List Int) : Prop := TI K H v k ∧ k ≠ [] ∧ PT H v k
theorem elT {k : List Int} (p : PT H v k) (h : k ≠ []) : ElT K H v k := ⟨p.ti, h, p⟩
abbrev keys (L : List (Addr × List Int)) : List (Addr × NK) := L.map fun p => (p.1, tk p.2)
def StT (K : PySem.W.Frag) (P : Program) (w : World) (H : Hp) (s : Addr) (L : List (List Int)) : Prop := L.Nodup ∧ ∃ L' : List (Addr × List Int), H s = some (ZSet P w s (keys L')) ∧ (L'.map (·.2)).Perm L ∧ ∀ p ∈ L', ElT K H (.ref p.1) p.2
theorem ElT.el {a : Addr} {k : List Int} (h : ElT K H (.ref a) k) : ElK K H a (tk k) := .inl ⟨k, rfl, h.1⟩
theorem keys_el {L : List (Addr × List Int)} (h : ∀ p ∈ L, ElT K H (.ref p.1) p.2) : ∀ p ∈ keys L, ElK K H p.1 p.2 := fun p hp => by
  obtain ⟨q, hq, rfl⟩ := List.mem_map.mp hp
  exact (h q hq).el
theorem keys_snd (L : List (Addr × List Int)) : (keys L).map (·.2) = (L.map (·.2)).map tk := by unfold keys; rw [List.map_map, List.map_map]; rfl
theorem tk_mem {k : List Int} {L : List (List Int)} : tk k ∈ L.map tk ↔ k ∈ L := by
  rw [List.mem_map]
  exact ⟨fun ⟨x, hx, e⟩ => tk_inj e ▸ hx, fun h => ⟨k, h, rfl⟩⟩
theorem ElT.tup {H' : Hp} {k : List Int} (z : Tup H H') (h : ElT K H v k) : ElT K H' v k := ⟨z.ti h.1, h.2.1, NS.Tup.pt z h.2.2⟩
theorem stT_add {a : List Int} {L : List (List Int)} (e : ElT K H v a) (h : StT K P w H s L) (na : a ∉ L) (hl : L.length + 1 < 5090) (q : ∀ o, Tup H (upd H s o) → StT K P w (upd H s o) s (a :: L) → Q .non (upd H s o)) :
    ((∃ a' L', V.ref s = .ref a' ∧ H a' = some (ZSet P w a' L')) ∧ rZAdd K P w (.ref s) [v] H Q) ∨ ((∃ a' S n, V.ref s = .ref a' ∧ H a' = some (SetO w a' S n)) ∧ rSAdd w (.ref s) [v] H Q) := by
  obtain ⟨nd, L', h, pm, el⟩ := h
  obtain ⟨b, rfl, hb⟩ := id e.1
  have hlen := pm.length_eq
  rw [List.length_map] at hlen
  have nk : tk a ∉ (keys L').map (·.2) := by
    rw [keys_snd, tk_mem]
    exact fun h => na (pm.mem_iff.mp h)
  refine .inl ⟨⟨s, _, rfl, h⟩, s, b, tk a, keys L', rfl, rfl, h, keys_el el, e.el, by have : zBound = 9000 := rfl; rw [List.length_map]; omega, fun L2 _ h2 => ?_⟩
  obtain ⟨L3, rfl, p3⟩ := ZS.perm_lift (f := fun p : Addr × List Int => (p.1, tk p.2)) (h2 nk) ((b, a) :: L') rfl
  have z : Tup H (upd H s (ZSet P w s (keys L3))) := Tup.put (by rw [h]; trivial)
  refine q _ z ⟨List.nodup_cons.mpr ⟨na, nd⟩, L3, upd_same, (p3.map _).trans (List.Perm.cons a pm), fun p hp => ?_⟩
  rcases List.mem_cons.mp (p3.mem_iff.mp hp) with rfl | hp
  · exact e.tup z
  · exact (el p hp).tup z
theorem stT_sort {L : List (List Int)} (h : StT K P w H s L) (hl : L.length < 5090) (q : ∀ p vs L', L'.Perm L → L'.Pairwise (fun a b => lexI a b = true) → H p = none → Paired (ElT K H) vs L' → Q (.ref p) (upd H p (.lst vs))) : rZSort K P w [.ref s] H Q := by
  obtain ⟨nd, L', h, pm, el⟩ := h
  have hlen := pm.length_eq
  rw [List.length_map] at hlen
  refine ⟨s, L', rfl, h, fun p hp => ⟨(el p hp).1, (el p hp).2.1⟩, by have : scanBound = 4096 := rfl; omega, fun L2 p p2 pw hp => q p _ (L2.map (·.2)) ((p2.map _).trans pm) ?_ hp ?_⟩
  · exact List.pairwise_map.mpr pw
  · have go : ∀ l : List (Addr × List Int), (∀ p ∈ l, ElT K H (.ref p.1) p.2) → Paired (ElT K H) (l.map fun q => V.ref q.1) (l.map (·.2)) := fun l => by
      induction l with
      | nil => exact fun _ => .nil
      | cons x r ih => exact fun h => .cons (h x (List.mem_cons_self ..)) (ih fun p hp => h p (List.mem_cons_of_mem _ hp))
    exact go L2 fun p hp => el p (p2.mem_iff.mp hp)
variable (K P w)
def repT : Rep K P w (List Int) where
  El := ElT K
  St := StT K P w
  lt := fun a b => lexI a b = true
  lim := 4096
  big := by decide
  el_tup := ElT.tup
  st_tup := fun z e ⟨nd, L', h, pm, el⟩ => ⟨nd, L', by rw [e]; exact h, pm, fun p hp => (el p hp).tup z⟩
  st_some := fun ⟨nd, L', h, _⟩ => ⟨_, h, (fun _ q => by cases q), nd⟩
  one := fun {H v a Q} e q => by
    obtain ⟨b, rfl, hb⟩ := id e.1
    refine ⟨.inl ⟨b, tk a, rfl, e.el, fun p hp => q p _ hp ⟨nd1 a, [(b, a)], upd_same, List.Perm.refl _, fun x hx => ?_⟩⟩⟩
    rw [List.mem_singleton.mp hx]
    exact e.tup (Tup.new hp)
  notin := fun {H v a s L Q} e ⟨nd, L', h, pm, el⟩ q => by
    obtain ⟨b, rfl, hb⟩ := id e.1
    refine ⟨.inl ⟨s, b, tk a, _, rfl, rfl, h, keys_el el, e.el, ?_⟩⟩
    rw [if_pos rfl]
    refine q _ ?_
    rw [keys_snd]
    simp only [Bool.not_eq_true', decide_eq_false_iff_not, tk_mem]
    rw [pm.mem_iff]
  add := fun e h na hl q => ⟨stT_add e h na (Nat.lt_trans hl (by decide)) q⟩
  len := fun {H s L Q} ⟨nd, L', h, pm, el⟩ q => ⟨.inl ⟨s, _, rfl, h, by
    have := pm.length_eq
    rw [List.length_map] at this
    rw [List.length_map, this]
    exact q⟩⟩
  sort := fun h hl q => ⟨.inl (stT_sort h (Nat.lt_trans hl (by decide)) q)⟩
/-- the same, up to more -/
def repT5 : Rep K P w (List Int) := { repT K P w with
  lim := 5090
  big := by decide
  add := fun e h na hl q => ⟨stT_add e h na hl q⟩
  sort := fun h hl q => ⟨.inl (stT_sort h hl q)⟩ }
end
section
variable {X : Cx}
theorem pe_one' {i : Nat} {e : Expr} {pos : Pos} (hu : X.A.units + 64 < cLine) (hcd : PySem.W.kdsCode X.K X.env.code = true) (he : PE X e (tVar i)) (hp : PySem.W.kdsPlain e = true := by rfl) : PE X (.Set [e] 0 pos) (tOne X.K X.prog X.w i) :=
  pe_imp (pe_set1 hu hcd he hp) fun _ _ _ ⟨v, h, o⟩ => ⟨v, h, o.h⟩
theorem op_nin (hu : X.A.units + 64 < cLine) : OpR X (compareOp .NotIn) (Nin X.K X.prog X.w) := op_imp (OpR.either (or_znotin hu) or_snotin) fun _ _ _ _ h => h.h
theorem cr_len' : CallR X (.builtin "len") (Len X.K X.prog X.w) := cr_imp (CallR.either cr_zlen cr_slen) fun _ _ _ h => h.h
theorem cr_sor (hc : X.calm = true) : CallR X (.builtin "sorted") (Sor X.K X.prog X.w) := cr_imp (CallR.either (cr_zsort hc) (cr_sortedSet hc)) fun _ _ _ h => h.h
theorem uadd_of {K : PySem.W.Frag} {P : Program} {w : World} {σ : L2.St} {H : Hp} {Q : VK} {i j : Nat} (h : tAdd' K P w i j σ H Q) : tUAdd K P w (tVar i) (tCons (tVar j) tNil) σ H Q :=
  let ⟨s, v, hi, hj, h⟩ := h
  ⟨_, hi, h.h.elim (fun h => .inl ⟨h.1, _, hj, h.2⟩) (fun h => .inr ⟨h.1, _, hj, h.2⟩)⟩
end
end NS
end
section
/-! P2: halls called otherwise -/
namespace NS
/-- t with its halls called by m -/
def conj (m t : List Int) : List Int := comp (comp (inv m) t) m
section
variable {n : Nat} {m t : List Int}
theorem IsT.conj (hm : IsT n m) (ht : IsT n t) : IsT n (conj m t) := (hm.inv.comp ht).comp hm
theorem at_conj (hm : IsT n m) (ht : IsT n t) {k : Nat} (hk : k < n) : at' (conj m t) (at' m k) = at' m (at' t k) := by
  unfold NS.conj
  have h := hm.lt hk
  rw [at_comp (hm.inv.comp ht) m h, at_comp hm.inv t h, at_inv hm h]
  have e : m.idxOf (at' m k : Int) = k := by
    obtain ⟨h1, h2⟩ := idx_of hm h
    exact hm.inj h1 hk h2
  rw [e]
theorem conj_comp (hm : IsT n m) {a b : List Int} (ha : IsT n a) (hb : IsT n b) : conj m (comp a b) = comp (conj m a) (conj m b) :=
  (hm.conj (ha.comp hb)).ext ((hm.conj ha).comp (hm.conj hb)) fun p hp => by
    obtain ⟨h1, h2⟩ := idx_of hm hp
    have e := at_conj hm (ha.comp hb) h1
    have e2 := at_conj hm ha h1
    have e3 := at_conj hm hb (ha.lt h1)
    rw [h2] at e e2
    rw [e, at_comp (hm.conj ha) _ hp, e2, e3, at_comp ha b h1]
theorem conj_idt (hm : IsT n m) : conj m (idt n) = idt n := by
  unfold NS.conj
  rw [comp_idt hm.inv, inv_comp hm]
end
end NS
end
section
/-! M2: what is reached leads back -/
namespace NS
theorem nd_of {α : Type} [DecidableEq α] : ∀ l : List α, ∃ L : List α, L.Nodup ∧ ∀ x, x ∈ L ↔ x ∈ l
  | [] => ⟨[], List.nodup_nil, fun _ => Iff.rfl⟩
  | a :: l => by
    obtain ⟨L, nd, mem⟩ := nd_of l
    by_cases h : a ∈ L
    · exact ⟨L, nd, fun x => ⟨fun hx => List.mem_cons_of_mem _ ((mem x).mp hx), fun hx => by
        rcases List.mem_cons.mp hx with e | e
        · rw [e]; exact h
        · exact (mem x).mpr e⟩⟩
    · exact ⟨a :: L, List.nodup_cons.mpr ⟨h, nd⟩, fun x => by rw [List.mem_cons, List.mem_cons, mem x]⟩
/-- what the turns make of a start -/
inductive Rch {α : Type} (step : α → List Int → α) (ts : List (List Int)) (a0 : α) : α → Prop
  | base : Rch step ts a0 a0
  | next {a : α} {t : List Int} : Rch step ts a0 a → t ∈ ts → Rch step ts a0 (step a t)
section
variable {α : Type} {step : α → List Int → α} {ts : List (List Int)} {a0 a b : α} {U : List α}
theorem Rch.inU (h0 : a0 ∈ U) (hc : ∀ a ∈ U, ∀ t ∈ ts, step a t ∈ U) (h : Rch step ts a0 a) : a ∈ U := by
  induction h with
  | base => exact h0
  | next _ ht ih => exact hc _ ih _ ht
theorem Rch.trans (h : Rch step ts a0 a) (h' : Rch step ts a b) : Rch step ts a0 b := by
  induction h' with
  | base => exact h
  | next _ ht ih => exact .next ih ht
theorem Rch.back (hc : ∀ a ∈ U, ∀ t ∈ ts, step a t ∈ U) (inj : ∀ t ∈ ts, ∀ a ∈ U, ∀ b ∈ U, step a t = step b t → a = b) (ha : a ∈ U) {t : List Int} (ht : t ∈ ts) : Rch step ts (step a t) a := by
  classical
  -- the list of what the later one reaches
  obtain ⟨L, nd, mem0⟩ := nd_of (U.filter fun y => decide (Rch step ts (step a t) y))
  have mem : ∀ y, y ∈ L ↔ y ∈ U ∧ Rch step ts (step a t) y := fun y => by rw [mem0, List.mem_filter, decide_eq_true_iff]
  have xU := hc a ha t ht
  have nd2 : (L.map fun y => step y t).Nodup := nodup_map nd fun x hx y hy e => inj t ht x ((mem x).mp hx).1 y ((mem y).mp hy).1 e
  have sub : ∀ x ∈ L.map (fun y => step y t), x ∈ L := fun x hx => by
    obtain ⟨y, hy, rfl⟩ := List.mem_map.mp hx
    exact (mem _).mpr ⟨hc y ((mem y).mp hy).1 t ht, .next ((mem y).mp hy).2 ht⟩
  have all := nd_all nd2 sub (by rw [List.length_map]; exact Nat.le_refl _) (step a t) ((mem _).mpr ⟨xU, .base⟩)
  obtain ⟨y, hy, e⟩ := List.mem_map.mp all
  have := inj t ht y ((mem y).mp hy).1 a ha e
  have h2 := ((mem y).mp hy).2
  rw [this] at h2
  exact h2
theorem Rch.symm (hc : ∀ a ∈ U, ∀ t ∈ ts, step a t ∈ U) (inj : ∀ t ∈ ts, ∀ a ∈ U, ∀ b ∈ U, step a t = step b t → a = b) (h0 : a0 ∈ U) (h : Rch step ts a0 a) : Rch step ts a a0 := by
  induction h with
  | base => exact .base
  | next h ht ih => exact (Rch.back hc inj (h.inU h0 hc) ht).trans ih
end
end NS
end
section
set_option maxHeartbeats 4000000
/-! R2: reached -/
namespace NS
open PySem PySem.Spec PyProof.Rows L2 ZS
def spReached (K : PySem.W.Frag) (P : Program) (w : World) (S : Addr → Option Sp) : Sp := fun vs H Q _ => ∃ (α : Type) (R : Rep K P w α) (step : α → List Int → α) (a0 : α) (ts : List (List Int)) (U : List α) (start tv most : V) (fl : Addr) (spl : Sp),
  vs = [start, tv, .ref fl, most] ∧ R.El H start a0 ∧ PTS K H tv ts ∧ S fl = some spl ∧
  a0 ∈ U ∧ (∀ a ∈ U, ∀ t ∈ ts, step a t ∈ U) ∧ U.length + 1 < R.lim ∧ (most = .non ∨ ∃ m : Int, most = .int m ∧ (U.length : Int) ≤ m) ∧
  (∀ H1 thing tw a t Q1, Kp H H1 → R.El H1 thing a → a ∈ U → PT H1 tw t → t ∈ ts → (∀ v H2, Kp H1 H2 → R.El H2 v (step a t) → Q1 v H2) → spl [thing, tw] H1 Q1 (fun _ _ _ => False)) ∧
  ∀ p o H' vs' L, Kp H H' → H' p = some (.frz o (.tup vs')) → o.dict = none → Paired (R.El H') vs' L → L.Pairwise R.lt → L.Nodup → (∀ a, a ∈ L ↔ Rch step ts a0 a) → Q (.ref p) H'
/-- reached: all of it, or some and more than most -/
def spReachedM (K : PySem.W.Frag) (P : Program) (w : World) (S : Addr → Option Sp) : Sp := fun vs H Q _ => ∃ (α : Type) (R : Rep K P w α) (step : α → List Int → α) (a0 : α) (ts : List (List Int)) (U : List α) (start tv most : V) (fl : Addr) (spl : Sp),
  vs = [start, tv, .ref fl, most] ∧ R.El H start a0 ∧ PTS K H tv ts ∧ S fl = some spl ∧
  a0 ∈ U ∧ (∀ a ∈ U, ∀ t ∈ ts, step a t ∈ U) ∧ U.length + 1 < R.lim ∧ (most = .non ∨ ∃ m : Int, most = .int m) ∧
  (∀ H1 thing tw a t Q1, Kp H H1 → R.El H1 thing a → a ∈ U → PT H1 tw t → t ∈ ts → (∀ v H2, Kp H1 H2 → R.El H2 v (step a t) → Q1 v H2) → spl [thing, tw] H1 Q1 (fun _ _ _ => False)) ∧
  ∀ p o H' vs' L, Kp H H' → H' p = some (.frz o (.tup vs')) → o.dict = none → Paired (R.El H') vs' L → L.Pairwise R.lt → L.Nodup → (∀ a ∈ L, Rch step ts a0 a) → ((∀ a, Rch step ts a0 a → a ∈ L) ∨ ∃ m : Int, most = .int m ∧ m < (L.length : Int)) → Q (.ref p) H'
theorem spReached_M {K : PySem.W.Frag} {P : Program} {w : World} {S : Addr → Option Sp} (vs : List V) (H : Hp) (Q : VK) (E : XK) (h : spReached K P w S vs H Q E) : spReachedM K P w S vs H Q E := by
  classical
  obtain ⟨α, R, step, a0, ts, U, start, tv, most, fl, spl, rfl, h0, hT, hS, u0, uc, ul, hm, hl, q⟩ := h
  refine ⟨α, R, step, a0, ts, U, start, tv, most, fl, spl, rfl, h0, hT, hS, u0, uc, ul, hm.imp id (fun ⟨m, e, _⟩ => ⟨m, e⟩), hl, fun p o H' vs' L zk hp ho hpr hpw hnd hr hall => q p o H' vs' L zk hp ho hpr hpw hnd fun a => ⟨hr a, fun ha => ?_⟩⟩
  rcases hall with h | ⟨m, e, hlt⟩
  · exact h a ha
  · exfalso
    rcases hm with h | ⟨m', e', hle⟩
    · rw [h] at e; cases e
    · rw [e'] at e
      cases e
      have := nd_le hnd (fun b hb => (hr b hb).inU u0 uc)
      omega
theorem scReached : FnScope ["start", "turns", "lead", "most", "seen", "waiting", "thing", "turn", "after"] ["start", "turns", "lead", "most"] (defScope sReached) := ⟨rfl, rfl, rfl, by decide +kernel, rfl, by decide +kernel, by decide +kernel⟩
theorem kds_of {K : PySem.W.Frag} {cd : Value} {q : Str} (h : PySem.W.codeIn K cd q = true) : PySem.W.kdsCode K cd = true := by
  unfold PySem.W.codeIn at h
  unfold PySem.W.kdsCode
  split at h
  · rename_i c
    split at h
    · rename_i heq
      simp only [heq]
    · cases h
  · cases h
theorem codeD {K : PySem.W.Frag} {x qual : Str} {params : Arguments} {body : List Stmt} {scope : Scope} {dvs : List V} {kws : List (Str × V)} {f : Addr} {fd : FuncData} (F : FunD K x qual params body scope dvs kws f fd) : PySem.W.codeIn K fd.code qual = true := by
  obtain ⟨oc, od, dV, kV, doc, pm, an, cdv, ct, osl, rfl, lk, hcd, _, _⟩ := F.ex
  exact hcd
theorem pair_el {K : PySem.W.Frag} {P : Program} {w : World} {α : Type} (R : Rep K P w α) {H H' : Hp} (z : Tup H H') {vs : List V} {as : List α} (h : Paired (R.El H) vs as) : Paired (R.El H') vs as := h.mono fun _ _ q => R.el_tup z q
theorem pr_append {α β : Type} {F : α → β → Prop} : ∀ {xs : List α} {ys : List β}, Paired F xs ys → xs ≠ [] → ∃ x y xs' ys', xs = xs' ++ [x] ∧ ys = ys' ++ [y] ∧ F x y ∧ Paired F xs' ys'
  | _, _, .nil, h => absurd rfl h
  | [x], [y], .cons p .nil, _ => ⟨x, y, [], [], rfl, rfl, p, .nil⟩
  | x :: x2 :: xs, y :: y2 :: ys, .cons p t, _ => by
    obtain ⟨u, v, xs', ys', e1, e2, q, r⟩ := pr_append t (by simp)
    exact ⟨u, v, x :: xs', y :: ys', by rw [e1]; rfl, by rw [e2]; rfl, q, .cons p r⟩
/-- ahead of each turn of the while -/
def WR {K : PySem.W.Frag} {P : Program} {w : World} {α : Type} (R : Rep K P w α) (step : α → List Int → α) (ts : List (List Int)) (a0 : α) (U : List α) (H : Hp) (start : V) (tb fl : Addr) (most : V) (sa wa : Addr) (m : Nat) (σ : L2.St) (H' : Hp) : Prop :=
  ∃ (L : List α) (ws : List V) (as : List α) (x y z : Option V), σ = [some start, some (.ref tb), some (.ref fl), some most, some (.ref sa), some (.ref wa), x, y, z] ∧ Kp H H' ∧ R.St H' sa L ∧ H' wa = some (.lst ws) ∧ Paired (R.El H') ws as ∧
    (∀ a ∈ as, a ∈ L) ∧ (∀ a ∈ L, Rch step ts a0 a) ∧ a0 ∈ L ∧ (∀ a ∈ L, a ∉ as → ∀ t ∈ ts, step a t ∈ L) ∧ m = 2 * (U.length - L.length) + as.length ∧ m ≤ 2 * U.length + 1
/-- ahead of each turn of the for -/
def FR {K : PySem.W.Frag} {P : Program} {w : World} {α : Type} (R : Rep K P w α) (step : α → List Int → α) (ts : List (List Int)) (a0 : α) (U : List α) (H : Hp) (start : V) (tb fl : Addr) (most : V) (sa wa : Addr) (v : V) (a : α) (m : Nat) (i : Nat) (σ : L2.St) (H' : Hp) : Prop :=
  ∃ (L : List α) (ws : List V) (as : List α) (y z : Option V), σ = [some start, some (.ref tb), some (.ref fl), some most, some (.ref sa), some (.ref wa), some v, y, z] ∧ Kp H H' ∧ R.El H' v a ∧ a ∈ L ∧ R.St H' sa L ∧ H' wa = some (.lst ws) ∧ Paired (R.El H') ws as ∧
    (∀ a ∈ as, a ∈ L) ∧ (∀ a ∈ L, Rch step ts a0 a) ∧ a0 ∈ L ∧ (∀ b ∈ L, b ∉ as → b ≠ a → ∀ t ∈ ts, step b t ∈ L) ∧ (∀ j, j < i → ∀ t, ts[j]? = some t → step a t ∈ L) ∧ 2 * (U.length - L.length) + as.length < m
theorem FR.kp {K : PySem.W.Frag} {P : Program} {w : World} {α : Type} {R : Rep K P w α} {step : α → List Int → α} {ts : List (List Int)} {a0 : α} {U : List α} {H : Hp} {start : V} {tb fl : Addr} {most : V} {sa wa : Addr} {v : V} {a : α} {m i : Nat} {σ : L2.St} {H' : Hp} (h : FR R step ts a0 U H start tb fl most sa wa v a m i σ H') : Kp H H' := by
  obtain ⟨L, ws, as, y, z, _, zk, _⟩ := h
  exact zk
section
variable {P : Program} {w : World} {K : PySem.W.Frag} {mg : Str → Option Value} {base : Heap} {f : Addr} {fd : FuncData}
theorem ok_reachedM (F : FunD K "reached" "reached" (defArgs sReached) (defBody sReached) (defScope sReached) [.non] [] f fd) (B : Bl mg) {S : Addr → Option Sp} (A : ∀ f sp, S f = some sp → Held P w K mg base 2 f sp) :
    FnOk P w K mg base CX0 3 f fd ["start", "turns", "lead", "most"] (spReachedM K P w S) := by
  refine ok_code F scReached (fun vs H Q E h => ?_) (fun cdv A' outer s H vs Q E hcd hr h => ⟨_, PSs.nox (
    pss_cons (ps_set (i := 4) scReached.nd rfl (Or.inl rfl) (pe_one' hr.units (show PySem.W.kdsCode K cdv = true by rw [hcd]; exact kds_of (codeD F)) (pv 0)))
    (pss_cons (ps_set (i := 5) scReached.nd rfl (Or.inl rfl) (pe_lst (pa_cons (pv 0) pa_nil)))
    (pss_cons (ps_while PassesOwn.never (PW.pt (pw_and (pt_truth (pv 5) (fun _ => rfl)) (pw_and1 (PW.pt (pw_or (pt_cmp (pc_isN (pv 3))) (pw_or1 (pt_cmpR op_le (pe_callB cr_len' rfl B.len PySem.boot_len (pa_cons (pv 4) pa_nil)) (pv 3) (nomark _)))))))) 
      (pss_cons (ps_set (i := 6) scReached.nd rfl (Or.inl rfl) (pe_bm0 PySem.F.plainAttrs_list PySem.F.slot_list_pop PySem.F.type_list_pop mt_pop (pv 5)))
      (pss_one (ps_for PassesOwn.never rfl (pi_tup (pv 1)) (pg_name (i := 7) scReached.nd rfl (Or.inl rfl))
        (pss_cons (ps_set (i := 8) scReached.nd rfl (Or.inl rfl) (pe_callA (i := 2) A hr rfl (.inl rfl) (pa_cons (pv 6) (pa_cons (pv 7) pa_nil))))
        (pss_one (ps_if (pt_cmpR (op_nin hr.units) (pv 8) (pv 4) rfl)
          (pss_cons (ps_expr (pe_imp (pe_uadd hr.units (pv 4) (pa_cons (pv 8) pa_nil)) (fun _ _ _ h => uadd_of h))) (pss_one (ps_expr (pe_bm PySem.F.plainAttrs_list PySem.F.slot_list_append PySem.F.type_list_append mt_append (pv 5) (pa_cons (pv 8) pa_nil))))) pss_nil)))))))
    (pss_one (ps_ret (pe_callTy cr_tupP rfl B.tuple PyProof.Rows.boot_tuple (pa_cons (pe_callB (cr_sor rfl) rfl B.sorted PyProof.Rows.boot_sorted (pa_cons (pv 4) pa_nil)) pa_nil))))))), ?_⟩)
  · obtain ⟨α, R, step, a0, ts, U, start, tv, most, fl, spl, rfl, _⟩ := h
    rfl
  · classical
    obtain ⟨α, R, step, a0, ts, U, start, tv, most, fl, spl, rfl, h0, ⟨tb, tvs, rfl, hT, hp⟩, hS, u0, uc, ul, hm, hl, q⟩ := h
    refine ⟨_, rfl, R.one h0 fun sa o hsa st1 => ?_⟩
    refine ⟨_, rfl, (by show 1 ≤ sizeLine; decide), fun wa hwa => ?_⟩
    have nws : wa ≠ sa := fun e => by rw [e, upd_same] at hwa; cases hwa
    have hwa0 : H wa = none := by rw [upd_ne nws] at hwa; exact hwa
    have tl := hp.length
    have Rb := R.big
    have inU : ∀ L : List α, (∀ b ∈ L, Rch step ts a0 b) → ∀ b ∈ L, b ∈ U := fun L h b hb => (h b hb).inU u0 uc
    refine ⟨WR R step ts a0 U H start tb fl most sa wa, ⟨2 * (U.length - 1) + 1, [a0], [start], [a0], none, none, none, rfl, ((Kp.refl H).new hsa).put hwa0, R.st_tup (Tup.new hwa) (upd_ne nws.symm) st1, upd_same, .cons (R.el_tup ((Tup.new hsa).trans (Tup.new hwa)) h0) .nil, fun a h => h, fun a h => by rw [List.mem_singleton.mp h]; exact .base, List.mem_singleton.mpr rfl, fun a h h' => absurd h h', rfl, by omega⟩, ?_⟩
    rintro m σ H' ⟨L, ws, as, x, y, z, rfl, zk, st, hw, hp2, sub, rch, m0, cl, rfl, mle⟩
    obtain ⟨os, hos, nos, ndL⟩ := R.st_some st
    have lU : L.length ≤ U.length := nd_le ndL (inU L rch)
    have hor : ∀ Qw : Bool → Hp → Prop, Qw true H' → ((∃ m : Int, most = .int m ∧ m < (L.length : Int)) → Qw false H') → tOr (tB (tIsN (tVar 3))) (tTest (tOp (rI0 fun i j => .bl (decide (i ≤ j))) (tCB (Len K P w) (tCons (tVar 4) tNil)) (tVar 3))) [some start, some (.ref tb), some (.ref fl), some most, some (.ref sa), some (.ref wa), x, y, z] H' Qw := fun Qw hq hf => by
      rcases hm with rfl | ⟨mm, rfl⟩
      · exact ⟨_, rfl, _, rfl, ifT (A := _) (B := _) (decide_eq_true rfl) hq⟩
      · refine ⟨_, rfl, _, rfl, ifF (A := _) (B := _) (decide_eq_false (fun e => by cases e)) ⟨_, rfl, R.len st ⟨_, rfl, _, _, rfl, rfl, _, rfl, ?_⟩⟩⟩
        by_cases hle : (L.length : Int) ≤ mm
        · rw [decide_eq_true hle]
          exact hq
        · rw [decide_eq_false hle]
          exact hf ⟨mm, rfl, by omega⟩
    have fin : ((∀ a, Rch step ts a0 a → a ∈ L) ∨ ∃ m : Int, most = .int m ∧ m < (L.length : Int)) → tCB (fun xs H Q => ∃ p ys, xs = [.ref p] ∧ SqL K H p ys ∧ ∀ l o, H l = none → o.dict = none → Q (.ref l) (upd H l (.frz o (.tup ys)))) (tCons (tCB (Sor K P w) (tCons (tVar 4) tNil)) tNil) [some start, some (.ref tb), some (.ref fl), some most, some (.ref sa), some (.ref wa), x, y, z] H' Q := fun hall => by
      refine ⟨_, rfl, R.sort st (by omega) fun p vs' L' pm pw hpn hpr => ⟨p, vs', rfl, SqL.of upd_same, fun l o2 hl2 ho2 => ?_⟩⟩
      exact q l o2 _ vs' L' ((zk.new hpn).new hl2) upd_same ho2 (pair_el R ((Tup.new hpn).trans (Tup.new hl2)) hpr) pw (pm.nodup_iff.mpr ndL) (fun a ha => rch a (pm.mem_iff.mp ha)) (hall.imp (fun h a ha => pm.mem_iff.mpr (h a ha)) (fun ⟨m, e, hlt⟩ => ⟨m, e, by rw [pm.length_eq]; exact hlt⟩))
    refine ⟨_, rfl, _, .inl ⟨ws, SqL.of hw, rfl⟩, ?_⟩
    by_cases hws : ws = []
    · subst hws
      cases hp2
      refine ifF (A := _) (B := _) rfl (ifF (A := _) (B := _) rfl (fin (.inl fun a h => ?_)))
      induction h with
      | base => exact m0
      | next _ ht ih => exact cl _ ih List.not_mem_nil _ ht
    · refine ifT (A := _) (B := _) (by cases ws with | nil => exact absurd rfl hws | cons _ _ => rfl) (hor _ (ifT (A := _) (B := _) rfl ?_) fun hm => ifF (A := _) (B := _) rfl (fin (.inr hm)))
      obtain ⟨v, a, ws', as', rfl, rfl, hva, hp3⟩ := pr_append hp2 hws
      refine ⟨fun σ' H'' => ∃ m', m' < 2 * (U.length - L.length) + (as' ++ [a]).length ∧ WR R step ts a0 U H start tb fl most sa wa m' σ' H'', fun σ' H'' h => h, ?_⟩
      refine ⟨_, rfl, .inl ⟨rfl, _, SqL.of hw⟩, wa, _, v, rfl, rfl, hw, by simp, ?_⟩
      rw [List.dropLast_concat]
      have tz : Tup H' (upd H' wa (.lst ws')) := Tup.put (by rw [hw]; trivial)
      refine ⟨_, rfl, tb, rfl, ⟨_, (zk.put hwa0).sqT hT⟩, ?_⟩
      refine forG (Wlk.tup hT) (FR R step ts a0 U H start tb fl most sa wa v a (2 * (U.length - L.length) + (as' ++ [a]).length)) ⟨L, ws', as', y, z, rfl, zk.put hwa0, R.el_tup tz hva, sub a (by simp), R.st_tup tz (upd_ne nws.symm) st, upd_same, pair_el R tz hp3, fun b hb => sub b (by simp [hb]), rch, m0, fun b hb h1 h2 => cl b hb (by simp [h1, h2]), fun j hj => absurd hj (Nat.not_lt_zero _), by rw [List.length_append]; simp⟩
        (fun i σ' H1 _ h => h.kp) (fun i tw σ' H1 H2 hi hpv z12 hx => ?_) (fun σ' H1 hpv => ?_)
      · obtain ⟨L4, ws4, as4, y4, z4, rfl, zk4, el4, ma, st4, hw4, hp4, sub4, rch4, m04, cl4, done4, ms⟩ := hpv
        obtain ⟨os4, hos4, nos4, nd4⟩ := R.st_some st4
        obtain ⟨t, ht, pt⟩ := pr_get hp hx
        have mt := List.mem_of_getElem? ht
        have lU4 : L4.length ≤ U.length := nd_le nd4 (inU L4 rch4)
        refine ⟨fl, spl, rfl, hS, _, rfl, _, rfl, hl _ _ _ a t _ (zk4.trans z12) (R.el_tup z12.tup el4) (inU L4 rch4 a ma) ((zk4.trans z12).pt pt) mt fun v' H4 z24 e4 => ?_⟩
        have zz := z12.trans z24
        have st5 := R.st_tup zz.tup ((zz.k _ _ hos4 nos4).trans hos4.symm) st4
        have hw5 := zz.lst hw4
        refine ⟨_, rfl, _, rfl, R.notin e4 st5 fun b hb => ⟨_, rfl, ?_⟩⟩
        by_cases hb1 : b = true
        · have na := hb.mp hb1
          have lU5 : (step a t :: L4).length ≤ U.length := nd_le (List.nodup_cons.mpr ⟨na, nd4⟩) (inU _ fun b hb => by
            rcases List.mem_cons.mp hb with e | e
            · rw [e]; exact .next (rch4 a ma) mt
            · exact rch4 b e)
          simp only [List.length_cons] at lU5
          refine ifT (A := _) (B := _) hb1 ⟨_, _, rfl, rfl, R.add e4 st5 na (by omega) fun o5 z5 st6 => ?_⟩
          have hw6 : (upd H4 sa o5) wa = some (.lst ws4) := by rw [upd_ne nws]; exact hw5
          have pl := hp4.length
          refine ⟨_, rfl, .inl ⟨rfl, _, SqL.of hw6⟩, _, rfl, wa, ws4, v', rfl, rfl, hw6, by rw [sizeLine_eq]; omega, ?_⟩
          have z6 : Tup (upd H4 sa o5) (upd (upd H4 sa o5) wa (.lst (ws4 ++ [v']))) := Tup.put (by rw [hw6]; trivial)
          have z46 := z5.trans z6
          refine ⟨step a t :: L4, ws4 ++ [v'], as4 ++ [step a t], _, _, rfl, ((zk4.trans zz).put hsa).put hwa0, R.el_tup (zz.tup.trans z46) el4, List.mem_cons_of_mem _ ma, R.st_tup z6 (upd_ne nws.symm) st6, upd_same, Paired.snoc (pair_el R (zz.tup.trans z46) hp4) (R.el_tup z46 e4), fun b hb => ?_, fun b hb => ?_, List.mem_cons_of_mem _ m04, fun b hb h1 h2 t' ht' => ?_, fun j hj t' ht' => ?_, ?_⟩
          · rcases List.mem_append.mp hb with e | e
            · exact List.mem_cons_of_mem _ (sub4 b e)
            · rw [List.mem_singleton.mp e]; exact List.mem_cons_self ..
          · rcases List.mem_cons.mp hb with e | e
            · rw [e]; exact .next (rch4 a ma) mt
            · exact rch4 b e
          · rcases List.mem_cons.mp hb with e | e
            · exact absurd (by rw [e]; simp) h1
            · exact List.mem_cons_of_mem _ (cl4 b e (fun h => h1 (by simp [h])) h2 t' ht')
          · rcases Nat.lt_succ_iff_lt_or_eq.mp hj with e | e
            · exact List.mem_cons_of_mem _ (done4 j e t' ht')
            · rw [e, ht] at ht'
              cases ht'
              exact List.mem_cons_self ..
          · rw [List.length_append, List.length_cons, List.length_singleton]
            omega
        · refine ifF (A := _) (B := _) (by simpa using hb1) ?_
          have ina : step a t ∈ L4 := Classical.not_not.mp fun h => hb1 (hb.mpr h)
          refine ⟨L4, ws4, as4, _, _, rfl, zk4.trans zz, R.el_tup zz.tup el4, ma, st5, hw5, pair_el R zz.tup hp4, sub4, rch4, m04, cl4, fun j hj t' ht' => ?_, ms⟩
          rcases Nat.lt_succ_iff_lt_or_eq.mp hj with e | e
          · exact done4 j e t' ht'
          · rw [e, ht] at ht'
            cases ht'
            exact ina
      · obtain ⟨L4, ws4, as4, y4, z4, rfl, zk4, el4, ma, st4, hw4, hp4, sub4, rch4, m04, cl4, done4, ms⟩ := hpv
        refine ⟨_, ms, L4, ws4, as4, _, _, _, rfl, zk4, st4, hw4, hp4, sub4, rch4, m04, fun b hb h1 t ht => ?_, rfl, by omega⟩
        by_cases e : b = a
        · obtain ⟨j, hj, e2⟩ := List.mem_iff_getElem.mp ht
          rw [e]
          exact done4 j (by rw [tl]; exact hj) t (by rw [List.getElem?_eq_getElem hj, e2])
        · exact cl4 b hb h1 e t ht
theorem ok_reached (F : FunD K "reached" "reached" (defArgs sReached) (defBody sReached) (defScope sReached) [.non] [] f fd) (B : Bl mg) {S : Addr → Option Sp} (A : ∀ f sp, S f = some sp → Held P w K mg base 2 f sp) :
    FnOk P w K mg base CX0 3 f fd ["start", "turns", "lead", "most"] (spReached K P w S) := (ok_reachedM F B A).imp spReached_M
end
end NS
end
section
set_option maxHeartbeats 4000000
/-! G2: members, order, is_member, made, likes -/
namespace NS
open PySem PySem.Spec PyProof.Rows L2 ZS
theorem scMade : FnScope ["house", "row", "halls", "turns", "turn", "number"] ["house", "row"] (defScope sMade) := ⟨rfl, rfl, rfl, by decide +kernel, rfl, by decide +kernel, by decide +kernel⟩
theorem scMembers : FnScope ["house", "halls", "turns", "found"] ["house"] (defScope sMembers) := ⟨rfl, rfl, rfl, by decide +kernel, rfl, by decide +kernel, by decide +kernel⟩
theorem scOrder : FnScope ["house"] ["house"] (defScope sOrder) := ⟨rfl, rfl, rfl, by decide +kernel, rfl, by decide +kernel, by decide +kernel⟩
theorem scIsMember : FnScope ["house", "turn"] ["house", "turn"] (defScope sIsMember) := ⟨rfl, rfl, rfl, by decide +kernel, rfl, by decide +kernel, by decide +kernel⟩
theorem scLikes : FnScope ["house", "turn", "halls", "turns"] ["house", "turn"] (defScope sLikes) := ⟨rfl, rfl, rfl, by decide +kernel, rfl, by decide +kernel, by decide +kernel⟩
/-- v is a tuple of the things of L -/
def TupEl (H : Hp) (El : V → α → Prop) (v : V) (L : List α) : Prop := ∃ p o vs, v = .ref p ∧ H p = some (.frz o (.tup vs)) ∧ o.dict = none ∧ Paired El vs L
/-- a turn of the group -/
abbrev Grp (n : Nat) (ts : List (List Int)) : List Int → Prop := Rch comp ts (idt n)
def likeS (a t : List Int) : List Int := comp (comp (inv t) a) t
/-- U holds a0 and all that the turns make of what it holds; few turns of n halls -/
structure Room' (n : Nat) (step : List Int → List Int → List Int) (ts : List (List Int)) (a0 : List Int) (U : List (List Int)) : Prop where
  a0 : a0 ∈ U
  cl : ∀ a ∈ U, ∀ t ∈ ts, step a t ∈ U
  is : ∀ a ∈ U, IsT n a
  few : U.length ≤ 4000
/-- the ascending list of what is reached -/
structure Asc {α : Type} (lt : α → α → Prop) (G : α → Prop) (L : List α) : Prop where
  pw : L.Pairwise lt
  nd : L.Nodup
  mem : ∀ a, a ∈ L ↔ G a
abbrev ltT (a b : List Int) : Prop := lexI a b = true
def spMembers (K : PySem.W.Frag) (pT pA : Addr) : Sp := fun vs H Q _ => ∃ (v : V) (n : Nat) (ts U : List (List Int)), vs = [v] ∧ HouseAt K H v n ts ∧ IsH n ts ∧ GxR.TabG H pT ∧ GxR.TabG H pA ∧ Room' n comp ts (idt n) U ∧
  ∀ r H' L, Kp H H' → TupEl H' (ElT K H') r L → Asc ltT (Grp n ts) L → Q r H'
theorem ne_len {n : Nat} {a : List Int} (h : IsT n a) (hn : 1 ≤ n) : a ≠ [] := fun e => by
  have := h.len
  rw [e] at this
  simp at this
  omega
section
variable {P : Program} {w : World} {K : PySem.W.Frag} {mg : Str → Option Value} {base : Heap} {f : Addr} {fd : FuncData} {pT pA : Addr} {S : Addr → Option Sp}
theorem has_members (F : FnP K "members" sMembers f fd) (m : mg "members" = some (.ref f)) (B : Bl mg) (m5 : ∃ t, mg "MOST_MEMBERS" = some (.int 5040 t)) {fT : Addr} (mT : mg "then" = some (.ref fT)) (sT : S fT = some (spThen K))
    (hC : Has P w K mg base "check_house" 7 [] (spHouse K pT pA)) (hS : Has P w K mg base "still" 1 [] spStill) (hR : Has P w K mg base "reached" 3 [] (spReached K P w S)) : Has P w K mg base "members" 8 [] (spMembers K pT pA) := by
  obtain ⟨t5, m5⟩ := m5
  refine ⟨f, fd, ["house"], [], m, F.kp, F.bindsN (fun _ _ _ _ _ _ us hl => match us, hl with | [_], _ => rfl), .nil, ?_⟩
  refine F.ok scMembers (fun vs H Q E h => ?_) (fun cdv A outer s H vs Q E hr h => ⟨_, PSs.nox (
    pss_cons (ps_expr (pe_has hC hr (by decide) (pa_cons (pv 0) pa_nil)))
    (pss_cons (ps_asg (pv 0) (pg_tup rfl (pgs_cons (pg_name (i := 1) scMembers.nd rfl (Or.inl rfl)) (pgs_cons (pg_name (i := 2) scMembers.nd rfl (Or.inl rfl)) pgs_nil))))
    (pss_cons (ps_set (i := 3) scMembers.nd rfl (Or.inl rfl) (pe_has hR hr (by decide) (pa_cons (pe_has hS hr (by decide) (pa_cons (pv 1) pa_nil)) (pa_cons (pv 2) (pa_cons (pe_glob (v := .ref fT) rfl mT rfl) (pa_cons (pe_glob (v := .int 5040) rfl m5 ⟨_, rfl⟩) pa_nil))))))
    (pss_cons (ps_if (pt_cmpR op_gt (pe_callB call_len_seq rfl B.len PySem.boot_len (pa_cons (pv 3) pa_nil)) (pe_glob (v := .int 5040) rfl m5 ⟨_, rfl⟩) (nomark _)) (pss_one ps_never) pss_nil)
    (pss_one (ps_ret (pv 3))))))), ?_⟩)
  · obtain ⟨v, n, ts, U, rfl, _⟩ := h
    rfl
  · obtain ⟨v, n, ts, U, rfl, hv, hi, gT, gA, rm, q⟩ := h
    refine ⟨_, rfl, v, n, ts, rfl, hv, hi, gT, gA, fun H1 z1 => ?_⟩
    obtain ⟨a, tv, rfl, hT, hp⟩ := z1.house hv
    refine ⟨_, rfl, a, _, rfl, hT, rfl, _, _, rfl, _, _, rfl, rfl, ?_⟩
    have h1 := hi.n1
    have h8 := hi.n8
    have few := rm.few
    refine ⟨_, rfl, n, rfl, by omega, fun sv H2 z2 ps => ⟨_, rfl, ?_⟩⟩
    refine ⟨_, repT K P w, comp, idt n, ts, U, sv, tv, _, fT, _, rfl, elT ps (ne_len (idt_isT n) h1), z2.pts hp, sT, rm.a0, rm.cl, by show U.length + 1 < 4096; omega, .inr ⟨5040, rfl, by omega⟩, fun H3 th tw b t Q1 z3 el bU pt ht q1 => ?_, fun p o H3 vs' L z3 e3 d3 pr pw nd mem => ?_⟩
    · have tb := rm.is b bU
      have tt := hi.is t ht
      exact ⟨th, tw, b, t, rfl, el.1, pt.ti, by rw [tt.len]; exact tb.low, by rw [tb.len]; omega, fun r H4 z4 p4 => q1 r H4 z4 (elT p4 (ne_len (tb.comp tt) h1))⟩
    · have lU : L.length ≤ U.length := nd_le nd fun x hx => ((mem x).mp hx).inU rm.a0 rm.cl
      have hl := pr.length
      refine ⟨_, rfl, p, vs', rfl, .inr (.inl (.inr ⟨o, e3⟩)), _, _, rfl, rfl, _, rfl, ifF (A := _) (B := _) (decide_eq_false (by omega)) ?_⟩
      exact ⟨_, rfl, q _ _ L ((z1.trans z2).trans z3) ⟨p, o, vs', rfl, e3, d3, pr⟩ ⟨pw, nd, mem⟩⟩
end
end NS
end
section
set_option maxHeartbeats 4000000
/-! D2: set comprehensions of keys -/
namespace NS
open PySem PySem.Spec PyProof.Rows L2 ZS
theorem zscG {K : PySem.W.Frag} {P : Program} {w : World} {J : It} {te : TE} {vs : List Nat} {σ : L2.St} {H : Hp} {D : Addr} {i0 : Nat} {Qd : Hp → Prop} {n : Nat} {Y : Nat → V → Hp → Prop} (wk : Wlk J H n Y) (hD : H D = none) (few : n < 5000)
    (Ky : Nat → NK → Prop) (fn : ∀ i k k', Ky i k → Ky i k' → k = k') (Xp : Addr → NK → Hp → Prop) (xt : ∀ a k H1 H2, Tup H1 H2 → Xp a k H1 → Xp a k H2) (xe : ∀ a k H1, Xp a k H1 → ElK K H1 a k)
    (el : ∀ i x H' (Q1 : VK), i < n → Kp H H' → Y i x H' → (∀ b k H4, Kp H' H4 → Ky i k → Xp b k H4 → Q1 (.ref b) H4) → te ((wipe σ vs).set i0 (some x)) H' Q1)
    (fin : ∀ L H', Kp H H' → H' D = some (ZSet P w D L) → (L.map (·.2)).Nodup → (∀ k, k ∈ L.map (·.2) ↔ ∃ i, i < n ∧ Ky i k) → (∀ p ∈ L, Xp p.1 p.2 H') → Qd H') :
    ∃ W : Nat → Nat → Hp → Prop, (∃ m, W 0 m (upd H D (ZSet P w D []))) ∧ ∀ i m H2, W i m H2 →
      (J.stop i H2 ∧ Qd H2) ∨ (J.go i H2 ∧ ∀ x H3, J.yld i H2 x H3 → te ((wipe σ vs).set i0 (some x)) H3 fun y H4 => ∃ b k L, y = .ref b ∧ H4 D = some (ZSet P w D L) ∧ (∀ p ∈ L, ElK K H4 p.1 p.2) ∧ ElK K H4 b k ∧ L.length + 1 < zBound ∧
        ∀ L', (k ∈ L.map (·.2) → L' = L) → (k ∉ L.map (·.2) → L'.Perm ((b, k) :: L)) → ∃ m', m' < m ∧ W (i + 1) m' (upd H4 D (ZSet P w D L'))) := by
  refine ⟨fun i m H' => m = n - i ∧ i ≤ n ∧ Kp H H' ∧ ∃ L, H' D = some (ZSet P w D L) ∧ L.length ≤ i ∧ (L.map (·.2)).Nodup ∧ (∀ k, k ∈ L.map (·.2) ↔ ∃ j, j < i ∧ Ky j k) ∧ ∀ p ∈ L, Xp p.1 p.2 H',
    ⟨n, by simp, Nat.zero_le _, (Kp.refl H).new hD, [], upd_same, Nat.le_refl _, List.nodup_nil, fun k => ⟨fun h => by simp at h, fun ⟨j, hj, _⟩ => absurd hj (Nat.not_lt_zero _)⟩, fun p h => by cases h⟩, ?_⟩
  rintro i m H1 ⟨rfl, hi, z, L, hL, hl, nd, mem, hx⟩
  by_cases hlt : i < n
  · refine .inr ⟨wk.go i H1 z hlt, fun x H' y => ?_⟩
    obtain ⟨zy, yy⟩ := wk.yld i H1 x H' z hlt y
    refine el i x H' _ hlt (z.trans zy) yy fun b k H4 z4 hk xk => ?_
    have z14 := zy.trans z4
    have hD4 : H4 D = some (ZSet P w D L) := z14.k _ _ hL (fun _ q => by cases q)
    refine ⟨b, k, L, rfl, hD4, fun p hp => xe _ _ _ (xt _ _ _ _ z14.tup (hx p hp)), xe _ _ _ xk, by have : zBound = 9000 := rfl; omega, fun L' h1 h2 => ⟨n - (i + 1), by omega, rfl, hlt, (z.trans z14).put hD, L', upd_same, ?_⟩⟩
    have tz : Tup H4 (upd H4 D (ZSet P w D L')) := Tup.put (by rw [hD4]; trivial)
    by_cases hm : k ∈ L.map (·.2)
    · obtain rfl := h1 hm
      refine ⟨by omega, nd, fun k' => ⟨fun h => ?_, fun ⟨j, hj, q⟩ => ?_⟩, fun p hp => xt _ _ _ _ (z14.tup.trans tz) (hx p hp)⟩
      · obtain ⟨j, hj, q⟩ := (mem k').mp h
        exact ⟨j, by omega, q⟩
      · rcases Nat.lt_succ_iff_lt_or_eq.mp hj with e | e
        · exact (mem k').mpr ⟨j, e, q⟩
        · subst e
          rw [fn _ _ _ q hk]
          exact hm
    · have pm := h2 hm
      have pm2 := pm.map (·.2)
      refine ⟨by rw [pm.length_eq]; simp only [List.length_cons]; omega, pm2.nodup_iff.mpr (List.nodup_cons.mpr ⟨hm, nd⟩), fun k' => ?_, fun p hp => ?_⟩
      · rw [pm2.mem_iff, List.map_cons, List.mem_cons]
        constructor
        · rintro (h | h)
          · exact ⟨i, by omega, by rw [h]; exact hk⟩
          · obtain ⟨j, hj, q⟩ := (mem k').mp h
            exact ⟨j, by omega, q⟩
        · rintro ⟨j, hj, q⟩
          rcases Nat.lt_succ_iff_lt_or_eq.mp hj with e | e
          · exact .inr ((mem k').mpr ⟨j, e, q⟩)
          · subst e
            exact .inl (fn _ _ _ q hk)
      · rcases List.mem_cons.mp (pm.mem_iff.mp hp) with e | e
        · rw [e]
          exact xt _ _ _ _ tz xk
        · exact xt _ _ _ _ (z14.tup.trans tz) (hx p e)
  · have e : i = n := by omega
    subst e
    exact .inl ⟨wk.stop H1 z, fin L H1 z hL nd mem hx⟩
theorem keys_of {G : Addr → List Int → Prop} : ∀ {L : List (Addr × NK)}, (∀ p ∈ L, ∃ ns, p.2 = tk ns ∧ G p.1 ns) → ∃ L' : List (Addr × List Int), L = keys L' ∧ ∀ q ∈ L', G q.1 q.2
  | [], _ => ⟨[], rfl, fun _ h => by cases h⟩
  | (a, k) :: L, h => by
    obtain ⟨ns, e, g⟩ := h (a, k) (List.mem_cons_self ..)
    obtain ⟨L', e', g'⟩ := keys_of (L := L) fun p hp => h p (List.mem_cons_of_mem _ hp)
    refine ⟨(a, ns) :: L', ?_, fun q hq => ?_⟩
    · rw [e']
      show (a, k) :: keys L' = (a, tk ns) :: keys L'
      rw [show k = tk ns from e]
    · rcases List.mem_cons.mp hq with e | e
      · rw [e]; exact g
      · exact g' q e
/-- ascending lists of the same things are one -/
theorem asc_unique {α : Type} {lt : α → α → Prop} (irr : ∀ a, ¬ lt a a) (tr : ∀ a b, lt a b → ¬ lt b a) : ∀ {l m : List α}, l.Pairwise lt → m.Pairwise lt → (∀ a, a ∈ l ↔ a ∈ m) → l = m
  | [], [], _, _, _ => rfl
  | [], b :: m, _, _, h => by have := (h b).mpr (List.mem_cons_self ..); cases this
  | a :: l, [], _, _, h => by have := (h a).mp (List.mem_cons_self ..); cases this
  | a :: l, b :: m, hl, hm, h => by
    obtain ⟨l1, l2⟩ := List.pairwise_cons.mp hl
    obtain ⟨m1, m2⟩ := List.pairwise_cons.mp hm
    have e : a = b := by
      rcases List.mem_cons.mp ((h a).mp (List.mem_cons_self ..)) with q | q
      · exact q
      · rcases List.mem_cons.mp ((h b).mpr (List.mem_cons_self ..)) with q2 | q2
        · exact q2.symm
        · exact absurd (l1 b q2) (tr _ _ (m1 a q))
    subst e
    congr 1
    refine asc_unique irr tr l2 m2 fun x => ⟨fun hx => ?_, fun hx => ?_⟩
    · rcases List.mem_cons.mp ((h x).mp (List.mem_cons_of_mem _ hx)) with q | q
      · rw [q] at hx
        exact absurd (l1 a hx) (irr a)
      · exact q
    · rcases List.mem_cons.mp ((h x).mpr (List.mem_cons_of_mem _ hx)) with q | q
      · rw [q] at hx
        exact absurd (m1 a hx) (irr a)
      · exact q
theorem Asc.uniq {α : Type} {lt : α → α → Prop} (irr : ∀ a, ¬ lt a a) (tr : ∀ a b, lt a b → ¬ lt b a) {G : α → Prop} {l m : List α} (hl : Asc lt G l) (hm : Asc lt G m) : l = m := asc_unique irr tr hl.pw hm.pw fun a => (hl.mem a).trans (hm.mem a).symm
theorem ltT_irr (a : List Int) : ¬ ltT a a := fun h => by rw [ltT, lexI_irr] at h; cases h
theorem ltT_tr (a b : List Int) (h : ltT a b) : ¬ ltT b a := fun h2 => by rw [ltT, lexI_asym a b h] at h2; cases h2
/-- the pairs of places, row by row -/
def grid (n m : Nat) : List (Nat × Nat) := (List.range n).flatMap fun i => (List.range m).map fun j => (i, j)
theorem grid_succ (n m : Nat) : grid (n + 1) m = grid n m ++ (List.range m).map fun j => (n, j) := by
  unfold grid
  rw [List.range_succ, List.flatMap_append]
  simp
theorem grid_len (n m : Nat) : (grid n m).length = n * m := by
  induction n with
  | zero => simp [grid]
  | succ n ih => rw [grid_succ, List.length_append, ih, List.length_map, List.length_range, Nat.succ_mul]
/-- two ranges, no tests -/
theorem lc2F {te : TE} {wi1 : L2.TI} {vs vs1 : List Nat} {σ : L2.St} {H : Hp} {D : Addr} {Qd : Hp → Prop} {a b n m : Nat} (hD : H D = none) (hz : n * m < sizeLine)
    (R : Nat → Nat → V → Hp → Prop) (st : ∀ i j y H1 H2, Tup H1 H2 → R i j y H1 → R i j y H2)
    (hs : ∀ v, wipe ((wipe σ vs).set a (some v)) vs = wipe σ vs) (hs1 : ∀ u v, wipe ((wipe ((wipe σ vs).set a (some u)) vs1).set b (some v)) vs1 = wipe ((wipe σ vs).set a (some u)) vs1)
    (hw1 : ∀ i H' Rr, i < n → Kp H H' → Rr (Itr 0 m) H' → wi1 ((wipe σ vs).set a (some (.int (0 + (i : Nat))))) H' Rr)
    (el : ∀ i j H' (Q1 : VK), i < n → j < m → Kp H H' → (∀ y H4, Kp H' H4 → R i j y H4 → Q1 y H4) → te ((wipe ((wipe σ vs).set a (some (.int (0 + (i : Nat))))) vs1).set b (some (.int (0 + (j : Nat))))) H' Q1)
    (fin : ∀ ys H', Kp H H' → H' D = some (.lst ys) → Paired (fun p y => R p.1 p.2 y H') (grid n m) ys → Qd H') :
    ∃ W : Nat → Nat → Hp → Prop, (∃ m, W 0 m (upd H D (.lst []))) ∧ ∀ i m H, W i m H →
      ((Itr 0 n).stop i H ∧ Qd H) ∨ ((Itr 0 n).go i H ∧ ∃ Nx : Hp → Prop, (∀ H', Nx H' → ∃ m', m' < m ∧ W (i + 1) m' H') ∧ ∀ x H', (Itr 0 n).yld i H x H' → gName a x (wipe σ vs) H' fun σ2 H2 => wipe σ2 vs = wipe σ vs ∧ tYes σ2 H2 fun c H3 =>
        if c = true then wi1 σ2 H3 fun J1 H4 => ∃ W1 : Nat → Nat → Hp → Prop, (∃ m, W1 0 m H4) ∧ ∀ j k H, W1 j k H →
          (J1.stop j H ∧ Nx H) ∨ (J1.go j H ∧ ∃ Nx1 : Hp → Prop, (∀ H', Nx1 H' → ∃ k', k' < k ∧ W1 (j + 1) k' H') ∧ ∀ x H', J1.yld j H x H' → gName b x (wipe σ2 vs1) H' fun σ3 H5 => wipe σ3 vs1 = wipe σ2 vs1 ∧ tYes σ3 H5 fun c H6 =>
            if c = true then te σ3 H6 fun y H7 => ∃ acc, H7 D = some (.lst acc) ∧ acc.length < sizeLine ∧ Nx1 (upd H7 D (.lst (acc ++ [y]))) else Nx1 H6)
        else Nx H3) := by
  let G : List (Nat × Nat) → Hp → Prop := fun l H' => Kp H H' ∧ ∃ ys, H' D = some (.lst ys) ∧ Paired (fun p y => R p.1 p.2 y H') l ys
  refine ⟨fun i k H' => k = n - i ∧ i ≤ n ∧ G (grid i m) H', ⟨n, by simp, Nat.zero_le _, (Kp.refl H).new hD, [], upd_same, .nil⟩, ?_⟩
  rintro i k H1 ⟨rfl, hi, z, ys, hy, hp⟩
  by_cases hlt : i < n
  · refine .inr ⟨hlt, G (grid (i + 1) m), fun H' p => ⟨n - (i + 1), by omega, rfl, hlt, p⟩, fun x H' y => ?_⟩
    obtain ⟨e, y⟩ := y
    subst e y
    refine ⟨hs _, ifT (B := G (grid (i + 1) m) H') rfl (hw1 i _ _ hlt z ?_)⟩
    refine ⟨fun j k H' => k = m - j ∧ j ≤ m ∧ G (grid i m ++ (List.range j).map fun j => (i, j)) H', ⟨m, by simp, Nat.zero_le _, z, ys, hy, by simpa using hp⟩, ?_⟩
    rintro j k H2 ⟨rfl, hj, z2, ys2, hy2, hp2⟩
    by_cases hjt : j < m
    · refine .inr ⟨hjt, G (grid i m ++ (List.range (j + 1)).map fun j => (i, j)), fun H' p => ⟨m - (j + 1), by omega, rfl, hjt, p⟩, fun x H' y => ?_⟩
      obtain ⟨e, y⟩ := y
      subst e y
      refine ⟨hs1 _ _, ifT (B := G (grid i m ++ (List.range (j + 1)).map fun j => (i, j)) H') rfl (el i j _ _ hlt hjt z2 fun y H4 z4 r4 => ?_)⟩
      have hD4 := z4.lst hy2
      have hl : ys2.length < sizeLine := by
        have e1 := hp2.length
        rw [List.length_append, grid_len, List.length_map, List.length_range] at e1
        have : (i + 1) * m ≤ n * m := Nat.mul_le_mul_right m hlt
        rw [Nat.succ_mul] at this
        omega
      have tz : Tup H4 (upd H4 D (.lst (ys2 ++ [y]))) := Tup.put (by rw [hD4]; trivial)
      refine ⟨ys2, hD4, hl, (z2.trans z4).put hD, _, upd_same, ?_⟩
      rw [List.range_succ, List.map_append, ← List.append_assoc]
      exact Paired.snoc (hp2.mono fun p y q => st _ _ _ _ _ (z4.tup.trans tz) q) (st _ _ _ _ _ tz r4)
    · have e : j = m := by omega
      subst e
      refine .inl ⟨Nat.le_refl _, z2, ys2, hy2, ?_⟩
      rw [grid_succ]
      exact hp2
  · have e : i = n := by omega
    subst e
    exact .inl ⟨Nat.le_refl _, fin ys H1 z hy hp⟩
end NS
end
section
set_option maxHeartbeats 4000000
/-! G3: parts, is_transitive, rank -/
namespace NS
open PySem PySem.Spec PyProof.Rows L2 ZS
theorem scParts : FnScope ["house", "halls", "turns", "hall"] ["house"] (defScope sParts) := ⟨rfl, rfl, rfl, by decide +kernel, rfl, by decide +kernel, by decide +kernel⟩
theorem scTrans : FnScope ["house"] ["house"] (defScope sTrans) := ⟨rfl, rfl, rfl, by decide +kernel, rfl, by decide +kernel, by decide +kernel⟩
theorem scRank : FnScope ["house", "halls", "turns", "pairs", "first", "second", "pair"] ["house"] (defScope sRank) := ⟨rfl, rfl, rfl, by decide +kernel, rfl, by decide +kernel, by decide +kernel⟩
def hallS (a : Int) (t : List Int) : Int := t.getD a.toNat 0
/-- the halls to which hall h is led -/
abbrev Orb (ts : List (List Int)) (h : Int) : Int → Prop := Rch hallS ts h
/-- k is the ascending lot of hall h -/
abbrev Lot (ts : List (List Int)) (h : Int) (k : List Int) : Prop := Asc (· < ·) (Orb ts h) k
theorem lot_uniq {ts : List (List Int)} {h : Int} {k k' : List Int} (a : Lot ts h k) (b : Lot ts h k') : k = k' := Asc.uniq (fun a => Int.lt_irrefl a) (fun a b h1 h2 => by omega) a b
/-- all lots of halls -/
abbrev Lots (n : Nat) (ts : List (List Int)) (k : List Int) : Prop := ∃ i : Nat, i < n ∧ Lot ts i k
/-- the pairs of halls to which a pair is led -/
abbrev Lot2 (ts : List (List Int)) (p : List Int) (k : List (List Int)) : Prop := Asc ltT (Rch comp ts p) k
theorem lot2_uniq {ts : List (List Int)} {p : List Int} {k k' : List (List Int)} (a : Lot2 ts p k) (b : Lot2 ts p k') : k = k' := Asc.uniq ltT_irr ltT_tr a b
def pr2 (p : Nat × Nat) : List Int := [(p.1 : Int), (p.2 : Int)]
abbrev Lots2 (n : Nat) (ts : List (List Int)) (k : List (List Int)) : Prop := ∃ p, p ∈ grid n n ∧ Lot2 ts (pr2 p) k
theorem few_of {α : Type} {L : List α} {n : Nat} {G : Nat → α → Prop} (nd : L.Nodup) (e : ∀ k ∈ L, ∃ i, i < n ∧ G i k) (fn : ∀ i a b, G i a → G i b → a = b) : L.length ≤ n := by
  classical
  let f : α → Nat := fun k => if h : ∃ i, i < n ∧ G i k then Classical.choose h else 0
  have hf : ∀ k ∈ L, f k < n ∧ G (f k) k := fun k hk => by
    have h := e k hk
    have q : f k = Classical.choose h := dif_pos h
    rw [q]
    exact Classical.choose_spec h
  have h1 : (L.map f).Nodup := nodup_map nd fun x hx y hy q => fn _ _ _ (hf x hx).2 (by rw [q]; exact (hf y hy).2)
  have h2 := nd_le (b := List.range n) h1 fun x hx => by
    obtain ⟨k, hk, rfl⟩ := List.mem_map.mp hx
    exact List.mem_range.mpr (hf k hk).1
  rwa [List.length_map, List.length_range] at h2
def spParts (K : PySem.W.Frag) (pT pA : Addr) : Sp := fun vs H Q _ => ∃ (v : V) (n : Nat) (ts : List (List Int)), vs = [v] ∧ HouseAt K H v n ts ∧ IsH n ts ∧ GxR.TabG H pT ∧ GxR.TabG H pA ∧
  ∀ r H' LL, Kp H H' → TupEl H' (ElT K H') r LL → Asc ltT (Lots n ts) LL → LL.length ≤ n → Q r H'
def spTrans (K : PySem.W.Frag) (pT pA : Addr) : Sp := fun vs H Q _ => ∃ (v : V) (n : Nat) (ts : List (List Int)), vs = [v] ∧ HouseAt K H v n ts ∧ IsH n ts ∧ GxR.TabG H pT ∧ GxR.TabG H pA ∧
  ∀ H' LL, Kp H H' → Asc ltT (Lots n ts) LL → Q (.bl (decide (LL.length = 1))) H'
def spRank (K : PySem.W.Frag) (pT pA : Addr) : Sp := fun vs H Q _ => ∃ (v : V) (n : Nat) (ts : List (List Int)), vs = [v] ∧ HouseAt K H v n ts ∧ IsH n ts ∧ GxR.TabG H pT ∧ GxR.TabG H pA ∧
  ∀ H' (LL : List (List (List Int))), Kp H H' → LL.Nodup → (∀ k, k ∈ LL ↔ Lots2 n ts k) → Q (.int LL.length) H'
theorem hall_in {n : Nat} {ts : List (List Int)} (hi : IsH n ts) : ∀ a ∈ idt n, ∀ t ∈ ts, hallS a t ∈ idt n := fun a ha t ht => by
  have tt := hi.is t ht
  have h := mem_idt.mp ha
  have h2 := tt.getD (i := a.toNat) (by omega)
  refine mem_idt.mpr ?_
  show 0 ≤ t.getD a.toNat 0 ∧ t.getD a.toNat 0 < n
  omega
section
variable {P : Program} {w : World} {K : PySem.W.Frag} {mg : Str → Option Value} {base : Heap} {f : Addr} {fd : FuncData} {pT pA : Addr} {S : Addr → Option Sp}
theorem has_parts (F : FnP K "parts" sParts f fd) (m : mg "parts" = some (.ref f)) (B : Bl mg) {fH : Addr} (mH : mg "hall_led" = some (.ref fH)) (sH : S fH = some (spHall K))
    (hC : Has P w K mg base "check_house" 7 [] (spHouse K pT pA)) (hR : Has P w K mg base "reached" 3 [.non] (spReached K P w S)) : Has P w K mg base "parts" 8 [] (spParts K pT pA) := by
  refine ⟨f, fd, ["house"], [], m, F.kp, F.bindsN (fun _ _ _ _ _ _ us hl => match us, hl with | [_], _ => rfl), .nil, ?_⟩
  refine F.ok scParts (fun vs H Q E h => ?_) (fun cdv A outer s H vs Q E hr h => ⟨_, PSs.nox (
    pss_cons (ps_expr (pe_has hC hr (by decide) (pa_cons (pv 0) pa_nil)))
    (pss_cons (ps_asg (pv 0) (pg_tup rfl (pgs_cons (pg_name (i := 1) scParts.nd rfl (Or.inl rfl)) (pgs_cons (pg_name (i := 2) scParts.nd rfl (Or.inr rfl)) pgs_nil))))
    (pss_one (ps_ret (pe_callTy cr_tupP rfl B.tuple PyProof.Rows.boot_tuple (pa_cons (pe_callB (cr_sor rfl) rfl B.sorted PyProof.Rows.boot_sorted (pa_cons
      (pe_zsc (own := [("hall", 3)]) (i0 := 3) hr.units rfl scParts.nd (pi_range1 rfl B.range (pa_cons (pv 1) pa_nil)) (blkOk_by (N := ["house", "halls", "turns", "hall"]) (sc := defScope sParts) (by decide +kernel)) (by decide)
        (fun _ _ _ _ _ => pg_name (i := 3) scParts.nd rfl (Or.inl rfl)) (fun _ _ _ _ _ => pe_has hR hr (by decide) (pa_cons (pv 3) (pa_cons (pv 2) (pa_cons (pe_glob (v := .ref fH) rfl mH rfl) pa_nil)))))
      pa_nil)) pa_nil)))))), ?_⟩)
  · obtain ⟨v, n, ts, rfl, _⟩ := h
    rfl
  · obtain ⟨v, n, ts, rfl, hv, hi, gT, gA, q⟩ := h
    have h1 := hi.n1
    have h8 := hi.n8
    refine ⟨_, rfl, v, n, ts, rfl, hv, hi, gT, gA, fun H1 z1 => ?_⟩
    obtain ⟨a, tv, rfl, hT, hp⟩ := z1.house hv
    refine ⟨_, rfl, a, _, rfl, hT, rfl, _, _, rfl, _, _, rfl, rfl, ?_⟩
    refine ⟨_, rfl, (n : Int), rfl, by omega, by omega, fun D hD => ?_⟩
    show ∃ W, _
    refine zscG (J := Itr 0 n) (Wlk.rng 0 n) hD (by omega) (fun i k => ∃ ns, k = tk ns ∧ Lot ts (i : Int) ns) (fun i k k' ⟨a, e1, h1⟩ ⟨b, e2, h2⟩ => by rw [e1, e2, lot_uniq h1 h2])
      (fun b k H' => ∃ ns, k = tk ns ∧ ElT K H' (.ref b) ns) (fun b k H1 H2 z ⟨ns, e, h⟩ => ⟨ns, e, h.tup z⟩) (fun b k H1 ⟨ns, e, h⟩ => by rw [e]; exact h.el) (fun i x H2 Q1 hlt z2 hx q1 => ?_) (fun L H2 z2 hL nd mem hx => ?_)
    · subst hx
      rw [Int.zero_add]
      refine ⟨_, rfl, _, rfl, ?_⟩
      refine ⟨Int, repI K P w, hallS, (i : Int), ts, idt n, _, tv, _, fH, _, rfl, rfl, z2.pts hp, sH, mem_idt.mpr (by omega), hall_in hi, by rw [idt_len]; show n + 1 < 64; omega, .inl rfl, fun H3 th tw b t Q2 z3 el bU pt ht q2 => ?_, fun p o H3 vs' L z3 e3 d3 pr pw nd mem => ?_⟩
      · have tt := hi.is t ht
        have := mem_idt.mp bU
        exact ⟨b, tw, t, by rw [show th = V.int b from el], pt.ti, by rw [tt.len]; exact this, q2 _ _ (Kp.refl _) rfl⟩
      · have e : vs' = L.map V.int := by
          clear pw nd mem e3
          induction pr with
          | nil => rfl
          | cons p _ ih => rw [List.map_cons, ← ih]; rw [show _ = _ from p]
        rw [e] at e3
        have ne : L ≠ [] := fun e => by
          have := (mem (i : Int)).mpr .base
          rw [e] at this
          cases this
        exact q1 p (tk L) H3 z3 ⟨L, rfl, pw, nd, mem⟩ ⟨L, rfl, elT (PT.of e3 d3) ne⟩
    · obtain ⟨L', rfl, hx'⟩ := keys_of (G := fun a ns => ElT K H2 (.ref a) ns) hx
      rw [keys_snd] at nd mem
      have nd' : (L'.map (·.2)).Nodup := (List.pairwise_map.mp nd).imp fun h e => h (by rw [e])
      have mem' : ∀ k, k ∈ L'.map (·.2) ↔ Lots n ts k := fun k => by
        rw [← tk_mem, mem]
        constructor
        · rintro ⟨i, hlt, ns, e, h⟩
          rw [← tk_inj e] at h
          exact ⟨i, hlt, h⟩
        · rintro ⟨i, hlt, h⟩
          exact ⟨i, hlt, k, rfl, h⟩
      have hlen : (L'.map (·.2)).length ≤ n := by
        classical
        have e1 : ∀ k ∈ L'.map (·.2), ∃ i : Nat, i < n ∧ Lot ts i k := fun k hk => (mem' k).mp hk
        exact few_of nd' e1 (fun i a b h1 h2 => lot_uniq h1 h2)
      refine (repT K P w).sort (L := L'.map (·.2)) ⟨nd', L', hL, List.Perm.refl _, hx'⟩ (by show _ < 4096; omega) fun p vs' LL pm pw hpn hpr => ⟨p, vs', rfl, SqL.of upd_same, fun l o hl ho => ?_⟩
      refine q _ _ LL (((z1.trans z2).new hpn).new hl) ⟨l, o, vs', rfl, upd_same, ho, pair_el (repT K P w) ((Tup.new hpn).trans (Tup.new hl)) hpr⟩ ⟨pw, pm.nodup_iff.mpr nd', fun k => pm.mem_iff.trans (mem' k)⟩ (by rw [pm.length_eq]; exact hlen)
theorem has_trans (F : FnP K "is_transitive" sTrans f fd) (m : mg "is_transitive" = some (.ref f)) (B : Bl mg) (hM : Has P w K mg base "parts" 8 [] (spParts K pT pA)) : Has P w K mg base "is_transitive" 9 [] (spTrans K pT pA) := by
  refine ⟨f, fd, ["house"], [], m, F.kp, F.bindsN (fun _ _ _ _ _ _ us hl => match us, hl with | [_], _ => rfl), .nil, ?_⟩
  refine F.ok scTrans (fun vs H Q E h => ?_) (fun cdv A outer s H vs Q E hr h => ⟨_, PSs.nox (pss_one (ps_ret (pe_cmpR op_eq (pe_callB call_len_seq rfl B.len PySem.boot_len (pa_cons (pe_has hM hr (by decide) (pa_cons (pv 0) pa_nil)) pa_nil)) pe_int (nomark _)))), ?_⟩)
  · obtain ⟨v, n, ts, rfl, _⟩ := h
    rfl
  · obtain ⟨v, n, ts, rfl, hv, hi, gT, gA, q⟩ := h
    refine ⟨_, rfl, v, n, ts, rfl, hv, hi, gT, gA, fun r H1 LL z1 ⟨p, o, vs', e, h1, d1, pr⟩ as _ => ⟨p, vs', by rw [e], .inr (.inl (.inr ⟨o, h1⟩)), rfl, ?_⟩⟩
    rw [pr.length]
    have e : decide (V.int (LL.length : Int) = V.int 1) = decide (LL.length = 1) := decide_eq_decide.mpr ⟨fun e => by injection e; omega, fun e => by rw [e]; rfl⟩
    show Q (.bl (decide (V.int (LL.length : Int) = V.int 1))) H1
    rw [e]
    exact q H1 LL z1 as
theorem has_rank (F : FnP K "rank" sRank f fd) (m : mg "rank" = some (.ref f)) (B : Bl mg) {fH : Addr} (mH : mg "pair_led" = some (.ref fH)) (sH : S fH = some (spPair K))
    (hC : Has P w K mg base "check_house" 7 [] (spHouse K pT pA)) (hR : Has P w K mg base "reached" 3 [.non] (spReached K P w S)) : Has P w K mg base "rank" 8 [] (spRank K pT pA) := by
  refine ⟨f, fd, ["house"], [], m, F.kp, F.bindsN (fun _ _ _ _ _ _ us hl => match us, hl with | [_], _ => rfl), .nil, ?_⟩
  refine F.ok scRank (fun vs H Q E h => ?_) (fun cdv A outer s H vs Q E hr h => ⟨_, PSs.nox (
    pss_cons (ps_expr (pe_has hC hr (by decide) (pa_cons (pv 0) pa_nil)))
    (pss_cons (ps_asg (pv 0) (pg_tup rfl (pgs_cons (pg_name (i := 1) scRank.nd rfl (Or.inr rfl)) (pgs_cons (pg_name (i := 2) scRank.nd rfl (Or.inr rfl)) pgs_nil))))
    (pss_cons (ps_setLc2 (i := 3) (own := [("first", 4), ("second", 5)]) (vs1 := [5]) (g := gName 4) (tt := tYes) (g1 := gName 5) (tt1 := tYes) rfl scRank.nd rfl rfl (sw_true rfl rfl rfl (by decide +kernel)) (pi_range1 rfl B.range (pa_cons (pv 1) pa_nil))
      (blkOk_by (N := ["house", "halls", "turns", "pairs", "first", "second", "pair"]) (sc := defScope sRank) (by decide +kernel)) (by decide) (fun _ _ _ _ _ => pg_name (i := 4) scRank.nd rfl (Or.inl rfl)) (fun _ _ _ _ _ => pts_nil)
      (fun _ _ _ _ _ => pi_range1 rfl B.range (pa_cons (pv 1) pa_nil)) (fun _ _ _ _ _ => pg_name (i := 5) scRank.nd rfl (Or.inl rfl)) (fun _ _ _ _ _ => pts_nil) (fun _ _ _ _ _ => pe_tupP (pa_cons (pv 4) (pa_cons (pv 5) pa_nil))))
    (pss_one (ps_ret (pe_callB cr_zlen rfl B.len PySem.boot_len (pa_cons
      (pe_zsc (own := [("pair", 6)]) (i0 := 6) hr.units rfl scRank.nd (pi_list (pv 3)) (blkOk_by (N := ["house", "halls", "turns", "pairs", "first", "second", "pair"]) (sc := defScope sRank) (by decide +kernel)) (by decide)
        (fun _ _ _ _ _ => pg_name (i := 6) scRank.nd rfl (Or.inl rfl)) (fun _ _ _ _ _ => pe_has hR hr (by decide) (pa_cons (pv 6) (pa_cons (pv 2) (pa_cons (pe_glob (v := .ref fH) rfl mH rfl) pa_nil)))))
      pa_nil))))))), ?_⟩)
  · obtain ⟨v, n, ts, rfl, _⟩ := h
    rfl
  · obtain ⟨v, n, ts, rfl, hv, hi, gT, gA, q⟩ := h
    have h1 := hi.n1
    have h8 := hi.n8
    refine ⟨_, rfl, v, n, ts, rfl, hv, hi, gT, gA, fun H1 z1 => ?_⟩
    obtain ⟨a, tv, rfl, hT, hp⟩ := z1.house hv
    refine ⟨_, rfl, a, _, rfl, hT, rfl, _, _, rfl, _, _, rfl, rfl, ?_⟩
    refine ⟨_, rfl, (n : Int), rfl, by omega, by omega, fun D hD => ?_⟩
    show ∃ W, _
    have nn : n * n ≤ 64 := Nat.mul_le_mul h8 h8
    refine lc2F (a := 4) (b := 5) (n := n) (m := n) hD (by rw [sizeLine_eq]; omega) (fun i j y H' => PT H' y [(i : Int), (j : Int)]) (fun i j y H1 H2 z h => NS.Tup.pt z h) (fun _ => rfl) (fun _ _ => rfl) (fun i H2 R hlt z2 r => ⟨_, rfl, (n : Int), rfl, by omega, by omega, r⟩)
      (fun i j H2 Q1 hlt hjt z2 q1 => ⟨_, rfl, _, rfl, (by show 2 ≤ sizeLine; decide), fun p o hp ho => q1 _ _ ((Kp.refl _).new hp) (.of (by rw [upd_same, Int.zero_add, Int.zero_add]; rfl) ho)⟩) (fun ys H2 z2 hys hpr => ?_)
    refine ⟨_, rfl, D, rfl, ⟨_, SqL.of hys⟩, fun D2 hD2 => ?_⟩
    have yl := hpr.length
    have gl : ys.length ≤ 64 := by rw [← yl, grid_len]; exact nn
    refine zscG (Wlk.lst (SqL.of hys)) hD2 (by omega) (fun i k => ∃ p kk, (grid n n)[i]? = some p ∧ k = ttk kk ∧ Lot2 ts (pr2 p) kk) (fun i k k' ⟨p, a, e1, e2, h1⟩ ⟨p', b, e3, e4, h2⟩ => by
        rw [e1] at e3
        cases e3
        rw [e2, e4, lot2_uniq h1 h2])
      (fun b k H' => ElK K H' b k) (fun b k H1 H2 z h => z.el h) (fun b k H1 h => h) (fun i x H3 Q1 hlt z3 hx q1 => ?_) (fun L H3 z3 hL nd mem hx => ?_)
    · obtain ⟨p, hgp, pt0⟩ := paired_at hpr hx
      have mg : p.1 < n ∧ p.2 < n := by
        have := List.mem_of_getElem? hgp
        obtain ⟨i, hi, e⟩ := List.mem_flatMap.mp this
        obtain ⟨j, hj, rfl⟩ := List.mem_map.mp e
        exact ⟨List.mem_range.mp hi, List.mem_range.mp hj⟩
      refine ⟨_, rfl, _, rfl, ?_⟩
      have lowU : ∀ b ∈ (grid n n).map pr2, Low n b ∧ b.length = 2 := fun b hb => by
        obtain ⟨p, hp, rfl⟩ := List.mem_map.mp hb
        obtain ⟨i, hi, e⟩ := List.mem_flatMap.mp hp
        obtain ⟨j, hj, rfl⟩ := List.mem_map.mp e
        have := List.mem_range.mp hi
        have := List.mem_range.mp hj
        refine ⟨fun x hx => ?_, rfl⟩
        rcases List.mem_cons.mp hx with e | e
        · rw [e]
          show (0 : Int) ≤ (i : Int) ∧ (i : Int) < n
          omega
        · rw [List.mem_singleton.mp e]
          show (0 : Int) ≤ (j : Int) ∧ (j : Int) < n
          omega
      have inU : ∀ b : List Int, Low n b → b.length = 2 → b ∈ (grid n n).map pr2 := fun b lo hb => by
        match b, hb with
        | [x, y], _ =>
          have hx := lo x (by simp)
          have hy := lo y (by simp)
          refine List.mem_map.mpr ⟨(x.toNat, y.toNat), List.mem_flatMap.mpr ⟨x.toNat, List.mem_range.mpr (by omega), List.mem_map.mpr ⟨y.toNat, List.mem_range.mpr (by omega), rfl⟩⟩, ?_⟩
          show [((x.toNat : Nat) : Int), ((y.toNat : Nat) : Int)] = [x, y]
          rw [Int.toNat_of_nonneg hx.1, Int.toNat_of_nonneg hy.1]
      have clU : ∀ b ∈ (grid n n).map pr2, ∀ t ∈ ts, comp b t ∈ (grid n n).map pr2 := fun b hb t ht => by
        obtain ⟨lo, l2⟩ := lowU b hb
        have tt := hi.is t ht
        refine inU _ (fun x hx => ?_) (by rw [comp_len, l2])
        obtain ⟨k, hk, rfl⟩ := List.mem_map.mp hx
        have hk' := lo k hk
        exact tt.low _ (mem_getD (by rw [tt.len]; omega) 0)
      refine ⟨List Int, repT K P w, comp, pr2 p, ts, (grid n n).map pr2, x, tv, _, fH, _, rfl, elT (z3.pt pt0) (by unfold pr2; simp), (z2.trans z3).pts hp, sH, inU _ (fun x hx => ?_) rfl, clU, by rw [List.length_map, grid_len]; show _ < 4096; omega, .inl rfl, fun H4 th tw b t Q2 z4 el bU pt ht q2 => ?_, fun p' o H4 vs' L z4 e4 d4 pr pw nd mem => ?_⟩
      · rcases List.mem_cons.mp hx with e | e
        · rw [e]; omega
        · rw [List.mem_singleton.mp e]; omega
      · obtain ⟨lo, l2⟩ := lowU b bU
        have tt := hi.is t ht
        refine ⟨th, tw, b, t, rfl, el.1, pt.ti, by rw [tt.len]; exact lo, l2, fun r H5 z5 p5 => q2 r H5 z5 (elT p5 fun e => ?_)⟩
        have := comp_len b t
        rw [e, l2] at this
        cases this
      · have ek : ElK K H4 p' (ttk L) := .inr ⟨L, rfl, p', vs', rfl, .inl (.inr ⟨o, e4⟩), pr.mono fun _ _ q => q.1⟩
        exact q1 p' _ H4 z4 ⟨p, L, hgp, rfl, pw, nd, mem⟩ ek
    · refine ⟨D2, L, rfl, hL, ?_⟩
      have key : ∀ l : List (Addr × NK), (∀ k ∈ l.map (·.2), ∃ kk, k = ttk kk) → ∃ LL : List (List (List Int)), l.map (·.2) = LL.map ttk := fun l => by
        induction l with
        | nil => exact fun _ => ⟨[], rfl⟩
        | cons p r ih =>
          intro h
          obtain ⟨kk, e⟩ := h p.2 (by simp)
          obtain ⟨LL, e2⟩ := ih fun k hk => h k (by simp only [List.map_cons, List.mem_cons]; exact .inr hk)
          exact ⟨kk :: LL, by rw [List.map_cons, List.map_cons, e, e2]⟩
      obtain ⟨LL, eL⟩ := key L fun k hk => by
        obtain ⟨i, _, p, kk, _, e, _⟩ := (mem k).mp hk
        exact ⟨kk, e⟩
      have inj : ∀ a b : List (List Int), ttk a = ttk b → a = b := fun a b h => by
        have e : a.map tk = b.map tk := by injection h
        exact (List.map_inj_right fun x y e => tk_inj e).mp e
      have e1 : L.length = LL.length := by
        have := congrArg List.length eL
        rwa [List.length_map, List.length_map] at this
      rw [e1]
      rw [eL] at nd mem
      refine q H3 LL ((z1.trans z2).trans z3) ((List.pairwise_map.mp nd).imp fun h e => h (by rw [e])) fun k => ?_
      have e2 : k ∈ LL ↔ ttk k ∈ LL.map ttk := by
        rw [List.mem_map]
        exact ⟨fun h => ⟨k, h, rfl⟩, fun ⟨x, hx, e⟩ => inj _ _ e ▸ hx⟩
      rw [e2, mem]
      constructor
      · rintro ⟨i, hlt, p, kk, hgp, e, h⟩
        rw [← inj _ _ e] at h
        exact ⟨p, List.mem_of_getElem? hgp, h⟩
      · rintro ⟨p, hpg, h⟩
        obtain ⟨i, hi', e⟩ := List.mem_iff_getElem.mp hpg
        exact ⟨i, by rw [← yl]; exact hi', p, k, by rw [List.getElem?_eq_getElem hi', e], rfl, h⟩
end
end NS
end
section
set_option maxHeartbeats 4000000
/-! G4: stays -/
namespace NS
open PySem PySem.Spec PyProof.Rows L2 ZS
theorem scStayers : FnScope ["house", "turn"] ["house", "turn"] (defScope sStayers) := ⟨rfl, rfl, rfl, by decide +kernel, rfl, by decide +kernel, by decide +kernel⟩
theorem scRings : FnScope ["house", "turn", "halls", "ring"] ["house", "turn"] (defScope sRings) := ⟨rfl, rfl, rfl, by decide +kernel, rfl, by decide +kernel, by decide +kernel⟩
theorem scTable : FnScope ["house", "found", "counts", "member"] ["house"] (defScope sTable) := ⟨rfl, rfl, rfl, by decide +kernel, rfl, by decide +kernel, by decide +kernel⟩
/-- the halls that a turn leaves in place -/
def keptL (t : List Int) : List Int := ((List.range t.length).filter fun i => decide (t.getD i 0 = (i : Int))).map fun (i : Nat) => (i : Int)
theorem kept_len (t : List Int) : (keptL t).length ≤ t.length := by
  unfold keptL
  rw [List.length_map]
  exact filter_le _ _
section
variable {P : Program} {w : World} {K : PySem.W.Frag} {mg : Str → Option Value} {base : Heap} {f : Addr} {fd : FuncData} {pT pA : Addr}
end
end NS
end
section
set_option maxHeartbeats 4000000
/-! DD: a dict whose keys are tuples of ints, all values True -/
namespace NS
open PySem PySem.Spec PyProof.Rows L2 ZS
abbrev dl (L : List (Addr × List Int)) : List (NK × Addr × Value) := L.map fun p => (tk p.2, p.1, Value.bool true)
structure Dd0 (P : Program) (w : World) (h : Heap) (d : Addr) (L : List (Addr × List Int)) : Prop where
  few : L.length ≤ 100000
  sm : (d == sysModules) = false
  nd : (L.map (·.2)).Nodup
  ex : ∃ o es ep, h.get? d = some o ∧ o.ExactDict ∧ o.data = .dict es ep ∧ es.toList = (dl L).map (entryOfKey (nestedKind P w))
def DDict (P : Program) (w : World) (d : Addr) (L : List (Addr × List Int)) : HO := .ext fun h => Dd0 P w h d L
theorem dl_fst (L : List (Addr × List Int)) : (dl L).map (·.1) = (L.map (·.2)).map tk := by unfold dl; rw [List.map_map, List.map_map]; rfl
theorem nd_tk {l : List (List Int)} (h : l.Nodup) : (l.map tk).Nodup := nodup_map h fun _ _ _ _ e => tk_inj e
section
variable {P : Program} {w : World} {h : Heap} {d : Addr} {L : List (Addr × List Int)}
theorem Dd0.laid (R : Dd0 P w h d L) (H : Hp) : ObjOk P w H h d (DDict P w d L) := by
  obtain ⟨o, es, ep, ho, r⟩ := R.ex
  exact ⟨R, ⟨o, ho⟩, fun h1 h2 p k => ⟨p.few, p.sm, p.nd, let ⟨o, es, ep, ho, r⟩ := p.ex; ⟨o, es, ep, k o ho, r⟩⟩⟩
theorem Dd0.full (R : Dd0 P w h d L) (ht : ∀ p ∈ L, NestedIs h (tk p.2) (.ref p.1)) : h.DictOfH (nestedKind P w) d (dl L) := by
  obtain ⟨o, es, ep, ho, he, hd, hs⟩ := R.ex
  refine ⟨o, es, ep, ho, he, hd, hs, fun x hx => ?_, by rw [dl_fst]; exact nd_tk R.nd⟩
  obtain ⟨p, hp, rfl⟩ := List.mem_map.mp hx
  exact ⟨ht p hp, by rw [show NestedKey.depth (tk p.2) = 1 from depth_tk p.2]; decide⟩
theorem Dd0.of (sm : (d == sysModules) = false) (few : L.length ≤ 100000) (x : h.DictOfH (nestedKind P w) d (dl L)) : Dd0 P w h d L := by
  obtain ⟨o, es, ep, ho, he, hd, hs, _, nd⟩ := x
  rw [dl_fst] at nd
  exact ⟨few, sm, (List.pairwise_map.mp nd).imp fun h e => h (by rw [e]), o, es, ep, ho, he, hd, hs⟩
end
section
variable {X : Cx} {pins : List (Addr × Obj)} {σ : L2.St} {H : Hp} {s : Shared}
end
end NS
end
section
set_option maxHeartbeats 4000000
/-! LT: what the law's own defs want: x != [], a row of draws -/
namespace NS
open PySem PySem.Spec PyProof.Rows L2 ZS
section
variable {X : Cx}
/-- x != [], x == [] of a list -/
def rNilB (K : PySem.W.Frag) (f : Bool → Bool) : R2 := fun x y H Q => ∃ (a b : Addr) (xs : List V), x = .ref a ∧ y = .ref b ∧ SqL K H a xs ∧ SqL K H b [] ∧ Q (.bl (f xs.isEmpty)) H
theorem op_neNil (hu : X.A.units + 64 < cLine) : OpR X (compareOp .NotEq) (rNilB X.K not) := by
  intro pins s σ H x y v u Q I rx ry h
  obtain ⟨a, b, xs, rfl, rfl, ha, hb, q⟩ := h
  cases rx
  cases ry
  obtain ⟨its, r1, p1, _⟩ := I.list ha
  obtain ⟨its2, r2, p2, _⟩ := I.list hb
  cases r2
  cases r1 with
  | nil => exact SeqAt.RcNeAt.lists (e := fun _ => true) p1.isList p2.isList rfl (by omega) (fun j h1 h2 => absurd h1 (Nat.not_lt_zero _)) X.prog X.w _ _ ⟨.bl false, H, I, rfl, q⟩
  | cons r t => exact SeqAt.RcNeAt.lists_lengths p1.isList p2.isList (by simp) (by omega) X.prog X.w _ _ ⟨.bl true, H, I, rfl, q⟩
end
/-- all stands but the list at r -/
structure KpB (r : Addr) (H H' : Hp) : Prop where
  k : ∀ b o, H b = some o → (∀ ps, o ≠ .tbl ps) → (∀ xs, o = .lst xs → b ≠ r) → H' b = some o
  t : ∀ b ps, H b = some (.tbl ps) → ∃ ps' : Array Value, H' b = some (.tbl ps') ∧ TabUp ps ps'
  r : ∀ xs, H r = some (.lst xs) → ∃ ys, H' r = some (.lst ys)
section
variable {r : Addr} {H H1 H2 : Hp}
theorem Kp.b (z : Kp H H1) : KpB r H H1 := ⟨fun b o e n _ => z.k b o e n, z.t, fun xs e => ⟨xs, z.lst e⟩⟩
theorem KpB.refl (H : Hp) : KpB r H H := (Kp.refl H).b
theorem KpB.trans (a : KpB r H H1) (b : KpB r H1 H2) : KpB r H H2 where
  k := fun c o e n m => b.k c o (a.k c o e n m) n m
  t := fun c ps e => by
    obtain ⟨p1, h1, t1⟩ := a.t c ps e
    obtain ⟨p2, h2, t2⟩ := b.t c p1 h1
    exact ⟨p2, h2, t1.trans t2⟩
  r := fun xs e => let ⟨ys, e1⟩ := a.r xs e; b.r ys e1
theorem KpB.none (z : KpB r H H1) {p : Addr} (h : H1 p = Option.none) : H p = Option.none := by
  cases e : H p with
  | none => rfl
  | some o =>
    by_cases q : ∃ ps, o = .tbl ps
    · obtain ⟨ps, rfl⟩ := q
      obtain ⟨ps', h', _⟩ := z.t p ps e
      rw [h] at h'
      cases h'
    · by_cases l : ∃ xs, o = .lst xs ∧ p = r
      · obtain ⟨xs, rfl, rfl⟩ := l
        obtain ⟨ys, e2⟩ := z.r xs e
        rw [h] at e2
        cases e2
      · have := z.k p o e (fun ps w => q ⟨ps, w⟩) (fun xs e1 e2 => l ⟨xs, e1, e2⟩)
        rw [h] at this
        cases this
theorem KpB.put (z : KpB r H H1) {p : Addr} (n : H p = Option.none) {o : HO} (hr : p ≠ r) : KpB r H (upd H1 p o) := by
  have ne : ∀ b u, H b = some u → b ≠ p := fun b u e q => by rw [q, n] at e; cases e
  refine ⟨fun b u e q m => by rw [upd_ne (ne b u e)]; exact z.k b u e q m, fun b ps e => by rw [upd_ne (ne b _ e)]; exact z.t b ps e, fun xs e => ?_⟩
  obtain ⟨ys, e2⟩ := z.r xs e
  exact ⟨ys, by rw [upd_ne hr.symm]; exact e2⟩
/-- the row itself changes -/
theorem KpB.row (z : KpB r H H1) {xs : List V} (h : H r = some (.lst xs)) {ys : List V} : KpB r H (upd H1 r (.lst ys)) := by
  refine ⟨fun b u e q m => ?_, fun b ps e => ?_, fun xs e => ⟨ys, upd_same⟩⟩
  · have : b ≠ r := fun w => by
      rw [w, h] at e
      exact m xs (Option.some.inj e).symm w
    rw [upd_ne this]
    exact z.k b u e q m
  · have : b ≠ r := fun w => by rw [w, h] at e; cases e
    rw [upd_ne this]
    exact z.t b ps e
theorem KpB.tup (z : KpB r H H1) : Tup H H1 := ⟨fun c xs h => z.k c _ h (fun _ q => by cases q) (fun _ q => by cases q), fun c o u h => z.k c _ h (fun _ q => by cases q) (fun _ q => by cases q)⟩
theorem KpB.lst (z : KpB r H H1) {a : Addr} {xs : List V} (h : H a = some (.lst xs)) (hr : a ≠ r) : H1 a = some (.lst xs) := z.k a _ h (fun _ q => by cases q) (fun _ _ => hr)
theorem KpB.ext (z : KpB r H H1) {a : Addr} {f : Heap → Prop} (h : H a = some (.ext f)) : H1 a = some (.ext f) := z.k a _ h (fun _ q => by cases q) (fun _ q => by cases q)
theorem KpB.tabG (z : KpB r H H1) {P : Addr} (g : GxR.TabG H P) : GxR.TabG H1 P := by
  obtain ⟨ps, hP, hT⟩ := g
  obtain ⟨ps', h', t⟩ := z.t P ps hP
  exact ⟨ps', h', t.1 hT⟩
theorem KpB.sqL {K : PySem.W.Frag} (z : KpB r H H1) {a : Addr} {xs : List V} (h : SqL K H a xs) (hr : a ≠ r) : SqL K H1 a xs := by
  rcases h with (h | ⟨o, h⟩) | h
  · exact .inl (.inl (z.lst h hr))
  · exact .inl (.inr ⟨o, z.tup.f _ _ _ h⟩)
  · exact .inr h
theorem Tup.pts {K : PySem.W.Frag} (z : Tup H H1) {v : V} {ts : List (List Int)} (h : PTS K H v ts) : PTS K H1 v ts := let ⟨b, xs, e, s, p⟩ := h; ⟨b, xs, e, z.sq s, p.mono fun _ _ q => NS.Tup.pt z q⟩
theorem Tup.house {K : PySem.W.Frag} (z : Tup H H1) {v : V} {n : Nat} {ts : List (List Int)} (h : HouseAt K H v n ts) : HouseAt K H1 v n ts := let ⟨a, tv, e, s, p⟩ := h; ⟨a, tv, e, z.sq s, NS.Tup.pts z p⟩
end
/-- the row of draws at r over the script at sa -/
def RowAt (H : Hp) (r sa : Addr) : Prop := ∃ (i : Nat) (sd rest : Int), H r = some (.lst [.ref sa, .int i, .int sd, .int rest]) ∧ 0 ≤ rest
theorem Kp.rowAt {H H' : Hp} (z : Kp H H') {r sa : Addr} (h : RowAt H r sa) : RowAt H' r sa := let ⟨i, sd, rest, e, p⟩ := h; ⟨i, sd, rest, z.lst e, p⟩
theorem RowAt.lst {H : Hp} {r sa : Addr} (h : RowAt H r sa) : ∃ xs, H r = some (.lst xs) := let ⟨i, sd, rest, e, p⟩ := h; ⟨_, e⟩
theorem RowAt.put {H : Hp} {r sa p : Addr} {o : HO} (h : RowAt H r sa) (n : p ≠ r) : RowAt (upd H p o) r sa := let ⟨i, sd, rest, e, q⟩ := h; ⟨i, sd, rest, by rw [upd_ne n.symm]; exact e, q⟩
end NS
end
section
set_option maxHeartbeats 4000000
/-! L1: the law's draws and turns -/
namespace NS
open PySem PySem.Spec PyProof.Rows L2 ZS
theorem scTaken : FnScope ["row", "many", "found", "cell"] ["row", "many"] (defScope sTaken) := ⟨rfl, rfl, rfl, by decide +kernel, rfl, by decide +kernel, by decide +kernel⟩
theorem scPick : FnScope ["row", "things"] ["row", "things"] (defScope sPick) := ⟨rfl, rfl, rfl, by decide +kernel, rfl, by decide +kernel, by decide +kernel⟩
theorem at4_0 {a b c d : V} : atI [a, b, c, d] 0 = some a := rfl
theorem at4_1 {a b c d : V} : atI [a, b, c, d] 1 = some b := rfl
theorem at4_2 {a b c d : V} : atI [a, b, c, d] 2 = some c := rfl
theorem at4_3 {a b c d : V} : atI [a, b, c, d] 3 = some d := rfl
theorem erase_map {α β : Type} (f : α → β) : ∀ (l : List α) (i : Nat), (l.map f).eraseIdx i = (l.eraseIdx i).map f
  | [], _ => rfl
  | _ :: _, 0 => rfl
  | a :: l, i + 1 => by
    show f a :: (l.map f).eraseIdx i = f a :: (l.eraseIdx i).map f
    rw [erase_map f l i]
/-- a list of ints is no row -/
theorem KpB.sqI {K : PySem.W.Frag} {r sa a : Addr} {H H1 : Hp} (z : KpB r H H1) (ra : RowAt H r sa) {ns : List Int} (h : SqL K H a (ns.map V.int)) : SqL K H1 a (ns.map V.int) := by
  rcases h with (h | ⟨o, h⟩) | h
  · refine .inl (.inl (z.lst h fun e => ?_))
    obtain ⟨i, sd, rest, e2, _⟩ := ra
    rw [← e, h] at e2
    have e3 := Option.some.inj e2
    injection e3 with e3
    cases ns with
    | nil => cases e3
    | cons n ns =>
      rw [List.map_cons] at e3
      injection e3 with e4 _
      cases e4
  · exact .inl (.inr ⟨o, z.tup.f _ _ _ h⟩)
  · exact .inr h
/-- r is the row of draws over a script -/
def Draws (K : PySem.W.Frag) (H : Hp) (r sa : Addr) : Prop := RowAt H r sa ∧ ∃ ns : List Int, SqL K H sa (ns.map V.int)
theorem Draws.b {K : PySem.W.Frag} {H H' : Hp} {r sa : Addr} (h : Draws K H r sa) (z : KpB r H H') (ra : RowAt H' r sa) : Draws K H' r sa := let ⟨ro, ns, e⟩ := h; ⟨ra, ns, z.sqI ro e⟩
theorem Draws.k {K : PySem.W.Frag} {H H' : Hp} {r sa : Addr} (h : Draws K H r sa) (z : Kp H H') : Draws K H' r sa := h.b z.b (z.rowAt h.1)
def spTaken (K : PySem.W.Frag) : Sp := fun vs H Q _ => ∃ (r sa : Addr) (m : Int), vs = [.ref r, .int m] ∧ Draws K H r sa ∧ 0 < m ∧ m < 1073741824 ∧ ∀ v H', KpB r H H' → RowAt H' r sa → 0 ≤ v → v < m → Q (.int v) H'
def spPick (K : PySem.W.Frag) : Sp := fun vs H Q _ => ∃ (r sa t : Addr) (xs : List V), vs = [.ref r, .ref t] ∧ Draws K H r sa ∧ t ≠ r ∧ SqL K H t xs ∧ xs ≠ [] ∧ xs.length < 1073741824 ∧ ∀ x H', KpB r H H' → RowAt H' r sa → x ∈ xs → Q x H'
section
variable {P : Program} {w : World} {K : PySem.W.Frag} {mg : Str → Option Value} {base : Heap} {f : Addr} {fd : FuncData}
theorem has_taken (F : FnP K "_law_taken" sTaken f fd) (m : mg "_law_taken" = some (.ref f)) (B : Bl mg) : Has P w K mg base "_law_taken" 1 [] (spTaken K) := by
  refine ⟨f, fd, ["row", "many"], [], m, F.kp, F.bindsN (fun _ _ _ _ _ _ us hl => match us, hl with | [_, _], _ => rfl), .nil, ?_⟩
  refine F.ok scTaken (fun vs H Q E h => ?_) (fun cdv A outer s H vs Q E hr h => ⟨_, PSs.nox (
    pss_cons (ps_if (pt_cmpR op_gt (pe_ix (r := rIxL K) ix_list (pv 0) pe_int (fun _ _ => rfl)) pe_int (nomark _))
      (pss_cons (ps_set (i := 2) scTaken.nd rfl (Or.inl rfl) (pe_op op_mod (pe_callTy call_int1 rfl B.int PyProof.Rows.boot_int (pa_cons (pe_ix (r := rIxL K) ix_list (pv 0) pe_int (fun _ _ => rfl)) pa_nil)) (pv 1)))
      (pss_cons (ps_asg (pe_op op_fdiv (pe_ix (r := rIxL K) ix_list (pv 0) pe_int (fun _ _ => rfl)) (pv 1)) (pg_sub (pv 0) pe_int set_list))
      (pss_one (ps_ret (pv 2))))) pss_nil)
    (pss_cons (ps_asg (pe_op op_add (pe_ix (r := rIxL K) ix_list (pv 0) pe_int (fun _ _ => rfl)) pe_int) (pg_sub (pv 0) pe_int set_list))
    (pss_cons (ps_if (pt_cmpR op_gt (pe_ix (r := rIxL K) ix_list (pv 0) pe_int (fun _ _ => rfl)) (pe_callB call_len_seq rfl B.len PySem.boot_len (pa_cons (pe_ix (r := rIxL K) ix_list (pv 0) pe_int (fun _ _ => rfl)) pa_nil)) (nomark _))
      (pss_cons (ps_asg (pe_op op_mod (pe_callTy call_int1 rfl B.int PyProof.Rows.boot_int (pa_cons (pe_op op_add (pe_op op_mul (pe_ix (r := rIxL K) ix_list (pv 0) pe_int (fun _ _ => rfl)) pe_int) pe_int) pa_nil)) pe_int) (pg_sub (pv 0) pe_int set_list))
      (pss_one (ps_ret (pe_op op_mod (pe_callTy call_int1 rfl B.int PyProof.Rows.boot_int (pa_cons (pe_op op_fdiv (pe_ix (r := rIxL K) ix_list (pv 0) pe_int (fun _ _ => rfl)) pe_int) pa_nil)) (pv 1))))) pss_nil)
    (pss_cons (ps_set (i := 3) scTaken.nd rfl (Or.inl rfl) (pe_ix (r := rIxL K) ix_list (pe_ix (r := rIxL K) ix_list (pv 0) pe_int (fun _ _ => rfl)) (pe_op op_sub (pe_ix (r := rIxL K) ix_list (pv 0) pe_int (fun _ _ => rfl)) pe_int) (fun _ _ => rfl)))
    (pss_cons (ps_asg (pe_op op_mod (pe_callTy call_int1 rfl B.int PyProof.Rows.boot_int (pa_cons (pe_op op_add (pe_op op_add (pe_op op_mul (pe_ix (r := rIxL K) ix_list (pv 0) pe_int (fun _ _ => rfl)) pe_int) (pv 3)) pe_int) pa_nil)) pe_int) (pg_sub (pv 0) pe_int set_list))
    (pss_cons (ps_if (pt_cmpR op_ge (pv 3) (pe_op op_pow pe_int pe_int) (nomark _)) (pss_one (ps_asg (pe_op op_fdiv (pv 3) (pv 1)) (pg_sub (pv 0) pe_int set_list))) pss_nil)
    (pss_one (ps_ret (pe_op op_mod (pe_callTy call_int1 rfl B.int PyProof.Rows.boot_int (pa_cons (pv 3) pa_nil)) (pv 1)))))))))), ?_⟩)
  · obtain ⟨r, sa, m, rfl, _⟩ := h
    rfl
  · obtain ⟨r, sa, mm, rfl, ⟨⟨i, sd, rest, hrow, hrest⟩, ns, hns⟩, m0, m1, q⟩ := h
    refine ⟨_, rfl, ⟨r, _, _, _, rfl, rfl, SqL.of hrow, at4_3, ⟨_, _, rfl, rfl, _, rfl, ?_⟩⟩⟩
    by_cases hp : 0 < rest
    · refine ifT (A := _) (B := _) (decide_eq_true hp) ?_
      refine ⟨_, rfl, ⟨r, _, _, _, rfl, rfl, SqL.of hrow, at4_3, (.inl ⟨_, rfl, _, rfl, _, _, rfl, rfl, m0, ?_⟩)⟩⟩
      refine ⟨_, rfl, ⟨r, _, _, _, rfl, rfl, SqL.of hrow, at4_3, ⟨_, rfl, _, _, rfl, rfl, ⟨m0, m1⟩, ?_⟩⟩⟩
      refine ⟨_, rfl, r, _, 3, 3, rfl, rfl, hrow, rfl, ?_⟩
      have hm := Int.emod_lt_of_pos rest m0
      have hm0 := Int.emod_nonneg rest (Int.ne_of_gt m0)
      exact ⟨_, rfl, q _ _ ((KpB.refl H).row hrow) ⟨i, sd, rest / mm, upd_same, Int.ediv_nonneg (by omega) (by omega)⟩ hm0 hm⟩
    · refine ifF (A := _) (B := _) (decide_eq_false hp) ?_
      have h0 : rest = 0 := by omega
      subst h0
      refine ⟨_, rfl, ⟨r, _, _, _, rfl, rfl, SqL.of hrow, at4_1, ⟨_, _, rfl, rfl, ?_⟩⟩⟩
      refine ⟨_, rfl, r, _, 1, 1, rfl, rfl, hrow, rfl, ?_⟩
      have z1 : KpB r H (upd H r (.lst [.ref sa, .int ((i : Int) + 1), .int sd, .int 0])) := (KpB.refl H).row hrow
      have hrow1 : (upd H r (.lst [.ref sa, .int ((i : Int) + 1), .int sd, .int 0])) r = some (.lst [.ref sa, .int ((i : Int) + 1), .int sd, .int 0]) := upd_same
      have hns1 := z1.sqI ⟨i, sd, 0, hrow, Int.le_refl _⟩ hns
      refine ⟨_, rfl, ⟨r, _, _, _, rfl, rfl, SqL.of hrow1, at4_1, ⟨_, rfl, ⟨r, _, _, _, rfl, rfl, SqL.of hrow1, at4_0, ⟨sa, _, rfl, .inl hns1, _, _, rfl, rfl, _, rfl, ?_⟩⟩⟩⟩⟩
      rw [List.length_map]
      by_cases hl : (ns.length : Int) < (i : Int) + 1
      · refine ifT (A := _) (B := _) (decide_eq_true hl) ?_
        refine ⟨_, rfl, ⟨r, _, _, _, rfl, rfl, SqL.of hrow1, at4_2, ⟨_, _, rfl, rfl, .inr ⟨by decide, by decide⟩, _, _, rfl, rfl, .inl ⟨_, rfl, _, _, rfl, rfl, (by show (0 : Int) < 2147483647; decide), ?_⟩⟩⟩⟩
        refine ⟨_, rfl, r, _, 2, 2, rfl, rfl, hrow1, rfl, ?_⟩
        rw [upd_upd]
        refine ⟨_, rfl, ⟨r, _, _, _, rfl, rfl, SqL.of upd_same, at4_2, ⟨_, _, rfl, rfl, ⟨by decide, by decide⟩, .inl ⟨_, rfl, _, rfl, _, _, rfl, rfl, m0, ?_⟩⟩⟩⟩
        exact q _ _ ((KpB.refl H).row hrow) ⟨i + 1, _, 0, by rw [upd_same]; rfl, by omega⟩ (Int.emod_nonneg _ (Int.ne_of_gt m0)) (Int.emod_lt_of_pos _ m0)
      · refine ifF (A := _) (B := _) (decide_eq_false hl) ?_
        have hi : i < ns.length := by omega
        refine ⟨_, rfl, ⟨r, _, _, _, rfl, rfl, SqL.of hrow1, at4_0, ⟨_, rfl, ⟨r, _, _, _, rfl, rfl, SqL.of hrow1, at4_1, ⟨_, _, rfl, rfl, sa, _, _, .int (ns.getD i 0), rfl, rfl, hns1, ?_, ?_⟩⟩⟩⟩⟩
        · have e : (i : Int) + 1 - 1 = (i : Int) := by omega
          rw [e]
          exact atI_nat (by rw [List.getElem?_map, get_some hi 0]; rfl)
        generalize ns.getD i 0 = cell
        refine ⟨_, rfl, ⟨r, _, _, _, rfl, rfl, SqL.of hrow1, at4_2, ⟨_, _, rfl, rfl, .inr ⟨by decide, by decide⟩, _, rfl, _, _, rfl, rfl, _, _, rfl, rfl, .inl ⟨_, rfl, _, _, rfl, rfl, (by show (0 : Int) < 2147483647; decide), ?_⟩⟩⟩⟩
        refine ⟨_, rfl, r, _, 2, 2, rfl, rfl, hrow1, rfl, ?_⟩
        rw [upd_upd]
        refine ⟨_, rfl, _, _, rfl, rfl, ⟨by decide, by decide, by decide⟩, _, _, rfl, rfl, _, rfl, ?_⟩
        by_cases hc : (10 : Int) ^ (18 : Int).toNat ≤ cell
        · refine ifT (A := _) (B := _) (decide_eq_true hc) ?_
          refine ⟨_, rfl, _, rfl, _, _, rfl, rfl, ⟨m0, m1⟩, ?_⟩
          refine ⟨_, rfl, r, _, 3, 3, rfl, rfl, upd_same, rfl, ?_⟩
          have c0 : 0 ≤ cell := Int.le_trans (by decide) hc
          exact ⟨_, rfl, .inl ⟨_, rfl, _, rfl, _, _, rfl, rfl, m0, q _ _ (((KpB.refl H).row hrow).row hrow) ⟨i + 1, _, cell / mm, by rw [upd_same]; rfl, Int.ediv_nonneg c0 (by omega)⟩ (Int.emod_nonneg _ (Int.ne_of_gt m0)) (Int.emod_lt_of_pos _ m0)⟩⟩
        · refine ifF (A := _) (B := _) (decide_eq_false hc) ?_
          exact ⟨_, rfl, .inl ⟨_, rfl, _, rfl, _, _, rfl, rfl, m0, q _ _ ((KpB.refl H).row hrow) ⟨i + 1, _, 0, by rw [upd_same]; rfl, by omega⟩ (Int.emod_nonneg _ (Int.ne_of_gt m0)) (Int.emod_lt_of_pos _ m0)⟩⟩
theorem has_pick (F : FnP K "_law_pick" sPick f fd) (m : mg "_law_pick" = some (.ref f)) (B : Bl mg) (hT : Has P w K mg base "_law_taken" 1 [] (spTaken K)) : Has P w K mg base "_law_pick" 2 [] (spPick K) := by
  refine ⟨f, fd, ["row", "things"], [], m, F.kp, F.bindsN (fun _ _ _ _ _ _ us hl => match us, hl with | [_, _], _ => rfl), .nil, ?_⟩
  refine F.ok scPick (fun vs H Q E h => ?_) (fun cdv A outer s H vs Q E hr h => ⟨_, PSs.nox (
    pss_one (ps_ret (pe_ix (r := rIxL K) ix_list (pv 1) (pe_has hT hr (by decide) (pa_cons (pv 0) (pa_cons (pe_callB call_len_seq rfl B.len PySem.boot_len (pa_cons (pv 1) pa_nil)) pa_nil))) (fun _ _ => rfl)))), ?_⟩)
  · obtain ⟨r, sa, t, xs, rfl, _⟩ := h
    rfl
  · obtain ⟨r, sa, t, xs, rfl, hd, ne, hx, hne, hl, q⟩ := h
    have hpos : 0 < xs.length := List.length_pos_iff.mpr hne
    refine ⟨_, rfl, _, rfl, _, rfl, t, xs, rfl, .inl hx, r, sa, _, rfl, hd, by omega, by omega, fun v H1 z1 ra h0 h1 => ?_⟩
    obtain ⟨j, rfl⟩ := Int.eq_ofNat_of_zero_le h0
    have hj : j < xs.length := by omega
    exact ⟨t, xs, _, xs[j], rfl, rfl, z1.sqL hx ne, atI_nat (List.getElem?_eq_getElem hj), q _ _ z1 ra (List.getElem_mem hj)⟩
end
end NS
end
section
set_option maxHeartbeats 4000000
/-! DT: nested values; written ones -/
namespace NS
open PySem PySem.Spec PyProof.Rows L2 ZS
inductive Dt where
  | int (i : Int) | bl (b : Bool) | tup (xs : List Dt) | lst (xs : List Dt)
mutual
/-- v stands for d -/
def IsDt (K : PySem.W.Frag) (H : Hp) : Dt → V → Prop
  | .int i, v => v = .int i
  | .bl b, v => v = .bl b
  | .tup ds, v => ∃ a xs, v = .ref a ∧ SqT K H a xs ∧ IsDts K H ds xs
  | .lst ds, v => ∃ a xs, v = .ref a ∧ SqL K H a xs ∧ IsDts K H ds xs
def IsDts (K : PySem.W.Frag) (H : Hp) : List Dt → List V → Prop
  | [], vs => vs = []
  | d :: ds, vs => ∃ v r, vs = v :: r ∧ IsDt K H d v ∧ IsDts K H ds r
end
mutual
def Dt.depth : Dt → Nat
  | .int _ => 0
  | .bl _ => 0
  | .tup ds => Dt.depths ds + 1
  | .lst ds => Dt.depths ds + 1
def Dt.depths : List Dt → Nat
  | [] => 0
  | d :: ds => max (Dt.depth d) (Dt.depths ds)
end
section
variable {K : PySem.W.Frag} {H H' : Hp}
mutual
theorem IsDt.kp (z : Kp H H') : ∀ (d : Dt) (v : V), IsDt K H d v → IsDt K H' d v
  | .int i, v, h => by unfold IsDt at h ⊢; exact h
  | .bl b, v, h => by unfold IsDt at h ⊢; exact h
  | .tup ds, v, h => by
    unfold IsDt at h ⊢
    obtain ⟨a, xs, e, s, r⟩ := h
    exact ⟨a, xs, e, z.sqT s, IsDts.kp z ds xs r⟩
  | .lst ds, v, h => by
    unfold IsDt at h ⊢
    obtain ⟨a, xs, e, s, r⟩ := h
    exact ⟨a, xs, e, z.sqL s, IsDts.kp z ds xs r⟩
theorem IsDts.kp (z : Kp H H') : ∀ (ds : List Dt) (vs : List V), IsDts K H ds vs → IsDts K H' ds vs
  | [], vs, h => by unfold IsDts at h ⊢; exact h
  | d :: ds, vs, h => by
    unfold IsDts at h ⊢
    obtain ⟨v, r, e, h1, h2⟩ := h
    exact ⟨v, r, e, IsDt.kp z d v h1, IsDts.kp z ds r h2⟩
end
theorem IsDts.len : ∀ {ds : List Dt} {vs : List V}, IsDts K H ds vs → vs.length = ds.length
  | [], vs, h => by unfold IsDts at h; rw [h]; rfl
  | d :: ds, vs, h => by
    unfold IsDts at h
    obtain ⟨v, r, e, _, h2⟩ := h
    rw [e, List.length_cons, List.length_cons, IsDts.len h2]
theorem IsDts.get : ∀ {ds : List Dt} {vs : List V} {i : Nat} {d : Dt}, IsDts K H ds vs → ds[i]? = some d → ∃ v, vs[i]? = some v ∧ IsDt K H d v
  | [], vs, i, d, h, e => by simp at e
  | d0 :: ds, vs, 0, d, h, e => by
    unfold IsDts at h
    obtain ⟨v, r, e1, h1, _⟩ := h
    cases e
    exact ⟨v, by rw [e1]; rfl, h1⟩
  | d0 :: ds, vs, i + 1, d, h, e => by
    unfold IsDts at h
    obtain ⟨v, r, e1, _, h2⟩ := h
    obtain ⟨x, h3, h4⟩ := IsDts.get h2 (i := i) (d := d) e
    exact ⟨x, by rw [e1]; exact h3, h4⟩
theorem IsDts.snoc : ∀ {ds es : List Dt} {vs ws : List V}, IsDts K H ds vs → IsDts K H es ws → IsDts K H (ds ++ es) (vs ++ ws)
  | [], es, vs, ws, h, h' => by unfold IsDts at h; rw [h]; exact h'
  | d :: ds, es, vs, ws, h, h' => by
    unfold IsDts at h
    obtain ⟨v, r, e, h1, h2⟩ := h
    show IsDts K H (d :: (ds ++ es)) (vs ++ ws)
    unfold IsDts
    exact ⟨v, r ++ ws, by rw [e]; rfl, h1, IsDts.snoc h2 h'⟩
theorem dt_ints : ∀ ns : List Int, IsDts K H (ns.map Dt.int) (ns.map V.int)
  | [] => by unfold IsDts; rfl
  | n :: ns => by
    show IsDts K H (Dt.int n :: ns.map Dt.int) (V.int n :: ns.map V.int)
    unfold IsDts
    exact ⟨_, _, rfl, by unfold IsDt; rfl, dt_ints ns⟩
theorem of_dt_ints : ∀ (ns : List Int) (vs : List V), IsDts K H (ns.map Dt.int) vs → vs = ns.map V.int
  | [], vs, h => by simp only [List.map_nil] at h; unfold IsDts at h; rw [h]; rfl
  | n :: ns, vs, h => by
    simp only [List.map_cons] at h
    unfold IsDts at h
    obtain ⟨v, r, e, h1, h2⟩ := h
    unfold IsDt at h1
    rw [e, h1, of_dt_ints ns r h2, List.map_cons]
abbrev dT (t : List Int) : Dt := .tup (t.map Dt.int)
theorem TI.dt {v : V} {k : List Int} (h : TI K H v k) : IsDt K H (dT k) v := by
  obtain ⟨a, e, s⟩ := h
  unfold IsDt
  exact ⟨a, _, e, s, dt_ints k⟩
theorem dt_ti {v : V} {k : List Int} (h : IsDt K H (dT k) v) : TI K H v k := by
  unfold IsDt at h
  obtain ⟨a, xs, e, s, r⟩ := h
  rw [of_dt_ints k xs r] at s
  exact ⟨a, e, s⟩
end
section
variable {X : Cx}
end
end NS
end
section
set_option maxHeartbeats 4000000
/-! L2x: circle, stayers, undone, then, members of the law -/
namespace NS
open PySem PySem.Spec PyProof.Rows L2 ZS
theorem scLCircle : FnScope ["halls", "step", "hall"] ["halls", "step"] (defScope sLCircle) := ⟨rfl, rfl, rfl, by decide +kernel, rfl, by decide +kernel, by decide +kernel⟩
def circ (n s : Nat) : List Int := (List.range n).map fun (i : Nat) => ((i : Int) + (s : Int)) % (n : Int)
def spLCircle : Sp := fun vs H Q _ => ∃ n s : Nat, vs = [.int n, .int s] ∧ 1 ≤ n ∧ n ≤ 1000 ∧ ∀ v H', Kp H H' → PT H' v (circ n s) → Q v H'
theorem pr_pt {H H' : Hp} (z : Tup H H') {vs : List V} {as : List (List Int)} (h : Paired (PT H) vs as) : Paired (PT H') vs as := h.mono fun _ _ q => NS.Tup.pt z q
section
variable {P : Program} {w : World} {K : PySem.W.Frag} {mg : Str → Option Value} {base : Heap} {f : Addr} {fd : FuncData}
theorem has_lcircle (F : FnP K "_law_circle" sLCircle f fd) (m : mg "_law_circle" = some (.ref f)) (B : Bl mg) : Has P w K mg base "_law_circle" 1 [] spLCircle := by
  refine ⟨f, fd, ["halls", "step"], [], m, F.kp, F.bindsN (fun _ _ _ _ _ _ us hl => match us, hl with | [_, _], _ => rfl), .nil, ?_⟩
  refine F.ok scLCircle (fun vs H Q E h => ?_) (fun cdv A outer s H vs Q E hr h => ⟨_, PSs.nox (pss_one (ps_ret (pe_callTy cr_tupP rfl B.tuple PyProof.Rows.boot_tuple (pa_cons
    (pe_lc (own := [("hall", 2)]) (g := gName 2) (tt := tYes) rfl scLCircle.nd (pi_range1 rfl B.range (pa_cons (pv 0) pa_nil)) (blkOk_by (N := ["halls", "step", "hall"]) (sc := defScope sLCircle) (by decide +kernel))
      (fun _ _ _ _ _ => pg_name (i := 2) scLCircle.nd rfl (Or.inl rfl)) (fun _ _ _ _ _ => pts_nil) (fun _ _ _ _ _ => pe_op op_mod (pe_op op_add (pv 2) (pv 1)) (pv 0))) pa_nil)))), ?_⟩)
  · obtain ⟨n, s, rfl, _⟩ := h
    rfl
  · obtain ⟨n, s', rfl, hn, hn2, q⟩ := h
    refine ⟨_, rfl, (n : Int), rfl, by omega, by omega, fun D hD => ?_⟩
    show ∃ W, _
    have cl : (circ n s').length = n := by unfold circ; simp
    refine lcF (J := Itr 0 n) (Wlk.rng 0 n) hD (by have := big; omega) (fun i y _ => y = .int ((circ n s').getD i 0)) (fun _ _ _ _ _ h => h) (fun i x H' Q1 hi z hx q1 => ?_) (fun x H' Q Q' h q => h _ _ q) (fun ys H' z hD' hp => ?_)
    · subst hx
      refine ⟨rfl, _, rfl, _, rfl, _, _, rfl, rfl, _, rfl, _, _, rfl, rfl, (by show (0 : Int) < (n : Int); omega), q1 _ _ (Kp.refl _) ?_⟩
      rw [getD_of (d := 0) (x := ((i : Int) + (s' : Int)) % (n : Int)) (by unfold circ; rw [List.getElem?_map, List.getElem?_range hi]; rfl)]
      show V.int ((0 + (i : Int) + (s' : Int)) % (n : Int)) = _
      rw [Int.zero_add]
    · refine ⟨D, _, rfl, SqL.of hD', fun l o hl ho => ?_⟩
      rw [paired_ints cl hp]
      exact q _ _ (z.new hl) (.of upd_same ho)
end
end NS
end
section
set_option maxHeartbeats 4000000
/-! L3: the law's houses -/
namespace NS
open PySem PySem.Spec PyProof.Rows L2 ZS
def kn0 : List (Nat × List (List Int)) := [(2, [[1, 0]]), (3, [[1, 2, 0]]), (3, [[1, 2, 0], [0, 2, 1]])]
def kn1 : List (Nat × List (List Int)) := [(4, [circ 4 1]), (4, [[1, 0, 3, 2], [2, 3, 0, 1]])]
def kn2 : List (Nat × List (List Int)) := [(4, [[1, 2, 0, 3], [1, 0, 3, 2]]), (4, [circ 4 1, [0, 3, 2, 1]])]
def kn3 : List (Nat × List (List Int)) := [(4, [[1, 2, 3, 0], [1, 0, 2, 3]])]
def kn4 : List (Nat × List (List Int)) := [(5, [circ 5 1]), (5, [circ 5 1, [0, 4, 3, 2, 1]])]
def kn5 : List (Nat × List (List Int)) := [(5, [circ 5 1, [0, 2, 4, 1, 3]])]
def kn6 : List (Nat × List (List Int)) := [(5, [[1, 2, 0, 3, 4], [0, 1, 3, 4, 2]]), (6, [circ 6 1])]
def kn7 : List (Nat × List (List Int)) := [(6, [circ 6 1, [0, 5, 4, 3, 2, 1]])]
def kn8 : List (Nat × List (List Int)) := [(6, [[1, 2, 0, 4, 5, 3], [3, 5, 4, 0, 2, 1]]), (6, [[1, 2, 3, 4, 0, 5], [5, 4, 2, 3, 1, 0]])]
def kn9 : List (Nat × List (List Int)) := [(7, [circ 7 1, [0, 2, 4, 6, 1, 3, 5]])]
def kn10 : List (Nat × List (List Int)) := [(7, [circ 7 1, [0, 3, 6, 2, 5, 1, 4]]), (7, [circ 7 1])]
def kn11 : List (Nat × List (List Int)) := [(8, [circ 8 1]), (8, [[1, 0, 3, 2, 5, 4, 7, 6], [0, 2, 4, 6, 3, 1, 7, 5]])]
def kn12 : List (Nat × List (List Int)) := [(8, [[1, 2, 3, 0, 5, 6, 7, 4], [4, 7, 6, 5, 2, 1, 0, 3]])]
def kn13 : List (Nat × List (List Int)) := [(8, [circ 8 1, [0, 7, 6, 5, 4, 3, 2, 1]])]
def known : List (Nat × List (List Int)) := (((((((((((((kn0 ++ kn1) ++ kn2) ++ kn3) ++ kn4) ++ kn5) ++ kn6) ++ kn7) ++ kn8) ++ kn9) ++ kn10) ++ kn11) ++ kn12) ++ kn13)
abbrev houseD (p : Nat × List (List Int)) : Dt := .tup [.int p.1, .tup (p.2.map dT)]
section
variable {P : Program} {w : World} {K : PySem.W.Frag} {mg : Str → Option Value} {base : Heap} {f : Addr} {fd : FuncData}
end
end NS
end
section
set_option maxHeartbeats 4000000
/-! L4: the law's house -/
namespace NS
open PySem PySem.Spec PyProof.Rows L2 ZS
theorem IsH.conj {n : Nat} {ts : List (List Int)} {m : List Int} (h : IsH n ts) (hm : IsT n m) : IsH n (ts.map (conj m)) := ⟨h.n1, h.n8, by rw [List.length_map]; exact h.t1, by rw [List.length_map]; exact h.t6, fun t ht => by
  obtain ⟨u, hu, rfl⟩ := List.mem_map.mp ht
  exact hm.conj (h.is u hu)⟩
/-- the houses that the law draws -/
def GoodH (n : Nat) (ts : List (List Int)) : Prop := IsH n ts ∧ ((∃ p ∈ known, ∃ m, n = p.1 ∧ IsT p.1 m ∧ ts = p.2.map (conj m)) ∨ n ≤ 5)
/-- a known house, its halls called otherwise -/
def KnownH (n : Nat) (ts : List (List Int)) : Prop := IsH n ts ∧ ∃ p ∈ known, ∃ m, n = p.1 ∧ IsT p.1 m ∧ ts = p.2.map (conj m)
theorem KnownH.good {n : Nat} {ts : List (List Int)} (h : KnownH n ts) : GoodH n ts := ⟨h.1, .inl h.2⟩
theorem dts_pr {K : PySem.W.Frag} {H : Hp} : ∀ (ts : List (List Int)) (xs : List V), IsDts K H (ts.map dT) xs → Paired (TI K H) xs ts
  | [], xs, h => by simp only [List.map_nil] at h; unfold IsDts at h; rw [h]; exact .nil
  | t :: ts, xs, h => by
    simp only [List.map_cons] at h
    unfold IsDts at h
    obtain ⟨v, r, e, h1, h2⟩ := h
    rw [e]
    exact .cons (dt_ti h1) (dts_pr ts r h2)
theorem house_dt {K : PySem.W.Frag} {H : Hp} {p : Nat × List (List Int)} {v : V} (h : IsDt K H (houseD p) v) : ∃ a tb xs, v = .ref a ∧ SqT K H a [.int p.1, .ref tb] ∧ SqT K H tb xs ∧ Paired (TI K H) xs p.2 := by
  unfold houseD at h
  unfold IsDt at h
  obtain ⟨a, us, e, s, h⟩ := h
  unfold IsDts at h
  obtain ⟨v1, r1, e1, h1, h⟩ := h
  unfold IsDts at h
  obtain ⟨v2, r2, e2, h2, h⟩ := h
  unfold IsDts at h
  unfold IsDt at h1 h2
  obtain ⟨tb, xs, e3, s3, h3⟩ := h2
  subst e1 e2 e3 h h1
  exact ⟨a, tb, xs, e, s, s3, dts_pr _ _ h3⟩
section
variable {P : Program} {w : World} {K : PySem.W.Frag} {mg : Str → Option Value} {base : Heap} {f : Addr} {fd : FuncData}
mutual
theorem IsDt.kpb {K : PySem.W.Frag} {H H' : Hp} {r : Addr} (z : KpB r H H') : ∀ (p : Nat × List (List Int)) (v : V), IsDt K H (houseD p) v → IsDt K H' (houseD p) v
  | p, v, h => by
    obtain ⟨a, tb, xs, e, h1, h2, h3⟩ := house_dt h
    have h3' : Paired (TI K H') xs p.2 := h3.mono fun _ _ q => z.tup.ti q
    have go : ∀ (ts : List (List Int)) (xs : List V), Paired (TI K H') xs ts → IsDts K H' (ts.map dT) xs := fun ts xs h => by
      induction h with
      | nil => simp only [List.map_nil]; unfold IsDts; rfl
      | cons p _ ih =>
        simp only [List.map_cons]
        unfold IsDts
        exact ⟨_, _, rfl, NS.TI.dt p, ih⟩
    unfold houseD
    unfold IsDt
    refine ⟨a, [.int p.1, .ref tb], e, z.tup.sq h1, ?_⟩
    unfold IsDts
    refine ⟨_, _, rfl, by unfold IsDt; rfl, ?_⟩
    unfold IsDts
    refine ⟨_, _, rfl, ?_, by unfold IsDts; rfl⟩
    unfold IsDt
    exact ⟨tb, xs, rfl, z.tup.sq h2, go _ _ h3'⟩
end
end
end NS
end
section
set_option maxHeartbeats 4000000
/-! L5: alike -/
namespace NS
open PySem PySem.Spec PyProof.Rows L2 ZS
mutual
def Dt.small : Dt → Prop
  | .int _ => True
  | .bl _ => True
  | .tup ds => ds.length ≤ 10000 ∧ Dt.smalls ds
  | .lst ds => ds.length ≤ 10000 ∧ Dt.smalls ds
def Dt.smalls : List Dt → Prop
  | [] => True
  | d :: ds => Dt.small d ∧ Dt.smalls ds
end
theorem tyx_L {K : PySem.W.Frag} {H : Hp} {a : Addr} {xs : List V} (h : SqL K H a xs) : TyX K H (.ref a) (.type "list") := by
  rcases h with (h | ⟨o, h⟩) | ⟨o, _, _, h1, h2, _⟩
  · exact .base (.lst h)
  · exact .base (.frz h)
  · exact .kList h1 h2
/-- a list (k) or a tuple -/
def SqB (K : PySem.W.Frag) (H : Hp) (k : Bool) (a : Addr) (xs : List V) : Prop := (k = true ∧ SqL K H a xs) ∨ (k = false ∧ SqT K H a xs)
abbrev tyB (k : Bool) : String := if k then "list" else "tuple"
theorem SqB.ty {K : PySem.W.Frag} {H : Hp} {k : Bool} {a : Addr} {xs : List V} (h : SqB K H k a xs) : TyX K H (.ref a) (.type (tyB k)) := by
  rcases h with ⟨rfl, h⟩ | ⟨rfl, h⟩
  · exact tyx_L h
  · exact tyx_T h
theorem SqB.or {K : PySem.W.Frag} {H : Hp} {k : Bool} {a : Addr} {xs : List V} (h : SqB K H k a xs) : SqL K H a xs ∨ SqT K H a xs := h.elim (fun h => .inl h.2) fun h => .inr h.2
theorem SqB.ix {K : PySem.W.Frag} {H : Hp} {k : Bool} {a : Addr} {xs : List V} (h : SqB K H k a xs) {i : Int} {v : V} {Q : VK} (e : atI xs i = some v) (q : Q v H) : rIx K (.ref a) (.int i) H Q :=
  h.elim (fun h => .inl ⟨a, xs, i, v, rfl, rfl, h.2, e, q⟩) fun h => .inr (.inl ⟨a, xs, i, v, rfl, rfl, h.2, e, q⟩)
section
variable {P : Program} {w : World} {K : PySem.W.Frag} {mg : Str → Option Value} {base : Heap} {f : Addr} {fd : FuncData}
end
end NS
end
section
set_option maxHeartbeats 4000000
/-! L6: the law's lots of pairs -/
namespace NS
open PySem PySem.Spec PyProof.Rows L2 ZS
/-- all pairs of halls -/
def G2 (n : Nat) : List (List Int) := (grid n n).map pr2
theorem mem_grid {n m : Nat} {p : Nat × Nat} : p ∈ grid n m ↔ p.1 < n ∧ p.2 < m := by
  unfold grid
  rw [List.mem_flatMap]
  constructor
  · rintro ⟨i, hi, e⟩
    obtain ⟨j, hj, rfl⟩ := List.mem_map.mp e
    exact ⟨List.mem_range.mp hi, List.mem_range.mp hj⟩
  · rintro ⟨h1, h2⟩
    exact ⟨p.1, List.mem_range.mpr h1, List.mem_map.mpr ⟨p.2, List.mem_range.mpr h2, rfl⟩⟩
theorem mem_g2 {n : Nat} {b : List Int} : b ∈ G2 n ↔ b.length = 2 ∧ Low n b := by
  unfold G2
  rw [List.mem_map]
  constructor
  · rintro ⟨p, hp, rfl⟩
    have h := mem_grid.mp hp
    refine ⟨rfl, fun x hx => ?_⟩
    rcases List.mem_cons.mp hx with e | e
    · rw [e]; show (0 : Int) ≤ (p.1 : Int) ∧ (p.1 : Int) < n; omega
    · rw [List.mem_singleton.mp e]; show (0 : Int) ≤ (p.2 : Int) ∧ (p.2 : Int) < n; omega
  · rintro ⟨hb, lo⟩
    match b, hb with
    | [x, y], _ =>
      have hx := lo x (by simp)
      have hy := lo y (by simp)
      refine ⟨(x.toNat, y.toNat), mem_grid.mpr ⟨by show x.toNat < n; omega, by show y.toNat < n; omega⟩, ?_⟩
      show [((x.toNat : Nat) : Int), ((y.toNat : Nat) : Int)] = [x, y]
      rw [Int.toNat_of_nonneg hx.1, Int.toNat_of_nonneg hy.1]
theorem g2_len (n : Nat) : (G2 n).length = n * n := by unfold G2; rw [List.length_map, grid_len]
theorem comp_low {n : Nat} {b t : List Int} (hb : Low n b) (ht : IsT n t) : Low n (comp b t) := fun x hx => by
  obtain ⟨k, hk, rfl⟩ := List.mem_map.mp hx
  have hk' := hb k hk
  exact ht.low _ (mem_getD (by rw [ht.len]; omega) 0)
theorem g2_cl {n : Nat} {ts : List (List Int)} (hi : ∀ t ∈ ts, IsT n t) : ∀ b ∈ G2 n, ∀ t ∈ ts, comp b t ∈ G2 n := fun b hb t ht => by
  obtain ⟨l2, lo⟩ := mem_g2.mp hb
  exact mem_g2.mpr ⟨by rw [comp_len, l2], comp_low lo (hi t ht)⟩
theorem comp_inj {n : Nat} {t : List Int} (ht : IsT n t) : ∀ {a b : List Int}, Low n a → Low n b → comp a t = comp b t → a = b
  | [], [], _, _, _ => rfl
  | [], y :: b, _, _, e => by cases e
  | x :: a, [], _, _, e => by cases e
  | x :: a, y :: b, ha, hb, e => by
    have e1 : t.getD x.toNat 0 :: comp a t = t.getD y.toNat 0 :: comp b t := e
    injection e1 with h1 h2
    have hx := ha x (List.mem_cons_self ..)
    have hy := hb y (List.mem_cons_self ..)
    have := ht.inj (i := x.toNat) (j := y.toNat) (by omega) (by omega) (by unfold at'; rw [h1])
    have exy : x = y := by omega
    rw [exy, comp_inj ht (fun z hz => ha z (List.mem_cons_of_mem _ hz)) (fun z hz => hb z (List.mem_cons_of_mem _ hz)) h2]
theorem g2_sym {n : Nat} {ts : List (List Int)} (hi : ∀ t ∈ ts, IsT n t) {p x : List Int} (hp : p ∈ G2 n) (h : Rch comp ts p x) : Rch comp ts x p :=
  h.symm (g2_cl hi) (fun t ht a ha b hb e => comp_inj (hi t ht) (mem_g2.mp ha).2 (mem_g2.mp hb).2 e) hp
/-- lots of pairs, each from its first one -/
structure PLots (n : Nat) (ts : List (List Int)) (LL : List (List (List Int))) : Prop where
  hd : ∀ lot ∈ LL, ∃ p rest, lot = p :: rest ∧ p ∈ G2 n ∧ lot.Nodup ∧ ∀ x, x ∈ lot ↔ Rch comp ts p x
  dj : LL.Pairwise fun l1 l2 => ∀ x ∈ l1, x ∉ l2
def LotsAt (K : PySem.W.Frag) (H : Hp) (fo : Addr) (us : List V) (LL : List (List (List Int))) : Prop := Paired (fun v lot => ∃ a ys, v = .ref a ∧ a ≠ fo ∧ H a = some (.lst ys) ∧ Paired (TI K H) ys lot) us LL
theorem pr_ti {K : PySem.W.Frag} {H H' : Hp} (z : Tup H H') {vs : List V} {as : List (List Int)} (h : Paired (TI K H) vs as) : Paired (TI K H') vs as := h.mono fun _ _ q => z.ti q
theorem LotsAt.kp {K : PySem.W.Frag} {H H' : Hp} {fo : Addr} {us : List V} {LL : List (List (List Int))} (h : LotsAt K H fo us LL) (z : Kp H H') : LotsAt K H' fo us LL := h.mono fun _ _ ⟨a, ys, e, n, h1, h2⟩ => ⟨a, ys, e, n, z.lst h1, pr_ti z.tup h2⟩
theorem LotsAt.put {K : PySem.W.Frag} {H : Hp} {fo : Addr} {us ws : List V} {LL : List (List (List Int))} (h : LotsAt K H fo us LL) {xs : List V} (hf : H fo = some (.lst xs)) : LotsAt K (upd H fo (.lst ws)) fo us LL := h.mono fun _ _ ⟨a, ys, e, n, h1, h2⟩ => ⟨a, ys, e, n, by rw [upd_ne n]; exact h1, pr_ti (Tup.put (by rw [hf]; trivial)) h2⟩
theorem pr_app {α β : Type} {F : α → β → Prop} {as bs : List α} {xs ys : List β} (h : Paired F as xs) (h' : Paired F bs ys) : Paired F (as ++ bs) (xs ++ ys) := by
  induction h with
  | nil => exact h'
  | cons p _ ih => exact .cons p ih
section
variable {P : Program} {w : World} {K : PySem.W.Frag} {mg : Str → Option Value} {base : Heap} {f : Addr} {fd : FuncData}
end
end NS
end
section
set_option maxHeartbeats 4000000
/-! L7: the law's parts and rings -/
namespace NS
open PySem PySem.Spec PyProof.Rows L2 ZS
theorem diag_rch {ts : List (List Int)} {i : Int} {x : List Int} : Rch comp ts [i, i] x ↔ ∃ h, x = [h, h] ∧ Orb ts i h := by
  constructor
  · intro h
    induction h with
    | base => exact ⟨i, rfl, .base⟩
    | next _ ht ih =>
      obtain ⟨h, rfl, o⟩ := ih
      exact ⟨_, rfl, .next o ht⟩
  · rintro ⟨h, rfl, o⟩
    induction o with
    | base => exact .base
    | next _ ht ih => exact .next ih ht
/-- the first pair of lot i -/
abbrev hdp (LLp : List (List (List Int))) (i : Nat) : List Int := (LLp.getD i []).getD 0 []
section
variable {n : Nat} {ts : List (List Int)} {LLp : List (List (List Int))}
theorem lots_dj (pl : PLots n ts LLp) {i j : Nat} (hi : i < LLp.length) (hj : j < LLp.length) {x : List Int} (h1 : x ∈ LLp.getD i []) (h2 : x ∈ LLp.getD j []) : i = j := by
  have pw := List.pairwise_iff_getElem.mp pl.dj
  have e1 : LLp.getD i [] = LLp[i] := getD_of (List.getElem?_eq_getElem hi)
  have e2 : LLp.getD j [] = LLp[j] := getD_of (List.getElem?_eq_getElem hj)
  rw [e1] at h1
  rw [e2] at h2
  rcases Nat.lt_trichotomy i j with h | h | h
  · exact absurd h2 (pw i j hi hj h x h1)
  · exact h
  · exact absurd h1 (pw j i hj hi h x h2)
end
section
variable {P : Program} {w : World} {K : PySem.W.Frag} {mg : Str → Option Value} {base : Heap} {f : Addr} {fd : FuncData}
end
end NS
end
section
set_option maxHeartbeats 4000000
/-! L8: the law's rings -/
namespace NS
open PySem PySem.Spec PyProof.Rows L2 ZS
section
variable {n : Nat} {t : List Int}
theorem hallS_in (ht : IsT n t) {a : Int} (ha : a ∈ idt n) : hallS a t ∈ idt n := by
  have h := mem_idt.mp ha
  have h2 := ht.getD (i := a.toNat) (by omega)
  refine mem_idt.mpr ?_
  show 0 ≤ t.getD a.toNat 0 ∧ t.getD a.toNat 0 < n
  omega
theorem hallS_inj (ht : IsT n t) {a b : Int} (ha : a ∈ idt n) (hb : b ∈ idt n) (e : hallS a t = hallS b t) : a = b := by
  have h1 := mem_idt.mp ha
  have h2 := mem_idt.mp hb
  have := ht.inj (i := a.toNat) (j := b.toNat) (by omega) (by omega) (by unfold at'; unfold hallS at e; rw [e])
  omega
theorem orb_sym {ts : List (List Int)} (hT : ∀ t ∈ ts, IsT n t) {a b : Int} (ha : a ∈ idt n) (h : Orb ts a b) : Orb ts b a :=
  h.symm (U := idt n) (fun a ha t ht => hallS_in (hT t ht) ha) (fun t ht a ha b hb e => hallS_inj (hT t ht) ha hb e) ha
theorem orb_in {ts : List (List Int)} (hT : ∀ t ∈ ts, IsT n t) {a b : Int} (ha : a ∈ idt n) (h : Orb ts a b) : b ∈ idt n := h.inU ha fun a ha t ht => hallS_in (hT t ht) ha
end
section
variable {n : Nat} {t : List Int} {OO : List (List Int)}
end
section
variable {P : Program} {w : World} {K : PySem.W.Frag} {mg : Str → Option Value} {base : Heap} {f : Addr} {fd : FuncData}
end
end NS
end
section
/-! M3: counting -/
namespace NS
/-! ### sums -/
theorem sum_map_add {α : Type} (f g : α → Nat) : ∀ l : List α, (l.map fun x => f x + g x).sum = (l.map f).sum + (l.map g).sum
  | [] => rfl
  | a :: l => by
    simp only [List.map_cons, List.sum_cons, sum_map_add f g l]
    omega
theorem sum_map_zero {α : Type} : ∀ l : List α, (l.map fun _ => 0).sum = 0
  | [] => rfl
  | a :: l => by simp only [List.map_cons, List.sum_cons, sum_map_zero l]
theorem sum_map_congr {α : Type} {f g : α → Nat} {l : List α} (h : ∀ x ∈ l, f x = g x) : (l.map f).sum = (l.map g).sum := by rw [List.map_congr_left h]
theorem sum_const {α : Type} (c : Nat) : ∀ l : List α, (l.map fun _ => c).sum = l.length * c
  | [] => by simp
  | a :: l => by
    simp only [List.map_cons, List.sum_cons, sum_const c l, List.length_cons, Nat.succ_mul]
    omega
theorem sum_flatten {α : Type} (f : α → Nat) : ∀ LL : List (List α), (LL.flatten.map f).sum = (LL.map fun k => (k.map f).sum).sum
  | [] => rfl
  | k :: LL => by rw [List.flatten_cons, List.map_append, List.sum_append, List.map_cons, List.sum_cons, sum_flatten f LL]
theorem sum_perm {l m : List Nat} (h : l.Perm m) : l.sum = m.sum := by
  induction h with
  | nil => rfl
  | cons a _ ih => rw [List.sum_cons, List.sum_cons, ih]
  | swap a b l => simp only [List.sum_cons]; omega
  | trans _ _ h1 h2 => rw [h1, h2]
theorem len_filter {α : Type} (p : α → Bool) : ∀ l : List α, (l.filter p).length = (l.map fun x => if p x = true then 1 else 0).sum
  | [] => rfl
  | a :: l => by
    rw [List.map_cons, List.sum_cons, ← len_filter p l]
    cases h : p a
    · rw [List.filter_cons_of_neg (by simp [h])]; simp
    · rw [List.filter_cons_of_pos h, List.length_cons]; simp; omega
/-- the same pairs counted both ways -/
theorem count_both {α γ : Type} (P : α → γ → Bool) (X : List α) : ∀ G : List γ, (G.map fun g => (X.filter fun x => P x g).length).sum = (X.map fun x => (G.filter fun g => P x g).length).sum
  | [] => by
    have := sum_map_zero X
    simpa using this.symm
  | g :: G => by
    rw [List.map_cons, List.sum_cons, count_both P X G, len_filter, ← sum_map_add]
    refine sum_map_congr fun x _ => ?_
    cases h : P x g
    · rw [List.filter_cons_of_neg (by simp [h])]; simp
    · rw [List.filter_cons_of_pos h, List.length_cons, if_pos rfl]; exact Nat.add_comm ..
theorem one_of {α : Type} [DecidableEq α] {a : α} : ∀ {k : List α}, k.Nodup → a ∈ k → (k.filter fun x => decide (a = x)).length = 1
  | [], _, h => by cases h
  | b :: k, nd, h => by
    obtain ⟨h1, h2⟩ := List.nodup_cons.mp nd
    by_cases e : a = b
    · subst e
      rw [List.filter_cons_of_pos (by simp), List.length_cons]
      have : k.filter (fun x => decide (a = x)) = [] := List.filter_eq_nil_iff.mpr fun x hx => by
        simp only [decide_eq_true_eq]
        intro e
        rw [e] at h1
        exact h1 hx
      rw [this]
      rfl
    · rw [List.filter_cons_of_neg (by simpa using e)]
      rcases List.mem_cons.mp h with h | h
      · exact absurd h e
      · exact one_of h2 h
/-- as many turns leave things in place as there are turns, times lots -/
theorem burnside {α γ : Type} [DecidableEq α] [DecidableEq γ] {G : List γ} {X : List α} {act : α → γ → α} {mul : γ → γ → γ} {LL : List (List α)} (ndG : G.Nodup) (pm : LL.flatten.Perm X)
    (hm : ∀ a ∈ G, ∀ b ∈ G, mul a b ∈ G) (hi : ∀ h ∈ G, ∀ a ∈ G, ∀ b ∈ G, mul h a = mul h b → a = b) (ha : ∀ x ∈ X, ∀ a ∈ G, ∀ b ∈ G, act (act x a) b = act x (mul a b))
    (hk : ∀ k ∈ LL, k.Nodup ∧ ∃ x0 ∈ k, (∀ g ∈ G, act x0 g ∈ k) ∧ ∀ x ∈ k, (∃ h ∈ G, act x0 h = x) ∧ ∃ h ∈ G, act x h = x0) :
    (G.map fun g => (X.filter fun x => decide (act x g = x)).length).sum = G.length * LL.length := by
  rw [count_both (fun x g => decide (act x g = x)) X G]
  rw [sum_perm ((pm.map fun x => (G.filter fun g => decide (act x g = x)).length).symm), sum_flatten]
  have each : ∀ k ∈ LL, (k.map fun x => (G.filter fun g => decide (act x g = x)).length).sum = G.length := fun k hkm => by
    obtain ⟨ndk, x0, hx0, hin, hx⟩ := hk k hkm
    have inX : ∀ x ∈ k, x ∈ X := fun x h => pm.mem_iff.mp (List.mem_flatten.mpr ⟨k, hkm, h⟩)
    have step : ∀ x ∈ k, (G.filter fun g => decide (act x g = x)).length = (G.filter fun g => decide (act x0 g = x)).length := fun x hxk => by
      obtain ⟨⟨h, hh, eh⟩, h', hh', eh'⟩ := hx x hxk
      refine Nat.le_antisymm ?_ ?_
      · have nd : ((G.filter fun g => decide (act x g = x)).map (mul h)).Nodup := nodup_map (List.Pairwise.filter _ ndG) fun a ha' b hb' e => hi h hh a (List.mem_filter.mp ha').1 b (List.mem_filter.mp hb').1 e
        have := nd_le nd (b := G.filter fun g => decide (act x0 g = x)) fun y hy => by
          obtain ⟨g, hg, rfl⟩ := List.mem_map.mp hy
          obtain ⟨g1, g2⟩ := List.mem_filter.mp hg
          refine List.mem_filter.mpr ⟨hm h hh g g1, decide_eq_true ?_⟩
          rw [← ha x0 (inX x0 hx0) h hh g g1, eh]
          exact of_decide_eq_true g2
        rwa [List.length_map] at this
      · have nd : ((G.filter fun g => decide (act x0 g = x)).map (mul h')).Nodup := nodup_map (List.Pairwise.filter _ ndG) fun a ha' b hb' e => hi h' hh' a (List.mem_filter.mp ha').1 b (List.mem_filter.mp hb').1 e
        have := nd_le nd (b := G.filter fun g => decide (act x g = x)) fun y hy => by
          obtain ⟨g, hg, rfl⟩ := List.mem_map.mp hy
          obtain ⟨g1, g2⟩ := List.mem_filter.mp hg
          refine List.mem_filter.mpr ⟨hm h' hh' g g1, decide_eq_true ?_⟩
          rw [← ha x (inX x hxk) h' hh' g g1, eh']
          exact of_decide_eq_true g2
        rwa [List.length_map] at this
    rw [sum_map_congr step, ← count_both (fun x g => decide (act x0 g = x)) k G, sum_map_congr (g := fun _ => 1) fun g hg => one_of ndk (hin g hg), sum_const, Nat.mul_one]
  rw [sum_map_congr each, sum_const, Nat.mul_comm]
/-! ### ascending lists are there -/
theorem asc_exists {α : Type} {lt : α → α → Prop} (tr : ∀ a b c, lt a b → lt b c → lt a c) (tot : ∀ a b, a ≠ b → lt a b ∨ lt b a) : ∀ l : List α, l.Nodup → ∃ k : List α, k.Perm l ∧ k.Pairwise lt
  | [], _ => ⟨[], List.Perm.refl _, List.Pairwise.nil⟩
  | a :: l, nd => by
    obtain ⟨h1, h2⟩ := List.nodup_cons.mp nd
    obtain ⟨k, pm, pw⟩ := asc_exists tr tot l h2
    have ins : ∀ k : List α, k.Pairwise lt → a ∉ k → ∃ k' : List α, k'.Perm (a :: k) ∧ k'.Pairwise lt := fun k => by
      induction k with
      | nil => exact fun _ _ => ⟨[a], List.Perm.refl _, List.pairwise_singleton _ _⟩
      | cons b k ih =>
        intro pw na
        obtain ⟨p1, p2⟩ := List.pairwise_cons.mp pw
        have nab : a ≠ b := fun e => na (by rw [e]; exact List.mem_cons_self ..)
        rcases tot a b nab with h | h
        · exact ⟨a :: b :: k, List.Perm.refl _, List.pairwise_cons.mpr ⟨fun x hx => by
            rcases List.mem_cons.mp hx with e | e
            · rw [e]; exact h
            · exact tr _ _ _ h (p1 x e), pw⟩⟩
        · obtain ⟨k', pm', pw'⟩ := ih p2 fun hk => na (List.mem_cons_of_mem _ hk)
          refine ⟨b :: k', (pm'.cons b).trans (List.Perm.swap a b k), List.pairwise_cons.mpr ⟨fun x hx => ?_, pw'⟩⟩
          rcases List.mem_cons.mp (pm'.mem_iff.mp hx) with e | e
          · rw [e]; exact h
          · exact p1 x e
    obtain ⟨k', pm', pw'⟩ := ins k pw fun h => h1 (pm.mem_iff.mp h)
    exact ⟨k', pm'.trans (pm.cons a), pw'⟩
theorem nd_attach {α : Type} {l : List α} (h : l.Nodup) : l.attach.Nodup := by
  have q : (l.attach.map (fun a : {a // a ∈ l} => a.1)).Nodup := by
    rw [List.attach_map_subtype_val]
    exact h
  exact (List.pairwise_map.mp q).imp fun {a b} hne e => hne (by rw [e])
/-- lots of two kinds, one to one -/
theorem match_lots {α β γ : Type} [DecidableEq α] [DecidableEq β] {A : List α} {B : List β} {R : α → β → Prop} (c : α → γ) (d : β → γ) (ndA : A.Nodup) (ndB : B.Nodup) (l : ∀ a ∈ A, ∃ b ∈ B, R a b) (r : ∀ b ∈ B, ∃ a ∈ A, R a b)
    (fn : ∀ a ∈ A, ∀ b ∈ B, ∀ b' ∈ B, R a b → R a b' → b = b') (inj : ∀ a ∈ A, ∀ a' ∈ A, ∀ b ∈ B, R a b → R a' b → a = a') (cd : ∀ a ∈ A, ∀ b ∈ B, R a b → c a = d b) : (A.map c).Perm (B.map d) := by
  classical
  have hs : ∃ s : {a // a ∈ A} → β, ∀ a, s a ∈ B ∧ R a.1 (s a) := ⟨fun a => Classical.choose (l a.1 a.2), fun a => Classical.choose_spec (l a.1 a.2)⟩
  obtain ⟨s, hs⟩ := hs
  have nd : (A.attach.map s).Nodup := nodup_map (nd_attach ndA) fun x _ y _ e => Subtype.ext (inj x.1 x.2 y.1 y.2 (s x) (hs x).1 (hs x).2 (by rw [e]; exact (hs y).2))
  have pm : (A.attach.map s).Perm B := (List.perm_ext_iff_of_nodup nd ndB).mpr fun b => by
    rw [List.mem_map]
    constructor
    · rintro ⟨x, _, rfl⟩
      exact (hs x).1
    · intro hb
      obtain ⟨a, ha, q⟩ := r b hb
      exact ⟨⟨a, ha⟩, List.mem_attach .., fn a ha _ (hs ⟨a, ha⟩).1 _ hb (hs ⟨a, ha⟩).2 q⟩
  have e : A.map c = (A.attach.map s).map d := by
    rw [List.map_map]
    conv => lhs; rw [← List.attach_map_subtype_val A]
    rw [List.map_map]
    refine List.map_congr_left fun x _ => ?_
    exact cd x.1 x.2 _ (hs x).1 (hs x).2
  rw [e]
  exact pm.map d
end NS
end
section
set_option maxHeartbeats 4000000
/-! M4: the group, its lots, its numbers -/
namespace NS
open PySem PySem.Spec PyProof.Rows L2 ZS
section
variable {n : Nat} {ts : List (List Int)} {a b c g h t : List Int}
theorem comp_low_assoc (ha : Low n a) (hb : IsT n b) (c : List Int) : comp (comp a b) c = comp a (comp b c) := by
  unfold comp
  rw [List.map_map]
  refine List.map_congr_left fun x hx => ?_
  have h := ha x hx
  exact (comp_getD c (a := b) (i := x.toNat) (by rw [hb.len]; omega)).symm
theorem comp_low_idt (ha : Low n a) : comp a (idt n) = a := by
  unfold comp
  conv => rhs; rw [← List.map_id a]
  refine List.map_congr_left fun x hx => ?_
  have h := ha x hx
  show (idt n).getD x.toNat 0 = x
  rw [idt_at (by omega)]
  omega
theorem grp_isT (hT : ∀ t ∈ ts, IsT n t) (h : Grp n ts g) : IsT n g := by
  induction h with
  | base => exact idt_isT n
  | next _ ht ih => exact ih.comp (hT _ ht)
theorem grp_mul (hT : ∀ t ∈ ts, IsT n t) (hg : Grp n ts g) (hh : Grp n ts h) : Grp n ts (comp g h) := by
  have ig := grp_isT hT hg
  have key : ∀ k, Rch comp ts (idt n) k → Grp n ts (comp g k) ∧ IsT n k := fun k hk => by
    induction hk with
    | base => exact ⟨by rw [comp_idt ig]; exact hg, idt_isT n⟩
    | next _ ht ih => exact ⟨by rw [← comp_assoc ig ih.2]; exact .next ih.1 ht, ih.2.comp (hT _ ht)⟩
  exact (key h hh).1
/-- what the turns make of places are the places behind a turn of the group -/
theorem rch_comp (hT : ∀ t ∈ ts, IsT n t) (ha : Low n a) {x : List Int} : Rch comp ts a x ↔ ∃ g, Grp n ts g ∧ x = comp a g := by
  constructor
  · intro h
    induction h with
    | base => exact ⟨idt n, .base, (comp_low_idt ha).symm⟩
    | next _ ht ih =>
      obtain ⟨g, hg, rfl⟩ := ih
      exact ⟨_, .next hg ht, comp_low_assoc ha (grp_isT hT hg) _⟩
  · rintro ⟨g, hg, rfl⟩
    have key : ∀ k, Rch comp ts (idt n) k → Rch comp ts a (comp a k) ∧ IsT n k := fun k hk => by
      induction hk with
      | base => exact ⟨by rw [comp_low_idt ha]; exact .base, idt_isT n⟩
      | next _ ht ih => exact ⟨by rw [← comp_low_assoc ha ih.2]; exact .next ih.1 ht, ih.2.comp (hT _ ht)⟩
    exact (key g hg).1
theorem hallS_comp {x : Int} (hx : x ∈ idt n) (ha : IsT n a) (b : List Int) : hallS (hallS x a) b = hallS x (comp a b) := by
  have h := mem_idt.mp hx
  exact (comp_getD b (a := a) (i := x.toNat) (by rw [ha.len]; omega)).symm
theorem hallS_idt {x : Int} (hx : x ∈ idt n) : hallS x (idt n) = x := by
  have h := mem_idt.mp hx
  unfold hallS
  rw [idt_at (by omega)]
  omega
theorem orb_grp (hT : ∀ t ∈ ts, IsT n t) {y x : Int} (hy : y ∈ idt n) : Orb ts y x ↔ ∃ g, Grp n ts g ∧ x = hallS y g := by
  constructor
  · intro h
    induction h with
    | base => exact ⟨idt n, .base, (hallS_idt hy).symm⟩
    | next _ ht ih =>
      obtain ⟨g, hg, rfl⟩ := ih
      exact ⟨_, .next hg ht, hallS_comp hy (grp_isT hT hg) _⟩
  · rintro ⟨g, hg, rfl⟩
    have key : ∀ k, Rch comp ts (idt n) k → Orb ts y (hallS y k) ∧ IsT n k := fun k hk => by
      induction hk with
      | base => exact ⟨by rw [hallS_idt hy]; exact .base, idt_isT n⟩
      | next _ ht ih => exact ⟨by rw [← hallS_comp hy ih.2]; exact .next ih.1 ht, ih.2.comp (hT _ ht)⟩
    exact (key g hg).1
theorem left_inj (hh : IsT n h) (ha : IsT n a) (hb : IsT n b) (e : comp h a = comp h b) : a = b := by
  have e2 : comp (inv h) (comp h a) = comp (inv h) (comp h b) := by rw [e]
  rwa [← comp_assoc hh.inv hh, ← comp_assoc hh.inv hh, inv_comp hh, idt_comp ha, idt_comp hb] at e2
theorem inv_uniq (ha : IsT n a) (hb : IsT n b) (e : comp a b = idt n) : inv a = b := left_inj ha ha.inv hb (by rw [comp_inv ha, e])
theorem inv_idt : inv (idt n) = idt n := inv_uniq (idt_isT n) (idt_isT n) (idt_comp (idt_isT n))
theorem inv_mul (ha : IsT n a) (hb : IsT n b) : inv (comp a b) = comp (inv b) (inv a) :=
  inv_uniq (ha.comp hb) (hb.inv.comp ha.inv) (by rw [← comp_assoc (ha.comp hb) hb.inv, comp_assoc ha hb, comp_inv hb, comp_idt ha, comp_inv ha])
theorem IsT.like (ha : IsT n a) (ht : IsT n t) : IsT n (likeS a t) := (ht.inv.comp ha).comp ht
theorem like_idt (ha : IsT n a) : likeS a (idt n) = a := by
  unfold likeS
  rw [inv_idt, idt_comp ha, comp_idt ha]
theorem like_like (ha : IsT n a) (hb : IsT n b) (hc : IsT n c) : likeS (likeS a b) c = likeS a (comp b c) := by
  unfold likeS
  rw [inv_mul hb hc]
  have h1 := hc.inv
  have h2 := hb.inv
  rw [← comp_assoc ((h1.comp h2).comp ha) hb c, comp_assoc h1 h2 a, comp_assoc h1 (h2.comp ha) b]
/-! ### lots of halls -/
theorem lot_ex (hT : ∀ t ∈ ts, IsT n t) {y : Int} (hy : y ∈ idt n) : ∃ k, Lot ts y k := by
  classical
  obtain ⟨k, pm, pw⟩ := asc_exists (lt := fun a b : Int => a < b) (fun a b c h1 h2 => by omega) (fun a b h => by omega) ((idt n).filter fun x => decide (Orb ts y x)) (List.Pairwise.filter _ (idt_isT n).nd)
  refine ⟨k, pw, pw.imp fun h e => by omega, fun x => ?_⟩
  rw [pm.mem_iff, List.mem_filter, decide_eq_true_iff]
  exact ⟨fun h => h.2, fun h => ⟨orb_in hT hy h, h⟩⟩
theorem lots_apart (hT : ∀ t ∈ ts, IsT n t) {k k' : List Int} (h1 : Lots n ts k) (h2 : Lots n ts k') {x : Int} (x1 : x ∈ k) (x2 : x ∈ k') : k = k' := by
  obtain ⟨i, hi, l1⟩ := h1
  obtain ⟨j, hj, l2⟩ := h2
  have ii : (i : Int) ∈ idt n := mem_idt.mpr (by omega)
  have jj : (j : Int) ∈ idt n := mem_idt.mpr (by omega)
  have o1 := (l1.mem x).mp x1
  have o2 := (l2.mem x).mp x2
  have e1 : Orb ts (i : Int) (j : Int) := o1.trans (orb_sym hT jj o2)
  have e2 := orb_sym hT ii e1
  refine Asc.uniq (G := Orb ts (i : Int)) (fun a => Int.lt_irrefl a) (fun a b h1 h2 => by omega) l1 ⟨l2.pw, l2.nd, fun y => (l2.mem y).trans ⟨fun q => e1.trans q, fun q => e2.trans q⟩⟩
theorem flat_nd {α : Type} {LL : List (List α)} (nd : ∀ k ∈ LL, k.Nodup) (dj : LL.Pairwise fun a b => ∀ x ∈ a, x ∉ b) : LL.flatten.Nodup := by
  induction LL with
  | nil => exact List.nodup_nil
  | cons k LL ih =>
    obtain ⟨p1, p2⟩ := List.pairwise_cons.mp dj
    rw [List.flatten_cons, List.nodup_append]
    refine ⟨nd k (List.mem_cons_self ..), ih (fun k' h => nd k' (List.mem_cons_of_mem _ h)) p2, fun x hx y hy e => ?_⟩
    subst e
    obtain ⟨k', hk', hx'⟩ := List.mem_flatten.mp hy
    exact p1 k' hk' x hx hx'
theorem lots_flat (hT : ∀ t ∈ ts, IsT n t) {LL : List (List Int)} (nd : LL.Nodup) (mem : ∀ k, k ∈ LL ↔ Lots n ts k) : LL.flatten.Perm (idt n) := by
  refine (List.perm_ext_iff_of_nodup (flat_nd (fun k hk => ?_) ?_) (idt_isT n).nd).mpr fun x => ?_
  · obtain ⟨i, _, l⟩ := (mem k).mp hk
    exact l.nd
  · refine nd.imp_of_mem fun {a b} ha hb ne x x1 x2 => ne (lots_apart hT ((mem a).mp ha) ((mem b).mp hb) x1 x2)
  · rw [List.mem_flatten]
    constructor
    · rintro ⟨k, hk, hx⟩
      obtain ⟨i, hi, l⟩ := (mem k).mp hk
      exact orb_in hT (mem_idt.mpr (by omega)) ((l.mem x).mp hx)
    · intro hx
      obtain ⟨k, l⟩ := lot_ex hT hx
      have := mem_idt.mp hx
      refine ⟨k, (mem k).mpr ⟨x.toNat, by omega, ?_⟩, (l.mem x).mpr .base⟩
      rw [Int.toNat_of_nonneg this.1]
      exact l
theorem kept_eq (ht : IsT n t) : (idt n).filter (fun x => decide (hallS x t = x)) = keptL t := by
  unfold idt keptL
  rw [List.filter_map, ht.len]
  rfl
/-- halls left in place, over the group -/
theorem sum_kept (hT : ∀ t ∈ ts, IsT n t) {LL W : List (List Int)} (ndW : W.Nodup) (mW : ∀ x, x ∈ W ↔ Grp n ts x) (nd : LL.Nodup) (mem : ∀ k, k ∈ LL ↔ Lots n ts k) : (W.map fun g => (keptL g).length).sum = W.length * LL.length := by
  have is : ∀ g ∈ W, IsT n g := fun g hg => grp_isT hT ((mW g).mp hg)
  rw [← burnside (X := idt n) (act := hallS) (mul := comp) ndW (lots_flat hT nd mem) (fun a ha b hb => (mW _).mpr (grp_mul hT ((mW a).mp ha) ((mW b).mp hb))) (fun h hh a ha b hb e => left_inj (is h hh) (is a ha) (is b hb) e) (fun x hx a ha b hb => hallS_comp hx (is a ha) b) fun k hk => ?_]
  · exact sum_map_congr fun g hg => by rw [kept_eq (is g hg)]
  · obtain ⟨i, hi, l⟩ := (mem k).mp hk
    have ii : (i : Int) ∈ idt n := mem_idt.mpr (by omega)
    refine ⟨l.nd, i, (l.mem _).mpr .base, fun g hg => (l.mem _).mpr ((orb_grp hT ii).mpr ⟨g, (mW g).mp hg, rfl⟩), fun x hx => ?_⟩
    have o := (l.mem x).mp hx
    obtain ⟨g, hg, e⟩ := (orb_grp hT ii).mp o
    obtain ⟨g', hg', e'⟩ := (orb_grp hT (orb_in hT ii o)).mp (orb_sym hT ii o)
    exact ⟨⟨g, (mW g).mpr hg, e.symm⟩, g', (mW g').mpr hg', e'.symm⟩
/-! ### lots of pairs -/
theorem filter_both {α β : Type} (p : α → Bool) (q : β → Bool) (l2 : List β) : ∀ l1 : List α, ((l1.flatMap fun i => l2.map fun j => (i, j)).filter fun x => p x.1 && q x.2).length = (l1.filter p).length * (l2.filter q).length
  | [] => by simp
  | a :: l1 => by
    rw [List.flatMap_cons, List.filter_append, List.length_append, filter_both p q l2 l1, List.filter_map, List.length_map]
    cases h : p a
    · rw [List.filter_cons_of_neg (by simp [h])]
      have : l2.filter ((fun x : α × β => p x.1 && q x.2) ∘ fun j => (a, j)) = [] := List.filter_eq_nil_iff.mpr fun x _ => by simp [h]
      rw [this]
      simp
    · rw [List.filter_cons_of_pos h, List.length_cons, Nat.succ_mul]
      have : l2.filter ((fun x : α × β => p x.1 && q x.2) ∘ fun j => (a, j)) = l2.filter q := List.filter_congr fun x _ => by simp [h]
      rw [this]
      exact Nat.add_comm ..
theorem kept2 (ht : IsT n t) : ((G2 n).filter fun x => decide (comp x t = x)).length = (keptL t).length * (keptL t).length := by
  unfold G2
  rw [List.filter_map, List.length_map]
  have e : (grid n n).filter ((fun x => decide (comp x t = x)) ∘ pr2) = (grid n n).filter fun x => decide (t.getD x.1 0 = (x.1 : Int)) && decide (t.getD x.2 0 = (x.2 : Int)) := List.filter_congr fun x _ => by
    show decide ([t.getD (x.1 : Int).toNat 0, t.getD (x.2 : Int).toNat 0] = [(x.1 : Int), (x.2 : Int)]) = _
    rw [Int.toNat_natCast, Int.toNat_natCast, ← Bool.decide_and]
    exact decide_eq_decide.mpr ⟨fun e => by injection e with e1 e2; injection e2 with e2 _; exact ⟨e1, e2⟩, fun ⟨e1, e2⟩ => by rw [e1, e2]⟩
  rw [e]
  have := filter_both (fun i : Nat => decide (t.getD i 0 = (i : Int))) (fun i : Nat => decide (t.getD i 0 = (i : Int))) (List.range n) (List.range n)
  unfold keptL
  rw [List.length_map, ht.len]
  exact this
theorem pl_flat (hT : ∀ t ∈ ts, IsT n t) {LLp : List (List (List Int))} (pl : PLots n ts LLp) (cm : ∀ p ∈ G2 n, ∃ lot ∈ LLp, p ∈ lot) : LLp.flatten.Perm (G2 n) := by
  have ndg : (G2 n).Nodup := by
    unfold G2
    refine nodup_map ?_ fun x hx y hy e => ?_
    · unfold grid
      have : ∀ l1 : List Nat, l1.Nodup → (l1.flatMap fun i => (List.range n).map fun j => (i, j)).Nodup := fun l1 => by
        induction l1 with
        | nil => exact fun _ => List.nodup_nil
        | cons a l1 ih =>
          intro nd
          obtain ⟨h1, h2⟩ := List.nodup_cons.mp nd
          rw [List.flatMap_cons, List.nodup_append]
          refine ⟨nodup_map List.nodup_range fun x _ y _ e => by injection e, ih h2, fun x hx y hy e => ?_⟩
          subst e
          obtain ⟨j, _, rfl⟩ := List.mem_map.mp hx
          obtain ⟨i, hi, hy⟩ := List.mem_flatMap.mp hy
          obtain ⟨j', _, e⟩ := List.mem_map.mp hy
          injection e with e _
          rw [e] at hi
          exact h1 hi
      exact this _ List.nodup_range
    · obtain ⟨x1, x2⟩ := x
      obtain ⟨y1, y2⟩ := y
      injection e with e1 e2
      injection e2 with e2 _
      have : x1 = y1 := by omega
      have : x2 = y2 := by omega
      subst x1 x2
      rfl
  refine (List.perm_ext_iff_of_nodup (flat_nd (fun k hk => ?_) pl.dj) ndg).mpr fun x => ?_
  · obtain ⟨p, rest, _, _, nd, _⟩ := pl.hd k hk
    exact nd
  · rw [List.mem_flatten]
    constructor
    · rintro ⟨k, hk, hx⟩
      obtain ⟨p, rest, _, hp, _, mem⟩ := pl.hd k hk
      exact ((mem x).mp hx).inU hp (g2_cl hT)
    · exact fun hx => cm x hx
theorem sum_kept2 (hT : ∀ t ∈ ts, IsT n t) {LLp : List (List (List Int))} {W : List (List Int)} (ndW : W.Nodup) (mW : ∀ x, x ∈ W ↔ Grp n ts x) (pl : PLots n ts LLp) (cm : ∀ p ∈ G2 n, ∃ lot ∈ LLp, p ∈ lot) :
    (W.map fun g => (keptL g).length * (keptL g).length).sum = W.length * LLp.length := by
  have is : ∀ g ∈ W, IsT n g := fun g hg => grp_isT hT ((mW g).mp hg)
  rw [← burnside (X := G2 n) (act := comp) (mul := comp) ndW (pl_flat hT pl cm) (fun a ha b hb => (mW _).mpr (grp_mul hT ((mW a).mp ha) ((mW b).mp hb))) (fun h hh a ha b hb e => left_inj (is h hh) (is a ha) (is b hb) e) (fun x hx a ha b hb => comp_low_assoc (mem_g2.mp hx).2 (is a ha) b) fun k hk => ?_]
  · exact sum_map_congr fun g hg => (kept2 (is g hg)).symm
  · obtain ⟨p, rest, e, hp, nd, mem⟩ := pl.hd k hk
    have lo := (mem_g2.mp hp).2
    refine ⟨nd, p, (mem _).mpr .base, fun g hg => (mem _).mpr ((rch_comp hT lo).mpr ⟨g, (mW g).mp hg, rfl⟩), fun x hx => ?_⟩
    have o := (mem x).mp hx
    have hx' := o.inU hp (g2_cl hT)
    obtain ⟨g, hg, e⟩ := (rch_comp hT lo).mp o
    obtain ⟨g', hg', e'⟩ := (rch_comp hT (mem_g2.mp hx').2).mp (g2_sym hT hp o)
    exact ⟨⟨g, (mW g).mpr hg, e.symm⟩, g', (mW g').mpr hg', e'.symm⟩
/-- as many lots of pairs, found so or so -/
theorem rank_eq (hT : ∀ t ∈ ts, IsT n t) {LL LLp : List (List (List Int))} (nd : LL.Nodup) (mem : ∀ k, k ∈ LL ↔ Lots2 n ts k) (pl : PLots n ts LLp) (cm : ∀ p ∈ G2 n, ∃ lot ∈ LLp, p ∈ lot) : LL.length = LLp.length := by
  have ndp : LLp.Nodup := pl.dj.imp_of_mem fun {a b} ha hb h e => by
    obtain ⟨p, rest, ea, _⟩ := pl.hd a ha
    subst e
    have := h p (by rw [ea]; exact List.mem_cons_self ..)
    rw [ea] at this
    exact this (List.mem_cons_self ..)
  have inG : ∀ {k}, Lots2 n ts k → ∃ p ∈ G2 n, Lot2 ts p k := fun ⟨p, hp, l⟩ => ⟨pr2 p, List.mem_map.mpr ⟨p, hp, rfl⟩, l⟩
  have outG : ∀ {k p}, p ∈ G2 n → Lot2 ts p k → Lots2 n ts k := fun hp l => by
    obtain ⟨q, hq, rfl⟩ := List.mem_map.mp hp
    exact ⟨q, hq, l⟩
  have pm := match_lots (A := LL) (B := LLp) (R := fun k lot => ∀ x, x ∈ k ↔ x ∈ lot) (fun _ => ()) (fun _ => ()) nd ndp (fun k hk => ?_) (fun lot hl => ?_) (fun k hk l1 h1 l2 h2 r1 r2 => ?_) (fun k hk k' hk' l hl r1 r2 => ?_) (fun _ _ _ _ _ => rfl)
  · have := pm.length_eq
    rwa [List.length_map, List.length_map] at this
  · obtain ⟨p, hp, l⟩ := inG ((mem k).mp hk)
    obtain ⟨lot, hl, hpl⟩ := cm p hp
    obtain ⟨q, rest, e, hq, ndl, ml⟩ := pl.hd lot hl
    have o := (ml p).mp hpl
    exact ⟨lot, hl, fun x => (l.mem x).trans (Iff.trans ⟨fun r => o.trans r, fun r => (g2_sym hT hq o).trans r⟩ (ml x).symm)⟩
  · obtain ⟨q, rest, e, hq, ndl, ml⟩ := pl.hd lot hl
    obtain ⟨k, pm, pw⟩ := asc_exists (lt := ltT) (fun a b c h1 h2 => lexI_tr a b c h1 h2) (fun a b h => by
      cases e : lexI a b with
      | true => exact .inl e
      | false => exact .inr (by
        cases e2 : lexI b a with
        | true => exact e2
        | false => exact absurd (lexI_tot a b e e2) h)) lot ndl
    have lk : Lot2 ts q k := ⟨pw, pm.nodup_iff.mpr ndl, fun x => pm.mem_iff.trans (ml x)⟩
    exact ⟨k, (mem k).mpr (outG hq lk), fun x => pm.mem_iff⟩
  · obtain ⟨p, hp, l⟩ := inG ((mem k).mp hk)
    have hp1 := (r1 p).mp ((l.mem p).mpr .base)
    have hp2 := (r2 p).mp ((l.mem p).mpr .base)
    obtain ⟨i, hi, ei⟩ := List.getElem_of_mem h1
    obtain ⟨j, hj, ej⟩ := List.getElem_of_mem h2
    have := lots_dj pl hi hj (x := p) (by rw [getD_of (List.getElem?_eq_getElem hi), ei]; exact hp1) (by rw [getD_of (List.getElem?_eq_getElem hj), ej]; exact hp2)
    subst this
    rw [← ei, ← ej]
  · obtain ⟨p, hp, lk⟩ := inG ((mem k).mp hk)
    obtain ⟨p', hp', lk'⟩ := inG ((mem k').mp hk')
    exact Asc.uniq (G := fun x => x ∈ l) ltT_irr ltT_tr ⟨lk.pw, lk.nd, r1⟩ ⟨lk'.pw, lk'.nd, r2⟩
end
end NS
end
section
set_option maxHeartbeats 4000000
/-! M5: rings, tables, room -/
namespace NS
open PySem PySem.Spec PyProof.Rows L2 ZS
section
variable {n : Nat} {t : List Int}
end
/-! ### room -/
def allL (n : Nat) : Nat → List (List Int)
  | 0 => [[]]
  | k + 1 => (idt n).flatMap fun x => (allL n k).map fun l => x :: l
theorem allL_len (n : Nat) : ∀ k, (allL n k).length = n ^ k
  | 0 => rfl
  | k + 1 => by
    have : ∀ l1 : List Int, (l1.flatMap fun x => (allL n k).map fun l => x :: l).length = l1.length * n ^ k := fun l1 => by
      induction l1 with
      | nil => simp
      | cons a l1 ih => rw [List.flatMap_cons, List.length_append, ih, List.length_map, allL_len n k, List.length_cons, Nat.succ_mul, Nat.add_comm]
    unfold allL
    rw [this, idt_len, Nat.pow_succ, Nat.mul_comm]
theorem allL_mem {n : Nat} : ∀ {k : Nat} {l : List Int}, l.length = k → Low n l → l ∈ allL n k
  | 0, [], _, _ => List.mem_singleton.mpr rfl
  | k + 1, x :: l, hl, lo => List.mem_flatMap.mpr ⟨x, mem_idt.mpr (lo x (List.mem_cons_self ..)), List.mem_map.mpr ⟨l, allL_mem (by simpa using hl) (fun y hy => lo y (List.mem_cons_of_mem _ hy)), rfl⟩⟩
theorem small_room {n : Nat} (hn : n ≤ 5) {ts : List (List Int)} (hT : ∀ t ∈ ts, IsT n t) : ∃ U, Room' n comp ts (idt n) U := by
  classical
  refine ⟨(allL n n).filter fun l => decide (IsT n l), List.mem_filter.mpr ⟨allL_mem (idt_len n) (idt_isT n).low, decide_eq_true (idt_isT n)⟩, fun a ha t ht => ?_, fun a ha => of_decide_eq_true (List.mem_filter.mp ha).2, ?_⟩
  · have ia := of_decide_eq_true (List.mem_filter.mp ha).2
    have ic := IsT.comp ia (hT t ht)
    exact List.mem_filter.mpr ⟨allL_mem ic.len ic.low, decide_eq_true ic⟩
  · refine Nat.le_trans (List.length_filter_le ..) ?_
    rw [allL_len]
    match n, hn with
    | 0, _ => decide
    | 1, _ => decide
    | 2, _ => decide
    | 3, _ => decide
    | 4, _ => decide
    | 5, _ => decide
/-- all that the turns make, by so many rounds -/
def clo (ts : List (List Int)) : Nat → List (List Int) → List (List Int) → List (List Int)
  | 0, seen, _ => seen
  | _, seen, [] => seen
  | k + 1, seen, a :: todo =>
    let new := ((ts.map fun t => comp a t).filter fun b => !(seen.contains b)).eraseDups
    clo ts k (seen ++ new) (todo ++ new)
def clK (p : Nat × List (List Int)) : List (List Int) := clo p.2 200 [idt p.1] [idt p.1]
end NS
end
section
set_option maxHeartbeats 4000000
/-! LV: answers as nested values -/
namespace NS
open PySem PySem.Spec PyProof.Rows L2 ZS
/-- numbers drawn -/
theorem drawn {m : Int} {l : List Nat} {ys : List V} (h : Paired (fun (_ : Nat) y => ∃ k : Int, y = .int k ∧ 0 ≤ k ∧ k < m) l ys) : ∃ ks : List Int, ys = ks.map V.int ∧ ks.length = l.length ∧ ∀ k ∈ ks, 0 ≤ k ∧ k < m := by
  induction h with
  | nil => exact ⟨[], rfl, rfl, fun k h => by cases h⟩
  | cons p _ ih =>
    obtain ⟨k, rfl, h1, h2⟩ := p
    obtain ⟨ks, e, el, hk⟩ := ih
    refine ⟨k :: ks, by rw [e]; rfl, by rw [List.length_cons, List.length_cons, el], fun x hx => ?_⟩
    rcases List.mem_cons.mp hx with e | e
    · rw [e]; exact ⟨h1, h2⟩
    · exact hk x e
section
variable {K : PySem.W.Frag} {H H' : Hp}
/-- what stands all along the law: the row of draws, the house, the tables -/
structure Sta (K : PySem.W.Frag) (H : Hp) (r sa : Addr) (v : V) (n : Nat) (ts : List (List Int)) (pT pA : Addr) : Prop where
  dr : Draws K H r sa
  hv : HouseAt K H v n ts
  gT : GxR.TabG H pT
  gA : GxR.TabG H pA
variable {r sa pT pA : Addr} {v : V} {n : Nat} {ts : List (List Int)}
theorem Sta.kp (h : Sta K H r sa v n ts pT pA) (z : Kp H H') : Sta K H' r sa v n ts pT pA := ⟨h.dr.k z, z.house h.hv, z.tabG h.gT, z.tabG h.gA⟩
theorem Sta.kpb (h : Sta K H r sa v n ts pT pA) (z : KpB r H H') (ra : RowAt H' r sa) : Sta K H' r sa v n ts pT pA := ⟨h.dr.b z ra, NS.Tup.house z.tup h.hv, z.tabG h.gT, z.tabG h.gA⟩
/-- a list of turns at wa -/
structure Who (H : Hp) (r wa : Addr) (W : List (Addr × List Int)) : Prop where
  ne : wa ≠ r
  at_ : H wa = some (.lst (W.map fun p => V.ref p.1))
  pt : ∀ p ∈ W, PT H (.ref p.1) p.2
variable {wa : Addr} {W : List (Addr × List Int)}
theorem Who.kpb (h : Who H r wa W) (z : KpB r H H') : Who H' r wa W := ⟨h.ne, z.lst h.at_ h.ne, fun p hp => NS.Tup.pt z.tup (h.pt p hp)⟩
theorem Who.kp (h : Who H r wa W) (z : Kp H H') : Who H' r wa W := h.kpb z.b
theorem Who.sq (h : Who H r wa W) : SqL K H wa (W.map fun p => V.ref p.1) := SqL.of h.at_
/-- a list that is not the row -/
def Lst (H : Hp) (r la : Addr) (us : List V) : Prop := la ≠ r ∧ H la = some (.lst us)
theorem Lst.kpb {la : Addr} {us : List V} (h : Lst H r la us) (z : KpB r H H') : Lst H' r la us := ⟨h.1, z.lst h.2 h.1⟩
theorem Lst.kp {la : Addr} {us : List V} (h : Lst H r la us) (z : Kp H H') : Lst H' r la us := h.kpb z.b
end
end NS
end
section
set_option maxHeartbeats 4000000
/-! M6: roamers, counted -/
namespace NS
open PySem PySem.Spec PyProof.Rows L2 ZS
/-! ### sums of whole numbers -/
theorem sumI_split {α : Type} (f : α → Int) (p : α → Bool) : ∀ l : List α, (l.map f).sum = ((l.filter p).map f).sum + ((l.filter fun x => !p x).map f).sum
  | [] => rfl
  | a :: l => by
    rw [List.map_cons, List.sum_cons, sumI_split f p l]
    cases h : p a
    · rw [List.filter_cons_of_neg (by simp [h]), List.filter_cons_of_pos (by simp [h]), List.map_cons, List.sum_cons]; omega
    · rw [List.filter_cons_of_pos h, List.filter_cons_of_neg (by simp [h]), List.map_cons, List.sum_cons]; omega
theorem sumI_congr {α : Type} {f g : α → Int} {l : List α} (h : ∀ x ∈ l, f x = g x) : (l.map f).sum = (l.map g).sum := by rw [List.map_congr_left h]
theorem sumI_const {α : Type} (c : Int) : ∀ l : List α, (l.map fun _ => c).sum = l.length * c
  | [] => by simp
  | a :: l => by
    rw [List.map_cons, List.sum_cons, sumI_const c l, List.length_cons]
    push_cast
    rw [Int.add_mul]
    omega
theorem sumI_nonneg {α : Type} {f : α → Int} : ∀ {l : List α}, (∀ x ∈ l, 0 ≤ f x) → 0 ≤ (l.map f).sum
  | [], _ => Int.le_refl 0
  | a :: l, h => by
    rw [List.map_cons, List.sum_cons]
    have h1 := h a (List.mem_cons_self ..)
    have h2 := sumI_nonneg (f := f) (l := l) fun x hx => h x (List.mem_cons_of_mem _ hx)
    omega
theorem sumI_zero {α : Type} {f : α → Int} : ∀ {l : List α}, (∀ x ∈ l, 0 ≤ f x) → (l.map f).sum = 0 → ∀ x ∈ l, f x = 0
  | [], _, _, _, h => by cases h
  | a :: l, h, e, x, hx => by
    rw [List.map_cons, List.sum_cons] at e
    have h1 := h a (List.mem_cons_self ..)
    have h3 : ∀ x ∈ l, 0 ≤ f x := fun x hx => h x (List.mem_cons_of_mem _ hx)
    have h2 := sumI_nonneg h3
    rcases List.mem_cons.mp hx with q | q
    · rw [q]; omega
    · exact sumI_zero h3 (by omega) x q
theorem sum_quad {α : Type} (n : Int) (k : α → Nat) : ∀ l : List α, (l.map fun t => ((k t : Int) - 1) * (n - k t)).sum = (n + 1) * (((l.map k).sum : Nat) : Int) - (((l.map fun t => k t * k t).sum : Nat) : Int) - n * l.length
  | [] => by simp
  | a :: l => by
    simp only [List.map_cons, List.sum_cons, sum_quad n k l, List.length_cons]
    push_cast
    grind
theorem sum_less {α : Type} (k : α → Nat) : ∀ l : List α, (l.map fun t => (k t : Int) - 1).sum = (((l.map k).sum : Nat) : Int) - l.length
  | [] => by simp
  | a :: l => by
    simp only [List.map_cons, List.sum_cons, sum_less k l, List.length_cons]
    push_cast
    omega
/-! ### orbits: as many turns as things, times those that leave one in place -/
theorem orbit_stab {α γ : Type} [DecidableEq α] [DecidableEq γ] {G : List γ} {act : α → γ → α} {mul : γ → γ → γ} {k : List α} {x0 : α} (ndG : G.Nodup) (ndk : k.Nodup)
    (hm : ∀ a ∈ G, ∀ b ∈ G, mul a b ∈ G) (hi : ∀ h ∈ G, ∀ a ∈ G, ∀ b ∈ G, mul a h = mul b h → a = b) (ha : ∀ a ∈ G, ∀ b ∈ G, act (act x0 a) b = act x0 (mul a b))
    (hin : ∀ g ∈ G, act x0 g ∈ k) (hx : ∀ x ∈ k, (∃ h ∈ G, act x0 h = x) ∧ ∃ h ∈ G, act x h = x0) :
    (∀ x ∈ k, (G.filter fun g => decide (act x0 g = x)).length = (G.filter fun g => decide (act x0 g = x0)).length) ∧ G.length = k.length * (G.filter fun g => decide (act x0 g = x0)).length := by
  have step : ∀ x ∈ k, (G.filter fun g => decide (act x0 g = x)).length = (G.filter fun g => decide (act x0 g = x0)).length := fun x hxk => by
    obtain ⟨⟨h, hh, eh⟩, h', hh', eh'⟩ := hx x hxk
    refine Nat.le_antisymm ?_ ?_
    · have nd : ((G.filter fun g => decide (act x0 g = x)).map (fun g => mul g h')).Nodup := nodup_map (List.Pairwise.filter _ ndG) fun a ha' b hb' e => hi h' hh' a (List.mem_filter.mp ha').1 b (List.mem_filter.mp hb').1 e
      have := nd_le nd (b := G.filter fun g => decide (act x0 g = x0)) fun y hy => by
        obtain ⟨g, hg, rfl⟩ := List.mem_map.mp hy
        obtain ⟨g1, g2⟩ := List.mem_filter.mp hg
        refine List.mem_filter.mpr ⟨hm g g1 h' hh', decide_eq_true ?_⟩
        rw [← ha g g1 h' hh', of_decide_eq_true g2, eh']
      rwa [List.length_map] at this
    · have nd : ((G.filter fun g => decide (act x0 g = x0)).map (fun g => mul g h)).Nodup := nodup_map (List.Pairwise.filter _ ndG) fun a ha' b hb' e => hi h hh a (List.mem_filter.mp ha').1 b (List.mem_filter.mp hb').1 e
      have := nd_le nd (b := G.filter fun g => decide (act x0 g = x)) fun y hy => by
        obtain ⟨g, hg, rfl⟩ := List.mem_map.mp hy
        obtain ⟨g1, g2⟩ := List.mem_filter.mp hg
        refine List.mem_filter.mpr ⟨hm g g1 h hh, decide_eq_true ?_⟩
        rw [← ha g g1 h hh, of_decide_eq_true g2, eh]
      rwa [List.length_map] at this
  refine ⟨step, ?_⟩
  have e := count_both (fun x g => decide (act x0 g = x)) k G
  rw [sum_map_congr step, sum_const, sum_map_congr (g := fun _ => 1) (fun g hg => one_of ndk (hin g hg)), sum_const, Nat.mul_one] at e
  exact e
/-! ### turns that leave halls in place -/
section
variable {n : Nat} {ts : List (List Int)} {W : List (List Int)} {t : List Int}
theorem mem_kept {i : Nat} (ht : IsT n t) : (i : Int) ∈ keptL t ↔ i < n ∧ at' t i = i := by
  unfold keptL
  rw [List.mem_map]
  constructor
  · rintro ⟨j, hj, e⟩
    obtain ⟨h1, h2⟩ := List.mem_filter.mp hj
    have : j = i := by omega
    subst this
    have h3 := List.mem_range.mp h1
    rw [ht.len] at h3
    refine ⟨h3, ?_⟩
    have := of_decide_eq_true h2
    unfold at'
    rw [this]
    rfl
  · rintro ⟨h1, h2⟩
    refine ⟨i, List.mem_filter.mpr ⟨List.mem_range.mpr (by rw [ht.len]; exact h1), decide_eq_true ?_⟩, rfl⟩
    rw [(ht.getD h1).1, h2]
theorem kept_nd (t : List Int) : (keptL t).Nodup := by
  unfold keptL
  exact nodup_map (List.Pairwise.filter _ List.nodup_range) fun a _ b _ e => by omega
theorem kept_idt : (keptL (idt n)).length = n := by
  have h := nd_le (a := idt n) (b := keptL (idt n)) (idt_isT n).nd fun x hx => by
    have h := mem_idt.mp hx
    have e : x = ((x.toNat : Nat) : Int) := by omega
    rw [e]
    exact (mem_kept (idt_isT n)).mpr ⟨by omega, at_idt (by omega)⟩
  have := kept_len (idt n)
  rw [idt_len] at this h
  omega
theorem kept_full (ht : IsT n t) (h : (keptL t).length = n) : t = idt n := by
  refine ht.ext (idt_isT n) fun i hi => ?_
  rw [at_idt hi]
  have sub : ∀ x ∈ keptL t, x ∈ idt n := fun x hx => by
    obtain ⟨j, hj, rfl⟩ := List.mem_map.mp (show x ∈ ((List.range t.length).filter fun i => decide (t.getD i 0 = (i : Int))).map fun (i : Nat) => (i : Int) from hx)
    have := List.mem_range.mp (List.mem_filter.mp hj).1
    rw [ht.len] at this
    exact mem_idt.mpr (by omega)
  have := nd_all (kept_nd t) sub (by rw [idt_len, h]; exact Nat.le_refl _) (i : Int) (mem_idt.mpr (by omega))
  exact ((mem_kept ht).mp this).2
/-- two halls left in place -/
theorem kept_two (ht : IsT n t) {i j : Nat} (hi : i < n) (hj : j < n) (ne : i ≠ j) (ei : at' t i = i) (ej : at' t j = j) : 1 < (keptL t).length := by
  have := nd_le (a := [(i : Int), (j : Int)]) (b := keptL t) (by simp; omega) fun x hx => by
    rcases List.mem_cons.mp hx with e | e
    · rw [e]; exact (mem_kept ht).mpr ⟨hi, ei⟩
    · rw [List.mem_singleton.mp e]; exact (mem_kept ht).mpr ⟨hj, ej⟩
  exact this
theorem two_kept (ht : IsT n t) (h : 1 < (keptL t).length) : ∃ i j, i < n ∧ j < n ∧ i ≠ j ∧ at' t i = i ∧ at' t j = j := by
  match e : keptL t, h with
  | a :: b :: r, _ =>
    have nd := kept_nd t
    rw [e] at nd
    have h1 : a ∈ keptL t := by rw [e]; exact List.mem_cons_self ..
    have h2 : b ∈ keptL t := by rw [e]; exact List.mem_cons_of_mem _ (List.mem_cons_self ..)
    have get : ∀ x, x ∈ keptL t → ∃ i : Nat, x = (i : Int) := fun x hx => by
      obtain ⟨i, _, e⟩ := List.mem_map.mp (show x ∈ ((List.range t.length).filter fun i => decide (t.getD i 0 = (i : Int))).map fun (i : Nat) => (i : Int) from hx)
      exact ⟨i, e.symm⟩
    obtain ⟨i, rfl⟩ := get a h1
    obtain ⟨j, rfl⟩ := get b h2
    obtain ⟨i1, i2⟩ := (mem_kept ht).mp h1
    obtain ⟨j1, j2⟩ := (mem_kept ht).mp h2
    refine ⟨i, j, i1, j1, fun q => ?_, i2, j2⟩
    have := (List.nodup_cons.mp nd).1
    rw [q] at this
    exact this (List.mem_cons_self ..)
/-- a turn that leaves no hall in place -/
abbrev free (t : List Int) : Bool := decide (keptL t = [])
theorem free_len : free t = true ↔ (keptL t).length = 0 := by
  show decide (keptL t = []) = true ↔ _
  rw [decide_eq_true_iff, List.length_eq_zero_iff]
abbrev Free (W : List (List Int)) : List (List Int) := W.filter free
abbrev Held' (W : List (List Int)) : List (List Int) := W.filter fun t => !free t
/-- the group, its lots of halls and of pairs -/
structure Grpd (n : Nat) (ts W : List (List Int)) (LLp : List (List (List Int))) : Prop where
  n2 : 2 ≤ n
  is : ∀ t ∈ ts, IsT n t
  nd : W.Nodup
  mem : ∀ x, x ∈ W ↔ Grp n ts x
  one : ∀ i : Nat, i < n → Orb ts 0 (i : Int)
  pl : PLots n ts LLp
  cm : ∀ p ∈ G2 n, ∃ lot ∈ LLp, p ∈ lot
variable {LLp : List (List (List Int))}
theorem Grpd.wis (g : Grpd n ts W LLp) : ∀ t ∈ W, IsT n t := fun t ht => grp_isT g.is ((g.mem t).mp ht)
theorem Grpd.idtW (g : Grpd n ts W LLp) : idt n ∈ W := (g.mem _).mpr .base
theorem one_lot (hT : ∀ t ∈ ts, IsT n t) (n1 : 1 ≤ n) {LL : List (List Int)} (nd : LL.Nodup) (mem : ∀ k, k ∈ LL ↔ Lots n ts k) : LL.length = 1 ↔ ∀ i : Nat, i < n → Orb ts 0 (i : Int) := by
  obtain ⟨k0, l0⟩ := lot_ex hT (y := ((0 : Nat) : Int)) (mem_idt.mpr (by omega))
  have m0 : k0 ∈ LL := (mem k0).mpr ⟨0, by omega, l0⟩
  constructor
  · intro h i hi
    obtain ⟨k, l⟩ := lot_ex hT (y := (i : Int)) (mem_idt.mpr (by omega))
    have m := (mem k).mpr ⟨i, hi, l⟩
    match LL, h with
    | [x], _ =>
      rw [List.mem_singleton] at m0 m
      subst m0 m
      exact (l0.mem _).mp ((l.mem _).mpr .base)
  · intro h
    have key : ∀ k ∈ LL, k = k0 := fun k hk => by
      obtain ⟨i, hi, l⟩ := (mem k).mp hk
      exact lots_apart hT ⟨i, hi, l⟩ ⟨0, by omega, l0⟩ ((l.mem _).mpr .base) ((l0.mem _).mpr (h i hi))
    match LL, m0, nd, key with
    | [x], _, _, _ => rfl
    | x :: y :: r, _, nd, key =>
      have e1 := key x (List.mem_cons_self ..)
      have e2 := key y (List.mem_cons_of_mem _ (List.mem_cons_self ..))
      have := (List.nodup_cons.mp nd).1
      rw [e1, e2] at this
      exact absurd (List.mem_cons_self ..) this
theorem Grpd.s1 (g : Grpd n ts W LLp) : (W.map fun t => (keptL t).length).sum = W.length := by
  obtain ⟨k0, l0⟩ := lot_ex g.is (y := ((0 : Nat) : Int)) (mem_idt.mpr (by have := g.n2; omega))
  have n2 := g.n2
  have mem : ∀ k, k ∈ [k0] ↔ Lots n ts k := fun k => by
    rw [List.mem_singleton]
    constructor
    · rintro rfl
      exact ⟨0, by omega, l0⟩
    · rintro ⟨i, hi, l⟩
      exact lots_apart g.is ⟨i, hi, l⟩ ⟨0, by omega, l0⟩ ((l.mem _).mpr .base) ((l0.mem _).mpr (g.one i hi))
  have := sum_kept g.is g.nd g.mem (List.pairwise_singleton _ k0) mem
  simpa using this
theorem Grpd.s2 (g : Grpd n ts W LLp) : (W.map fun t => (keptL t).length * (keptL t).length).sum = W.length * LLp.length := sum_kept2 g.is g.nd g.mem g.pl g.cm
theorem Grpd.kle (g : Grpd n ts W LLp) (ht : t ∈ W) : (keptL t).length ≤ n := by
  have := kept_len t
  rw [(g.wis t ht).len] at this
  exact this
/-- the sum of the document's last sentence -/
theorem Grpd.eq4 (g : Grpd n ts W LLp) : (n : Int) * (Free W).length = W.length * ((LLp.length : Int) - 1) + ((Held' W).map fun t => (((keptL t).length : Int) - 1) * (n - (keptL t).length)).sum := by
  have q := sum_quad (n : Int) (fun t => (keptL t).length) W
  rw [g.s1, g.s2, sumI_split _ free W] at q
  have e : ((W.filter free).map fun t => (((keptL t).length : Int) - 1) * (n - (keptL t).length)).sum = (Free W).length * (-(n : Int)) := by
    rw [← sumI_const]
    refine sumI_congr fun t ht => ?_
    rw [(free_len.mp (List.mem_filter.mp ht).2)]
    simp
  rw [e] at q
  push_cast at q
  grind
theorem Grpd.eq5 (g : Grpd n ts W LLp) : ((Free W).length : Int) = n - 1 + ((((Held' W).filter fun t => !decide (t = idt n)).map fun t => ((keptL t).length : Int) - 1).sum) := by
  have q := sum_less (fun t => (keptL t).length) W
  rw [g.s1, sumI_split _ free W] at q
  have e : ((W.filter free).map fun t => ((keptL t).length : Int) - 1).sum = (Free W).length * (-1) := by
    rw [← sumI_const]
    refine sumI_congr fun t ht => ?_
    rw [(free_len.mp (List.mem_filter.mp ht).2)]
    simp
  rw [e, sumI_split _ (fun t => decide (t = idt n)) (Held' W)] at q
  have nd1 : ((Held' W).filter fun t => decide (t = idt n)).Nodup := List.Pairwise.filter _ (List.Pairwise.filter _ g.nd)
  have n2 := g.n2
  have m : (Held' W).filter (fun t => decide (t = idt n)) = [idt n] := by
    have hm : idt n ∈ (Held' W).filter (fun t => decide (t = idt n)) := List.mem_filter.mpr ⟨List.mem_filter.mpr ⟨g.idtW, by
      cases h : free (idt n)
      · rfl
      · have := free_len.mp h
        rw [kept_idt] at this
        omega⟩, by simp⟩
    have all : ∀ x ∈ (Held' W).filter (fun t => decide (t = idt n)), x = idt n := fun x hx => of_decide_eq_true (List.mem_filter.mp hx).2
    match (Held' W).filter (fun t => decide (t = idt n)), hm, all, nd1 with
    | [x], _, all, _ => rw [all x (List.mem_cons_self ..)]
    | x :: y :: r, _, all, nd =>
      have := (List.nodup_cons.mp nd).1
      rw [all x (List.mem_cons_self ..), all y (List.mem_cons_of_mem _ (List.mem_cons_self ..))] at this
      exact absurd (List.mem_cons_self ..) this
  rw [m] at q
  simp only [List.map_cons, List.map_nil, List.sum_cons, List.sum_nil, kept_idt] at q
  omega
theorem Grpd.heldp (g : Grpd n ts W LLp) (ht : t ∈ Held' W) : t ∈ W ∧ 1 ≤ (keptL t).length ∧ (keptL t).length ≤ n := by
  obtain ⟨h1, h2⟩ := List.mem_filter.mp ht
  refine ⟨h1, ?_, g.kle h1⟩
  cases e : (keptL t).length with
  | zero =>
    rw [free_len.mpr e] at h2
    cases h2
  | succ m => omega
/-- only the still turn leaves two halls in place -/
def Sing (n : Nat) (W : List (List Int)) : Prop := ∀ t ∈ W, 1 < (keptL t).length → (keptL t).length = n
theorem Grpd.surplus (g : Grpd n ts W LLp) : ((n : Int) - 1 ≤ (Free W).length) ∧ (((Free W).length : Int) = n - 1 ↔ Sing n W) := by
  have e := g.eq5
  have pos : ∀ t ∈ (Held' W).filter fun t => !decide (t = idt n), 0 ≤ ((keptL t).length : Int) - 1 := fun t ht => by
    have := (g.heldp (List.mem_filter.mp ht).1).2.1
    omega
  have nn := sumI_nonneg pos
  refine ⟨by omega, fun h t ht h1 => ?_, fun h => ?_⟩
  · by_cases q : t = idt n
    · rw [q, kept_idt]
    · have z := sumI_zero pos (by omega) t (List.mem_filter.mpr ⟨List.mem_filter.mpr ⟨ht, by
        cases e : free t
        · rfl
        · have := free_len.mp e
          omega⟩, by simpa using q⟩)
      omega
  · have z : ((((Held' W).filter fun t => !decide (t = idt n)).map fun t => ((keptL t).length : Int) - 1).sum) = 0 := by
      rw [show (0 : Int) = (((Held' W).filter fun t => !decide (t = idt n)).map fun _ => (0 : Int)).sum by rw [sumI_const]; simp]
      refine sumI_congr fun t ht => ?_
      obtain ⟨h1, h2⟩ := List.mem_filter.mp ht
      obtain ⟨h3, h4, h5⟩ := g.heldp h1
      by_cases q : 1 < (keptL t).length
      · have := kept_full (g.wis t h3) (h t h3 q)
        rw [this] at h2
        simp at h2
      · omega
    omega
end
end NS
end
section
set_option maxHeartbeats 4000000
/-! RSum: sum(tuple of whole numbers) -/
namespace ZS
open PySem PySem.Spec PyProof.Rows L2
section
variable {prog : Program} {w : World} {A : Around} {E : Value → Shared → Prop} {s : Shared} {l : Addr} {its : List Value} {ns : List Int} {Q : Value → Shared → Prop}
end
section
variable {X : Cx}
end
end ZS
end
section
set_option maxHeartbeats 4000000
/-! N1: roamers, and what is told of them -/
namespace NS
open PySem PySem.Spec PyProof.Rows L2 ZS
theorem scChkWhole : FnScope ["house"] ["house"] (defScope sChkWhole) := ⟨rfl, rfl, rfl, by decide +kernel, rfl, by decide +kernel, by decide +kernel⟩
theorem scRoamers : FnScope ["house", "turn"] ["house"] (defScope sRoamers) := ⟨rfl, rfl, rfl, by decide +kernel, rfl, by decide +kernel, by decide +kernel⟩
theorem scCountR : FnScope ["house"] ["house"] (defScope sCountR) := ⟨rfl, rfl, rfl, by decide +kernel, rfl, by decide +kernel, by decide +kernel⟩
theorem scLeast : FnScope ["house", "found"] ["house"] (defScope sLeast) := ⟨rfl, rfl, rfl, by decide +kernel, rfl, by decide +kernel, by decide +kernel⟩
theorem scSpare : FnScope ["house", "counts"] ["house"] (defScope sSpare) := ⟨rfl, rfl, rfl, by decide +kernel, rfl, by decide +kernel, by decide +kernel⟩
theorem scFewest : FnScope ["house"] ["house"] (defScope sFewest) := ⟨rfl, rfl, rfl, by decide +kernel, rfl, by decide +kernel, by decide +kernel⟩
theorem scSharp : FnScope ["house", "halls", "turns", "pairs"] ["house"] (defScope sSharp) := ⟨rfl, rfl, rfl, by decide +kernel, rfl, by decide +kernel, by decide +kernel⟩
/-- the turns lead each hall to each -/
abbrev Whl (n : Nat) (ts : List (List Int)) : Prop := 2 ≤ n ∧ ∀ LL, Asc ltT (Lots n ts) LL → LL.length = 1
/-- a house with its checks' tables, whole, its group small -/
def HW (K : PySem.W.Frag) (pT pA : Addr) (H : Hp) (v : V) (n : Nat) (ts U : List (List Int)) : Prop := HouseAt K H v n ts ∧ IsH n ts ∧ GxR.TabG H pT ∧ GxR.TabG H pA ∧ Room' n comp ts (idt n) U
theorem HW.kp {K : PySem.W.Frag} {pT pA : Addr} {H H' : Hp} {v : V} {n : Nat} {ts U : List (List Int)} (h : HW K pT pA H v n ts U) (z : Kp H H') : HW K pT pA H' v n ts U := ⟨z.house h.1, h.2.1, z.tabG h.2.2.1, z.tabG h.2.2.2.1, h.2.2.2.2⟩
def spSpare (K : PySem.W.Frag) (pT pA : Addr) : Sp := fun vs H Q _ => ∃ (v : V) (n : Nat) (ts U : List (List Int)), vs = [v] ∧ HW K pT pA H v n ts U ∧ Whl n ts ∧
  ∀ H' L, Kp H H' → Asc ltT (Grp n ts) L → Q (.int (((Free L).length : Int) * n - L.length)) H'
def spFewest (K : PySem.W.Frag) (pT pA : Addr) : Sp := fun vs H Q _ => ∃ (v : V) (n : Nat) (ts U : List (List Int)), vs = [v] ∧ HW K pT pA H v n ts U ∧ Whl n ts ∧
  ∀ H' L, Kp H H' → Asc ltT (Grp n ts) L → Q (.bl (decide (((Free L).length : Int) * n = L.length))) H'
section
variable {P : Program} {w : World} {K : PySem.W.Frag} {mg : Str → Option Value} {base : Heap} {f : Addr} {fd : FuncData} {pT pA : Addr} {S : Addr → Option Sp}
theorem has_fewest (F : FnP K "has_fewest" sFewest f fd) (m : mg "has_fewest" = some (.ref f)) (hC : Has P w K mg base "spare" 11 [] (spSpare K pT pA)) : Has P w K mg base "has_fewest" 12 [] (spFewest K pT pA) := by
  refine ⟨f, fd, ["house"], [], m, F.kp, F.bindsN (fun _ _ _ _ _ _ us hl => match us, hl with | [_], _ => rfl), .nil, ?_⟩
  refine F.ok scFewest (fun vs H Q E h => ?_) (fun cdv A outer s H vs Q E hr h => ⟨_, PSs.nox (pss_one (ps_ret (pe_cmpR op_eq (pe_has hC hr (by decide) (pa_cons (pv 0) pa_nil)) pe_int (nomark _)))), ?_⟩)
  · obtain ⟨v, n, ts, U, rfl, _⟩ := h
    rfl
  · obtain ⟨v, n, ts, U, rfl, hw, one, q⟩ := h
    refine ⟨_, rfl, v, n, ts, U, rfl, hw, one, fun H1 L z1 as => ⟨rfl, ?_⟩⟩
    have e : decide (V.int (((Free L).length : Int) * n - L.length) = V.int 0) = decide (((Free L).length : Int) * n = L.length) := decide_eq_decide.mpr ⟨fun e => by injection e; omega, fun e => by rw [e, Int.sub_self]⟩
    show Q (.bl (decide (V.int (((Free L).length : Int) * n - L.length) = V.int 0))) H1
    rw [e]
    exact q H1 L z1 as
theorem nn_int {n : Nat} (h : 1 ≤ n) : (n : Int) * ((n : Int) - 1) = ((n * n - n : Nat) : Int) := by
  rw [Int.natCast_sub (Nat.le_mul_self n)]
  push_cast
  rw [Int.mul_sub, Int.mul_one]
end
end NS
end
section
set_option maxHeartbeats 4000000
/-! M7: sharp groups -/
namespace NS
open PySem PySem.Spec PyProof.Rows L2 ZS
theorem grid_nd (n : Nat) : (grid n n).Nodup := by
  unfold grid
  have : ∀ l1 : List Nat, l1.Nodup → (l1.flatMap fun i => (List.range n).map fun j => (i, j)).Nodup := fun l1 => by
    induction l1 with
    | nil => exact fun _ => List.nodup_nil
    | cons a l1 ih =>
      intro nd
      obtain ⟨h1, h2⟩ := List.nodup_cons.mp nd
      rw [List.flatMap_cons, List.nodup_append]
      refine ⟨nodup_map List.nodup_range fun x _ y _ e => by injection e, ih h2, fun x hx y hy e => ?_⟩
      subst e
      obtain ⟨j, _, rfl⟩ := List.mem_map.mp hx
      obtain ⟨i, hi, hy⟩ := List.mem_flatMap.mp hy
      obtain ⟨j', _, e⟩ := List.mem_map.mp hy
      injection e with e _
      rw [e] at hi
      exact h1 hi
  exact this _ List.nodup_range
section
variable {n : Nat} {ts : List (List Int)} {W : List (List Int)} {t : List Int} {LLp : List (List (List Int))}
theorem pl_same (pl : PLots n ts LLp) {l1 l2 : List (List Int)} (h1 : l1 ∈ LLp) (h2 : l2 ∈ LLp) {x : List Int} (x1 : x ∈ l1) (x2 : x ∈ l2) : l1 = l2 := by
  obtain ⟨i, hi, e1⟩ := List.getElem_of_mem h1
  obtain ⟨j, hj, e2⟩ := List.getElem_of_mem h2
  have d1 : LLp.getD i [] = l1 := getD_of (by rw [List.getElem?_eq_getElem hi, e1])
  have d2 : LLp.getD j [] = l2 := getD_of (by rw [List.getElem?_eq_getElem hj, e2])
  have := lots_dj pl hi hj (by rw [d1]; exact x1) (by rw [d2]; exact x2)
  subst this
  rw [← d1, ← d2]
theorem pl_nd (pl : PLots n ts LLp) : LLp.Nodup := pl.dj.imp_of_mem fun {a b} ha hb h e => by
  obtain ⟨p, rest, ea, _⟩ := pl.hd a ha
  subst e
  have := h p (by rw [ea]; exact List.mem_cons_self ..)
  rw [ea] at this
  exact this (List.mem_cons_self ..)
theorem pair_g2 {a b : Nat} (ha : a < n) (hb : b < n) : [(a : Int), (b : Int)] ∈ G2 n := mem_g2.mpr ⟨rfl, fun x hx => by
  rcases List.mem_cons.mp hx with e | e
  · rw [e]; omega
  · rw [List.mem_singleton.mp e]; omega⟩
theorem g2_pair {x : List Int} (h : x ∈ G2 n) : ∃ a b : Nat, a < n ∧ b < n ∧ x = [(a : Int), (b : Int)] := by
  obtain ⟨hl, lo⟩ := mem_g2.mp h
  match x, hl, lo with
  | [u, v], _, lo =>
    have h1 := lo u (List.mem_cons_self ..)
    have h2 := lo v (List.mem_cons_of_mem _ (List.mem_cons_self ..))
    refine ⟨u.toNat, v.toNat, by omega, by omega, ?_⟩
    rw [Int.toNat_of_nonneg h1.1, Int.toNat_of_nonneg h2.1]
/-- the lot of a pair -/
theorem Grpd.lot (g : Grpd n ts W LLp) {p : List Int} (hp : p ∈ G2 n) : ∃ lot ∈ LLp, lot.Nodup ∧ p ∈ lot ∧ ∀ x, x ∈ lot ↔ Rch comp ts p x := by
  obtain ⟨lot, hl, hpl⟩ := g.cm p hp
  obtain ⟨q, rest, _, hq, nd, mem⟩ := g.pl.hd lot hl
  have qp := (mem p).mp hpl
  have pq := g2_sym g.is hq qp
  exact ⟨lot, hl, nd, hpl, fun x => (mem x).trans ⟨fun h => pq.trans h, fun h => qp.trans h⟩⟩
theorem Grpd.orb (g : Grpd n ts W LLp) {p : List Int} (hp : p ∈ G2 n) {lot : List (List Int)} (nd : lot.Nodup) (mem : ∀ x, x ∈ lot ↔ Rch comp ts p x) :
    (∀ x ∈ lot, (W.filter fun t => decide (comp p t = x)).length = (W.filter fun t => decide (comp p t = p)).length) ∧ W.length = lot.length * (W.filter fun t => decide (comp p t = p)).length := by
  have lo := (mem_g2.mp hp).2
  refine orbit_stab (act := comp) (mul := comp) g.nd nd (fun a ha b hb => (g.mem _).mpr (grp_mul g.is ((g.mem a).mp ha) ((g.mem b).mp hb))) (fun h hh a ha b hb e => ?_) (fun a ha b hb => comp_low_assoc lo (g.wis a ha) b) (fun t ht => (mem _).mpr ((rch_comp g.is lo).mpr ⟨t, (g.mem t).mp ht, rfl⟩)) (fun x hx => ?_)
  · have e2 : comp (comp a h) (inv h) = comp (comp b h) (inv h) := by rw [e]
    rwa [comp_assoc (g.wis a ha) (g.wis h hh), comp_assoc (g.wis b hb) (g.wis h hh), comp_inv (g.wis h hh), comp_idt (g.wis a ha), comp_idt (g.wis b hb)] at e2
  · have o := (mem x).mp hx
    have hx' := o.inU hp (g2_cl g.is)
    obtain ⟨u, hu, e⟩ := (rch_comp g.is lo).mp o
    obtain ⟨u', hu', e'⟩ := (rch_comp g.is (mem_g2.mp hx').2).mp (g2_sym g.is hp o)
    exact ⟨⟨u, (g.mem u).mpr hu, e.symm⟩, u', (g.mem u').mpr hu', e'.symm⟩
theorem off_rch {a b : Nat} (g : Grpd n ts W LLp) (ha : a < n) (hb : b < n) (ne : a ≠ b) {x : List Int} (h : Rch comp ts [(a : Int), (b : Int)] x) : ∃ c d : Nat, c < n ∧ d < n ∧ c ≠ d ∧ x = [(c : Int), (d : Int)] := by
  have hx := h.inU (pair_g2 ha hb) (g2_cl g.is)
  obtain ⟨c, d, hc, hd, rfl⟩ := g2_pair hx
  refine ⟨c, d, hc, hd, fun e => ?_, rfl⟩
  subst e
  obtain ⟨y, e, _⟩ := diag_rch.mp (g2_sym g.is (pair_g2 ha hb) h)
  injection e with e1 e2
  injection e2 with e2 _
  omega
/-- two lots of pairs, exactly if each two unlike halls are led to each two -/
theorem Grpd.rank2 (g : Grpd n ts W LLp) : 2 ≤ LLp.length ∧ (LLp.length = 2 ↔ ∀ a b : Nat, a < n → b < n → a ≠ b → Rch comp ts [0, 1] [(a : Int), (b : Int)]) := by
  have n2 := g.n2
  have p0 : [((0 : Nat) : Int), ((0 : Nat) : Int)] ∈ G2 n := pair_g2 (by omega) (by omega)
  have p1 : [((0 : Nat) : Int), ((1 : Nat) : Int)] ∈ G2 n := pair_g2 (by omega) (by omega)
  obtain ⟨A, hA, nA, inA, mA⟩ := g.lot p0
  obtain ⟨B, hB, nB, inB, mB⟩ := g.lot p1
  have ne : A ≠ B := fun e => by
    rw [← e] at inB
    obtain ⟨y, e, _⟩ := diag_rch.mp ((mA _).mp inB)
    injection e with e1 e2
    injection e2 with e2 _
    omega
  have two : 2 ≤ LLp.length := nd_le (a := [A, B]) (b := LLp) (by simp; exact ne) fun x hx => by
    rcases List.mem_cons.mp hx with e | e
    · rw [e]; exact hA
    · rw [List.mem_singleton.mp e]; exact hB
  refine ⟨two, fun h a b ha hb nab => ?_, fun h => ?_⟩
  · obtain ⟨C, hC, nC, inC, mC⟩ := g.lot (pair_g2 ha hb)
    have all := nd_all (a := [A, B]) (b := LLp) (by simp; exact ne) (fun x hx => by
      rcases List.mem_cons.mp hx with e | e
      · rw [e]; exact hA
      · rw [List.mem_singleton.mp e]; exact hB) (by rw [h]; exact Nat.le_refl _) C hC
    rcases List.mem_cons.mp all with e | e
    · rw [e] at inC
      obtain ⟨y, e, _⟩ := diag_rch.mp ((mA _).mp inC)
      injection e with e1 e2
      injection e2 with e2 _
      omega
    · rw [List.mem_singleton.mp e] at inC
      exact (mB _).mp inC
  · have le : LLp.length ≤ 2 := nd_le (a := LLp) (b := [A, B]) (pl_nd g.pl) fun C hC => by
      obtain ⟨q, rest, eC, hq, nC, mC⟩ := g.pl.hd C hC
      have inC : q ∈ C := by rw [eC]; exact List.mem_cons_self ..
      obtain ⟨a, b, ha, hb, rfl⟩ := g2_pair hq
      by_cases e : a = b
      · subst e
        have := pl_same g.pl hC hA inC ((mA _).mpr (diag_rch.mpr ⟨a, rfl, g.one a ha⟩))
        rw [this]
        exact List.mem_cons_self ..
      · have := pl_same g.pl hC hB inC ((mB _).mpr (h a b ha hb e))
        rw [this]
        exact List.mem_cons_of_mem _ (List.mem_cons_self ..)
    omega
abbrev p01 : List Int := [((0 : Nat) : Int), ((1 : Nat) : Int)]
/-- how many turns lead 0 and 1 to a pair -/
abbrev cnt (W : List (List Int)) (x : List Int) : Nat := (W.filter fun t => decide (comp p01 t = x)).length
theorem len_parts {α : Type} (p : α → Bool) : ∀ l : List α, l.length = (l.filter p).length + (l.filter fun x => !p x).length
  | [] => rfl
  | a :: l => by
    have ih := len_parts p l
    cases h : p a
    · rw [List.filter_cons_of_neg (by simp [h]), List.filter_cons_of_pos (by simp [h]), List.length_cons, List.length_cons, ih]; omega
    · rw [List.filter_cons_of_pos h, List.filter_cons_of_neg (by simp [h]), List.length_cons, List.length_cons, ih]; omega
theorem len_one {α : Type} {l : List α} (h : l.length = 1) {x y : α} (hx : x ∈ l) (hy : y ∈ l) : x = y := by
  match l, h with
  | [z], _ => rw [List.mem_singleton.mp hx, List.mem_singleton.mp hy]
theorem off_len (n : Nat) : ((G2 n).filter fun x => !decide (x.getD 0 0 = x.getD 1 0)).length = n * n - n := by
  have e := len_parts (fun x : List Int => decide (x.getD 0 0 = x.getD 1 0)) (G2 n)
  have d : ((G2 n).filter fun x => decide (x.getD 0 0 = x.getD 1 0)).length = n := by
    have ndg : (G2 n).Nodup := by
      unfold G2
      refine nodup_map (grid_nd n) fun x hx y hy e => ?_
      obtain ⟨x1, x2⟩ := x
      obtain ⟨y1, y2⟩ := y
      injection e with e1 e2
      injection e2 with e2 _
      have : x1 = y1 := by omega
      have : x2 = y2 := by omega
      subst x1 x2
      rfl
    have pm : ((G2 n).filter fun x => decide (x.getD 0 0 = x.getD 1 0)).Perm ((idt n).map fun h => [h, h]) := by
      refine (List.perm_ext_iff_of_nodup (List.Pairwise.filter _ ndg) (nodup_map (idt_isT n).nd fun a _ b _ e => by injection e)).mpr fun x => ?_
      rw [List.mem_filter, List.mem_map]
      constructor
      · rintro ⟨h1, h2⟩
        obtain ⟨a, b, ha, hb, rfl⟩ := g2_pair h1
        have h3 : (a : Int) = (b : Int) := of_decide_eq_true h2
        exact ⟨a, mem_idt.mpr (by omega), by rw [h3]⟩
      · rintro ⟨h, hh, rfl⟩
        have := mem_idt.mp hh
        have e : h = ((h.toNat : Nat) : Int) := by omega
        refine ⟨?_, decide_eq_true rfl⟩
        rw [e]
        exact pair_g2 (by omega) (by omega)
    rw [pm.length_eq, List.length_map, idt_len]
  have := g2_len n
  omega
/-- each two halls led to each two: as many turns as pairs, times those that leave 0 and 1 -/
theorem Grpd.twice (g : Grpd n ts W LLp) (h : LLp.length = 2) : W.length = (n * n - n) * cnt W p01 ∧ ∀ a b : Nat, a < n → b < n → a ≠ b → cnt W [(a : Int), (b : Int)] = cnt W p01 := by
  have n2 := g.n2
  have all := g.rank2.2.mp h
  have p1 : p01 ∈ G2 n := pair_g2 (by omega) (by omega)
  obtain ⟨B, hB, nB, inB, mB⟩ := g.lot p1
  obtain ⟨h1, h2⟩ := g.orb p1 nB mB
  have pm : B.Perm ((G2 n).filter fun x => !decide (x.getD 0 0 = x.getD 1 0)) := by
    have ndg : (G2 n).Nodup := (pl_flat g.is g.pl g.cm).nodup_iff.mp (flat_nd (fun k hk => by
      obtain ⟨p, rest, _, _, nd, _⟩ := g.pl.hd k hk
      exact nd) g.pl.dj)
    refine (List.perm_ext_iff_of_nodup nB (List.Pairwise.filter _ ndg)).mpr fun x => ?_
    rw [List.mem_filter]
    constructor
    · intro hx
      obtain ⟨c, d, hc, hd, ne, rfl⟩ := off_rch g (by omega) (by omega) (by decide) ((mB x).mp hx)
      refine ⟨pair_g2 hc hd, ?_⟩
      have : decide (([(c : Int), (d : Int)] : List Int).getD 0 0 = ([(c : Int), (d : Int)] : List Int).getD 1 0) = false := decide_eq_false (fun e => ne (by have e' : (c : Int) = (d : Int) := e; omega))
      rw [this]
      rfl
    · rintro ⟨h1, h2⟩
      obtain ⟨a, b, ha, hb, rfl⟩ := g2_pair h1
      refine (mB _).mpr (all a b ha hb fun e => ?_)
      subst e
      have : decide (([(a : Int), (a : Int)] : List Int).getD 0 0 = ([(a : Int), (a : Int)] : List Int).getD 1 0) = true := decide_eq_true rfl
      rw [this] at h2
      cases h2
  rw [pm.length_eq, off_len] at h2
  exact ⟨h2, fun a b ha hb ne => h1 _ ((mB _).mpr (all a b ha hb ne))⟩
theorem Grpd.cnt1 (g : Grpd n ts W LLp) : 1 ≤ cnt W p01 := by
  have n2 := g.n2
  refine List.length_pos_of_mem (a := idt n) (List.mem_filter.mpr ⟨g.idtW, decide_eq_true ?_⟩)
  exact comp_low_idt (n := n) (mem_g2.mp (pair_g2 (n := n) (a := 0) (b := 1) (by omega) (by omega))).2
theorem comp01 : comp p01 t = [t.getD 0 0, t.getD 1 0] := rfl
theorem Grpd.sing_cnt (g : Grpd n ts W LLp) (h : LLp.length = 2) : Sing n W ↔ cnt W p01 = 1 := by
  have n2 := g.n2
  constructor
  · intro s
    have le : cnt W p01 ≤ 1 := nd_le (b := [idt n]) (List.Pairwise.filter _ g.nd) fun x hx => by
      obtain ⟨h1, h2⟩ := List.mem_filter.mp hx
      have e : comp p01 x = p01 := of_decide_eq_true h2
      rw [comp01] at e
      injection e with e1 e2
      injection e2 with e2 _
      have ix := g.wis x h1
      have k2 := kept_two ix (i := 0) (j := 1) (by omega) (by omega) (by decide) (by unfold at'; rw [e1]; rfl) (by unfold at'; rw [e2]; rfl)
      rw [kept_full ix (s x h1 k2)]
      exact List.mem_singleton.mpr rfl
    have := g.cnt1
    omega
  · intro c t ht k2
    have it := g.wis t ht
    obtain ⟨i, j, hi, hj, ne, ei, ej⟩ := two_kept it k2
    have cij := (g.twice h).2 i j hi hj ne
    rw [c] at cij
    have p1 : p01 ∈ G2 n := pair_g2 (by omega) (by omega)
    obtain ⟨u, hu, e⟩ := (rch_comp g.is (mem_g2.mp p1).2).mp (g.rank2.2.mp h i j hi hj ne)
    have hu' := (g.mem u).mpr hu
    have iu := g.wis u hu'
    have m1 : u ∈ W.filter fun t => decide (comp p01 t = [(i : Int), (j : Int)]) := List.mem_filter.mpr ⟨hu', decide_eq_true e.symm⟩
    have m2 : comp u t ∈ W.filter fun t => decide (comp p01 t = [(i : Int), (j : Int)]) := by
      refine List.mem_filter.mpr ⟨(g.mem _).mpr (grp_mul g.is hu ((g.mem t).mp ht)), decide_eq_true ?_⟩
      rw [← comp_low_assoc (mem_g2.mp p1).2 iu t, ← e]
      show [t.getD (i : Int).toNat 0, t.getD (j : Int).toNat 0] = _
      rw [Int.toNat_natCast, Int.toNat_natCast, (it.getD hi).1, (it.getD hj).1, ei, ej]
    have e2 : comp u t = u := len_one cij m2 m1
    have : t = idt n := left_inj iu it (idt_isT n) (by rw [e2, comp_idt iu])
    rw [this, kept_idt]
/-- sharp: two lots, only the still turn leaves two in place -/
def Shp (n : Nat) (W : List (List Int)) (LLp : List (List (List Int))) : Prop := LLp.length = 2 ∧ Sing n W
theorem Grpd.fewest (g : Grpd n ts W LLp) : (W.length : Int) ≤ (n : Int) * (Free W).length ∧ ((n : Int) * (Free W).length = W.length ↔ Shp n W LLp) := by
  have e := g.eq4
  have r2 := g.rank2.1
  have n2 := g.n2
  have wp : 1 ≤ W.length := List.length_pos_of_mem g.idtW
  have pos : ∀ t ∈ Held' W, 0 ≤ (((keptL t).length : Int) - 1) * (n - (keptL t).length) := fun t ht => by
    obtain ⟨h1, h2, h3⟩ := g.heldp ht
    exact Int.mul_nonneg (by omega) (by omega)
  have nn := sumI_nonneg pos
  have big : (W.length : Int) ≤ W.length * ((LLp.length : Int) - 1) := by
    have := Int.mul_le_mul_of_nonneg_left (a := 1) (b := (LLp.length : Int) - 1) (c := (W.length : Int)) (by omega) (by omega)
    omega
  refine ⟨by omega, fun h => ?_, fun h => ?_⟩
  · have z : ((Held' W).map fun t => (((keptL t).length : Int) - 1) * (n - (keptL t).length)).sum = 0 := by omega
    have r : (W.length : Int) * ((LLp.length : Int) - 1) = W.length * 1 := by omega
    have r' := Int.eq_of_mul_eq_mul_left (by omega) r
    refine ⟨by omega, fun t ht k2 => ?_⟩
    have := sumI_zero pos z t (List.mem_filter.mpr ⟨ht, by
      cases e : free t
      · rfl
      · have := free_len.mp e
        omega⟩)
    rcases Int.mul_eq_zero.mp this with q | q
    · omega
    · omega
  · have z : ((Held' W).map fun t => (((keptL t).length : Int) - 1) * (n - (keptL t).length)).sum = 0 := by
      rw [show (0 : Int) = ((Held' W).map fun _ => (0 : Int)).sum by rw [sumI_const]; simp]
      refine sumI_congr fun t ht => ?_
      obtain ⟨h1, h2, h3⟩ := g.heldp ht
      by_cases q : 1 < (keptL t).length
      · rw [h.2 t h1 q]
        simp
      · have : (keptL t).length = 1 := by omega
        rw [this]
        simp
    rw [h.1] at e
    omega
theorem nn_pos {n : Nat} (n2 : 2 ≤ n) : 0 < n * n - n := by
  have : 2 * n ≤ n * n := Nat.mul_le_mul_right n n2
  omega
end
end NS
end
section
set_option maxHeartbeats 4000000
/-! X0: defs that may raise -/
namespace NS
open PySem PySem.Spec PyProof.Rows L2 ZS
/-- a def that may raise -/
structure HasX (P : Program) (w : World) (K : PySem.W.Frag) (mg : Str → Option Value) (base : Heap) (x : Str) (k : Nat) (sp : Sp) : Prop where
  ex : ∃ (f : Addr) (fd : FuncData) (ps : List Str), mg x = some (.ref f) ∧ PySem.W.keepIn K (.ref f) = true ∧ Binds K fd ps [] ∧ FnOk P w K mg base (L2.CX P w) k f fd ps sp
section
variable {X : Cx} {k j : Nat} {sp : Sp} {x : Str} {p pos : Pos} {e : Expr} {es : List Expr} {t : TA} {W : WX}
theorem pe_hasX (h : HasX X.prog X.w X.K X.mg X.base x j sp) (hr : Room k X.A) (hk : j ≤ k) (tk : Takes X W) (ha : PA X (e :: es) t) (hg : Gl X x := by rfl)
    (hdb : (x == ("__debug__" : Str)) = false := by decide) (he : starEach (e :: es) X.env = (false, eval e X.env) :: starEach es X.env := by rfl) (hpl : (backTo pos (starEach es X.env)).any (·.1) = false := by rfl) :
    PE X (.Call (.Name x p) (e :: es) [] pos) (tCallS sp (WE W) t) := by
  obtain ⟨f, fd, ps, h1, h2, h3, h5⟩ := h.ex
  exact pe_callS h5 (hr.mono hk) hg h1 h2 h3 (fun σ => passAt tk σ) ha hdb he hpl
end
section
variable {P : Program} {w : World} {K : PySem.W.Frag} {mg : Str → Option Value} {base : Heap} {x : Str} {k : Nat} {sp : Sp}
/-- where it raises nothing -/
theorem HasX.no (h : HasX P w K mg base x k sp) : Has P w K mg base x k [] (fun vs H Q _ => sp vs H Q fun _ _ _ => False) := by
  obtain ⟨f, fd, ps, h1, h2, h3, h5⟩ := h.ex
  refine ⟨f, fd, ps, [], h1, h2, h3, .nil, ⟨fun vs H Q E => h5.len vs H Q _, fun A outer s H args us vs Q E hr he hb hv hs => ?_⟩⟩
  refine codeAny_mono (h5.run A outer s H args us vs Q (fun _ _ _ => False) hr he hb hv hs) fun r s' hq => ?_
  cases r with
  | ok fl =>
    cases fl with
    | ret u => exact hq
    | next => exact hq
    | brk => exact hq
    | cont => exact hq
  | error e =>
    obtain ⟨a, B, H', cls, d, _, _, _, _, _, _, _, f⟩ := hq
    exact f.elim
theorem HasX.imp {sp' : Sp} (h : HasX P w K mg base x k sp) (q : ∀ vs H Q E, sp' vs H Q E → sp vs H Q E) : HasX P w K mg base x k sp' := by
  obtain ⟨g, fd, ps, h1, h2, h3, h5⟩ := h.ex
  exact ⟨g, fd, ps, h1, h2, h3, h5.imp q⟩
end
def veB : List Value := [.type "ValueError", .type "Exception", .type "BaseException", .type "object"]
/-- a class of errors of the program, without an __init__ of its own -/
structure ExcC (K : PySem.W.Frag) (mg : Str → Option Value) (x : Str) (C : Addr) : Prop where
  g : mg x = some (.ref C)
  x : PySem.W.excIn K C veB "ValueError.__new__" = true
  k : PySem.W.keepIn K (.ref C) = true
  b : PySem.W.subIn K (.ref C) (.type "BaseException") = some true
  t : PySem.W.typeIn K (.ref C) = some (.type "type")
  m : PySem.W.exmOne K (.ref C) (.ref C) = some true
section
variable {X : Cx} {C : Addr} {bmB : List Value} {B newId initId : String} {W : WX} {x : Str} {p pos pos' : Pos}
/-- X() -/
theorem pmk_own0 (F : ExcBaseFacts B newId initId bmB) (q : PySem.W.excIn X.K C bmB newId = true) (gC : X.mg x = some (.ref C)) (kC : PySem.W.keepIn X.K (.ref C) = true) (r : Raises X (.ref C)) (hg : Gl X x)
    (hdb : (x == ("__debug__" : Str)) = false := by decide) : PMk X (.Call (.Name x p) [] [] pos) (fun _ H Q => Q (.ref C) none H) := by
  intro pins s σ H Q I h
  refine wpAny_Call_Name_kw (ld_glob I hg gC ?_ hdb)
  refine PySem.W.callWith_K0 I.kIn kC ?_
  obtain ⟨bm, N, nm, qn, bs, hdct, sn, sub, ab, col, dd, k0, k1, k2, k3, k5, mN, hC, hN, hni, T⟩ := exc_obj I.kIn q
  refine wpAny_call_exc_subT F T hC hN hni (fun h' e hm => ?_) (by show 0 ≤ sizeLine; rw [sizeLine_eq]; omega)
  exact mk_of I hm r h (I.hok.gone hm.new)
theorem ps_raise0 (T : ExcC X.K X.mg x C) (tk : Takes X W) (hc : X.calm = true := by rfl) (hg : Gl X x := by rfl) (hdb : (x == ("__debug__" : Str)) = false := by decide) :
    PS X (.Raise (some (.Call (.Name x p) [] [] pos)) none pos') (fun _ σ H => W (.ref C) none σ H) :=
  ps_raise hc tk (pmk_own0 PySem.F.excBase_ValueError T.x T.g T.k (raises_own T.b T.t) hg hdb)
end
end NS
end
section
set_option maxHeartbeats 4000000
/-! N2: singles -/
namespace NS
open PySem PySem.Spec PyProof.Rows L2 ZS
theorem scSurplus : FnScope ["house"] ["house"] (defScope sSurplus) := ⟨rfl, rfl, rfl, by decide +kernel, rfl, by decide +kernel, by decide +kernel⟩
theorem scSingle : FnScope ["house"] ["house"] (defScope sSingle) := ⟨rfl, rfl, rfl, by decide +kernel, rfl, by decide +kernel, by decide +kernel⟩
theorem scCore : FnScope ["house"] ["house"] (defScope sCore) := ⟨rfl, rfl, rfl, by decide +kernel, rfl, by decide +kernel, by decide +kernel⟩
theorem scCoreG : FnScope ["house", "turns", "first", "second"] ["house"] (defScope sCoreG) := ⟨rfl, rfl, rfl, by decide +kernel, rfl, by decide +kernel, by decide +kernel⟩
section
variable {P : Program} {w : World} {K : PySem.W.Frag} {mg : Str → Option Value} {base : Heap} {f : Addr} {fd : FuncData} {pT pA C : Addr}
theorem asc_few {n : Nat} {ts U L : List (List Int)} (rm : Room' n comp ts (idt n) U) (as : Asc ltT (Grp n ts) L) : L.length ≤ 4000 := Nat.le_trans (nd_le as.nd fun x hx => ((as.mem x).mp hx).inU rm.a0 rm.cl) rm.few
end
end NS
end
section
set_option maxHeartbeats 4000000
/-! N10: NotWhole -/
namespace NS
open PySem PySem.Spec PyProof.Rows L2 ZS
section
variable {P : Program} {w : World} {K : PySem.W.Frag} {mg : Str → Option Value} {base : Heap} {f : Addr} {fd : FuncData} {pT pA C : Addr}
end
end NS
end
section
set_option maxHeartbeats 4000000
/-! RLam: a lambda as a value, kept in a list, called in the frame that made it -/
namespace LamY
open PySem PySem.Spec PyProof.Rows L2 LamX
/-- the lambda's function, its defaults at dv -/
abbrev lf (q : Str) (params : Arguments) (body : Expr) (scope : Scope) (cl : List (Str × Addr)) (pm cdv ct dv : Value) : FuncData :=
  { name := "<lambda>", qualname := q, params, body := .expr body, scope, globals := mainGlobals, closure := cl, defaults := dv, kwdefaults := .none, doc := .none, pyModule := pm, annotations := none, code := cdv, closureTuple := ct, builtins := builtinsNs }
abbrev lo (q : Str) (params : Arguments) (body : Expr) (scope : Scope) (cl : List (Str × Addr)) (pm : Value) (c' : Addr) (ct dv : Value) : Obj :=
  { cls := .type "function", data := .func (lf q params body scope cl pm (.ref c') ct dv) }
section
variable {M : Model} {A : Around} {E : Value → Shared → Prop} {s : Shared} {qual : Str} {params : Arguments} {body : Expr} {scope : Scope} {env : Env} {c P : Addr} {ps : Array Value} {pos : Pos} {firstLine : Nat} {mg : Str → Option Value}
  {clos : List (Str × Addr)} {Q : Value → Shared → Prop} {dv : Value}
theorem lam_tail (hcl : closureFor scope env = pure clos) (hge0 : env.globals = mainGlobals) (hg : s.heap.Ns mainGlobals mg) (hcode : env.code = .ref c) (C : PySem.W.CodeHd s.heap c P) (hP : s.heap.get? P = some { cls := .none, data := .fields ps }) (ht : TriplesOk ps.toList)
    (hnf : codeAmong pos ps.toList = none) (hgP : mainGlobals ≠ P) (hb : s.heap.BuiltinsAt mg P)
    (h : ∀ c' ctv h' tk, Heap.ExtBut P s.heap h' → s.heap.objs.size ≤ c' → c' < h'.objs.size → h'.CodeRec (.ref c') qual → h'.get? P = some { cls := .none, data := .fields (ps ++ #[rawInt pos.line, rawInt pos.col, .ref c']) } →
      Q (.ref h'.objs.size) { s with heap := h'.push (lo qual params body scope clos ((mg "__name__").getD .none) c' ctv dv), toks := tk }) :
    wpAny M A (makeTail "<lambda>" qual params (.expr body) scope env dv .none none pos firstLine) Q E s := by
  obtain ⟨bm, ob, hbm, hne0, _, hneP, hbo, hcls, hdict, hdata⟩ := hb
  unfold makeTail
  rw [hcl, hge0]
  refine wpAny_bind (wpAny_pure ?_)
  cases clos with
  | nil =>
    simp only [List.isEmpty_nil, if_true]
    refine wpAny_bind (wpAny_pure ?_)
    refine wpAny_bind (wpAny_functionCodeX hcode (C.code hP ht) (C.tab hP) hnf fun c' h' tk hx hge hlt _ hrec htb _ => ?_)
    have hg' := hg.extBut hx hgP
    refine wpAny_bind (wpAny_builtinsFor hg' hbm hne0 (hx _ _ hneP hbo) hcls hdict hdata ?_)
    refine wpAny_bind (wpAny_nsGet hg' ?_)
    exact wpAny_bind (wpAny_pure (wpAny_newObj_type (h c' .none h' tk hx hge hlt hrec htb.2) (by size_fits)))
  | cons q r =>
    simp only [List.isEmpty_cons, Bool.false_eq_true, if_false]
    refine wpAny_bind (wpAny_newTextTuple ?_)
    refine wpAny_bind (wpAny_functionCodeX hcode ((C.keeps fun b o e => Heap.get?_push_of_some _ e).code (Heap.get?_push_of_some _ hP) ht) ((C.keeps fun b o e => Heap.get?_push_of_some _ e).tab (Heap.get?_push_of_some _ hP)) hnf fun c' h' tk hx hge hlt _ hrec htb _ => ?_)
    have hg' := (hg.push _).extBut hx hgP
    have hx' : Heap.ExtBut P s.heap h' := fun b o hb' e => hx b o hb' (Heap.get?_push_of_some _ e)
    have hge' : s.heap.objs.size ≤ c' := Nat.le_trans (by rw [Heap.size_push]; omega) hge
    refine wpAny_bind (wpAny_builtinsFor hg' hbm hne0 (hx' _ _ hneP hbo) hcls hdict hdata ?_)
    refine wpAny_bind (wpAny_nsGet hg' ?_)
    exact wpAny_bind (wpAny_pure (wpAny_newObj_type (h c' _ h' tk hx' hge' hlt hrec htb.2) (by size_fits)))
theorem lam_tailHit {cv : Value} (hcl : closureFor scope env = pure clos) (hge0 : env.globals = mainGlobals) (hg : s.heap.Ns mainGlobals mg) (hcode : env.code = .ref c) (C : PySem.W.CodeHd s.heap c P) (hP : s.heap.get? P = some { cls := .none, data := .fields ps }) (ht : TriplesOk ps.toList)
    (hf : codeAmong pos ps.toList = some cv) (hb : s.heap.BuiltinsAt mg P)
    (h : ∀ (ctv : Value) (h' : Heap) (tk : Tok), (∀ b o, s.heap.get? b = some o → h'.get? b = some o) → s.heap.objs.size ≤ h'.objs.size →
      Q (.ref h'.objs.size) { s with heap := h'.push { cls := .type "function", data := .func (lf qual params body scope clos ((mg "__name__").getD .none) cv ctv dv) }, toks := tk }) :
    wpAny M A (makeTail "<lambda>" qual params (.expr body) scope env dv .none none pos firstLine) Q E s := by
  obtain ⟨bm, ob, hbm, hne0, _, hneP, hbo, hcls, hdict, hdata⟩ := hb
  unfold makeTail
  rw [hcl, hge0]
  refine wpAny_bind (wpAny_pure ?_)
  cases clos with
  | nil =>
    simp only [List.isEmpty_nil, if_true]
    refine wpAny_bind (wpAny_pure ?_)
    refine wpAny_bind (wpAny_functionCode_hit hcode (C.code hP ht) hf ?_)
    refine wpAny_bind (wpAny_builtinsFor hg hbm hne0 hbo hcls hdict hdata ?_)
    refine wpAny_bind (wpAny_nsGet hg ?_)
    exact wpAny_bind (wpAny_pure (wpAny_newObj_type (h .none s.heap s.toks (fun _ _ e => e) (Nat.le_refl _)) (by size_fits)))
  | cons q r =>
    simp only [List.isEmpty_cons, Bool.false_eq_true, if_false]
    refine wpAny_bind (wpAny_newTextTuple ?_)
    refine wpAny_bind (wpAny_functionCode_hit hcode ((C.keeps fun b o e => Heap.get?_push_of_some _ e).code (Heap.get?_push_of_some _ hP) ht) hf ?_)
    refine wpAny_bind (wpAny_builtinsFor (hg.push _) hbm hne0 (Heap.get?_push_of_some _ hbo) hcls hdict hdata ?_)
    refine wpAny_bind (wpAny_nsGet (hg.push _) ?_)
    have hsz : ∀ oT : Obj, s.heap.objs.size ≤ (s.heap.push oT).objs.size := fun oT => by rw [Heap.size_push]; omega
    exact wpAny_bind (wpAny_pure (wpAny_newObj_type (h _ _ s.toks (fun b o e => Heap.get?_push_of_some _ e) (hsz _)) (by size_fits)))
end
/-- the object at f is this one -/
def LamH (f : Addr) (o : Obj) : HO := .ext fun h => h.get? f = some o
/-- the code objects that the table at P tells for lines behind 150 bear the name q -/
def TabL (H : Hp) (P : Addr) (q : Str) : Prop := ∃ ps : Array Value, H P = some (.tbl ps) ∧ TriplesOk ps.toList ∧ ∀ (p : Pos) (cv : Value), 150 < p.line → codeAmong p ps.toList = some cv → ∃ c, cv = .ref c ∧ H c = some (CodeO c q)
section
variable {X : Cx} {pins : List (Addr × Obj)} {σ : L2.St} {H : Hp} {s : Shared}
/-- the lambda is made, its code object new or found; it is known from now on -/
theorem lam_make3 {c P : Addr} {params : Arguments} {body : Expr} {scope : Scope} {pos : Pos} {E : Value → Shared → Prop} {Q : Value → Shared → Prop} {dv : Value} (I : Inv X pins σ H s) (TB : TabB X.base X.mg c P) (hcode : X.env.code = .ref c) (hl : 150 < pos.line)
    (hT : TabL H P (X.env.qual ++ "<lambda>")) (hfree : ∀ y ∈ scope.names, y.2 = .free → ∃ c, X.env.cells.lookup y.1 = some c)
    (h : ∀ (f c' : Addr) (pm ctv : Value) (H1 : Hp) (s' : Shared), Inv X pins σ H1 s' → ExtN H H1 → (∀ b ps, H b = some (.tbl ps) → b ≠ P → H1 b = some (.tbl ps)) → TabL H1 P (X.env.qual ++ "<lambda>") →
      H1 f = some (LamH f (lo (X.env.qual ++ "<lambda>") params body scope (cloFrom X.env.cells scope.names []) pm c' ctv dv)) → H1 c' = some (CodeO c' (X.env.qual ++ "<lambda>")) → Q (.ref f) s') :
    wpAny (model X.prog X.w) X.A (makeTail "<lambda>" (X.env.qual ++ "<lambda>") params (.expr body) scope X.env dv .none none pos pos.line) Q E s := by
  obtain ⟨ps, hP, ht, ha⟩ := hT
  have bP : s.heap.BuiltinsAt X.mg P := TB.bm.keeps I.bk
  have hP' : s.heap.get? P = some { cls := .none, data := .fields ps } := I.hok P _ hP
  have okL : ∀ (h' : Heap) (f : Addr) (o : Obj) (H' : Hp), h'.get? f = some o → ObjOk X.prog X.w H' h' f (LamH f o) := fun h' f o H' e => ⟨e, ⟨o, e⟩, fun h1 h2 a st => st _ a⟩
  have nl : ∀ (f : Addr) (o : Obj) (ps : Array Value), LamH f o ≠ .tbl ps := fun f o ps z => by
    unfold LamH at z
    cases z
  cases hc : codeAmong pos ps.toList with
  | none =>
    refine lam_tail (mg := X.mg) (c := c) (P := P) (ps := ps) (closure_ok hfree) I.ok.glob (I.mod.glob.keeps I.bk) hcode (TB.code.keeps I.bk) hP' ht hc TB.gP bP fun c' ctv h' tk hx hge hlt hrec htb => ?_
    obtain ⟨c2, oc, vs, t, e2, hoc, hd, hv⟩ := hrec
    cases e2
    have hsz : s.heap.objs.size ≤ h'.objs.size := Nat.le_trans hge (Nat.le_of_lt hlt)
    have nC : H c' = none := I.hok.fresh hge
    have I0 := inv_table (t' := tk) (more := #[rawInt pos.line, rawInt pos.col, .ref c']) (h' := h') I hP (fun b o hb e => hx b o hb e) htb hge ⟨oc, vs, t, hoc, hd, hv⟩
    have hE : ExtN H (upd (upd H P (.tbl (ps ++ #[rawInt pos.line, rawInt pos.col, .ref c']))) c' (CodeO c' (X.env.qual ++ "<lambda>"))) := fun b o e n => by
      rw [upd_ne (ne_of_none e nC), upd_ne (fun z => n ps (Option.some.inj (e.symm.trans (by rw [z]; exact hP))))]
      exact e
    have eL : (ps ++ #[rawInt pos.line, rawInt pos.col, .ref c']).toList = ps.toList ++ [rawInt pos.line, rawInt pos.col, .ref c'] := by simp
    have nF : upd (upd H P (.tbl (ps ++ #[rawInt pos.line, rawInt pos.col, .ref c']))) c' (CodeO c' (X.env.qual ++ "<lambda>")) h'.objs.size = none := I0.hok.fresh (Nat.le_refl _)
    generalize hob : lo (X.env.qual ++ "<lambda>") params body scope (cloFrom X.env.cells scope.names []) ((X.mg "__name__").getD .none) c' ctv dv = ob
    have hfr : ob.isFreed = false := by rw [← hob]; rfl
    have I1 := I0.laid (a := h'.objs.size) (o := LamH h'.objs.size ob) (h' := h'.push ob) (t' := tk) (fun b o e => Heap.get?_push_of_some _ e) (Nat.le_refl _) (okL _ _ _ _ (Heap.get?_push_size _ hfr))
    generalize hH1 : upd (upd H P (.tbl (ps ++ #[rawInt pos.line, rawInt pos.col, .ref c']))) c' (CodeO c' (X.env.qual ++ "<lambda>")) = H1 at I0 I1 hE nF
    have hPc : H1 P = some (.tbl (ps ++ #[rawInt pos.line, rawInt pos.col, .ref c'])) := by rw [← hH1, upd_ne (ne_of_none hP nC), upd_same]
    have hCc : H1 c' = some (CodeO c' (X.env.qual ++ "<lambda>")) := by rw [← hH1, upd_same]
    have up : ∀ b o, H1 b = some o → upd H1 h'.objs.size (LamH h'.objs.size ob) b = some o := fun b o e => by rw [upd_ne (ne_of_none e nF)]; exact e
    refine h h'.objs.size c' ((X.mg "__name__").getD .none) ctv _ _ I1 (fun b o e n => up _ _ (hE b o e n)) (fun b qs e hb => up _ _ (by rw [← hH1, upd_ne (ne_of_none e nC), upd_ne hb]; exact e)) ?_ (by rw [hob]; exact upd_same) (up _ _ hCc)
    refine ⟨_, up _ _ hPc, by rw [eL]; exact PySem.TriplesOk_snoc _ _ _ _ ht, fun p' cv h150 hcv => ?_⟩
    rw [eL] at hcv
    rcases among_app _ ht hcv with z | z
    · obtain ⟨c0, e1, e2⟩ := ha p' cv h150 z
      exact ⟨c0, e1, up _ _ (hE _ _ e2 codeO_ne)⟩
    · exact ⟨c', z, up _ _ hCc⟩
  | some cv =>
    obtain ⟨c', e, hco⟩ := ha pos cv hl hc
    subst e
    refine lam_tailHit (mg := X.mg) (c := c) (P := P) (ps := ps) (closure_ok hfree) I.ok.glob (I.mod.glob.keeps I.bk) hcode (TB.code.keeps I.bk) hP' ht hc bP fun ctv h' tk hx hsz => ?_
    generalize hob : lo (X.env.qual ++ "<lambda>") params body scope (cloFrom X.env.cells scope.names []) ((X.mg "__name__").getD .none) c' ctv dv = ob
    have hfr : ob.isFreed = false := by rw [← hob]; rfl
    have nF : H h'.objs.size = none := I.hok.fresh hsz
    have I1 := I.laid (a := h'.objs.size) (o := LamH h'.objs.size ob) (h' := h'.push ob) (t' := tk) (fun b o e => Heap.get?_push_of_some _ (hx b o e)) hsz (okL _ _ _ _ (Heap.get?_push_size _ hfr))
    have up : ∀ b o, H b = some o → upd H h'.objs.size (LamH h'.objs.size ob) b = some o := fun b o e => by rw [upd_ne (ne_of_none e nF)]; exact e
    subst hob
    exact h h'.objs.size c' ((X.mg "__name__").getD .none) ctv _ _ I1 (fun b o e _ => up _ _ e) (fun b qs e _ => up _ _ e) ⟨ps, up _ _ hP, ht, fun p' cv h150 hcv => by
      obtain ⟨c0, e1, e2⟩ := ha p' cv h150 hcv
      exact ⟨c0, e1, up _ _ e2⟩⟩ upd_same (up _ _ hco)
end
/-! ### calling it -/
/-- captured names and globals; a parameter that is no name of the maker's -/
structure LamZ (N : List Str) (sc scope : Scope) : Prop where
  kind : scope.kind = .function
  co : scope.isCoroutine = false
  gen : scope.isGenerator = false
  own : ∀ y ∈ scope.names, y.2 ≠ .cell ∧ (y.2 = .local → y.1 ∉ N)
  free : ∀ y ∈ scope.names, y.2 = .free → sc.names.lookup y.1 = some .cell ∨ sc.names.lookup y.1 = some .free
def lamZB (N : List Str) (sc scope : Scope) : Bool :=
  decide (scope.kind = .function) && !scope.isCoroutine && !scope.isGenerator && scope.names.all fun y => !decide (y.2 = .cell) && (!decide (y.2 = .local) || !decide (y.1 ∈ N)) && (!decide (y.2 = .free) || decide (sc.names.lookup y.1 = some .cell) || decide (sc.names.lookup y.1 = some .free))
theorem lamZ_by {N : List Str} {sc scope : Scope} (h : lamZB N sc scope = true) : LamZ N sc scope := by
  unfold lamZB at h
  simp only [Bool.and_eq_true, Bool.or_eq_true, Bool.not_eq_true', decide_eq_true_eq, decide_eq_false_iff_not, List.all_eq_true] at h
  obtain ⟨⟨⟨h1, h2⟩, h3⟩, h4⟩ := h
  refine ⟨h1, h2, h3, fun y hy => ⟨(h4 y hy).1.1, fun e => ?_⟩, fun y hy e => ?_⟩
  · rcases (h4 y hy).1.2 with z | z
    · exact absurd e z
    · exact z
  · rcases (h4 y hy).2 with (z | z) | z
    · exact absurd e z
    · exact .inl z
    · exact .inr z
theorem LamZ.has {X : Cx} {scope : Scope} (L : LamZ X.N X.env.scope scope) (ok : X.Ok) : ∀ y ∈ scope.names, y.2 = .free → ∃ c, X.env.cells.lookup y.1 = some c := fun y hy e => by
  rcases L.free y hy e with k | k
  · exact ok.has _ (.inl k)
  · exact ok.has _ (.inr k)
section
variable {X : Cx} {pins : List (Addr × Obj)} {σ : L2.St} {H HZ : Hp} {s s1 : Shared}
/-- what a call without values binds: nothing, or the one default -/
def Bnd (p : Arguments) (b : Expr) (sc : Scope) : Bool → Prop
  | false => ∀ (q : Str) (cl : List (Str × Addr)) (pm cv ctv : Value), bindArgs (lf q p b sc cl pm cv ctv .none) ⟨[], []⟩ = pure []
  | true => ∃ a : Str, sc.names.lookup a = some .local ∧ ∀ (q : Str) (cl : List (Str × Addr)) (pm cv ctv : Value) (T : Addr), ∃ k, bindArgs (lf q p b sc cl pm cv ctv (.ref T)) ⟨[], []⟩ = seqItems? (.ref T) >>= k ∧ ∀ v, k (some #[v]) = pure [(a, v)]
def Dfv (H : Hp) (dv : Value) : Bool → Prop
  | false => dv = .none
  | true => ∃ (T : Addr) (i : Int), dv = .ref T ∧ H T = some (.tup [.int i])
end
end LamY
end
section
set_option maxHeartbeats 4000000
/-! L14: lambdas in a law -/
namespace NS
open PySem PySem.Spec PyProof.Rows L2 ZS LamY
/-- all but the table at P stands -/
structure KpL (P : Addr) (H H' : Hp) : Prop where
  e : LamX.ExtN H H'
  t : ∀ b ps, H b = some (.tbl ps) → b ≠ P → H' b = some (.tbl ps)
theorem KpL.tup {P : Addr} {H H' : Hp} (z : KpL P H H') : Tup H H' := ⟨fun c xs h => z.e c _ h (fun _ q => by cases q), fun c o u h => z.e c _ h (fun _ q => by cases q)⟩
theorem codeO_nt {c : Addr} {q : Str} (ps : Array Value) : LamX.CodeO c q ≠ .tbl ps := LamX.codeO_ne ps
theorem tabL_kp {H H' : Hp} (z : Kp H H') {P : Addr} {q : Str} (h : TabL H P q) : TabL H' P q := by
  obtain ⟨ps, hP, ht, ha⟩ := h
  obtain ⟨ps', hP', u⟩ := z.t P ps hP
  refine ⟨ps', hP', u.1 ht, fun p cv hp hc => ?_⟩
  rw [u.2 ht p hp] at hc
  obtain ⟨c, e1, e2⟩ := ha p cv hp hc
  exact ⟨c, e1, z.k _ _ e2 codeO_nt⟩
theorem tabL_kpb {r : Addr} {H H' : Hp} (z : KpB r H H') {P : Addr} {q : Str} (h : TabL H P q) : TabL H' P q := by
  obtain ⟨ps, hP, ht, ha⟩ := h
  obtain ⟨ps', hP', u⟩ := z.t P ps hP
  refine ⟨ps', hP', u.1 ht, fun p cv hp hc => ?_⟩
  rw [u.2 ht p hp] at hc
  obtain ⟨c, e1, e2⟩ := ha p cv hp hc
  exact ⟨c, e1, z.k _ _ e2 codeO_nt (fun xs e => by unfold LamX.CodeO at e; cases e)⟩
theorem tabL_g {H : Hp} {P : Addr} {q : Str} (h : TabL H P q) : GxR.TabG H P := by
  obtain ⟨ps, hP, ht, _⟩ := h
  exact ⟨ps, hP, ht⟩
theorem tabG_l {P p : Addr} {q : Str} {H H' : Hp} (z : KpL P H H') (l : TabL H' P q) (h : GxR.TabG H p) : GxR.TabG H' p := by
  by_cases e : p = P
  · rw [e]; exact tabL_g l
  · obtain ⟨ps, h1, h2⟩ := h
    exact ⟨ps, z.t _ _ h1 e, h2⟩
theorem tabL0 {H : Hp} {P : Addr} {q : Str} (h : H P = some (.tbl #[])) : TabL H P q := ⟨#[], h, trivial, fun p cv _ hc => by
  have hc : codeAmong p [] = some cv := hc
  simp [codeAmong] at hc⟩
theorem Sta.l {K : PySem.W.Frag} {H H' : Hp} {r sa : Addr} {v : V} {n : Nat} {ts : List (List Int)} {pT pA P : Addr} {q : Str} (h : Sta K H r sa v n ts pT pA) (z : KpL P H H') (l : TabL H' P q) : Sta K H' r sa v n ts pT pA := by
  obtain ⟨⟨⟨i, sd, rest, e, hr⟩, ns, hs⟩, hv, gT, gA⟩ := h
  refine ⟨⟨⟨i, sd, rest, z.e _ _ e (fun _ q => by cases q), hr⟩, ns, ?_⟩, NS.Tup.house z.tup hv, tabG_l z l gT, tabG_l z l gA⟩
  rcases hs with (h | ⟨o, h⟩) | h
  · exact .inl (.inl (z.e _ _ h (fun _ q => by cases q)))
  · exact .inl (.inr ⟨o, z.e _ _ h (fun _ q => by cases q)⟩)
  · exact .inr h
section
variable {X : Cx} {k : Nat} {t : XK → TE} {H H' : Hp} {v : V}
end
section
variable {X X0 : Cx}
end
end NS
end
section
set_option maxHeartbeats 4000000
/-! REsc: lambdas that outlive the frame that made them -/
namespace LamE
open PySem PySem.Spec PyProof.Rows L2 LamX LamY
/-! ### cells told of by the abstract heap -/
def delL (cs : List Addr) (H : Hp) : Hp := fun a => if a ∈ cs then none else H a
def addL (cs : List Addr) (H0 H : Hp) : Hp := fun a => if a ∈ cs then H0 a else H a
def CellsH (cs : List Addr) (H : Hp) : Prop := ∀ c ∈ cs, ∃ (o : Obj) (u : Option Value), H c = some (LamH c o) ∧ o.data = .cell u
section
variable {P : Program} {w : World} {cs fs : List Addr} {H H' : Hp} {h h' B : Heap} {a : Addr} {o : HO}
theorem del_in (m : a ∈ cs) : delL cs H a = none := by unfold delL; rw [if_pos m]
theorem del_out (m : a ∉ cs) : delL cs H a = H a := by unfold delL; rw [if_neg m]
theorem add_in (m : a ∈ cs) : addL cs H H' a = H a := by unfold addL; rw [if_pos m]
theorem add_out (m : a ∉ cs) : addL cs H H' a = H' a := by unfold addL; rw [if_neg m]
theorem del_none (e : H a = none) : delL cs H a = none := by unfold delL; split <;> first | rfl | exact e
theorem lamH_ext {c : Addr} {o : Obj} {u : HO} (n : ∀ φ, u ≠ .ext φ) : LamH c o ≠ u := fun e => n _ e.symm
theorem CellsH.out (C : CellsH cs H) (e : H a = some o) (n : ∀ φ, o ≠ .ext φ) : a ∉ cs := fun m => by
  obtain ⟨ob, u, h1, _⟩ := C a m
  rw [e] at h1
  exact lamH_ext n (Option.some.inj h1).symm
theorem CellsH.outN (C : CellsH cs H) (e : H a = none) : a ∉ cs := fun m => by
  obtain ⟨ob, u, h1, _⟩ := C a m
  rw [e] at h1
  cases h1
theorem del_hok (k : HOk P w H h) (C : CellsH cs H) : HOk P w (delL cs H) h := fun a o e => by
  by_cases m : a ∈ cs
  · rw [del_in m] at e; cases e
  · rw [del_out m] at e
    exact (k a o e).stay (fun _ _ _ q => q) (fun b q => by rw [del_out (C.out q (fun _ z => by cases z))]; exact q) (fun b xs q => by rw [del_out (C.out q (fun _ z => by cases z))]; exact q)
theorem add_hok (k : HOk P w H' h) (C : CellsH cs H) (hc : ∀ c ∈ cs, H' c = none) (ho : ∀ c ∈ cs, ∀ o, H c = some (LamH c o) → h.get? c = some o) : HOk P w (addL cs H H') h := fun a o e => by
  by_cases m : a ∈ cs
  · rw [add_in m] at e
    obtain ⟨ob, u, h1, _⟩ := C a m
    rw [h1] at e
    cases e
    exact ⟨ho a m ob h1, ⟨ob, ho a m ob h1⟩, fun h1 h2 q st => st _ q⟩
  · rw [add_out m] at e
    have ne : ∀ b u, H' b = some u → b ∉ cs := fun b u q mb => by rw [hc b mb] at q; cases q
    exact (k a o e).stay (fun _ _ _ q => q) (fun b q => by rw [add_out (ne b _ q)]; exact q) (fun b xs q => by rw [add_out (ne b _ q)]; exact q)
theorem un_back (u : Un fs [] (delL cs H) H' h h') (C : CellsH cs H) : Un fs [] H (addL cs H H') h h' where
  keep := fun b o q n hb hx => u.keep b o q (del_none n) hb hx
  slot := fun b o q n hb hx => u.slot b o q (del_none n) hb hx
  free := fun b o q n hx => by rw [add_out (C.outN n)]; exact u.free b o q (del_none n) hx
  there := u.there
  tups := fun b xs q => by
    have m := C.out q (fun _ z => by cases z)
    rw [add_out m]
    exact u.tups b xs (by rw [del_out m]; exact q)
  frzs := fun b o x q => by
    have m := C.out q (fun _ z => by cases z)
    rw [add_out m]
    exact u.frzs b o x (by rw [del_out m]; exact q)
  tbls := fun b ps q => by
    have m := C.out q (fun _ z => by cases z)
    rw [add_out m]
    exact u.tbls b ps (by rw [del_out m]; exact q)
theorem ub_back (u : UB fs (delL cs H) H' h B h') (C : CellsH cs H) : UB fs H (addL cs H H') h B h' where
  keep := fun b o q n hb => u.keep b o q (del_none n) hb
  slot := u.slot
  free := fun b o q n => by rw [add_out (C.outN n)]; exact u.free b o q (del_none n)
  there := u.there
  tups := fun b xs q => by
    have m := C.out q (fun _ z => by cases z)
    rw [add_out m]
    exact u.tups b xs (by rw [del_out m]; exact q)
  frzs := fun b o x q => by
    have m := C.out q (fun _ z => by cases z)
    rw [add_out m]
    exact u.frzs b o x (by rw [del_out m]; exact q)
  tbls := fun b ps q => by
    have m := C.out q (fun _ z => by cases z)
    rw [add_out m]
    exact u.tbls b ps (by rw [del_out m]; exact q)
theorem cell_get (k : HOk P w H h) {c : Addr} {ob : Obj} (e : H c = some (LamH c ob)) : h.get? c = some ob := (k c _ e).1
theorem env0_del {K : PySem.W.Frag} {mg : Str → Option Value} {base : Heap} {A : Around} {outer : List Env} {s : Shared} (e : Env0 P w K mg base A outer s H) (C : CellsH cs H) : Env0 P w K mg base A outer s (delL cs H) :=
  ⟨e.frames, e.mod, fun b o q => ⟨(e.bs b o q).1, del_none (e.bs b o q).2⟩, e.bsz, e.funs, fun b hb => del_none (e.frf b hb), del_hok e.hok C, e.bare⟩
/-- what a call did while the cells were not told of -/
theorem cr_back {outer : List Env} {s s' : Shared} {Q : VK} {E : XK} {r : Result} (C : CellsH cs H) (hk : HOk P w H s.heap) (nf : ∀ c ∈ cs, c ∉ frs outer) (h : CR (L2.CX P w) outer P w (delL cs H) s (fun v H' => (∀ c ∈ cs, H' c = none) → Q v (addL cs H H')) (fun cls d H' => (∀ c ∈ cs, H' c = none) → E cls d (addL cs H H')) r s') : CR (L2.CX P w) outer P w H s Q E r s' := by
  cases r with
  | ok fl =>
    cases fl with
    | ret u =>
      obtain ⟨v, H', os, bare, un, hok, rv, q⟩ := h
      have nn : ∀ c ∈ cs, H' c = none := fun c m => by
        obtain ⟨ob, u0, h1, _⟩ := C c m
        exact un.free c ob (cell_get hk h1) (del_in m) (by simp)
      exact ⟨v, addL cs H H', os, bare, un_back un C, add_hok hok C nn (fun c m o e => un.keep c o (cell_get hk e) (del_in m) (nf c m) (by simp)), rv, q nn⟩
    | next => exact h
    | brk => exact h
    | cont => exact h
  | error e =>
    obtain ⟨a, B, H', cls, d, rfl, fl, hok, ub, na, os, bare, q⟩ := h
    have inB : ∀ c ∈ cs, ∀ o, H c = some (LamH c o) → B.get? c = some o := fun c m o e => ub.keep c o (cell_get hk e) (del_in m) (nf c m)
    have nn : ∀ c ∈ cs, H' c = none := fun c m => by
      obtain ⟨ob, u0, h1, _⟩ := C c m
      exact ub.free c ob (cell_get hk h1) (del_in m)
    refine ⟨a, B, addL cs H H', cls, d, rfl, fl, add_hok hok C nn inB, ub_back ub C, ?_, os, bare, q nn⟩
    · have m : a ∉ cs := fun m => by
        obtain ⟨ob, u0, h1, _⟩ := C a m
        have := inB a m ob h1
        rw [fl.2.1] at this
        cases this
      rw [add_out m]
      exact na
end
/-! ### the lambda's frame -/
abbrev escEnv (q : Str) (scope : Scope) (L f c' : Addr) (cl : List (Str × Addr)) : Env := PySem.W.envX q scope L f (.ref c') cl
def escCx (P : Program) (w : World) (K : PySem.W.Frag) (mg : Str → Option Value) (base : Heap) (N : List Str) (A : Around) (outer : List Env) (s : Shared) (H : Hp) (E : XK) (q : Str) (scope : Scope) (f c' : Addr) (cl : List (Str × Addr)) : Cx where
  prog := P
  w := w
  K := K
  mg := mg
  base := base
  A := A.deeper (escEnv q scope s.heap.objs.size f c' cl)
  N := N
  s_0 := s
  H_0 := H
  env := escEnv q scope s.heap.objs.size f c' cl
  outer := outer
  stack := escEnv q scope s.heap.objs.size f c' cl :: outer
  ex := []
  fn := fun _ => false
  calm := true
  pn := []
  xe := fun e s' => wpAny (model P w) (A.deeper (escEnv q scope s.heap.objs.size f c' cl)) (leaving (escEnv q scope s.heap.objs.size f c' cl) e) (fun _ s'' => L2.CX P w outer H s E e s'') (fun e' s'' => L2.CX P w outer H s E e' s'') s'
structure EscZ (N : List Str) (scope : Scope) : Prop where
  kind : scope.kind = .function
  co : scope.isCoroutine = false
  gen : scope.isGenerator = false
  own : ∀ y ∈ scope.names, y.2 ≠ .cell ∧ (y.2 = .local → y.1 ∉ N)
  free : ∀ y ∈ scope.names, y.2 = .free → y.1 ∈ N
def escZB (N : List Str) (scope : Scope) : Bool :=
  decide (scope.kind = .function) && !scope.isCoroutine && !scope.isGenerator && scope.names.all fun y => !decide (y.2 = .cell) && (!decide (y.2 = .local) || !decide (y.1 ∈ N)) && (!decide (y.2 = .free) || decide (y.1 ∈ N))
theorem escZ_by {N : List Str} {scope : Scope} (h : escZB N scope = true) : EscZ N scope := by
  unfold escZB at h
  simp only [Bool.and_eq_true, Bool.or_eq_true, Bool.not_eq_true', decide_eq_true_eq, decide_eq_false_iff_not, List.all_eq_true] at h
  obtain ⟨⟨⟨h1, h2⟩, h3⟩, h4⟩ := h
  refine ⟨h1, h2, h3, fun y hy => ⟨(h4 y hy).1.1, fun e => ?_⟩, fun y hy e => ?_⟩
  · rcases (h4 y hy).1.2 with z | z
    · exact absurd e z
    · exact z
  · rcases (h4 y hy).2 with z | z
    · exact absurd e z
    · exact z
/-- the closure's cells and what they hold -/
structure Clo (H : Hp) (cl : List (Str × Addr)) (N : List Str) (σ : L2.St) : Prop where
  inj : ∀ (y z : Str) (c : Addr), cl.lookup y = some c → cl.lookup z = some c → y = z
  at_ : ∀ (y : Str) (c : Addr), (y, c) ∈ cl → ∃ (o : Obj) (u : Value), H c = some (LamH c o) ∧ o.data = .cell (some u) ∧ ∀ (i : Nat) (v : V), N[i]? = some y → σ[i]? = some (some v) → RelV v u
  len : σ.length = N.length
theorem Clo.cells {H : Hp} {cl : List (Str × Addr)} {N : List Str} {σ : L2.St} (h : Clo H cl N σ) : CellsH (cl.map (·.2)) H := fun c m => by
  obtain ⟨⟨y, c⟩, hm, rfl⟩ := List.mem_map.mp m
  obtain ⟨o, u, h1, h2, _⟩ := h.at_ y c hm
  exact ⟨o, some u, h1, h2⟩
section
variable {P : Program} {w : World} {K : PySem.W.Frag} {mg : Str → Option Value} {base : Heap} {A : Around} {outer : List Env} {E : XK} {q : Str} {scope : Scope} {f c' : Addr} {cl : List (Str × Addr)} {N : List Str} {σ : L2.St} {H : Hp} {s : Shared} {h₁ : Heap} {tk : Nat} {m0 : Str → Option Value}
theorem esc_start (Z : EscZ N scope) (C : Clo H cl N σ) (hcl : ∀ y ∈ scope.names, y.2 = .free → ∃ c, cl.lookup y.1 = some c) (e0 : Env0 P w K mg base A outer s H) (hd : A.handled = none) (hns : h₁.Ns s.heap.objs.size m0) (kp : ∀ b o, s.heap.get? b = some o → h₁.get? b = some o) :
    Inv (escCx P w K mg base N A outer s (delL (cl.map (·.2)) H) E q scope f c' cl) [] σ (delL (cl.map (·.2)) H) { s with heap := h₁, toks := tk } := by
  have e1 := env0_del e0 C.cells
  have inC : ∀ {y c}, cl.lookup y = some c → c ∈ cl.map (·.2) := fun e => List.mem_map.mpr ⟨_, PySem.mem_of_lookup e, rfl⟩
  have isC : ∀ {y c}, cl.lookup y = some c → ∃ u, h₁.IsCell c (some u) ∧ ∀ (i : Nat) (v : V), N[i]? = some y → σ[i]? = some (some v) → RelV v u := fun {y c} e => by
    obtain ⟨o, u, h1, h2, h3⟩ := C.at_ y c (PySem.mem_of_lookup e)
    exact ⟨u, ⟨o, kp _ _ (cell_get e0.hok h1), h2⟩, h3⟩
  have noA : ∀ b : Addr, b ∉ (escCx P w K mg base N A outer s (delL (cl.map (·.2)) H) E q scope f c' cl).ex := fun b z => absurd (show b ∈ ([] : List Addr) from z) (by simp)
  refine ⟨⟨e1.mod, Z.kind, rfl, rfl, Nat.le_refl _, fun y z c e1 e2 => C.inj y z c e1 e2, fun y hy => ?_, fun y c z _ => ?_, fun _ => hd, Around.frames_deeper e1.frames, .inr ⟨rfl, rfl⟩, fun b z => absurd z (noA b), e1.bs, e1.bsz, fun b _ _ => noA b,
      fun b z => absurd z (noA b), e1.funs, e1.frf⟩,
    rfl, e1.bare, Un.kept kp, ⟨_, hns, fun i y v q1 q2 q3 => ?_⟩, fun y c e => ?_, del_none (e0.hok.fresh (Nat.le_refl _)), fun y c e => del_in (inC e), fun q hq => absurd (show q ∈ ([] : List (Addr × Obj)) ++ [] from hq) (by simp), e1.hok.kept kp, C.len⟩
  · have hy : scope.names.lookup y = some .cell ∨ scope.names.lookup y = some .free := hy
    rcases hy with hy | hy
    · exact absurd rfl (Z.own _ (PySem.mem_of_lookup hy)).1
    · exact hcl _ (PySem.mem_of_lookup hy) rfl
  · have z : false = true := z
    cases z
  · have q3 : Vis scope y := q3
    rcases q3 with k | k | k
    · exact absurd (List.mem_of_getElem? q1) ((Z.own _ (PySem.mem_of_lookup k)).2 rfl)
    · exact absurd rfl (Z.own _ (PySem.mem_of_lookup k)).1
    · obtain ⟨c, hc⟩ := hcl _ (PySem.mem_of_lookup k) rfl
      obtain ⟨u, h1, h2⟩ := isC hc
      exact ⟨u, h2 i v q1 q2, .inr ⟨.inr k, c, hc, h1⟩⟩
  · obtain ⟨u, h1, _⟩ := isC e
    exact ⟨_, h1⟩
/-- a lambda that may be called anywhere -/
structure EscOK (P : Program) (w : World) (K : PySem.W.Frag) (mg : Str → Option Value) (base : Heap) (N : List Str) (k : Nat) (d : Bool) (p : Arguments) (b : Expr) (sc : Scope) (t : XK → TE) : Prop where
  z : EscZ N sc
  bind : Bnd p b sc d
  body : ∀ (A : Around) (outer : List Env) (s : Shared) (H : Hp) (E : XK) (q : Str) (f c' : Addr) (cl : List (Str × Addr)), Room k (A.deeper (escEnv q sc s.heap.objs.size f c' cl)) → PE (escCx P w K mg base N A outer s H E q sc f c' cl) b (t E)
def IsEsc (P : Program) (w : World) (K : PySem.W.Frag) (mg : Str → Option Value) (base : Heap) (k : Nat) (H : Hp) (v : V) (N : List Str) (σ : L2.St) (cl : List (Str × Addr)) (t : XK → TE) : Prop :=
  ∃ (f c' : Addr) (pm ctv dv : Value) (d : Bool) (p : Arguments) (b : Expr) (sc : Scope) (q : Str), v = .ref f ∧ H f = some (LamH f (lo q p b sc cl pm c' ctv dv)) ∧ H c' = some (CodeO c' q) ∧ f ∉ cl.map (·.2) ∧ c' ∉ cl.map (·.2) ∧ Dfv H dv d ∧ EscOK P w K mg base N k d p b sc t ∧ Clo H cl N σ ∧ ∀ y ∈ sc.names, y.2 = .free → ∃ c, cl.lookup y.1 = some c
end
section
variable {X : Cx} {k i : Nat} {x : Str} {p1 p2 : Pos} {W : WX}
theorem pe_esc (tk : Takes X W) (hN : X.N[i]? = some x) (hv : Vis X.env.scope x) (hr : Room (k + 1) X.A) (hd : (x == ("__debug__" : Str)) = false := by decide) (hcd : (x == ("__classdict__" : Str)) = false := by decide) :
    PE X (.Call (.Name x p1) [] [] p2) (fun σ H Q => ∃ (v : V) (N : List Str) (σ' : L2.St) (cl : List (Str × Addr)) (t : XK → TE), σ[i]? = some (some v) ∧ IsEsc X.prog X.w X.K X.mg X.base k H v N σ' cl t ∧
      t (fun cls d H' => (∀ c ∈ cl.map (·.2), H' c = none) → W cls d σ (addL (cl.map (·.2)) H H')) σ' (delL (cl.map (·.2)) H) (fun v H' => (∀ c ∈ cl.map (·.2), H' c = none) → Q v (addL (cl.map (·.2)) H H'))) := by
  refine ⟨fun pins s σ H Q I h => ?_⟩
  obtain ⟨v, N, σ', cl, t, hs, ⟨f, c', pm, ctv, dv, d, p, b, sc, q, rfl, hf, hc, nf, nc, hdf, ok, C, hcl⟩, ht⟩ := h
  refine wpAny_Call_Name_kw (thn ((pe_var (pos := p1) (i := i) hN hv hd hcd).run pins s σ H (fun v H1 => v = .ref f ∧ H1 = H) I ⟨.ref f, hs, rfl, rfl⟩) fun u s1 ⟨v, H1, I1, r1, q1⟩ => ?_)
  obtain ⟨ev, eH⟩ := q1
  subst ev
  rw [eH] at I1
  obtain rfl : u = Value.ref f := r1
  have of1 : s1.heap.get? f = some (lo q p b sc cl pm c' ctv dv) := (I1.hok f _ hf).1
  refine PySem.W.callWith_F0 ⟨_, _, _, _, of1⟩ ?_
  obtain ⟨⟨oc, vs, t0, hoc, hdc, hvc⟩, _, _⟩ := I1.hok c' _ hc
  have L := ok.z
  have nfr : ∀ c ∈ cl.map (·.2), c ∉ frs X.stack := fun c m z => by
    obtain ⟨o, u, h1, _⟩ := C.cells c m
    rw [I1.env0.frf c z] at h1
    cases h1
  have rc : codeAny (model X.prog X.w) X.A (.call (.ref f) ⟨[], []⟩) (CR (L2.CX X.prog X.w) X.stack X.prog X.w H s1 Q (fun cls d H' => W cls d σ H')) s1 := by
    refine codeAny_mono ?_ fun r s' hq => cr_back C.cells I1.hok nfr hq
    refine PySem.W.kla_callFunE hr.depth of1 rfl L.co L.gen rfl ⟨c', oc, vs, t0, rfl, hoc, hdc, hvc⟩ ?_
    have go : ∀ (binds : List (Str × Value)), (∀ y ∈ binds, sc.names.lookup y.1 = some .local) → wpAny (model X.prog X.w) X.A.in1 (newFunctionEnv sc mainGlobals cl binds (q ++ ".<locals>.") (some f) (.ref c') none builtinsNs)
        (fun env s₂ => s₂.heap.NoLimit ∧ codeAny (model X.prog X.w) X.A (.expr b env) (CR (L2.CX X.prog X.w) X.stack X.prog X.w (delL (cl.map (·.2)) H) s1 (fun v H' => (∀ c ∈ cl.map (·.2), H' c = none) → Q v (addL (cl.map (·.2)) H H')) (fun cls d H' => (∀ c ∈ cl.map (·.2), H' c = none) → W cls d σ (addL (cl.map (·.2)) H H'))) s₂) (fun e s' => CR (L2.CX X.prog X.w) X.stack X.prog X.w (delL (cl.map (·.2)) H) s1 (fun v H' => (∀ c ∈ cl.map (·.2), H' c = none) → Q v (addL (cl.map (·.2)) H H')) (fun cls d H' => (∀ c ∈ cl.map (·.2), H' c = none) → W cls d σ (addL (cl.map (·.2)) H H')) (.error e) s') s1 := fun binds hb => by
      refine wpAny_newFunctionEnv (fun y hy => (L.own y hy).1) hb (fun h₁ hns hsb => ⟨I1.nolimit.fresh _ hsb, ?_⟩) L.kind
      show codeAny _ _ (.expr b (escEnv q sc s1.heap.objs.size f c' cl)) _ _
      have kp : ∀ b o, s1.heap.get? b = some o → h₁.get? b = some o := fun b o e => hsb.extBut b o (Nat.ne_of_lt (Heap.lt_size e)) (Heap.get?_push_of_some _ e)
      have J : Inv (escCx X.prog X.w X.K X.mg X.base N X.A X.stack s1 (delL (cl.map (·.2)) H) (fun cls d H' => (∀ c ∈ cl.map (·.2), H' c = none) → W cls d σ (addL (cl.map (·.2)) H H')) q sc f c' cl) [] σ' (delL (cl.map (·.2)) H) { s1 with heap := h₁, toks := s1.toks + binds.length } :=
        esc_start L C hcl I1.env0 hr.hd hns kp
      refine PySem.W.kla_codeExpr (wpAny_mono ((ok.body X.A X.stack s1 _ _ q f c' cl (hr.deeper _)).run [] _ _ _ _ J ht) (fun v s' hq => ?_) fun e s' hq => hq)
      obtain ⟨w', H', J', rv, q⟩ := hq
      exact ⟨w', H', J'.os, J'.bare, J'.base, J'.hok, rv, q⟩
    have hb := ok.bind
    cases d with
    | false =>
      obtain rfl : dv = .none := hdf
      rw [hb]
      exact wpAny_pure (go [] fun y hy => absurd hy (by simp))
    | true =>
      obtain ⟨T, j, rfl, hT⟩ := hdf
      obtain ⟨a, ha, hk⟩ := hb
      obtain ⟨kk, e1, e2⟩ := hk q cl pm (.ref c') ctv T
      rw [e1]
      obtain ⟨its, rv, ⟨o, ho, hcl, n, hdt⟩, _⟩ := I1.tuple (xs := [.int j]) (.inl (.inl hT))
      refine wpAny_bind (wpAny_seqItems ho hdt ?_)
      cases rv with
      | cons r0 rest =>
        cases rest
        rw [e2]
        exact wpAny_pure (go _ fun y hy => by rw [List.mem_singleton.mp hy]; exact ha)
  have hx : ∀ (e : Value) (s' : Shared), L2.CX X.prog X.w X.stack H s1 (fun cls d H' => W cls d σ H') e s' → X.xe e s' := fun e s' hq => tk e s' (XE.of_call I1 (fun _ _ _ h => h) hq)
  refine wpAny_call (codeAny_mono rc fun r s' hq => ?_)
  cases r with
  | error e => exact hx e s' hq
  | ok fl =>
    cases fl with
    | ret u => exact I1.after hq
    | next => exact False.elim hq
    | brk => exact False.elim hq
    | cont => exact False.elim hq
end
end LamE
end
section
set_option maxHeartbeats 4000000
/-! REsc2: making lambdas that outlive their frame; cells lent to a callee -/
namespace LamE
open PySem PySem.Spec PyProof.Rows L2 LamX LamY
/-- the addresses of a frame's cells -/
def cellA (cells : List (Str × Addr)) : List Addr := (cells.filter fun q => decide (cells.lookup q.1 = some q.2)).map (·.2)
theorem cellA_mem {cells : List (Str × Addr)} {c : Addr} : c ∈ cellA cells ↔ ∃ y, cells.lookup y = some c := by
  unfold cellA
  constructor
  · intro h
    obtain ⟨⟨y, c'⟩, hm, rfl⟩ := List.mem_map.mp h
    exact ⟨y, of_decide_eq_true (List.mem_filter.mp hm).2⟩
  · rintro ⟨y, h⟩
    exact List.mem_map.mpr ⟨(y, c), List.mem_filter.mpr ⟨PySem.mem_of_lookup h, decide_eq_true h⟩, rfl⟩
/-- H2 tells of all that H tells of, and of the frame's cells -/
structure Lent (X : Cx) (σ : L2.St) (H H2 : Hp) : Prop where
  up : ∀ b, b ∉ cellA X.env.cells → H2 b = H b
  fr : ∀ b ∈ cellA X.env.cells, H b = none
  at_ : ∀ y c, X.env.cells.lookup y = some c → ∃ (o : Obj) (u : Option Value), H2 c = some (LamH c o) ∧ o.data = .cell u ∧ ∀ (i : Nat) (v : V), X.N[i]? = some y → σ[i]? = some (some v) → X.env.scope.names.lookup y = some .cell → ∃ u', u = some u' ∧ RelV v u'
theorem Lent.ext {X : Cx} {σ : L2.St} {H H2 : Hp} (h : Lent X σ H H2) : ∀ b o, H b = some o → H2 b = some o := fun b o e => by
  rw [h.up b fun m => by rw [h.fr b m] at e; cases e]
  exact e
theorem Lent.cells {X : Cx} {σ : L2.St} {H H2 : Hp} (h : Lent X σ H H2) : CellsH (cellA X.env.cells) H2 := fun c m => by
  obtain ⟨y, e⟩ := cellA_mem.mp m
  obtain ⟨o, u, h1, h2, _⟩ := h.at_ y c e
  exact ⟨o, u, h1, h2⟩
section
variable {X : Cx} {pins : List (Addr × Obj)} {σ : L2.St} {H : Hp} {s : Shared}
/-- the frame's cells told of -/
theorem lend (I : Inv X pins σ H s) : ∃ H2, Lent X σ H H2 ∧ HOk X.prog X.w H2 s.heap := by
  obtain ⟨m, hn, hl⟩ := I.loc
  refine ⟨fun a => if a ∈ cellA X.env.cells then (s.heap.get? a).map fun o => LamH a o else H a, ⟨fun b nb => if_neg nb, fun b mb => let ⟨y, e⟩ := cellA_mem.mp mb; I.freeC y b e, fun y c e => ?_⟩, fun a o e => ?_⟩
  · obtain ⟨u, o, ho, hd⟩ := I.cell y c e
    refine ⟨o, u, by show (if c ∈ cellA X.env.cells then _ else _) = _; rw [if_pos (cellA_mem.mpr ⟨y, e⟩), ho]; rfl, hd, fun i v h1 h2 h3 => ?_⟩
    obtain ⟨u', rv, q⟩ := hl i y v h1 h2 (.inr (.inl h3))
    rcases q with ⟨k, _⟩ | ⟨_, c2, e2, o2, ho2, hd2⟩
    · have k : X.env.scope.names.lookup y = some .local := k
      rw [h3] at k
      cases k
    · rw [e] at e2
      cases e2
      rw [ho] at ho2
      cases ho2
      rw [hd] at hd2
      injection hd2 with hd2
      exact ⟨u', hd2, rv⟩
  · have e : (if a ∈ cellA X.env.cells then (s.heap.get? a).map fun o => LamH a o else H a) = some o := e
    by_cases ma : a ∈ cellA X.env.cells
    · rw [if_pos ma] at e
      obtain ⟨ob, ho, rfl⟩ := Option.map_eq_some_iff.mp e
      exact ⟨ho, ⟨ob, ho⟩, fun h1 h2 q st => st _ q⟩
    · rw [if_neg ma] at e
      have ne : ∀ b u, H b = some u → b ∉ cellA X.env.cells := fun b u q mb => by
        obtain ⟨y, e⟩ := cellA_mem.mp mb
        rw [I.freeC y b e] at q
        cases q
      exact (I.hok a o e).stay (fun _ _ _ q => q) (fun b q => by show (if b ∈ cellA X.env.cells then _ else _) = _; rw [if_neg (ne b _ q)]; exact q) (fun b xs q => by show (if b ∈ cellA X.env.cells then _ else _) = _; rw [if_neg (ne b _ q)]; exact q)
theorem cell_new (I : Inv X pins σ H s) (hfn : ∀ x, X.fn x = true) {c : Addr} (m : c ∈ cellA X.env.cells) : X.s_0.heap.objs.size ≤ c := by
  obtain ⟨y, e⟩ := cellA_mem.mp m
  exact I.ok.cab y c (hfn y) e
theorem cell_nofr (I : Inv X pins σ H s) (hfn : ∀ x, X.fn x = true) {c : Addr} (m : c ∈ cellA X.env.cells) : c ∉ frs X.stack := fun z => by
  have out : c ∉ frs X.outer := fun z => by
    obtain ⟨_, o, ho, _⟩ := I.ok.funs.mem z
    exact Nat.lt_irrefl _ (Nat.lt_of_lt_of_le (Heap.lt_size ho) (cell_new I hfn m))
  rcases I.ok.stk with e | ⟨e, ef⟩
  · rw [e] at z; exact out z
  · rw [e] at z
    unfold frs at z
    rw [List.filterMap_cons, ef] at z
    rcases List.mem_cons.mp z with z | z
    · obtain ⟨y, ec⟩ := cellA_mem.mp m
      obtain ⟨u, o, ho, hd⟩ := I.cell y c ec
      obtain ⟨_, ⟨ob, es, ep, ho2, hd2, _⟩, _⟩ := I.loc
      rw [← z, ho] at ho2
      cases ho2
      rw [hd] at hd2
      cases hd2
    · exact out z
theorem lent_env0 (I : Inv X pins σ H s) (hfn : ∀ x, X.fn x = true) {H2 : Hp} (L : Lent X σ H H2) (k : HOk X.prog X.w H2 s.heap) : Env0 X.prog X.w X.K X.mg X.base X.A X.stack s H2 := by
  have e0 := I.env0
  refine ⟨e0.frames, e0.mod, fun b o q => ⟨(e0.bs b o q).1, ?_⟩, e0.bsz, e0.funs, fun b hb => ?_, k, e0.bare⟩
  · rw [L.up b fun m => Nat.lt_irrefl _ (Nat.lt_of_lt_of_le (Heap.lt_size (I.ok.bs b o q).1) (cell_new I hfn m))]
    exact (e0.bs b o q).2
  · rw [L.up b fun m => cell_nofr I hfn m hb]
    exact e0.frf b hb
/-- behind a call that had the cells -/
theorem lent_back (I : Inv X pins σ H s) (hfn : ∀ x, X.fn x = true) {H2 : Hp} (L : Lent X σ H H2) (k : HOk X.prog X.w H2 s.heap) {Q : VK} {u : Value} {s' : Shared} (h : CE X.stack X.prog X.w H2 s (fun v H3 => (∀ c ∈ cellA X.env.cells, H3 c = H2 c) ∧ Q v (delL (cellA X.env.cells) H3)) u s') : CE X.stack X.prog X.w H s Q u s' := by
  obtain ⟨v, H3, os, bare, un, hok, rv, st, q⟩ := h
  have C3 : CellsH (cellA X.env.cells) H3 := fun c m => by
    rw [st c m]
    exact L.cells c m
  have out : ∀ {b x}, H b = some x → b ∉ cellA X.env.cells := fun {b x} e m => by rw [L.fr b m] at e; cases e
  refine ⟨v, delL (cellA X.env.cells) H3, os, bare, ⟨fun b o q n hb hx => ?_, fun b o q n hb hx => ?_, fun b o q n hx => ?_, un.there, fun b xs q => ?_, fun b o x q => ?_, fun b ps q => ?_⟩, del_hok hok C3, rv, q⟩
  · by_cases m : b ∈ cellA X.env.cells
    · obtain ⟨ob, u0, h1, _⟩ := L.cells b m
      have h2 := cell_get k h1
      rw [q] at h2
      cases h2
      rw [← st b m] at h1
      exact cell_get hok h1
    · exact un.keep b o q (by rw [L.up b m]; exact n) hb hx
  · exact un.slot b o q (by rw [L.up b fun m => cell_nofr I hfn m hb]; exact n) hb hx
  · by_cases m : b ∈ cellA X.env.cells
    · exact del_in m
    · rw [del_out m]
      exact un.free b o q (by rw [L.up b m]; exact n) hx
  · rw [del_out (out q)]
    exact un.tups b xs (L.ext b _ q)
  · rw [del_out (out q)]
    exact un.frzs b o x (L.ext b _ q)
  · rw [del_out (out q)]
    exact un.tbls b ps (L.ext b _ q)
end
/-! ### a def that returns such lambdas -/
def PSsE (X : Cx) (body : List Stmt) (t : (L2.St → VK) → L2.St → Hp → Prop) : Prop :=
  ∀ (pins : List (Addr × Obj)) (s : Shared) (σ : L2.St) (H : Hp) (Qe : L2.St → VK), Inv X pins σ H s → t Qe σ H → wpAny (model X.prog X.w) X.A (execs body X.env) (fun fl s' => ∃ (u : Value) (v : V) (σ' : L2.St) (H' : Hp), fl = .ret u ∧ Inv X pins σ' H' s' ∧ RelV v u ∧ Qe σ' v H') X.xe s
section
variable {X : Cx} {e : Expr} {te : TE} {pos pos' : Pos}
theorem psse_ret (he : PE X e te) : PSsE X [.Return (some e) pos] (fun Qe σ H => te σ H (Qe σ)) := by
  intro pins s σ H Qe I h
  refine wpAny_execs_cons (wpAny_Return_some (thn (he.run pins s σ H _ I h) fun v s1 ⟨x, H1, I1, r1, q1⟩ => ?_))
  exact ⟨v, x, σ, H1, rfl, I1, r1, q1⟩
theorem psse_set {j : Nat} {x : Str} {rest : List Stmt} {t : (L2.St → VK) → L2.St → Hp → Prop} (hN : X.N.Nodup) (hi : X.N[j]? = some x) (hx : Loc X.env.scope x) (he : PE X e te) (h2 : PSsE X rest t) (hs : swapsWith e (some (.Name x pos')) pos.line X.env = pure false := by rfl) (hf : X.fn x = true ∨ X.env.scope.names.lookup x = some .local := by first | exact .inl rfl | exact .inr rfl | assumption) :
    PSsE X (.Assign [.Name x pos'] e pos :: rest) (fun Qe σ H => te σ H fun v H1 => t Qe (σ.set j (some v)) H1) := by
  intro pins s σ H Qe I h
  refine wpAny_execs_cons (wpAny_Assign_Name (thn (he.run pins s σ H _ I h) fun v s1 q => ?_) hs)
  obtain ⟨y, H1, I1, r1, q1⟩ := q
  exact store_ok (v := y) (u := v) I1 hN hi hx r1 (fun s2 I2 => h2 pins s2 _ H1 Qe I2 q1) hf
end
theorem ok_codeE {P : Program} {w : World} {K : PySem.W.Frag} {mg : Str → Option Value} {base : Heap} {x qual : Str} {params : Arguments} {body : List Stmt} {scope : Scope} {dvs : List V} {kws : List (Str × V)} {f : Addr} {fd : FuncData} {N ps : List Str} {sp : Sp} {k : Nat} (F : FunD K x qual params body scope dvs kws f fd) (S : FnScope N ps scope) (len : ∀ vs H Q E, sp vs H Q E → vs.length = ps.length)
    (hbody : ∀ (cdv : Value) (A : Around) (outer : List Env) (s : Shared) (H : Hp) (vs : List V) (Q : VK) (E : XK), cdv = fd.code → Room k (A.deeper (envOfC qual scope s.heap.objs.size f cdv)) → sp vs H Q E →
      ∃ t, PSsE (cxOf C8.CX0 P w K mg base N qual scope f cdv A outer s H E) body t ∧ t (fun σ' v H' => ∀ H2, Lent (cxOf C8.CX0 P w K mg base N qual scope f cdv A outer s H E) σ' H' H2 → (∀ y z c, (envOfC qual scope s.heap.objs.size f cdv).cells.lookup y = some c → (envOfC qual scope s.heap.objs.size f cdv).cells.lookup z = some c → y = z) → Q v H2) (L2.start N vs) H) : FnOk P w K mg base C8.CX0 (k + 1) f fd ps sp := by
  obtain ⟨oc, od, dV, kV, doc, pm, an, cdv, ct, osl, rfl, lk, hcd, _, _⟩ := F.ex
  refine ⟨len, fun A outer s H args us vs Q E hr e0 hb r hsp => ?_⟩
  have hl := len _ _ _ _ hsp
  have KX : K.In s.heap := e0.mod.kin.keeps fun b o e => (e0.bs b o e).1
  have lim : s.heap.NoLimit := e0.mod.nolimit.keeps fun b o e => (e0.bs b o e).1
  have hkind : ∀ y ∈ ps.zip us, scope.names.lookup y.1 = some .local ∨ (scope.names.lookup y.1 = some .cell ∧ ((cellsFrom (s.heap.objs.size + 1) scope.names []).lookup y.1).isSome = true) := fun ⟨n, v⟩ hy => by
    rcases S.par n (List.of_mem_zip hy).1 with q | q
    · exact .inl q
    · exact .inr ⟨q, PySem.W.cellsFrom_some _ _ _ (.inl q)⟩
  refine codeAny_call_function hr.depth (KX _ _ lk) rfl S.co S.gen rfl (PySem.W.codeRec_of KX hcd) (hb _ _ _ _ ?_)
  refine wpAny_newFunctionEnv_cells S.kind hkind fun env he s1 x => ?_
  subst he
  refine ⟨lim.keeps x.toInCall.keep, codeAny_func ?_⟩
  obtain ⟨t, ht, hq⟩ := hbody cdv A outer s H vs Q E rfl (hr.deeper _) hsp
  have I : Inv (cxOf C8.CX0 P w K mg base N qual scope f cdv A outer s H E) [] (L2.start N vs) H s1 := inv_start S hr.hd e0 hl r x
  refine wpAny_mono (ht [] s1 (L2.start N vs) H _ I hq) (fun fl s' hs => ?_) fun e s' hs => hs
  obtain ⟨u, v, σ', H', rfl, J, rv, q⟩ := hs
  obtain ⟨H2, L, hok⟩ := lend J
  refine ⟨v, H2, J.os, J.bare, ?_, hok, rv, q H2 L J.ok.inj⟩
  have un : Un (frs outer) [] H H' s.heap s'.heap := J.base
  have new : ∀ b o, s.heap.get? b = some o → b ∉ cellA (cxOf C8.CX0 P w K mg base N qual scope f cdv A outer s H E).env.cells := fun b o e m => by
    have h2 : s.heap.objs.size ≤ b := cell_new J (fun _ => rfl) m
    exact Nat.lt_irrefl _ (Nat.lt_of_lt_of_le (Heap.lt_size e) h2)
  exact ⟨un.keep, un.slot, fun b o q n hx => by rw [L.up b (new b o q)]; exact un.free b o q n hx, un.there, fun b xs q => L.ext b _ (un.tups b xs q), fun b o x q => L.ext b _ (un.frzs b o x q), fun b ps q => let ⟨more, e⟩ := un.tbls b ps q; ⟨more, L.ext b _ e⟩⟩
/-! ### the making -/
/-- v is a lambda of the frame with these cells -/
def MadeL (P : Program) (w : World) (K : PySem.W.Frag) (mg : Str → Option Value) (base : Heap) (N : List Str) (sc0 : Scope) (k : Nat) (cells : List (Str × Addr)) (q : Str) (H : Hp) (v : V) (t : XK → TE) : Prop :=
  ∃ (f c' : Addr) (pm ctv dv : Value) (d : Bool) (p : Arguments) (b : Expr) (sc : Scope), v = .ref f ∧ H f = some (LamH f (lo q p b sc (cloFrom cells sc.names []) pm c' ctv dv)) ∧ H c' = some (CodeO c' q) ∧ Dfv H dv d ∧ LamZ N sc0 sc ∧ EscOK P w K mg base N k d p b sc t
theorem MadeL.ext {P : Program} {w : World} {K : PySem.W.Frag} {mg : Str → Option Value} {base : Heap} {N : List Str} {sc0 : Scope} {k : Nat} {cells : List (Str × Addr)} {q : Str} {H H' : Hp} {v : V} {t : XK → TE} (h : MadeL P w K mg base N sc0 k cells q H v t) (z : ExtN H H') : MadeL P w K mg base N sc0 k cells q H' v t := by
  obtain ⟨f, c', pm, ctv, dv, d, p, b, sc, e, hf, hc, hd, h1, h2⟩ := h
  refine ⟨f, c', pm, ctv, dv, d, p, b, sc, e, z _ _ hf (fun ps => lamH_ext fun _ e => by cases e), z _ _ hc codeO_ne, ?_, h1, h2⟩
  cases d with
  | false => exact hd
  | true =>
    obtain ⟨T, i, e, h⟩ := hd
    exact ⟨T, i, e, z _ _ h (fun _ q => by cases q)⟩
section
variable {X : Cx}
def tLamE (X : Cx) (k : Nat) (P : Addr) (t : XK → TE) : TE := fun _ H Q => TabL H P (X.env.qual ++ "<lambda>") ∧ ∀ f H1, ExtN H H1 → (∀ b ps, H b = some (.tbl ps) → b ≠ P → H1 b = some (.tbl ps)) → TabL H1 P (X.env.qual ++ "<lambda>") →
  MadeL X.prog X.w X.K X.mg X.base X.N X.env.scope k X.env.cells (X.env.qual ++ "<lambda>") H1 (.ref f) t → Q (.ref f) H1
theorem pe_lamEN {k : Nat} {c P : Addr} {params : Arguments} {body : Expr} {scope : Scope} {pos : Pos} {t : XK → TE} (TB : TabB X.base X.mg c P) (hcode : X.env.code = .ref c) (z : LamZ X.N X.env.scope scope) (ok : EscOK X.prog X.w X.K X.mg X.base X.N k false params body scope t) (hl : 150 < pos.line := by decide) (hdef : defaultsOf params X.env = ([], []) := by rfl) :
    PE X (.Lambda params body scope pos) (tLamE X k P t) := by
  refine ⟨fun pins s σ H Q I h => PySem.W.kla_eval hdef ?_⟩
  obtain ⟨hT, q⟩ := h
  rw [makeFunction_eq]
  simp only [List.zip_nil_right, List.filterMap_nil, List.isEmpty_nil, if_true, pure_bind]
  exact lam_make3 I TB hcode hl hT (z.has I.ok) fun f c' pm ctv H1 s' I1 eN eT T1 hf hc => ⟨.ref f, H1, I1, rfl, q f H1 eN eT T1 ⟨f, c', pm, ctv, .none, false, params, body, scope, rfl, hf, hc, rfl, z, ok⟩⟩
theorem pe_lamED {k : Nat} {c P : Addr} {params : Arguments} {body : Expr} {scope : Scope} {pos : Pos} {t : XK → TE} {i : Int} {j : Nat} {cp : Pos} (TB : TabB X.base X.mg c P) (hcode : X.env.code = .ref c) (z : LamZ X.N X.env.scope scope) (ok : EscOK X.prog X.w X.K X.mg X.base X.N k true params body scope t) (hl : 150 < pos.line := by decide) (hdef : defaultsOf params X.env = ([eval (.Constant (.int i) j cp) X.env], []) := by rfl) :
    PE X (.Lambda params body scope pos) (tLamE X k P t) := by
  refine ⟨fun pins s σ H Q I h => ?_⟩
  obtain ⟨hT, q⟩ := h
  rw [arm_eval_Lambda, hdef]
  show wpAny _ _ (do let dv ← evalAll [eval (.Constant (.int i) j cp) X.env]; let kdv ← holding dv (evalAllOpt []); makeFunction "<lambda>" (X.env.qual ++ "<lambda>") params (.expr body) scope X.env dv kdv [] pos pos.line) _ _ s
  refine wpAny_bind ?_
  show wpAny _ _ (do let v ← eval (.Constant (.int i) j cp) X.env; return v :: (← holding [v] (evalAll []))) _ _ s
  refine wpAny_bind (thn ((pe_int (X := X) (i := i) (j := j) (pos := cp)).run pins s σ H (fun x H1 => x = .int i ∧ H1 = H) I ⟨rfl, rfl⟩) fun v s1 ⟨x, H1, I1, r1, e1, e2⟩ => ?_)
  subst e1
  rw [e2] at I1
  refine wpAny_bind (wpAny_holding (wpAny_pure (wpAny_pure (wpAny_bind (wpAny_holding (wpAny_pure ?_))))))
  rw [makeFunction_eq]
  simp only [List.zip_nil_right, List.filterMap_nil, List.isEmpty_nil, List.isEmpty_cons, Bool.false_eq_true, if_false, if_true, pure_bind]
  refine wpAny_bind (wpAny_newTextTuple ?_)
  have nT : H s1.heap.objs.size = none := I1.hok.fresh (Nat.le_refl _)
  have I2 := I1.laid (a := s1.heap.objs.size) (o := .tup [.int i]) (h' := s1.heap.push { cls := .type "tuple", data := .seq [v].toArray }) (t' := s1.toks) (fun b o e => Heap.get?_push_of_some _ e) (Nat.le_refl _) ⟨by show 1 ≤ sizeLine; decide, _, .cons r1 .nil, IsTup.new _ _⟩
  have up : ∀ b o, H b = some o → upd H s1.heap.objs.size (.tup [.int i]) b = some o := fun b o e => by rw [upd_ne (ne_of_none e nT)]; exact e
  obtain ⟨ps, hP, ht, ha⟩ := hT
  refine lam_make3 I2 TB hcode hl ⟨ps, up _ _ hP, ht, fun p cv h150 hc => ?_⟩ (z.has I2.ok) fun f c' pm ctv H3 s' I3 eN eT T3 hf hc => ⟨.ref f, H3, I3, rfl, q f H3 (fun b o e n => eN b o (up b o e) n) (fun b qs e hb => eT b qs (up _ _ e) hb) T3 ⟨f, c', pm, ctv, .ref s1.heap.objs.size, true, params, body, scope, rfl, hf, hc, ⟨_, i, rfl, eN _ _ upd_same (fun _ z => by cases z)⟩, z, ok⟩⟩
  obtain ⟨c0, e1, e2⟩ := ha p cv h150 hc
  exact ⟨c0, e1, up _ _ e2⟩
/-- once the cells are told of, it may be called anywhere -/
theorem MadeL.esc {σ : L2.St} {H H' H2 : Hp} {k : Nat} {q : Str} {v : V} {t : XK → TE} (h : MadeL X.prog X.w X.K X.mg X.base X.N X.env.scope k X.env.cells q H v t) (L : Lent X σ H' H2) (up : ExtN H H') (inj : ∀ y z c, X.env.cells.lookup y = some c → X.env.cells.lookup z = some c → y = z) (hlen : σ.length = X.N.length)
    (has : ∀ y, X.env.scope.names.lookup y = some .cell → ∃ c, X.env.cells.lookup y = some c) (nfree : ∀ y, X.env.scope.names.lookup y ≠ some .free) (val : ∀ (i : Nat) (y : Str), X.N[i]? = some y → X.env.scope.names.lookup y = some .cell → ∃ v, σ[i]? = some (some v)) : ∃ cl, IsEsc X.prog X.w X.K X.mg X.base k H2 v X.N σ cl t := by
  obtain ⟨f, c', pm, ctv, dv, d, p, b, sc, e, hf, hc, hd, hz, ok⟩ := h.ext up
  have free : ∀ y ∈ sc.names, y.2 = .free → X.env.scope.names.lookup y.1 = some .cell := fun y hy e => (hz.free y hy e).elim id fun z => absurd z (nfree _)
  have cm : ∀ {y c}, (y, c) ∈ cloFrom X.env.cells sc.names [] → X.env.cells.lookup y = some c ∧ X.env.scope.names.lookup y = some .cell := fun {y c} hm => by
    rcases cloFrom_mem hm with hm | ⟨h1, h2⟩
    · cases hm
    · have k := free _ h1 rfl
      obtain ⟨c1, hc⟩ := has _ k
      have hc : X.env.cells.lookup y = some c1 := hc
      have e2 : c = c1 := by rw [h2, hc] <;> rfl
      rw [e2]
      exact ⟨hc, k⟩
  have out : ∀ {b u}, H' b = some u → b ∉ (cloFrom X.env.cells sc.names []).map (·.2) := fun {b u} e m => by
    obtain ⟨⟨y, c⟩, hm, rfl⟩ := List.mem_map.mp m
    rw [L.fr _ (cellA_mem.mpr ⟨y, (cm hm).1⟩)] at e
    cases e
  refine ⟨_, f, c', pm, ctv, dv, d, p, b, sc, q, e, L.ext _ _ hf, L.ext _ _ hc, out hf, out hc, ?_, ok, ⟨fun y z c h1 h2 => inj y z c (cm (PySem.mem_of_lookup h1)).1 (cm (PySem.mem_of_lookup h2)).1, fun y c hm => ?_, hlen⟩, fun y hy e => mem_lookup (cloFrom_has (cells := X.env.cells) (acc := []) (n := y.1) (by rw [← e]; exact hy))⟩
  · cases d with
    | false => exact hd
    | true =>
      obtain ⟨T, i, e, h⟩ := hd
      exact ⟨T, i, e, L.ext _ _ h⟩
  · obtain ⟨e1, e2⟩ := cm hm
    obtain ⟨o, u, h1, h2, h3⟩ := L.at_ y c e1
    have mN : y ∈ X.N := by
      rcases cloFrom_mem hm with hm | ⟨h1, _⟩
      · cases hm
      · exact ok.z.free _ h1 rfl
    obtain ⟨i, hi, ei⟩ := List.mem_iff_getElem.mp mN
    have hi2 : X.N[i]? = some y := by rw [List.getElem?_eq_getElem hi, ei]
    obtain ⟨v0, hv0⟩ := val i y hi2 e2
    obtain ⟨u', rfl, _⟩ := h3 i v0 hi2 hv0 e2
    refine ⟨o, u', h1, h2, fun j v hj hv => ?_⟩
    obtain ⟨u2, e3, r⟩ := h3 j v hj hv e2
    cases e3
    exact r
end
section
variable {X : Cx} {k j : Nat} {sp : Sp} {f : Addr} {fd : FuncData} {ps : List Str} {x : Str} {p pos : Pos} {e : Expr} {te : TE}
/-- g(e), the frame's cells lent to g -/
theorem pe_lend (hm : X.mg x = some (.ref f)) (hk : PySem.W.keepIn X.K (.ref f) = true) (hb : L2.Binds X.K fd ps []) (ok : FnOk X.prog X.w X.K X.mg X.base C8.CX0 j f fd ps sp) (hr : Room k X.A) (hj : j ≤ k) (hps : ps.length = 1) (hfn : ∀ y, X.fn y = true) (he : PE X e te) (hg : Gl X x := by rfl) (hdb : (x == ("__debug__" : Str)) = false := by decide)
    (hst : starEach [e] X.env = (false, eval e X.env) :: starEach [] X.env := by rfl) (hpl : (backTo pos (starEach [] X.env)).any (·.1) = false := by rfl) :
    PE X (.Call (.Name x p) [e] [] pos) (fun σ H Q => te σ H fun v H1 => ∀ H2, Lent X σ H1 H2 → sp [v] H2 (fun y H3 => (∀ c ∈ cellA X.env.cells, H3 c = H2 c) ∧ Q y (delL (cellA X.env.cells) H3)) C8.E0) := by
  refine ⟨fun pins s σ H Q I h => ?_⟩
  refine wpAny_Call_Name_kw (ld_glob I hg hm ?_ hdb)
  refine PySem.W.callWith_K (h₀ := X.base) I.ok.mod.kin hk ?_ (by rw [hst]) hpl
  rw [hst]
  show wpAny _ _ (spliced ((false, eval e X.env) :: backTo pos (starEach [] X.env))) _ _ s
  refine Calls.spliced_cons (thn (he.run pins s σ H _ I h) fun u s1 ⟨v, H1, I1, r1, q1⟩ => ?_)
  refine Calls.spliced_nil ⟨I1.kIn, ?_⟩
  obtain ⟨H2, L, hok⟩ := lend I1
  have rc := ok.run X.A X.stack s1 H2 ⟨[u], []⟩ [u] [v] _ _ (hr.mono hj) (lent_env0 I1 hfn L hok) (by simpa using hb s1 [u] I1.kIn (by simpa using hps.symm)) (.cons r1 .nil) (q1 H2 L)
  refine wpAny_call (codeAny_mono rc fun r s' hq => ?_)
  cases r with
  | error e => exact (show False from hq).elim
  | ok fl =>
    cases fl with
    | ret u => exact I1.after (lent_back I1 hfn L hok hq)
    | next => exact False.elim hq
    | brk => exact False.elim hq
    | cont => exact False.elim hq
end
end LamE
end
section
set_option maxHeartbeats 4000000
/-! RExc: isinstance(e, c) of a caught error with a dict; list.count of flat items -/
namespace NSExc
open PySem PySem.Spec PyProof.Rows L2
def rIsX (K : PySem.W.Frag) (a : Addr) (cls : Value) (d : Option Addr) : List V → Hp → VK → Prop := fun xs H Q => ∃ (D : Addr) (c : V) (cv : Value) (b : Bool), xs = [.ref a, c] ∧ cls = .ref D ∧ L2.ExcC K D ∧ ClsV c cv ∧ (∀ dd, d = some dd → ∃ fs, H dd = some (.xd fs)) ∧ PySem.W.kitOne K (.ref D) cv = some b ∧ Q (.bl b) H
theorem call_isX {X : Cx} {a : Addr} {cls : Value} {d : Option Addr} {oe : Obj} {pn : List (Addr × Obj)} (hz : Zc cls d oe) (hf : ∃ vs, oe.data = .fields vs) : CallR (X.suite a ((a, oe) :: pn)) (.builtin "isinstance") (rIsX X.K a cls d) := by
  intro pins s σ H xs us Q I r h
  obtain ⟨D, c, cv, b, rfl, rfl, C, hcv, hd, e, q⟩ := h
  cases r with
  | cons rx rr =>
    cases rr with
    | cons rt rr =>
      cases rr
      cases rx
      have ec := hcv.eq rt
      rw [ec]
      obtain ⟨hget, _⟩ := I.pin (a, oe) (List.mem_append.mpr (.inl List.mem_cons_self))
      obtain ⟨vs, hv⟩ := hf
      have hcl : (PySem.W.clsIn X.K D).isSome = true := by
        obtain ⟨cd, hc, _⟩ := PySem.W.any_some C.hd
        rw [hc]
        rfl
      have nc : PySem.W.notCls oe := by unfold PySem.W.notCls; rw [hv] <;> rfl
      have fin : ∀ od : Option Obj, PySem.W.InstAt s.heap a oe D od → wpAny (model (X.suite a ((a, oe) :: pn)).prog (X.suite a ((a, oe) :: pn)).w) (X.suite a ((a, oe) :: pn)).A (call (.builtin "isinstance") [.ref a, cv]) (EP (X.suite a ((a, oe) :: pn)) pins σ Q) (X.suite a ((a, oe) :: pn)).xe s := fun od J =>
        PySem.W.kia_one (PySem.W.kitx_exc (od := od) hcl C.hg C.hk C.hs C.ha C.hn C.ht C.hm) I.kIn J e (fun z => by cases hcv <;> cases z) fun tk => ⟨.bl b, H, I.kept (t' := tk) fun _ _ z => z, rfl, q⟩
      cases d with
      | none => exact fin none ⟨hget, hz.1, nc, by rw [hz.2]; trivial⟩
      | some dd =>
        obtain ⟨fs, hfs⟩ := hd dd rfl
        have hx : ObjOk X.prog X.w H s.heap dd (.xd fs) := I.hok dd _ hfs
        obtain ⟨mA, hns, _⟩ := hx
        obtain ⟨od, ho, _⟩ := lookIn_ns hns
        exact fin (some od) ⟨hget, hz.1, nc, by rw [hz.2]; exact ho⟩
def rCountF (K : PySem.W.Frag) : V → List V → Hp → VK → Prop := fun x xs H Q => ∃ (a : Addr) (ys : List V) (y : V), x = V.ref a ∧ xs = [y] ∧ SqL K H a ys ∧ flatV y = true ∧ ys.all flatV = true ∧ Q (.int (ys.countP (fun z => eqV z y) : Nat)) H
theorem count_flat {y : V} : ∀ {ys : List V} {its : List Value}, Vals ys its → ys.all flatV = true → its.countP (eqU y) = ys.countP fun z => eqV z y
  | [], [], .nil, _ => rfl
  | v :: vs, u :: us, .cons r rs, f => by
    rw [List.all_cons, Bool.and_eq_true] at f
    rw [List.countP_cons, List.countP_cons, count_flat rs f.2, eqU_of r f.1]
theorem mt_countF {X : Cx} : MtR X "list.count" (rCountF X.K) := by
  intro pins s σ H x xs v us Q I rx rxs h
  obtain ⟨a, ys, y, rfl, rfl, hs, fy, fys, q⟩ := h
  cases rx
  cases rxs with
  | cons ry rt =>
    rename_i uy ut
    cases rt
    obtain ⟨its, rv, ⟨⟨cls, dd, data, sl⟩, n, ho, hc, hdn, hd⟩, hlen⟩ := I.list hs
    simp only at hc hd
    subst hc hd
    refine call_meets PySem.F.slot_list_count ⟨_, ho, rfl⟩ PySem.F.entry_list_count (PySem.F.args_list_count_2 _ _)
      (SeqAt.list_countAt a its.toArray n dd sl uy (eqU y)) ⟨ho, fun u' hu' => mem_eqAt ry fy rv fys u' (by simpa using hu'), ?_⟩
    have ec : its.toArray.toList.countP (eqU y) = ys.countP fun z => eqV z y := count_flat rv fys
    refine ⟨.int (ys.countP (fun z => eqV z y) : Nat), H, I.tok _, ⟨s.toks, ?_⟩, q⟩
    show Value.int ((its.toArray.toList.countP (eqU y) : Nat) : Int) s.toks = _
    rw [ec]
end NSExc
end
section
set_option maxHeartbeats 4000000
/-! E1: an error class of the program with a field, made by its own __init__ -/
namespace NS
open PySem PySem.Spec PyProof.Rows L2 ZS
theorem oexB_ok {K : PySem.W.Frag} {C : Addr} (q : oexB K C = true) : OexC K C := by
  unfold oexB at q
  simp only [Bool.and_eq_true, decide_eq_true_iff] at q
  obtain ⟨⟨⟨⟨q, sa⟩, ex⟩, ty⟩, kp⟩ := q
  refine ⟨?_, sa, ex, ty, kp⟩
  split at q
  · rename_i dd cd sl ho
    split at q
    · rename_i C' bm k0 k1 k2 k3 n k5 hm hs
      simp only [Bool.and_eq_true, beq_iff_eq, Bool.not_eq_true'] at q
      obtain ⟨⟨⟨⟨rfl, rfl⟩, hdel⟩, hd⟩, ht⟩ := q
      obtain ⟨nm, bs, mro, ns, qn, hd', sn, sub, ab, col, del⟩ := cd
      dsimp only at hm hdel hd
      subst hm hdel hd
      have hsl : sl = #[k0, k1, k2, k3, some (.builtin "ValueError.__new__"), k5] := by
        obtain ⟨l⟩ := sl
        simp only at hs
        rw [hs]
      subst hsl
      exact ⟨nm, qn, ns, bs, bm, sn, sub, ab, col, dd, k0, k1, k2, k3, k5, ho, ht⟩
    · cases q
  · cases q
/-- __init__ keeps one field -/
def spInit1 (f : Str) (C : Addr) : Sp := fun vs H Q _ => ∃ (a : Addr) (v : V), vs = [.ref a, v] ∧ H a = some (exo a C none) ∧ ∀ dx, H dx = none → dx ≠ a → Q .non (upd (upd H dx (exd dx [(f, v)])) a (exo a C (some dx)))
/-- a class of errors of the program that keeps one field -/
structure ErrF (P : Program) (w : World) (K : PySem.W.Frag) (mg : Str → Option Value) (base : Heap) (x f : Str) (C : Addr) : Prop where
  g : mg x = some (.ref C)
  o : OexC K C
  m : PySem.W.exmOne K (.ref C) (.ref C) = some true
  ini : ∃ (fI : Addr) (fd : FuncData) (ps : List Str), PySem.W.findIn K (.ref C) "__init__" = some (some (.ref fI)) ∧ PySem.W.typeIn K (.ref fI) = some (.type "function") ∧ Binds K fd ps [] ∧ FnOk P w K mg base CX0 1 fI fd ps (spInit1 f C)
section
variable {X : Cx} {C : Addr} {W : WX} {x f : Str} {e : Expr} {ta : TA} {p pos pos' : Pos} {k : Nat}
theorem upd_del {H : Hp} {a d : Addr} {u : HO} (ha : H a = none) (hd : d ≠ a) {o1 o2 o3 : HO} : upd (del (upd (upd (upd H a o1) d o2) a o3) a) d u = upd H d u := by
  funext b
  by_cases e1 : b = d
  · subst e1
    rw [upd_same, upd_same]
  · rw [upd_ne e1, upd_ne e1]
    by_cases e2 : b = a
    · subst e2
      rw [del_same, ha]
    · rw [del_ne e2, upd_ne e2, upd_ne e1, upd_ne e2]
theorem pmk_f (T : ErrF X.prog X.w X.K X.mg X.base x f C) (hr : Room (k + 2) X.A) (ha : PA X [e] ta) (hg : Gl X x := by rfl) (hdb : (x == ("__debug__" : Str)) = false := by decide) (he : starEach [e] X.env = (false, eval e X.env) :: starEach [] X.env := by rfl) (hpl : (backTo pos (starEach [] X.env)).any (·.1) = false := by rfl) :
    PMk X (.Call (.Name x p) [e] [] pos) (tMkO C (spInit1 f C) [] ta) := by
  obtain ⟨fI, fd, ps, iC, tI, hb, F1⟩ := T.ini
  exact pmk_oex T.o iC tI F1 (hr.mono (by omega)) hb .nil pass0 hg T.g ha hdb he hpl
/-- raise X(e) -/
theorem ps_raiseF (T : ErrF X.prog X.w X.K X.mg X.base x f C) (hr : Room (k + 2) X.A) (tk : Takes X W) (ha : PA X [e] ta) (hc : X.calm = true := by rfl) (hg : Gl X x := by rfl) (hdb : (x == ("__debug__" : Str)) = false := by decide) (he : starEach [e] X.env = (false, eval e X.env) :: starEach [] X.env := by rfl) (hpl : (backTo pos (starEach [] X.env)).any (·.1) = false := by rfl) :
    PS X (.Raise (some (.Call (.Name x p) [e] [] pos)) none pos') (fun _ σ H => tMkO C (spInit1 f C) [] ta σ H fun cls d H' => W cls d σ H') :=
  ps_raise hc tk (pmk_f T hr ha hg hdb he hpl)
/-- what is asked once the argument stands -/
theorem mkF {H1 : Hp} {v : V} {Q : XK} (q : ∀ d, H1 d = none → Q (.ref C) (some d) (upd H1 d (.xd [(f, v)]))) : [v].length ≤ 1000 ∧ ∀ a, H1 a = none → spInit1 f C (.ref a :: ([v] ++ [])) (upd H1 a (exo a C none))
    (fun u H2 => u = .non ∧ ∃ (d : Addr) (fs : List (Str × V)), H2 a = some (exo a C (some d)) ∧ H2 d = some (exd d fs) ∧ H1 d = none ∧ Q (.ref C) (some d) (upd (del H2 a) d (.xd fs))) (fun _ _ _ => False) := by
  refine ⟨by simp, fun a ha => ⟨a, v, rfl, upd_same, fun dx h1 ne => ⟨rfl, dx, [(f, v)], upd_same, ?_, ?_, ?_⟩⟩⟩
  · rw [upd_ne ne, upd_same]
  · rw [upd_ne ne] at h1
    exact h1
  · rw [upd_del ha ne]
    rw [upd_ne ne] at h1
    exact q dx h1
end
theorem scBadInit : FnScope ["self", "part"] ["self", "part"] (defScope sBadInit) := ⟨rfl, rfl, rfl, by decide +kernel, rfl, by decide +kernel, by decide +kernel⟩
section
variable {P : Program} {w : World} {K : PySem.W.Frag} {mg : Str → Option Value} {base : Heap} {fI C : Addr} {fd : FuncData}
theorem ok_badinit (F : FunD K "__init__" "BadHouse.__init__" (defArgs sBadInit) (defBody sBadInit) (defScope sBadInit) [] [] fI fd) (O : OexC K C) (no : PySem.W.findIn K (.ref C) "part" = some none) : FnOk P w K mg base CX0 1 fI fd ["self", "part"] (spInit1 "part" C) := by
  refine ok_code F scBadInit (fun vs H Q E h => ?_) (fun cdv A outer s H vs Q E hcd hr h => ⟨_, PSs.nox (pss_one (ps_ost (pv 0) (pv 1))), ?_⟩)
  · obtain ⟨a, v, rfl, _⟩ := h
    rfl
  · obtain ⟨a, v, rfl, ha, q⟩ := h
    exact ⟨_, rfl, _, rfl, a, C, rfl, O, no, .inl ⟨ha, fun dx h1 h2 => q dx h1 h2⟩⟩
end
end NS
end
section
set_option maxHeartbeats 4000000
/-! E3: _law_error: what a call refuses -/
namespace NS
open PySem PySem.Spec PyProof.Rows L2 ZS LamX LamY LamE NSExc
/-- how a call ends -/
inductive Out where
  | ok | house (w : Str) | row (x : V) | many | turn | within | unlike
structure ErrD (K : PySem.W.Frag) (mg : Str → Option Value) (A : ErrA) : Prop where
  g : ∀ i : E6, mg i.nm = some (.ref (A.c i))
  ge : mg "TurnError" = some (.ref A.e)
  ve : mg "ValueError" = none
  ex : ∀ i, L2.ExcC K (A.c i)
  exm : ∀ i, PySem.W.exmOne K (.ref (A.c i)) (.ref A.e) = some true
  kit : ∀ i j, PySem.W.kitOne K (.ref (A.c i)) (.ref (A.c j)) = some (decide (i = j))
  kitv : PySem.W.kitOne K (.ref (A.c .b)) (.type "ValueError") = some true
  xb : XfC K (A.c .b)
  xr : XfC K (A.c .r)
  xm : XfC K (A.c .m)
  nb : PySem.W.findIn K (.ref (A.c .b)) "part" = some none
  nr : PySem.W.findIn K (.ref (A.c .r)) "index" = some none
  nm : PySem.W.findIn K (.ref (A.c .m)) "most" = some none
def Raised (A : ErrA) : Out → Value → Option Addr → Hp → Prop
  | .ok, _, _, _ => False
  | .house w, cls, d, H => cls = .ref (A.c .b) ∧ ∃ dd, d = some dd ∧ H dd = some (.xd [("part", .str w)])
  | .row x, cls, d, H => cls = .ref (A.c .r) ∧ ∃ dd, d = some dd ∧ H dd = some (.xd [("index", x)])
  | .many, cls, d, H => cls = .ref (A.c .m) ∧ ∃ dd, d = some dd ∧ H dd = some (.xd [("most", .int 5040)])
  | .turn, cls, d, _ => cls = .ref (A.c .t) ∧ d = none
  | .within, cls, d, _ => cls = .ref (A.c .w) ∧ d = none
  | .unlike, cls, d, _ => cls = .ref (A.c .u) ∧ d = none
def OutAt (K : PySem.W.Frag) (H : Hp) (y : V) : Out → Prop
  | .ok => y = .str ""
  | .house w => ∃ p, y = .ref p ∧ SqT K H p [.str "house", .str w]
  | .row x => ∃ p, y = .ref p ∧ SqT K H p [.str "row", x]
  | .many => ∃ p, y = .ref p ∧ SqT K H p [.str "many", .int 5040]
  | .turn => y = .str "turn"
  | .within => y = .str "within"
  | .unlike => y = .str "unlike"
/-- all but tables stands, tables stay tables -/
structure Up (H H' : Hp) : Prop where
  k : ExtN H H'
  t : ∀ P, GxR.TabG H P → GxR.TabG H' P
theorem Up.refl (H : Hp) : Up H H := ⟨ExtN.refl H, fun _ h => h⟩
theorem Up.trans {H H1 H2 : Hp} (a : Up H H1) (b : Up H1 H2) : Up H H2 := ⟨a.k.trans b.k, fun P h => b.t P (a.t P h)⟩
theorem Kp.up {H H' : Hp} (z : Kp H H') : Up H H' := ⟨fun b o e n => z.k b o e n, fun _ h => z.tabG h⟩
theorem Up.tup {H H' : Hp} (z : Up H H') : Tup H H' := ⟨fun c xs h => z.k c _ h (fun _ q => by cases q), fun c o u h => z.k c _ h (fun _ q => by cases q)⟩
theorem up_ext {H H' : Hp} (z : ∀ b o, H b = some o → H' b = some o) : Up H H' := ⟨fun b o e _ => z b o e, fun P ⟨ps, h1, h2⟩ => ⟨ps, z _ _ h1, h2⟩⟩
theorem KpL.up {P : Addr} {q : Str} {H H' : Hp} (z : KpL P H H') (l : TabL H' P q) : Up H H' := ⟨z.e, fun p h => tabG_l z l h⟩
/-- what a call does that ends so -/
def Does (A : ErrA) (out : Out) (t : XK → TE) (σ : L2.St) (H : Hp) : Prop :=
  ∀ (E : XK) (Q : VK), (∀ cls d H', Kp H H' → Raised A out cls d H' → E cls d H') → (∀ u H', out = .ok → Kp H H' → Q u H') → t E σ H Q
def EscAt (P : Program) (w : World) (K : PySem.W.Frag) (mg : Str → Option Value) (base : Heap) (A : ErrA) (k : Nat) (H : Hp) (v : V) (out : Out) : Prop :=
  ∃ (N : List Str) (σ : L2.St) (cl : List (Str × Addr)) (t : XK → TE), IsEsc P w K mg base k H v N σ cl t ∧ ∀ H2, Up H H2 → Does A out t σ (delL (cl.map (·.2)) H2)
theorem lamH_ntb {c : Addr} {o : Obj} (ps : Array Value) : LamH c o ≠ .tbl ps := lamH_ext fun _ e => by cases e
theorem isEsc_up {P : Program} {w : World} {K : PySem.W.Frag} {mg : Str → Option Value} {base : Heap} {k : Nat} {H H' : Hp} {v : V} {N : List Str} {σ : L2.St} {cl : List (Str × Addr)} {t : XK → TE} (h : IsEsc P w K mg base k H v N σ cl t) (z : ExtN H H') : IsEsc P w K mg base k H' v N σ cl t := by
  obtain ⟨f, c', pm, ctv, dv, d, p, b, sc, q, e, hf, hc, nf, nc, hd, ok, C, hcl⟩ := h
  refine ⟨f, c', pm, ctv, dv, d, p, b, sc, q, e, z _ _ hf lamH_ntb, z _ _ hc codeO_ne, nf, nc, ?_, ok, ⟨C.inj, fun y c m => ?_, C.len⟩, hcl⟩
  · cases d with
    | false => exact hd
    | true =>
      obtain ⟨T, i, e, h⟩ := hd
      exact ⟨T, i, e, z _ _ h (fun _ q => by cases q)⟩
  · obtain ⟨o, u, h1, h2, h3⟩ := C.at_ y c m
    exact ⟨o, u, z _ _ h1 lamH_ntb, h2, h3⟩
theorem EscAt.up {P : Program} {w : World} {K : PySem.W.Frag} {mg : Str → Option Value} {base : Heap} {A : ErrA} {k : Nat} {H H' : Hp} {v : V} {out : Out} (h : EscAt P w K mg base A k H v out) (z : Up H H') : EscAt P w K mg base A k H' v out := by
  obtain ⟨N, σ, cl, t, h1, h2⟩ := h
  exact ⟨N, σ, cl, t, isEsc_up h1 z.k, fun H2 z2 => h2 H2 (z.trans z2)⟩
theorem kp_add {cs : List Addr} {H H' : Hp} (C : CellsH cs H) (z : Kp (delL cs H) H') : Kp H (addL cs H H') := by
  refine ⟨fun b o e n => ?_, fun b ps e => ?_⟩
  · by_cases m : b ∈ cs
    · rw [add_in m]; exact e
    · rw [add_out m]
      exact z.k b o (by rw [del_out m]; exact e) n
  · have m : b ∉ cs := C.out e (fun _ q => by cases q)
    rw [add_out m]
    exact z.t b ps (by rw [del_out m]; exact e)
def tEsc (P : Program) (w : World) (K : PySem.W.Frag) (mg : Str → Option Value) (base : Heap) (k i : Nat) (W : WX) : TE := fun σ H Q => ∃ (v : V) (N : List Str) (σ' : L2.St) (cl : List (Str × Addr)) (t : XK → TE), σ[i]? = some (some v) ∧ IsEsc P w K mg base k H v N σ' cl t ∧
  t (fun cls d H' => (∀ c ∈ cl.map (·.2), H' c = none) → W cls d σ (addL (cl.map (·.2)) H H')) σ' (delL (cl.map (·.2)) H) (fun v H' => (∀ c ∈ cl.map (·.2), H' c = none) → Q v (addL (cl.map (·.2)) H H'))
theorem isEsc_cells {P : Program} {w : World} {K : PySem.W.Frag} {mg : Str → Option Value} {base : Heap} {k : Nat} {H : Hp} {v : V} {N : List Str} {σ : L2.St} {cl : List (Str × Addr)} {t : XK → TE} (h : IsEsc P w K mg base k H v N σ cl t) : CellsH (cl.map (·.2)) H := by
  obtain ⟨f, c', pm, ctv, dv, d, p, b, sc, q, e, hf, hc, nf, nc, hd, ok, C, hcl⟩ := h
  exact C.cells
abbrev nLErr : List Str := ["work", "e", "known"]
theorem scLErr : FnScope nLErr ["work"] (defScope sLErr) := ⟨rfl, rfl, rfl, by decide +kernel, rfl, by decide +kernel, by decide +kernel⟩
def spErr (P : Program) (w : World) (K : PySem.W.Frag) (mg : Str → Option Value) (base : Heap) (A : ErrA) (k : Nat) : Sp := fun vs H Q _ => ∃ (v : V) (out : Out), vs = [v] ∧ EscAt P w K mg base A k H v out ∧ ∀ y H2, Kp H H2 → OutAt K H2 y out → Q y H2
section
variable {P : Program} {w : World} {K : PySem.W.Frag} {mg : Str → Option Value} {base : Heap} {f : Addr} {fd : FuncData} {A : ErrA}
theorem ok_lerr {k : Nat} (F : FnP K "_law_error" sLErr f fd) (B : Bl mg) (D : ErrD K mg A) : FnOk P w K mg base CX0 (k + 2) f fd ["work"] (spErr P w K mg base A k) := by
  refine F.ok scLErr (fun vs H Q E h => ?_) (fun cdv A' outer s H vs Q E hr h => ⟨_, PSs.nox (
    pss_cons (ps_try_as (i := 1) rfl rfl scLErr.nd rfl rfl ⟨rfl, by decide, .inl D.ge⟩ L2.takes0
      (fun W pn xe tk _ => pss_one (ps_expr (show PE _ _ (tEsc P w K mg base k 0 W) from pe_esc (i := 0) (k := k) tk rfl (Or.inl rfl) hr)))
      (fun a oe cls d pn hz hf =>
        pss_cons (ps_if (pt_val (pe_callB (call_isX hz hf) rfl B.isinstance PyProof.Rows.boot_isinstance (pa_cons (pv 1) (pa_cons (pe_glob (v := .ref (A.c .b)) rfl (D.g .b) rfl) pa_nil))))
          (pss_one (ps_ret (pe_ifExp (pt_val (pe_callB (call_isX hz hf) rfl B.isinstance PyProof.Rows.boot_isinstance (pa_cons (pv 1) (pa_cons (pe_bltn (v := .ty "ValueError") rfl D.ve L2.boot_ValueError rfl) pa_nil)))) (pe_tup (pa_cons pe_str (pa_cons (pe_xf D.xb D.nb hz hf (pv 1)) pa_nil))) pe_str))) pss_nil)
        (pss_cons (ps_if (pt_val (pe_callB (call_isX hz hf) rfl B.isinstance PyProof.Rows.boot_isinstance (pa_cons (pv 1) (pa_cons (pe_glob (v := .ref (A.c .r)) rfl (D.g .r) rfl) pa_nil))))
          (pss_one (ps_ret (pe_tup (pa_cons pe_str (pa_cons (pe_xf D.xr D.nr hz hf (pv 1)) pa_nil))))) pss_nil)
        (pss_cons (ps_if (pt_val (pe_callB (call_isX hz hf) rfl B.isinstance PyProof.Rows.boot_isinstance (pa_cons (pv 1) (pa_cons (pe_glob (v := .ref (A.c .m)) rfl (D.g .m) rfl) pa_nil))))
          (pss_one (ps_ret (pe_tup (pa_cons pe_str (pa_cons (pe_xf D.xm D.nm hz hf (pv 1)) pa_nil))))) pss_nil)
        (pss_cons (ps_set (i := 2) scLErr.nd rfl (Or.inl rfl) (pe_lst (pa_cons (pe_callB (call_isX hz hf) rfl B.isinstance PyProof.Rows.boot_isinstance (pa_cons (pv 1) (pa_cons (pe_glob (v := .ref (A.c .t)) rfl (D.g .t) rfl) pa_nil))) (pa_cons (pe_callB (call_isX hz hf) rfl B.isinstance PyProof.Rows.boot_isinstance (pa_cons (pv 1) (pa_cons (pe_glob (v := .ref (A.c .w)) rfl (D.g .w) rfl) pa_nil))) (pa_cons (pe_callB (call_isX hz hf) rfl B.isinstance PyProof.Rows.boot_isinstance (pa_cons (pv 1) (pa_cons (pe_glob (v := .ref (A.c .u)) rfl (D.g .u) rfl) pa_nil))) pa_nil)))))
        (pss_one (ps_ret (pe_ifExp (pt_cmpR op_eq (show PE _ _ (tBM K "list" (rCountF K) (tVar 2) (tCons (tC (.bl true)) tNil)) from pe_bm PySem.F.plainAttrs_list PySem.F.slot_list_count PySem.F.type_list_count mt_countF (pv 2) (pa_cons pe_bl pa_nil)) pe_int (nomark _))
          (pe_ix (r := rIxL K) ix_list (pe_lst (pa_cons pe_str (pa_cons pe_str (pa_cons pe_str pa_nil)))) (show PE _ _ (tBM K "list" (rIndex K) (tVar 2) (tCons (tC (.bl true)) tNil)) from pe_bm PySem.F.plainAttrs_list PySem.F.slot_list_index PySem.F.type_list_index mt_index (pv 2) (pa_cons pe_bl pa_nil)) (fun _ _ => rfl)) pe_str))))))))
    (pss_one (ps_ret pe_str))), ?_⟩)
  · obtain ⟨v, out, rfl, _⟩ := h
    rfl
  · obtain ⟨v, out, rfl, ⟨N, σ', cl, t, isE, does⟩, q⟩ := h
    have C := isEsc_cells isE
    refine ⟨v, N, σ', cl, t, rfl, isE, does H (Up.refl H) _ _ (fun cls d H' z ra nn => ?_) (fun u H' eo z nn => ?_)⟩
    · have zk := kp_add C z
      have xd : ∀ {dd fs}, H' dd = some (.xd fs) → addL (cl.map (·.2)) H H' dd = some (.xd fs) := fun {dd fs} e => by
        rw [add_out fun m => by rw [nn dd m] at e; cases e]
        exact e
      generalize addL (cl.map (·.2)) H H' = H2 at zk xd ⊢
      have n0 : ∀ dd, (none : Option Addr) = some dd → ∃ fs, H2 dd = some (.xd fs) := fun dd e => by cases e
      cases out with
      | ok => exact ra.elim
      | house wd =>
        obtain ⟨rfl, dd, rfl, hdd⟩ := ra
        have hd : ∀ d', some dd = some d' → ∃ fs, H2 d' = some (.xd fs) := fun d' e => by cases e; exact ⟨_, xd hdd⟩
        refine ⟨true, D.exm .b, fun _ a ha => ?_, fun e => by cases e⟩
        refine ⟨_, rfl, A.c .b, .ref (A.c .b), .ref (A.c .b), true, rfl, rfl, D.ex .b, .own _, hd, D.kit .b .b, _, rfl, ifT (A := _) (B := _) rfl ?_⟩
        refine ⟨_, rfl, A.c .b, .ty "ValueError", .type "ValueError", true, rfl, rfl, D.ex .b, .ty _, hd, D.kitv, _, rfl, ifT (A := _) (B := _) rfl ?_⟩
        exact ⟨_, rfl, rfl, rfl, dd, _, _, rfl, xd hdd, rfl, (by show 2 ≤ sizeLine; decide), fun p hp => q _ _ (zk.new hp) ⟨p, rfl, SqT.of upd_same⟩⟩
      | row x =>
        obtain ⟨rfl, dd, rfl, hdd⟩ := ra
        have hd : ∀ d', some dd = some d' → ∃ fs, H2 d' = some (.xd fs) := fun d' e => by cases e; exact ⟨_, xd hdd⟩
        refine ⟨true, D.exm .r, fun _ a ha => ?_, fun e => by cases e⟩
        refine ⟨_, rfl, A.c .r, .ref (A.c .b), .ref (A.c .b), false, rfl, rfl, D.ex .r, .own _, hd, D.kit .r .b, _, rfl, ifF (A := _) (B := _) rfl ?_⟩
        refine ⟨_, rfl, A.c .r, .ref (A.c .r), .ref (A.c .r), true, rfl, rfl, D.ex .r, .own _, hd, D.kit .r .r, _, rfl, ifT (A := _) (B := _) rfl ?_⟩
        exact ⟨_, rfl, rfl, rfl, dd, _, _, rfl, xd hdd, rfl, (by show 2 ≤ sizeLine; decide), fun p hp => q _ _ (zk.new hp) ⟨p, rfl, SqT.of upd_same⟩⟩
      | many =>
        obtain ⟨rfl, dd, rfl, hdd⟩ := ra
        have hd : ∀ d', some dd = some d' → ∃ fs, H2 d' = some (.xd fs) := fun d' e => by cases e; exact ⟨_, xd hdd⟩
        refine ⟨true, D.exm .m, fun _ a ha => ?_, fun e => by cases e⟩
        refine ⟨_, rfl, A.c .m, .ref (A.c .b), .ref (A.c .b), false, rfl, rfl, D.ex .m, .own _, hd, D.kit .m .b, _, rfl, ifF (A := _) (B := _) rfl ?_⟩
        refine ⟨_, rfl, A.c .m, .ref (A.c .r), .ref (A.c .r), false, rfl, rfl, D.ex .m, .own _, hd, D.kit .m .r, _, rfl, ifF (A := _) (B := _) rfl ?_⟩
        refine ⟨_, rfl, A.c .m, .ref (A.c .m), .ref (A.c .m), true, rfl, rfl, D.ex .m, .own _, hd, D.kit .m .m, _, rfl, ifT (A := _) (B := _) rfl ?_⟩
        exact ⟨_, rfl, rfl, rfl, dd, _, _, rfl, xd hdd, rfl, (by show 2 ≤ sizeLine; decide), fun p hp => q _ _ (zk.new hp) ⟨p, rfl, SqT.of upd_same⟩⟩
      | turn =>
        obtain ⟨rfl, rfl⟩ := ra
        refine ⟨true, D.exm .t, fun _ a ha => ?_, fun e => by cases e⟩
        refine ⟨_, rfl, A.c .t, .ref (A.c .b), .ref (A.c .b), false, rfl, rfl, D.ex .t, .own _, n0, D.kit .t .b, _, rfl, ifF (A := _) (B := _) rfl ?_⟩
        refine ⟨_, rfl, A.c .t, .ref (A.c .r), .ref (A.c .r), false, rfl, rfl, D.ex .t, .own _, n0, D.kit .t .r, _, rfl, ifF (A := _) (B := _) rfl ?_⟩
        refine ⟨_, rfl, A.c .t, .ref (A.c .m), .ref (A.c .m), false, rfl, rfl, D.ex .t, .own _, n0, D.kit .t .m, _, rfl, ifF (A := _) (B := _) rfl ?_⟩
        refine ⟨_, rfl, A.c .t, .ref (A.c .t), .ref (A.c .t), true, rfl, rfl, D.ex .t, .own _, n0, D.kit .t .t, _, rfl, A.c .t, .ref (A.c .w), .ref (A.c .w), false, rfl, rfl, D.ex .t, .own _, n0, D.kit .t .w, _, rfl, A.c .t, .ref (A.c .u), .ref (A.c .u), false, rfl, rfl, D.ex .t, .own _, n0, D.kit .t .u, (by show 3 ≤ sizeLine; decide), fun p hp => ?_⟩
        have hl : upd H2 p (.lst [.bl true, .bl false, .bl false]) p = some (.lst [.bl true, .bl false, .bl false]) := upd_same
        refine ⟨_, rfl, .inl ⟨rfl, _, SqL.of hl⟩, p, _, .bl true, rfl, rfl, SqL.of hl, rfl, rfl, rfl, _, rfl, ifT (A := _) (B := _) (by decide) ?_⟩
        refine ⟨(by show 3 ≤ sizeLine; decide), fun p2 hp2 => ?_⟩
        have z2 := (Kp.refl (upd H2 p (.lst [.bl true, .bl false, .bl false]))).new hp2 (o := .lst [.str "turn", .str "within", .str "unlike"])
        refine ⟨_, rfl, .inl ⟨rfl, _, SqL.of (z2.lst hl)⟩, p, _, .bl true, 0, _, rfl, rfl, SqL.of (z2.lst hl), rfl, rfl, rfl, rfl, ?_, p2, _, _, _, rfl, rfl, SqL.of upd_same, rfl, q _ _ ((zk.new hp).trans z2) rfl⟩
        exact fun m z hm _ => absurd hm (Nat.not_lt_zero m)
      | within =>
        obtain ⟨rfl, rfl⟩ := ra
        refine ⟨true, D.exm .w, fun _ a ha => ?_, fun e => by cases e⟩
        refine ⟨_, rfl, A.c .w, .ref (A.c .b), .ref (A.c .b), false, rfl, rfl, D.ex .w, .own _, n0, D.kit .w .b, _, rfl, ifF (A := _) (B := _) rfl ?_⟩
        refine ⟨_, rfl, A.c .w, .ref (A.c .r), .ref (A.c .r), false, rfl, rfl, D.ex .w, .own _, n0, D.kit .w .r, _, rfl, ifF (A := _) (B := _) rfl ?_⟩
        refine ⟨_, rfl, A.c .w, .ref (A.c .m), .ref (A.c .m), false, rfl, rfl, D.ex .w, .own _, n0, D.kit .w .m, _, rfl, ifF (A := _) (B := _) rfl ?_⟩
        refine ⟨_, rfl, A.c .w, .ref (A.c .t), .ref (A.c .t), false, rfl, rfl, D.ex .w, .own _, n0, D.kit .w .t, _, rfl, A.c .w, .ref (A.c .w), .ref (A.c .w), true, rfl, rfl, D.ex .w, .own _, n0, D.kit .w .w, _, rfl, A.c .w, .ref (A.c .u), .ref (A.c .u), false, rfl, rfl, D.ex .w, .own _, n0, D.kit .w .u, (by show 3 ≤ sizeLine; decide), fun p hp => ?_⟩
        have hl : upd H2 p (.lst [.bl false, .bl true, .bl false]) p = some (.lst [.bl false, .bl true, .bl false]) := upd_same
        refine ⟨_, rfl, .inl ⟨rfl, _, SqL.of hl⟩, p, _, .bl true, rfl, rfl, SqL.of hl, rfl, rfl, rfl, _, rfl, ifT (A := _) (B := _) (by decide) ?_⟩
        refine ⟨(by show 3 ≤ sizeLine; decide), fun p2 hp2 => ?_⟩
        have z2 := (Kp.refl (upd H2 p (.lst [.bl false, .bl true, .bl false]))).new hp2 (o := .lst [.str "turn", .str "within", .str "unlike"])
        refine ⟨_, rfl, .inl ⟨rfl, _, SqL.of (z2.lst hl)⟩, p, _, .bl true, 1, _, rfl, rfl, SqL.of (z2.lst hl), rfl, rfl, rfl, rfl, ?_, p2, _, _, _, rfl, rfl, SqL.of upd_same, rfl, q _ _ ((zk.new hp).trans z2) rfl⟩
        exact fun m z hm hz => by
          have : m = 0 := by omega
          rcases this with rfl <;> cases hz <;> rfl
      | unlike =>
        obtain ⟨rfl, rfl⟩ := ra
        refine ⟨true, D.exm .u, fun _ a ha => ?_, fun e => by cases e⟩
        refine ⟨_, rfl, A.c .u, .ref (A.c .b), .ref (A.c .b), false, rfl, rfl, D.ex .u, .own _, n0, D.kit .u .b, _, rfl, ifF (A := _) (B := _) rfl ?_⟩
        refine ⟨_, rfl, A.c .u, .ref (A.c .r), .ref (A.c .r), false, rfl, rfl, D.ex .u, .own _, n0, D.kit .u .r, _, rfl, ifF (A := _) (B := _) rfl ?_⟩
        refine ⟨_, rfl, A.c .u, .ref (A.c .m), .ref (A.c .m), false, rfl, rfl, D.ex .u, .own _, n0, D.kit .u .m, _, rfl, ifF (A := _) (B := _) rfl ?_⟩
        refine ⟨_, rfl, A.c .u, .ref (A.c .t), .ref (A.c .t), false, rfl, rfl, D.ex .u, .own _, n0, D.kit .u .t, _, rfl, A.c .u, .ref (A.c .w), .ref (A.c .w), false, rfl, rfl, D.ex .u, .own _, n0, D.kit .u .w, _, rfl, A.c .u, .ref (A.c .u), .ref (A.c .u), true, rfl, rfl, D.ex .u, .own _, n0, D.kit .u .u, (by show 3 ≤ sizeLine; decide), fun p hp => ?_⟩
        have hl : upd H2 p (.lst [.bl false, .bl false, .bl true]) p = some (.lst [.bl false, .bl false, .bl true]) := upd_same
        refine ⟨_, rfl, .inl ⟨rfl, _, SqL.of hl⟩, p, _, .bl true, rfl, rfl, SqL.of hl, rfl, rfl, rfl, _, rfl, ifT (A := _) (B := _) (by decide) ?_⟩
        refine ⟨(by show 3 ≤ sizeLine; decide), fun p2 hp2 => ?_⟩
        have z2 := (Kp.refl (upd H2 p (.lst [.bl false, .bl false, .bl true]))).new hp2 (o := .lst [.str "turn", .str "within", .str "unlike"])
        refine ⟨_, rfl, .inl ⟨rfl, _, SqL.of (z2.lst hl)⟩, p, _, .bl true, 2, _, rfl, rfl, SqL.of (z2.lst hl), rfl, rfl, rfl, rfl, ?_, p2, _, _, _, rfl, rfl, SqL.of upd_same, rfl, q _ _ ((zk.new hp).trans z2) rfl⟩
        exact fun m z hm hz => by
          have : m = 0 ∨ m = 1 := by omega
          rcases this with rfl | rfl <;> cases hz <;> rfl
    · exact q _ _ (kp_add C z) (by rw [eo]; rfl)
end
end NS
end
section
set_option maxHeartbeats 4000000
/-! M8: a part and its likes -/
namespace NS
open PySem PySem.Spec PyProof.Rows L2 ZS
section
variable {n : Nat} {ts us : List (List Int)} {W V : List (List Int)} {t : List Int}
theorem like_inj {a b g : List Int} (ha : IsT n a) (hb : IsT n b) (hg : IsT n g) (e : likeS a g = likeS b g) : a = b := by
  have e2 : likeS (likeS a g) (inv g) = likeS (likeS b g) (inv g) := by rw [e]
  rwa [like_like ha hg hg.inv, like_like hb hg hg.inv, comp_inv hg, like_idt ha, like_idt hb] at e2
end
end NS
end
section
set_option maxHeartbeats 4000000
/-! M9: houses of up to five halls -/
namespace NS
open PySem PySem.Spec PyProof.Rows L2 ZS
/-- a turn done so often -/
def pw (t : List Int) : Nat → List Int
  | 0 => idt t.length
  | k + 1 => comp (pw t k) t
section
variable {n : Nat} {ts : List (List Int)} {W : List (List Int)} {t : List Int} {LLp : List (List (List Int))}
end
end NS
end
section
set_option maxHeartbeats 4000000
/-! M10: cores -/
namespace NS
open PySem PySem.Spec PyProof.Rows L2 ZS
section
variable {n : Nat} {ts : List (List Int)} {W : List (List Int)} {t : List Int} {LLp : List (List (List Int))}
/-! ### known houses -/
theorem clo_sub {P : List Int → Prop} (hc : ∀ a, P a → ∀ t ∈ ts, P (comp a t)) : ∀ (k : Nat) (seen todo : List (List Int)), (∀ a ∈ seen, P a) → (∀ a ∈ todo, P a) → ∀ a ∈ clo ts k seen todo, P a
  | 0, seen, todo, h1, _ => by
    have e : clo ts 0 seen todo = seen := by cases todo <;> rfl
    rw [e]
    exact h1
  | k + 1, seen, [], h1, _ => by
    have e : clo ts (k + 1) seen [] = seen := rfl
    rw [e]
    exact h1
  | k + 1, seen, a :: todo, h1, h2 => by
    have new : ∀ b ∈ ((ts.map fun t => comp a t).filter fun b => !(seen.contains b)).eraseDups, P b := fun b hb => by
      have := List.mem_eraseDups.mp hb
      obtain ⟨t, ht, rfl⟩ := List.mem_map.mp (List.mem_filter.mp this).1
      exact hc a (h2 a (List.mem_cons_self ..)) t ht
    have e : clo ts (k + 1) seen (a :: todo) = clo ts k (seen ++ ((ts.map fun t => comp a t).filter fun b => !(seen.contains b)).eraseDups) (todo ++ ((ts.map fun t => comp a t).filter fun b => !(seen.contains b)).eraseDups) := rfl
    rw [e]
    refine clo_sub hc k _ _ (fun x hx => ?_) (fun x hx => ?_)
    · rcases List.mem_append.mp hx with q | q
      · exact h1 x q
      · exact new x q
    · rcases List.mem_append.mp hx with q | q
      · exact h2 x (List.mem_cons_of_mem _ q)
      · exact new x q
theorem conj_like {m : List Int} : conj m t = likeS t m := rfl
/-- the group of the halls called otherwise -/
theorem grp_conj {m : List Int} (hm : IsT n m) (hT : ∀ t ∈ ts, IsT n t) {x : List Int} : Grp n (ts.map (conj m)) x ↔ ∃ y, Grp n ts y ∧ x = conj m y := by
  constructor
  · intro h
    induction h with
    | base => exact ⟨idt n, .base, (conj_idt hm).symm⟩
    | next _ ht ih =>
      obtain ⟨y, hy, rfl⟩ := ih
      obtain ⟨u, hu, rfl⟩ := List.mem_map.mp ht
      exact ⟨comp y u, .next hy hu, (conj_comp hm (grp_isT hT hy) (hT u hu)).symm⟩
  · rintro ⟨y, hy, rfl⟩
    have key : ∀ k, Rch comp ts (idt n) k → Grp n (ts.map (conj m)) (conj m k) ∧ IsT n k := fun k hk => by
      induction hk with
      | base => exact ⟨by rw [conj_idt hm]; exact .base, idt_isT n⟩
      | next _ ht ih => exact ⟨by rw [conj_comp hm ih.2 (hT _ ht)]; exact .next ih.1 (List.mem_map.mpr ⟨_, ht, rfl⟩), ih.2.comp (hT _ ht)⟩
    exact (key y hy).1
/-- as many halls left in place -/
theorem kept_conj {m : List Int} (hm : IsT n m) (ht : IsT n t) : (keptL (conj m t)).length = (keptL t).length := by
  have key : ∀ {m t : List Int}, IsT n m → IsT n t → (keptL t).length ≤ (keptL (conj m t)).length := fun {m t} hm ht => by
    have nd : ((keptL t).map fun x => hallS x m).Nodup := nodup_map (kept_nd t) fun a ha b hb e => by
      have get : ∀ x, x ∈ keptL t → x ∈ idt n := fun x hx => by
        obtain ⟨i, hi, rfl⟩ := List.mem_map.mp (show x ∈ ((List.range t.length).filter fun i => decide (t.getD i 0 = (i : Int))).map fun (i : Nat) => (i : Int) from hx)
        have := List.mem_range.mp (List.mem_filter.mp hi).1
        rw [ht.len] at this
        exact mem_idt.mpr (by omega)
      exact hallS_inj hm (get a ha) (get b hb) e
    have := nd_le nd (b := keptL (conj m t)) fun x hx => by
      obtain ⟨y, hy, rfl⟩ := List.mem_map.mp hx
      obtain ⟨i, _, rfl⟩ := List.mem_map.mp (show y ∈ ((List.range t.length).filter fun i => decide (t.getD i 0 = (i : Int))).map fun (i : Nat) => (i : Int) from hy)
      obtain ⟨h1, h2⟩ := (mem_kept ht).mp hy
      show m.getD (i : Int).toNat 0 ∈ _
      rw [Int.toNat_natCast, (hm.getD h1).1]
      exact (mem_kept (hm.conj ht)).mpr ⟨hm.lt h1, by rw [at_conj hm ht h1, h2]⟩
    rwa [List.length_map] at this
  refine Nat.le_antisymm ?_ (key hm ht)
  have h := key hm.inv (hm.conj ht)
  have e : conj (inv m) (conj m t) = t := by
    rw [conj_like, conj_like, like_like ht hm hm.inv, comp_inv hm, like_idt ht]
  rwa [e] at h
end
end NS
end
section
set_option maxHeartbeats 4000000
/-! M11: how often a turn must be done till all are in place; its rings -/
namespace NS
open PySem PySem.Spec PyProof.Rows L2 ZS
section
variable {n : Nat} {t : List Int} {ls : List Int}
end
end NS
end
section
set_option maxHeartbeats 4000000
/-! M12: likes: as many divide the group, rings alike; halls called otherwise -/
namespace NS
open PySem PySem.Spec PyProof.Rows L2 ZS
section
variable {n : Nat} {ts : List (List Int)} {W : List (List Int)} {t g : List Int} {ls ls' : List Int}
end
end NS
end
section
set_option maxHeartbeats 4000000
/-! M13: known houses lead each hall to each -/
namespace NS
open PySem PySem.Spec PyProof.Rows L2 ZS
end NS
end
section
set_option maxHeartbeats 4000000
/-! M14: the lots of pairs are there -/
namespace NS
open PySem PySem.Spec PyProof.Rows L2 ZS
theorem rch_list {n : Nat} {ts : List (List Int)} (hT : ∀ t ∈ ts, IsT n t) {p : List Int} (hp : p ∈ G2 n) : ∃ rest : List (List Int), (p :: rest).Nodup ∧ ∀ x, x ∈ p :: rest ↔ Rch comp ts p x := by
  classical
  obtain ⟨L, nd, mem⟩ := nd_of ((G2 n).filter fun x => decide (Rch comp ts p x))
  have mem' : ∀ x, x ∈ L ↔ Rch comp ts p x := fun x => by
    rw [mem, List.mem_filter, decide_eq_true_iff]
    exact ⟨fun h => h.2, fun h => ⟨h.inU hp (g2_cl hT), h⟩⟩
  have hL : p ∈ L := (mem' p).mpr .base
  have pm := List.perm_cons_erase hL
  exact ⟨L.erase p, pm.nodup_iff.mp nd, fun x => pm.mem_iff.symm.trans (mem' x)⟩
theorem pl_ex {n : Nat} {ts : List (List Int)} (hT : ∀ t ∈ ts, IsT n t) : ∃ LL, PLots n ts LL ∧ ∀ p ∈ G2 n, ∃ lot ∈ LL, p ∈ lot := by
  classical
  have key : ∀ l : List (List Int), (∀ p ∈ l, p ∈ G2 n) → ∃ LL, PLots n ts LL ∧ ∀ p ∈ l, ∃ lot ∈ LL, p ∈ lot := fun l => by
    induction l with
    | nil => exact fun _ => ⟨[], ⟨fun _ h => (by cases h), .nil⟩, fun _ h => (by cases h)⟩
    | cons p l ih =>
      intro h
      obtain ⟨LL, pl, cm⟩ := ih fun q hq => h q (List.mem_cons_of_mem _ hq)
      by_cases hp : ∃ lot ∈ LL, p ∈ lot
      · exact ⟨LL, pl, fun q hq => by
          rcases List.mem_cons.mp hq with e | e
          · rw [e]; exact hp
          · exact cm q e⟩
      · have pg := h p (List.mem_cons_self ..)
        obtain ⟨rest, nd, mem⟩ := rch_list hT pg
        refine ⟨(p :: rest) :: LL, ⟨fun lot hl => ?_, List.pairwise_cons.mpr ⟨fun lot hl x hx hx2 => ?_, pl.dj⟩⟩, fun q hq => ?_⟩
        · rcases List.mem_cons.mp hl with e | e
          · exact ⟨p, rest, e, pg, by rw [e]; exact nd, by rw [e]; exact mem⟩
          · exact pl.hd lot e
        · obtain ⟨q, rest2, e, hq, _, mem2⟩ := pl.hd lot hl
          have h1 := (mem x).mp hx
          have h2 := (mem2 x).mp hx2
          exact hp ⟨lot, hl, (mem2 p).mpr (h2.trans (g2_sym hT pg h1))⟩
        · rcases List.mem_cons.mp hq with e | e
          · exact ⟨p :: rest, List.mem_cons_self .., by rw [e]; exact List.mem_cons_self ..⟩
          · obtain ⟨lot, hl, hx⟩ := cm q e
            exact ⟨lot, List.mem_cons_of_mem _ hl, hx⟩
  exact key _ fun p hp => hp
theorem grpd_ex {n : Nat} {ts W : List (List Int)} (n2 : 2 ≤ n) (hT : ∀ t ∈ ts, IsT n t) (nd : W.Nodup) (mem : ∀ x, x ∈ W ↔ Grp n ts x) (one : ∀ i : Nat, i < n → Orb ts 0 (i : Int)) : ∃ LLp, Grpd n ts W LLp := by
  obtain ⟨LL, pl, cm⟩ := pl_ex hT
  exact ⟨LL, n2, hT, nd, mem, one, pl, cm⟩
theorem whl_of {n : Nat} {ts : List (List Int)} (n2 : 2 ≤ n) (hT : ∀ t ∈ ts, IsT n t) (one : ∀ i : Nat, i < n → Orb ts 0 (i : Int)) : 2 ≤ n ∧ ∀ LL, Asc ltT (Lots n ts) LL → LL.length = 1 :=
  ⟨n2, fun LL as => (one_lot hT (by omega) as.nd as.mem).mpr one⟩
end NS
end
section
set_option maxHeartbeats 4000000
/-! M16: rings whose lengths are powers of one prime -/
namespace NS
open PySem PySem.Spec PyProof.Rows L2 ZS
section
variable {n : Nat} {ts W : List (List Int)} {t ls : List Int} {LLp : List (List (List Int))}
end
end NS
end
section
set_option maxHeartbeats 4000000
/-! N4: plain roamers -/
namespace NS
open PySem PySem.Spec PyProof.Rows L2 ZS
theorem scPlain : FnScope ["house", "turn"] ["house"] (defScope sPlain) := ⟨rfl, rfl, rfl, by decide +kernel, rfl, by decide +kernel, by decide +kernel⟩
section
variable {P : Program} {w : World} {K : PySem.W.Frag} {mg : Str → Option Value} {base : Heap} {f : Addr} {fd : FuncData} {pT pA : Addr}
end
end NS
end
section
set_option maxHeartbeats 4000000
/-! TSetD1: tables from which rows were taken (dummies) -/
namespace ZS
open PySem PySem.Spec PyProof.Rows L2 TS
theorem has_iff {xs : Array Nat} (r : Ris xs.toList) (j : Nat) : SetTable.has xs j = true ↔ j ∈ xs.toList := by
  obtain ⟨c1, c2, c3⟩ := below_cut r j
  unfold SetTable.has
  rw [beq_iff_eq]
  constructor
  · intro e
    exact List.mem_of_getElem? (by rw [Array.getElem?_toList]; exact e)
  · intro h
    obtain ⟨i, hi, e⟩ := List.getElem_of_mem h
    have e2 : xs.toList[i]? = some j := by rw [List.getElem?_eq_getElem hi, e]
    have : SetTable.below xs j = i := by
      generalize SetTable.below xs j = p at c1 c2 c3 ⊢
      rcases Nat.lt_trichotomy i p with k | k | k
      · exact absurd (c2 i j e2 k) (Nat.lt_irrefl _)
      · exact k.symm
      · have hl : p < xs.toList.length := Nat.lt_trans k hi
        obtain ⟨y, hy⟩ : ∃ y, xs.toList[p]? = some y := ⟨_, List.getElem?_eq_getElem hl⟩
        have h1 := c3 p y hy (Nat.le_refl _)
        have h2 := ris_lt r hy e2 k
        omega
    rw [this, ← Array.getElem?_toList]
    exact e2
theorem slot_dummy {t : SetTable} (rd : Ris t.dummies.toList) {j : Nat} (h : j ∉ t.place.toList) (hd : j ∈ t.dummies.toList) : t.slot j = .dummy := by
  unfold SetTable.slot
  have e : (t.place[SetTable.below t.place j]? == some j) = false := by
    rcases Classical.em (t.place[SetTable.below t.place j]? = some j) with c | c
    · exact absurd (List.mem_of_getElem? (by rw [Array.getElem?_toList]; exact c)) h
    · exact beq_eq_false_iff_ne.mpr c
  simp only [e]
  rw [(has_iff rd j).mpr hd]
  rfl
theorem slot_gap {t : SetTable} (rd : Ris t.dummies.toList) {j : Nat} (h : j ∉ t.place.toList) (hd : j ∉ t.dummies.toList) : t.slot j = .empty := by
  unfold SetTable.slot
  have e : (t.place[SetTable.below t.place j]? == some j) = false := by
    rcases Classical.em (t.place[SetTable.below t.place j]? = some j) with c | c
    · exact absurd (List.mem_of_getElem? (by rw [Array.getElem?_toList]; exact c)) h
    · exact beq_eq_false_iff_ne.mpr c
  have e2 : SetTable.has t.dummies j = false := by
    cases q : SetTable.has t.dummies j with
    | false => rfl
    | true => exact absurd ((has_iff rd j).mp q) hd
  simp only [e, e2]
  rfl
def wd (p : SetTable.Probe) (d : Option Nat) : SetTable.Probe := { p with dummy := d }
theorem adv_wd (m : Nat) (p : SetTable.Probe) (d : Option Nat) : adv m (wd p d) = wd (adv m p) d := by
  unfold adv wd
  dsimp only
  split <;> rfl
theorem nth_wd (m : Nat) : ∀ (k : Nat) (p : SetTable.Probe) (d : Option Nat), nth m (wd p d) k = wd (nth m p k) d
  | 0, _, _ => rfl
  | k + 1, p, d => by
    show nth m (adv m (wd p d)) k = wd (nth m (adv m p) k) d
    rw [adv_wd, nth_wd m k]
/-- what a probe answers, over full slots and dummies -/
def Told (t : SetTable) (hashAt : Nat → Int) (h : Int) (K : Nat) (p : SetTable.Probe) (out : Option SetTable.Met) : Prop :=
  (∃ k i d, k < K ∧ t.place.toList[i]? = some (nth t.mask p k).j ∧ hashAt i = h ∧ (∀ k' i', k' < k → t.place.toList[i']? = some (nth t.mask p k').j → hashAt i' ≠ h) ∧
      out = some (.candidate (nth t.mask p k).j i (wd (nth t.mask p (k + 1)) d))) ∨
    ((∀ k' i', k' < K → t.place.toList[i']? = some (nth t.mask p k').j → hashAt i' ≠ h) ∧ ∃ d, out = some (.empty (nth t.mask p K).j d))
theorem go_specD (t : SetTable) (r : Ris t.place.toList) (rd : Ris t.dummies.toList) (hashAt : Nat → Int) (h : Int) : ∀ (f K : Nat) (p : SetTable.Probe), K < f →
    (∀ k, k < K → (nth t.mask p k).j ∈ t.place.toList ∨ (nth t.mask p k).j ∈ t.dummies.toList) → (nth t.mask p K).j ∉ t.place.toList → (nth t.mask p K).j ∉ t.dummies.toList →
    Told t hashAt h K p (SetTable.probe.go t hashAt h f p)
  | 0, K, p, hK, _, _, _ => absurd hK (Nat.not_lt_zero _)
  | f + 1, 0, p, _, _, he, hd => by
    refine Or.inr ⟨fun k' i' hk => absurd hk (Nat.not_lt_zero _), p.dummy, ?_⟩
    have hs : t.slot p.j = .empty := slot_gap rd he hd
    unfold SetTable.probe.go
    rw [hs]
    rfl
  | f + 1, K + 1, p, hK, hin, he, hd => by
    have goOn : ∀ d0, SetTable.probe.go t hashAt h (f + 1) p = SetTable.probe.go t hashAt h f (adv t.mask (wd p d0)) → (∀ i', t.place.toList[i']? = some p.j → hashAt i' ≠ h) → Told t hashAt h (K + 1) p (SetTable.probe.go t hashAt h (f + 1) p) := fun d0 e one => by
      have nj : ∀ k, (nth t.mask (adv t.mask (wd p d0)) k).j = (nth t.mask p (k + 1)).j := fun k => by
        rw [adv_wd, nth_wd]
        rfl
      rcases go_specD t r rd hashAt h f K (adv t.mask (wd p d0)) (by omega) (fun k hk => by rw [nj]; exact hin (k + 1) (Nat.succ_lt_succ hk)) (by rw [nj]; exact he) (by rw [nj]; exact hd) with ⟨k, i2, d2, a1, a2, a3, a4, a5⟩ | ⟨a1, d2, a2⟩
      · refine Or.inl ⟨k + 1, i2, d2, Nat.succ_lt_succ a1, by rw [← nj]; exact a2, a3, fun k' i' hk hi' => ?_, by
          rw [e, a5, nj, adv_wd, nth_wd]
          rfl⟩
        cases k' with
        | zero => exact one i' hi'
        | succ k' => exact a4 k' i' (Nat.lt_of_succ_lt_succ hk) (by rw [nj]; exact hi')
      · refine Or.inr ⟨fun k' i' hk hi' => ?_, d2, by rw [e, a2, nj]⟩
        cases k' with
        | zero => exact one i' hi'
        | succ k' => exact a1 k' i' (Nat.lt_of_succ_lt_succ hk) (by rw [nj]; exact hi')
    rcases Classical.em (p.j ∈ t.place.toList) with c | c
    · obtain ⟨i, hi', e⟩ := List.getElem_of_mem c
      have hi : t.place.toList[i]? = some p.j := by rw [List.getElem?_eq_getElem hi', e]
      have hs := slot_live r hi
      by_cases hh : hashAt i = h
      · refine Or.inl ⟨0, i, p.dummy, Nat.succ_pos _, hi, hh, fun k' i' hk => absurd hk (Nat.not_lt_zero _), ?_⟩
        unfold SetTable.probe.go
        rw [hs]
        show (if (hashAt i == h) = true then some (SetTable.Met.candidate p.j i (t.advance p)) else SetTable.probe.go t hashAt h f (t.advance p)) = _
        rw [if_pos (beq_iff_eq.mpr hh)]
        have : wd (nth t.mask p 1) p.dummy = adv t.mask p := by
          show wd (adv t.mask p) p.dummy = adv t.mask p
          rw [← adv_wd]
          rfl
        rw [this]
        rfl
      · refine goOn p.dummy ?_ fun i' hi2 => ?_
        · conv => lhs; unfold SetTable.probe.go
          rw [hs]
          show (if (hashAt i == h) = true then some (SetTable.Met.candidate p.j i (t.advance p)) else SetTable.probe.go t hashAt h f (t.advance p)) = _
          rw [if_neg (by rw [beq_iff_eq]; exact hh)]
          rfl
        · have e1 := slot_live r hi2
          rw [hs] at e1
          injection e1 with e1
          rw [← e1]
          exact hh
    · have hd0 : p.j ∈ t.dummies.toList := (hin 0 (Nat.succ_pos _)).resolve_left c
      have hs := slot_dummy rd c hd0
      refine goOn (some p.j) ?_ fun i' hi2 => absurd (List.mem_of_getElem? hi2) c
      conv => lhs; unfold SetTable.probe.go
      rw [hs]
      rfl
/-- a table, maybe with dummies, in which each hash's own way leads to its slot over full slots and dummies -/
structure TabD (t : SetTable) (hs : List Int) : Prop where
  up : Ris t.place.toList
  dup : Ris t.dummies.toList
  dj : ∀ j ∈ t.dummies.toList, j ∉ t.place.toList
  len : t.place.size = hs.length
  msk : Msk t.mask
  fill : t.place.size + t.dummies.size ≤ t.mask
  found : ∀ (i : Nat) (h : Int) (j : Nat), hs[i]? = some h → t.place.toList[i]? = some j → ∃ k, way t.mask h k = j ∧ ∀ n, n < k → way t.mask h n ∈ t.place.toList ∨ way t.mask h n ∈ t.dummies.toList
theorem Tab.toD {t : SetTable} {hs : List Int} (T : Tab t hs) (room : hs.length ≤ t.mask) : TabD t hs :=
  ⟨T.up, (by rw [T.nod]; exact List.Pairwise.nil), fun j h => (by rw [T.nod] at h; cases h), T.len, T.msk, (by rw [T.nod, T.len]; exact room), fun i h j h1 h2 => let ⟨k, e, f⟩ := T.found i h j h1 h2; ⟨k, e, fun n hn => .inl (f n hn)⟩⟩
section
variable {t : SetTable} {hs : List Int}
theorem TabD.gap (T : TabD t hs) (h : Int) : ∃ N, N ≤ 10 * (t.place.size + t.dummies.size + 12) ∧ way t.mask h N ∉ t.place.toList ∧ way t.mask h N ∉ t.dummies.toList ∧ ∀ n, n < N → way t.mask h n ∈ t.place.toList ∨ way t.mask h n ∈ t.dummies.toList := by
  have full : (t.place.toList ++ t.dummies.toList).length = t.place.size + t.dummies.size := by rw [List.length_append, Array.length_toList, Array.length_toList]
  obtain ⟨k, hk, free⟩ := way_out T.msk h (t.place.toList ++ t.dummies.toList) (by rw [full]; exact T.fill)
  obtain ⟨N, a, b, c⟩ := st_least (p := fun n => way t.mask h n ∉ t.place.toList ++ t.dummies.toList) k free
  rw [full] at hk
  exact ⟨N, by omega, fun z => b (List.mem_append_left _ z), fun z => b (List.mem_append_right _ z), fun n hn => List.mem_append.mp (Classical.byContradiction fun z => c n hn z)⟩
theorem TabD.ahead (T : TabD t hs) {h : Int} {N i j : Nat} (hN : way t.mask h N ∉ t.place.toList) (hD : way t.mask h N ∉ t.dummies.toList) (hi : hs[i]? = some h) (hj : t.place.toList[i]? = some j) : ∃ n, n < N ∧ way t.mask h n = j := by
  obtain ⟨k, ek, full⟩ := T.found i h j hi hj
  refine ⟨k, Nat.lt_of_not_le fun z => ?_, ek⟩
  rcases Nat.lt_or_eq_of_le z with z | z
  · exact (full N z).elim hN hD
  · rw [z, ek] at hN
    exact hN (List.mem_of_getElem? hj)
theorem toList_eraseAt {α : Type} (xs : Array α) (p : Nat) : (SetTable.eraseAt xs p).toList = xs.toList.take p ++ xs.toList.drop (p + 1) := by
  unfold SetTable.eraseAt
  rw [Array.toList_append]
  simp
  exact List.take_of_length_le (by simp)
theorem erase_list {α : Type} (l : List α) (p : Nat) : l.take p ++ l.drop (p + 1) = l.eraseIdx p := List.eraseIdx_eq_take_drop_succ l p |>.symm
/-- a row taken out -/
theorem TabD.drop (T : TabD t hs) {i j : Nat} (hj : t.place.toList[i]? = some j) : TabD (t.drop i) (hs.eraseIdx i) ∧ (t.drop i).mask = t.mask ∧ (t.drop i).led = t.led ∧ (t.drop i).plain = t.plain ∧ (t.drop i).place.size + (t.drop i).dummies.size = t.place.size + t.dummies.size := by
  have hj2 : t.place[i]? = some j := by rw [← Array.getElem?_toList]; exact hj
  have il : i < t.place.toList.length := (List.getElem?_eq_some_iff.mp hj).1
  have e : t.drop i = { t with place := SetTable.eraseAt t.place i, dummies := SetTable.insertAt t.dummies (SetTable.below t.dummies j) j } := by
    unfold SetTable.drop
    rw [hj2]
  have jin : j ∈ t.place.toList := List.mem_of_getElem? hj
  have hnd : j ∉ t.dummies.toList := fun h => T.dj j h jin
  have ep : (SetTable.eraseAt t.place i).toList = t.place.toList.eraseIdx i := by rw [toList_eraseAt, erase_list]
  have ed := SetTable.toList_insertAt t.dummies (SetTable.below t.dummies j) j
  have hle : SetTable.below t.dummies j ≤ t.dummies.toList.length := by
    obtain ⟨c1, _, _⟩ := below_cut T.dup j
    rw [Array.length_toList]
    exact c1
  have pd := put_perm t.dummies.toList (SetTable.below t.dummies j) j
  rw [← ed] at pd
  have md : ∀ x, x ∈ (SetTable.insertAt t.dummies (SetTable.below t.dummies j) j).toList ↔ x = j ∨ x ∈ t.dummies.toList := fun x => by rw [pd.mem_iff, List.mem_cons]
  have ndp : t.place.toList.Nodup := T.up.imp fun h e => by omega
  have mp : ∀ x, x ∈ t.place.toList.eraseIdx i ↔ x ∈ t.place.toList ∧ x ≠ j := fun x => by
    rw [List.mem_eraseIdx_iff_getElem?]
    constructor
    · rintro ⟨k, hk, e2⟩
      refine ⟨List.mem_of_getElem? e2, fun q => hk ?_⟩
      rw [q] at e2
      rcases Nat.lt_trichotomy k i with c | c | c
      · exact absurd (ris_lt T.up e2 hj c) (Nat.lt_irrefl _)
      · exact c
      · exact absurd (ris_lt T.up hj e2 c) (Nat.lt_irrefl _)
    · rintro ⟨hx, hne⟩
      obtain ⟨k, hk, e2⟩ := List.getElem_of_mem hx
      have e3 : t.place.toList[k]? = some x := by rw [List.getElem?_eq_getElem hk, e2]
      refine ⟨k, fun q => hne ?_, e3⟩
      rw [q, hj] at e3
      exact (Option.some.inj e3).symm
  have un : ∀ x, (x ∈ t.place.toList ∨ x ∈ t.dummies.toList) → x ∈ t.place.toList.eraseIdx i ∨ x ∈ (SetTable.insertAt t.dummies (SetTable.below t.dummies j) j).toList := fun x hx => by
    by_cases q : x = j
    · exact .inr ((md x).mpr (.inl q))
    · rcases hx with h | h
      · exact .inl ((mp x).mpr ⟨h, q⟩)
      · exact .inr ((md x).mpr (.inr h))
  have sz1 : (SetTable.eraseAt t.place i).size = t.place.size - 1 := by
    rw [← Array.length_toList, ep, List.length_eraseIdx_of_lt il, Array.length_toList]
  have sz2 : (SetTable.insertAt t.dummies (SetTable.below t.dummies j) j).size = t.dummies.size + 1 := by
    rw [← Array.length_toList, pd.length_eq, List.length_cons, Array.length_toList]
  have sp : 0 < t.place.size := by rw [Array.length_toList] at il; omega
  have tot : (SetTable.eraseAt t.place i).size + (SetTable.insertAt t.dummies (SetTable.below t.dummies j) j).size = t.place.size + t.dummies.size := by omega
  rw [e]
  refine ⟨⟨?_, ris_insert T.dup fun h => hnd (List.mem_of_getElem? (by rw [Array.getElem?_toList]; exact h)), fun x hx => ?_, ?_, T.msk, ?_, fun i' h j' h1 h2 => ?_⟩, rfl, rfl, rfl, tot⟩
  · show Ris (SetTable.eraseAt t.place i).toList
    rw [ep]
    exact T.up.sublist (List.eraseIdx_sublist ..)
  · show x ∉ (SetTable.eraseAt t.place i).toList
    rw [ep, mp]
    rintro ⟨a, b⟩
    rcases (md x).mp hx with q | q
    · exact b q
    · exact T.dj x q a
  · show (SetTable.eraseAt t.place i).size = _
    have := T.len
    rw [sz1, List.length_eraseIdx_of_lt (by rw [← T.len]; rw [Array.length_toList] at il; exact il), T.len]
  · show (SetTable.eraseAt t.place i).size + (SetTable.insertAt t.dummies (SetTable.below t.dummies j) j).size ≤ t.mask
    rw [tot]
    exact T.fill
  · have h2 : (SetTable.eraseAt t.place i).toList[i']? = some j' := h2
    rw [ep, List.getElem?_eraseIdx] at h2
    rw [List.getElem?_eraseIdx] at h1
    have : ∃ i0 : Nat, hs[i0]? = some h ∧ t.place.toList[i0]? = some j' := by
      by_cases q : i' < i
      · rw [if_pos q] at h1 h2
        exact ⟨i', h1, h2⟩
      · rw [if_neg q] at h1 h2
        exact ⟨i' + 1, h1, h2⟩
    obtain ⟨i0, g1, g2⟩ := this
    obtain ⟨k, ek, f⟩ := T.found i0 h j' g1 g2
    refine ⟨k, ek, fun n hn => ?_⟩
    show _ ∈ (SetTable.eraseAt t.place i).toList ∨ _
    rw [ep]
    exact un _ (f n hn)
end
end ZS
end
section
set_option maxHeartbeats 4000000
/-! TSetD2: finding and discarding in a set from which rows were taken -/
namespace ZS
open PySem PySem.Spec PyProof.Rows L2 TS
structure SetD {P : Program} {w : World} {K : Type} [DecidableEq K] (Z : ZK P w K) (h : Heap) (a : Addr) (L : List (Addr × K)) (es : Array (Int × Value)) (ep : Nat) (t : SetTable) : Prop where
  obj : ∃ o, h.get? a = some o ∧ o.ExactSet ∧ o.data = .set es ep t
  row : es.toList = zrows Z L
  tab : TabD t (L.map fun p => Z.hash p.2)
  dif : (L.map (·.2)).Nodup
  tup : ∀ p ∈ L, Z.is h p.2 p.1
  pln : t.plain = true
  led : w.params.followText "set-order" = true ∨ t.led = true
  sum : t.place.size + t.dummies.size < zBound
section
variable {P : Program} {w : World} {K : Type} [DecidableEq K] {Z : ZK P w K} {A : Around} {E : Value → Shared → Prop} {s : Shared} {a : Addr} {L : List (Addr × K)} {es : Array (Int × Value)} {ep : Nat} {t : SetTable}
theorem SetZ.toD (R : SetZ Z s.heap a L es ep t) : SetD Z s.heap a L es ep t := ⟨R.obj, R.row, R.tab.toD (by have := R.room; rw [List.length_map]; omega), R.dif, R.tup, R.pln, R.led, (by have z := R.tab.len; have f := R.few; rw [List.length_map] at z; rw [R.tab.nod]; show t.place.size + 0 < _; omega)⟩
theorem SetD.size (R : SetD Z s.heap a L es ep t) : es.size = L.length := zrows_len R.row
theorem SetD.few (R : SetD Z s.heap a L es ep t) : L.length < zBound := by
  have z := R.tab.len
  have f := R.sum
  rw [List.length_map] at z
  omega
theorem SetD.fits (R : SetD Z s.heap a L es ep t) : t.fits es.size = true := by
  have h1 := R.tab.len
  have h2 := R.tab.fill
  rw [List.length_map] at h1
  unfold SetTable.fits SetTable.fill
  rw [R.size, ← h1]
  simp [h2]
theorem SetD.entry (R : SetD Z s.heap a L es ep t) {i : Nat} {p : Addr × K} (h : L[i]? = some p) : es[i]? = some (Z.hash p.2, Value.ref p.1) := by
  rw [← Array.getElem?_toList, R.row]
  show (L.map _)[i]? = _
  rw [List.getElem?_map, h]
  rfl
theorem SetD.steady (R : SetD Z s.heap a L es ep t) : ¬ t.gaveWay = true := by
  unfold SetTable.gaveWay
  rw [R.tab.msk.odd]
  decide
theorem huntD (R : SetD Z s.heap a L es ep t) {x : Addr} {k : K} (hx : Z.is s.heap k x) (hu : Z.room A) {N : Nat} (hN : N < 10 * SetTable.turns t.mask)
    (gap : way t.mask (Z.hash k) N ∉ t.place.toList) (gapd : way t.mask (Z.hash k) N ∉ t.dummies.toList) (full : ∀ n, n < N → way t.mask (Z.hash k) n ∈ t.place.toList ∨ way t.mask (Z.hash k) n ∈ t.dummies.toList) {Q : SetFound → Shared → Prop}
    (yes : ∀ i p, L[i]? = some p → p.2 = k → Q (.there (some i)) s) (no : k ∉ L.map (·.2) → ∀ j b, Q (.free j b) s) :
    ∀ (f c : Nat) (stand : Option SetTable.Probe) (d0 : Option Nat), stand.getD (t.probeStart (Z.hash k)) = wd (nth t.mask (runAt t.mask (SetTable.bits (Z.hash k) % (t.mask + 1)) (SetTable.bits (Z.hash k))) c) d0 → c ≤ N → N - c < f →
      (∀ (i : Nat) p, L[i]? = some p → p.2 = k → ∃ d, c ≤ d ∧ d < N ∧ t.place.toList[i]? = some (way t.mask (Z.hash k) d)) →
      wpAny (model P w) A (setSearchFrom a (.ref x) (Z.hash k) false f stand) Q E s
  | 0, c, stand, d0, _, _, hf, _ => absurd hf (Nat.not_lt_zero _)
  | f + 1, c, stand, d0, hst, hc, hf, left => by
    obtain ⟨o, ho, hex, hd⟩ := R.obj
    generalize hp0 : runAt t.mask (SetTable.bits (Z.hash k) % (t.mask + 1)) (SetTable.bits (Z.hash k)) = p0 at hst
    have wayE : ∀ n, way t.mask (Z.hash k) n = (nth t.mask p0 n).j := fun n => by rw [← hp0]
    have later : ∀ q, nth t.mask (wd (nth t.mask p0 c) d0) q = wd (nth t.mask p0 (c + q)) d0 := fun q => by rw [nth_wd, (nth_add t.mask c p0 q).symm]
    have wayL : ∀ q, (nth t.mask (wd (nth t.mask p0 c) d0) q).j = way t.mask (Z.hash k) (c + q) := fun q => by rw [later, wayE]; rfl
    have eN : c + (N - c) = N := by omega
    have spec := go_specD t R.tab.up R.tab.dup (fun i => (es[i]?.map (fun e : Int × Value => e.1)).getD 0) (Z.hash k) (10 * SetTable.turns t.mask) (N - c) (wd (nth t.mask p0 c) d0) (by omega) (fun q hq => by rw [wayL]; exact full _ (by omega)) (by rw [wayL, eN]; exact gap) (by rw [wayL, eN]; exact gapd)
    have hashAt : ∀ (i : Nat) p, L[i]? = some p → (es[i]?.map (fun e : Int × Value => e.1)).getD 0 = Z.hash p.2 := fun i p hp => by rw [R.entry hp]; rfl
    have skip : ∀ {q : Nat} (hno : ∀ k' i', k' < q → t.place.toList[i']? = some (nth t.mask (wd (nth t.mask p0 c) d0) k').j → (fun i => (es[i]?.map (fun e : Int × Value => e.1)).getD 0) i' ≠ Z.hash k) {i : Nat} {p : Addr × K} {d : Nat},
        L[i]? = some p → p.2 = k → c ≤ d → t.place.toList[i]? = some (way t.mask (Z.hash k) d) → c + q ≤ d := fun {q} hno {i p d} hi hk hcd hpl => by
      rcases Nat.lt_or_ge d (c + q) with z | z
      · refine absurd ?_ (hno (d - c) i (by omega) (by rw [wayL, show c + (d - c) = d by omega]; exact hpl))
        show (es[i]?.map (fun e : Int × Value => e.1)).getD 0 = _
        rw [hashAt i p hi, hk]
      · exact z
    rw [setSearchFrom_succ]
    refine wpAny_bind (wpAny_setState_of ho hd R.fits ?_)
    dsimp only
    refine wp_if_neg R.steady ?_
    try refine wpAny_bind (wpAny_pure ?_)
    have probeE : t.probe (fun i => (es[i]?.map (fun e : Int × Value => e.1)).getD 0) (Z.hash k) (stand.getD (t.probeStart (Z.hash k))) = SetTable.probe.go t (fun i => (es[i]?.map (fun e : Int × Value => e.1)).getD 0) (Z.hash k) (10 * SetTable.turns t.mask) (wd (nth t.mask p0 c) d0) := by rw [hst]; rfl
    rw [probeE]
    rcases spec with ⟨q, i, d1, hq, hi, hh, hno, hpr⟩ | ⟨hno, d1, hpr⟩
    · rw [hpr]
      dsimp only
      rw [wayL] at hi ⊢
      have hil : i < L.length := by
        have h1 := (List.getElem?_eq_some_iff.mp hi).1
        have h2 := R.tab.len
        rw [List.length_map] at h2
        rw [Array.length_toList] at h1
        omega
      obtain ⟨p, hp⟩ : ∃ p, L[i]? = some p := ⟨L[i], List.getElem?_eq_getElem hil⟩
      have hmem : p ∈ L := List.mem_of_getElem? hp
      have hsl : t.slot (way t.mask (Z.hash k) (c + q)) = .live i := slot_live R.tab.up hi
      have rest : wpAny (model P w) A (searchRest a (.ref x) (Z.hash k) false f es t (way t.mask (Z.hash k) (c + q)) i (wd (nth t.mask (wd (nth t.mask p0 c) d0) (q + 1)) d1)) Q E s := by
        unfold searchRest
        rw [R.entry hp]
        dsimp only
        refine wpAny_bind (wpAny_holding (Z.eqB hu (R.tup p hmem) hx ?_))
        refine wpAny_bind (wpAny_setState_of ho hd R.fits ?_)
        dsimp only
        refine wp_if_neg (by simp) ?_
        try refine wpAny_bind (wpAny_pure ?_)
        rw [sameMem]
        dsimp only
        simp only [if_true, hsl, R.entry hp]
        refine wpAny_bind (wpAny_isSame_ref_self (wpAny_bind (wpAny_pure ?_)))
        simp only [if_true]
        by_cases hk : p.2 = k
        · exact wp_if_pos (by simp [hk]) (wpAny_pure (yes i p hp hk))
        · refine wp_if_neg (by simp [hk]) ?_
          refine huntD R hx hu hN gap gapd full yes no f (c + (q + 1)) _ d1 (by show wd (nth t.mask (wd (nth t.mask p0 c) d0) (q + 1)) d1 = _; rw [later, hp0]; rfl) (by omega) (by omega) fun i0 p1 h1 hk1 => ?_
          obtain ⟨d, g1, g2, g3⟩ := left i0 p1 h1 hk1
          have d4 := skip hno h1 hk1 g1 g3
          refine ⟨d, ?_, g2, g3⟩
          rcases Nat.lt_or_eq_of_le d4 with z | z
          · omega
          · exfalso
            rw [← z] at g3
            have s0 := slot_live R.tab.up g3
            rw [hsl] at s0
            injection s0 with s0
            rw [← s0, hp] at h1
            exact hk ((congrArg Prod.snd (Option.some.inj h1)).trans hk1)
      by_cases hl : t.led = true
      · refine wp_if_neg (by simp [hl]) ?_
        try refine wpAny_bind (wpAny_pure ?_)
        exact rest
      · refine wp_if_pos (by simp [hl]) (wpAny_bind (zseen Z hx (fun y hy => ?_) ?_))
        · obtain ⟨e, he, ee⟩ := List.mem_map.mp hy
          have he1 : e ∈ es.toList := by
            have : e ∈ es ∧ e.1 = Z.hash k := by simpa using he
            simpa using this.1
          rw [R.row] at he1
          obtain ⟨p2, hp2, e2⟩ := List.mem_map.mp he1
          exact ⟨p2.2, p2.1, by rw [← ee, ← e2], R.tup p2 hp2⟩
        · refine wp_if_neg (by decide) ?_
          try refine wpAny_bind (wpAny_pure ?_)
          exact rest
    · rw [hpr]
      have nope : k ∉ L.map (·.2) := fun hm => by
        obtain ⟨p1, h1, hk1⟩ := List.mem_map.mp hm
        obtain ⟨i0, hi0⟩ := List.mem_iff_getElem?.mp h1
        obtain ⟨d, g1, g2, g3⟩ := left i0 p1 hi0 hk1
        have d4 := skip hno hi0 hk1 g1 g3
        omega
      cases d1 with
      | none => exact wpAny_pure (no nope _ _)
      | some d1 =>
        dsimp only
        refine wp_if_neg (by simp) ?_
        try refine wpAny_bind (wpAny_pure ?_)
        exact wpAny_pure (no nope _ _)
theorem findD (R : SetD Z s.heap a L es ep t) {x : Addr} {k : K} (hx : Z.is s.heap k x) (hu : Z.room A) {Q : Option Nat → Shared → Prop}
    (yes : ∀ i p, L[i]? = some p → p.2 = k → Q (some i) s) (no : k ∉ L.map (·.2) → Q none s) : wpAny (model P w) A (setFind a (.ref x) (Z.hash k)) Q E s := by
  obtain ⟨o, ho, hex, hd⟩ := R.obj
  have few := R.sum
  have hz : zBound = 9000 := rfl
  have fill := R.tab.fill
  have mb := R.tab.msk.bd
  obtain ⟨N, hN, gap, gapd, full⟩ := R.tab.gap (Z.hash k)
  have ht : SetTable.turns t.mask = t.mask + 15 := rfl
  unfold setFind setFindIn
  refine wpAny_bind (wpAny_setState_of ho hd R.fits ?_)
  dsimp only
  refine wp_if_neg (by simp [byScan, Value.scannable]) ?_
  try refine wpAny_bind (wpAny_pure ?_)
  refine wpAny_bind ?_
  unfold setSearch
  refine huntD R hx hu (by omega) gap gapd full (fun i p h1 h2 => ?_) (fun hm j b => ?_) 100000 0 none none rfl (Nat.zero_le _) ?_ fun i p hp hk => ?_
  · exact wpAny_pure (yes i p h1 h2)
  · exact wpAny_pure (no hm)
  · omega
  · have hi : (L.map fun p => Z.hash p.2)[i]? = some (Z.hash k) := by rw [List.getElem?_map, hp, ← hk]; rfl
    have hil : i < t.place.toList.length := by
      have h1 := (List.getElem?_eq_some_iff.mp hp).1
      have h2 := R.tab.len
      rw [List.length_map] at h2
      rw [Array.length_toList]
      omega
    obtain ⟨n, hn, e⟩ := R.tab.ahead gap gapd hi (List.getElem?_eq_getElem hil)
    exact ⟨n, Nat.zero_le _, hn, by rw [e]; exact List.getElem?_eq_getElem hil⟩
theorem zrows_erase (L : List (Addr × K)) (i : Nat) : zrows Z (L.eraseIdx i) = (zrows Z L).eraseIdx i := by
  unfold zrows
  rw [List.eraseIdx_eq_take_drop_succ, List.eraseIdx_eq_take_drop_succ, List.map_append, List.map_take, List.map_drop]
theorem discardD (R : SetD Z s.heap a L es ep t) {x : Addr} {k : K} (hx : Z.is s.heap k x) (hu : Z.room A) {Q : Bool → Shared → Prop}
    (yes : ∀ i p h' es' ep' t', L[i]? = some p → p.2 = k → Heap.SameBut a s.heap h' → SetD Z h' a (L.eraseIdx i) es' ep' t' → t'.mask = t.mask → Q true { s with heap := h' }) (no : k ∉ L.map (·.2) → Q false s) :
    wpAny (model P w) A (setDiscardHashed a (.ref x) (Z.hash k)) Q E s := by
  obtain ⟨o, ho, hex, hd⟩ := R.obj
  unfold setDiscardHashed
  refine wpAny_bind (findD R hx hu (fun i p hp hk => ?_) fun hm => ?_)
  · dsimp only
    refine wpAny_bind (wpAny_setState_of ho hd R.fits ?_)
    dsimp only
    have il : i < L.length := (List.getElem?_eq_some_iff.mp hp).1
    have tl := R.tab.len
    rw [List.length_map] at tl
    have hj : ∃ j, t.place.toList[i]? = some j := ⟨t.place.toList[i]'(by rw [Array.length_toList]; omega), List.getElem?_eq_getElem _⟩
    obtain ⟨j, hj⟩ := hj
    obtain ⟨T, e1, e3, e3', e4⟩ := R.tab.drop hj
    have row : (SetTable.eraseAt es i).toList = zrows Z (L.eraseIdx i) := by rw [toList_eraseAt, erase_list, R.row, zrows_erase]
    have hT : ((L.eraseIdx i).map fun p => Z.hash p.2) = (L.map fun p => Z.hash p.2).eraseIdx i := by
      rw [List.eraseIdx_eq_take_drop_succ, List.eraseIdx_eq_take_drop_succ, List.map_append, List.map_take, List.map_drop]
    rw [← hT] at T
    have sz : (SetTable.eraseAt es i).size ≤ 9000 := by
      rw [zrows_len row]
      have := R.few
      have hz : zBound = 9000 := rfl
      have := List.length_eraseIdx_le L i
      omega
    have hl : sizeLine = 16777216 := by decide
    refine wpAny_bind (wpAny_storeSet_of ho hd ?_ (by omega))
    have sb : Heap.SameBut a s.heap (s.heap.update a (Obj.putSet (SetTable.eraseAt es i) (t.drop i))) := Heap.SameBut.update ..
    have ho1 := store_at (es' := SetTable.eraseAt es i) (t' := t.drop i) ho hd
    refine wpAny_bind (wpAny_point (wpAny_pure (yes i p _ _ _ _ hp hk sb ⟨⟨_, ho1, ⟨hex.1, hex.2.1, hex.2.2⟩, rfl⟩, row, T, ?_, fun q hq => zsame (R.tup q (List.eraseIdx_subset hq)) ho hd sb, by rw [e3']; exact R.pln, by rw [e3]; exact R.led, by rw [e4]; exact R.sum⟩ e1)))
    exact R.dif.sublist ((List.eraseIdx_sublist L i).map _)
  · dsimp only
    exact wpAny_pure (no hm)
end
end ZS
end
section
set_option maxHeartbeats 4000000
/-! TSetD3: a set's copy, its walk, its tidying -/
namespace ZS
open PySem PySem.Spec PyProof.Rows L2 TS
section
variable {P : Program} {w : World} {K : Type} [DecidableEq K] {Z : ZK P w K} {A : Around} {E : Value → Shared → Prop} {s : Shared} {a : Addr} {L : List (Addr × K)} {es : Array (Int × Value)} {ep : Nat} {t : SetTable}
theorem relayW (R : SetD Z s.heap a L es ep t) {n : Nat} (hn : n < 2 ^ 16) (hl : L.length ≤ n) {Q : Unit → Shared → Prop}
    (hQ : ∀ h' L' es' ep' t', Heap.SameBut a s.heap h' → SetD Z h' a L' es' ep' t' → Tab t' (L'.map fun p => Z.hash p.2) → L'.Perm L → n ≤ t'.mask → Q () { s with heap := h' }) : wpAny (model P w) A (setRelay a n) Q E s := by
  obtain ⟨o, ho, hex, hd⟩ := R.obj
  have few := R.few
  have hz : zBound = 9000 := rfl
  have hl' : sizeLine = 16777216 := by decide
  have sz := R.size
  obtain ⟨M, hM, mM, leM, big⟩ := above_ok (n := n) hn
  obtain ⟨t', order, e, hp, T, em, el, epl⟩ := anew t (hs := es.map (·.1)) hM mM (by rw [Array.size_map, sz]; omega)
  rw [Array.size_map, sz] at hp
  obtain ⟨L2, r1, r2, r3⟩ := zorder L es order R.row hp
  rw [← r3] at T
  have s2 : (order.filterMap (es[·]?)).size = L.length := by rw [zrows_len r1, r2.length_eq]
  rw [setRelay_eq]
  refine wpAny_bind (wpAny_setState_of ho hd R.fits ?_)
  dsimp only
  refine wp_if_neg (by omega) ?_
  try refine wpAny_bind (wpAny_pure ?_)
  rw [e]
  dsimp only
  refine wpAny_bind (wp_if_neg (by rw [s2, sz]; simp) ?_)
  try refine wpAny_bind (wpAny_pure ?_)
  refine wpAny_pure ?_
  dsimp only
  refine wpAny_storeSet_of ho hd ?_ (by rw [s2]; omega)
  have sb : Heap.SameBut a s.heap (s.heap.update a (Obj.putSet (order.filterMap (es[·]?)) t')) := Heap.SameBut.update ..
  have ln : L2.length ≤ t'.mask := by rw [r2.length_eq, em]; omega
  have tl := T.len
  rw [List.length_map] at tl
  refine hQ _ L2 _ (ep + 1) t' sb ⟨⟨_, store_at ho hd, ⟨hex.1, hex.2.1, hex.2.2⟩, rfl⟩, r1, T.toD (by rw [List.length_map]; exact ln), (r2.map (·.2)).nodup_iff.mpr R.dif, fun p h => zsame (R.tup p (r2.mem_iff.mp h)) ho hd sb, by rw [epl]; exact R.pln, by rw [el]; exact R.led, ?_⟩ T r2 (by rw [em]; exact leM)
  rw [T.nod, tl, r2.length_eq]
  exact few
theorem tidyD (R : SetD Z s.heap a L es ep t) {Q : Unit → Shared → Prop}
    (hQ : ∀ h' L' es' ep' t', Heap.SameBut a s.heap h' → SetD Z h' a L' es' ep' t' → L'.Perm L → Q () { s with heap := h' }) : wpAny (model P w) A (setTidy a) Q E s := by
  obtain ⟨o, ho, hex, hd⟩ := R.obj
  have few := R.few
  have hz : zBound = 9000 := rfl
  unfold setTidy
  refine wpAny_bind (wpAny_setState_of ho hd R.fits ?_)
  dsimp only
  by_cases c : t.tooManyDummies = true
  · refine wp_if_pos c ?_
    have sz := R.size
    have hg : SetTable.grown es.size = es.size * 4 := by unfold SetTable.grown; rw [if_neg (by omega)]
    rw [hg]
    exact relayW R (by omega) (by omega) fun h' L' es' ep' t' b R' T pm _ => hQ h' L' es' ep' t' b R' pm
  · refine wp_if_neg c (wpAny_pure (hQ s.heap L es ep t (Heap.SameBut.refl a s.heap) R (List.Perm.refl _)))
theorem walkD (R : SetD Z s.heap a L es ep t) {others : List Addr} {fl : Option Addr} {Q : Array (Int × Value) → Shared → Prop}
    (hQ : ∀ L' : List (Addr × K), L'.Perm L → ∀ out : Array (Int × Value), out.toList = zrows Z L' → Q out s) : wpAny (model P w) A (setWalkUnseen a others fl) Q E s := by
  obtain ⟨o, ho, hex, hd⟩ := R.obj
  have lift : ∀ out : Array (Int × Value), out.toList.Perm es.toList → Q out s := fun out pm => by
    rw [R.row] at pm
    obtain ⟨L', e, p⟩ := L2.perm_lift (f := fun p : Addr × K => (Z.hash p.2, Value.ref p.1)) pm L rfl
    exact hQ L' e out p.symm
  have walk : wpAny (model P w) A (setWalk a) Q E s := by
    unfold setWalk
    refine wpAny_bind (wpAny_setState_of ho hd R.fits ?_)
    dsimp only
    refine wpAny_bind (wpAny_byText ?_)
    by_cases b : w.params.followText "set-order" = true
    · refine wp_if_pos b ?_
      refine wpAny_bind (wpAny_askSetting (wpAny_pure ?_))
      exact lift _ (pick_perm _ _)
    · refine wp_if_neg b ?_
      have led : t.led = true := R.led.resolve_left b
      try refine wpAny_bind (wpAny_pure ?_)
      refine wp_if_neg (by show ¬ ((!t.plain && decide (es.size > 1)) = true); rw [R.pln]; exact Bool.false_ne_true) ?_
      try refine wpAny_bind (wpAny_pure ?_)
      refine wpAny_bind (wpAny_of_eq (a := ()) ?_ ?_)
      · show (if (!t.led && decide (es.size > 1)) = true then _ else _) = _
        rw [led]
        rfl
      · exact wpAny_pure (lift _ (List.Perm.refl _))
  unfold setWalkUnseen
  refine wpAny_bind (wpAny_setState_of ho hd R.fits ?_)
  dsimp only
  refine wpAny_bind (wpAny_byText ?_)
  refine wp_if_pos (by
    rcases R.led with z | z
    · rw [z]; rfl
    · rw [z, R.pln]; simp) ?_
  exact walk
end
end ZS
end
section
set_option maxHeartbeats 4000000
/-! TSetD4: a set's copy -/
namespace ZS
open PySem PySem.Spec PyProof.Rows L2 TS
theorem above_msk {M : Nat} (h : Msk M) : SetTable.sizeAbove M - 1 = M := by
  obtain ⟨e, h1, h2, h3⟩ := h
  obtain rfl : M = 2 ^ e - 1 := by omega
  clear h3
  have : e = 3 ∨ e = 4 ∨ e = 5 ∨ e = 6 ∨ e = 7 ∨ e = 8 ∨ e = 9 ∨ e = 10 ∨ e = 11 ∨ e = 12 ∨ e = 13 ∨ e = 14 ∨ e = 15 ∨ e = 16 := by omega
  rcases this with h | h | h | h | h | h | h | h | h | h | h | h | h | h <;> subst h <;> decide +kernel
theorem laidW {M f m : Nat} {led pl : Bool} {hs : Array Int} (hM : Msk M) (room : hs.size ≤ M) :
    ∃ t' order, SetTable.laid M f m led pl hs = some (t', order) ∧ order.toList.Perm (List.range hs.size) ∧ Tab t' (order.toList.map fun i => hs.getD i 0) ∧ t'.mask = M ∧ t'.led = led ∧ t'.plain = pl := by
  obtain ⟨t', order, e, hp, T, em, el, epl⟩ := anew { mask := M, place := #[], dummies := #[], finger := f, led := led, moves := 0, plain := pl } (hs := hs) (wanted := M) (above_msk hM) hM room
  rw [relaid_eq, above_msk hM] at e
  obtain ⟨o, e1, e2⟩ := Option.bind_eq_some_iff.mp e
  cases e2
  refine ⟨{ tabOf { mask := M, place := #[], dummies := #[], finger := f, led := led, moves := 0, plain := pl } M o with moves := m }, _, ?_, hp, ⟨T.up, T.nod, T.len, T.msk, T.low, T.found⟩, rfl, rfl, rfl⟩
  show (SetTable.layClean M hs).bind _ = _
  rw [e1]
  rfl
theorem setMerge_eq (s o : Addr) (each : Sem Unit) : setMerge s o each = (do
    if s == o then return
    let (eo, epoch, to) ← setState o
    if eo.isEmpty then return
    setRoomFor s eo.size
    let (_, _, ts) ← setState s
    match ts.road to with
    | .slotForSlot => storeSet s eo { to with finger := ts.finger, led := ts.led && to.led, moves := ts.moves, plain := ts.plain && to.plain }
    | .clean =>
      let (es, t) ← (do
        let some (t, order) := (SetTable.laid ts.mask ts.finger ts.moves (led := ts.led && to.led) (plain := ts.plain && to.plain) (eo.map (·.1))) | unsupported "internal:set-table-without-room"
        let es' := order.filterMap (eo[·]?)
        if es'.size != eo.size then unsupported "internal:set-table-lost-an-element"
        pure (es', t) : Sem (Array (Int × Value) × SetTable))
      storeSet s es t
    | .oneByOne =>
      for (h, x) in ← setWalkUnseen o [s] (some s) do
        let _ ← holding [x] (setAddHashed s x h)
        each
        if (← setState o).2.1 != epoch then unsupported "set.changed-during-merge") := by rfl
section
variable {P : Program} {w : World} {K : Type} [DecidableEq K] {Z : ZK P w K} {A : Around} {E : Value → Shared → Prop} {s : Shared} {a : Addr} {L : List (Addr × K)} {es : Array (Int × Value)} {ep : Nat} {t : SetTable}
theorem SetD.empty (Z : ZK P w K) {h : Heap} {r : Addr} (hr : h.get? r = some { cls := .type "set", dict := none, data := .set #[] 0 (.fresh 0 0 (!w.params.followText "set-order")) }) :
    SetD Z h r [] #[] 0 (.fresh 0 0 (!w.params.followText "set-order")) ∧ Tab (.fresh 0 0 (!w.params.followText "set-order")) [] := by
  have T : Tab (.fresh 0 0 (!w.params.followText "set-order")) [] := ⟨List.Pairwise.nil, rfl, rfl, ⟨3, by decide, by decide, rfl⟩, fun z hz => (by cases hz), fun i h j hi => (by simp at hi)⟩
  refine ⟨⟨⟨_, hr, ⟨rfl, rfl, rfl⟩, rfl⟩, rfl, T.toD (Nat.zero_le _), List.nodup_nil, fun p hp => (by cases hp), rfl, ?_, (by show 0 + 0 < 9000; decide)⟩, T⟩
  show _ ∨ (!w.params.followText "set-order") = true
  cases w.params.followText "set-order"
  · exact .inr rfl
  · exact .inl rfl
theorem SetZ.same (R : SetZ Z s.heap a L es ep t) {r : Addr} {h' : Heap} {o : Obj} {es1 : Array (Int × Value)} {ep1 : Nat} {t1 : SetTable} (hne : a ≠ r) (ho : s.heap.get? r = some o) (hd : o.data = .set es1 ep1 t1) (sb : Heap.SameBut r s.heap h') : SetZ Z h' a L es ep t := by
  obtain ⟨oa, hoa, he, hda⟩ := R.obj
  exact ⟨⟨oa, (sb.2 a hne).trans hoa, he, hda⟩, R.row, R.tab, R.dif, fun p hp => zsame (R.tup p hp) ho hd sb, R.pln, R.led, R.room, R.few⟩
theorem and_led {x y z : Bool} (h1 : x = true ∨ y = true) (h2 : x = true ∨ z = true) : x = true ∨ (y && z) = true := by
  cases x <;> cases y <;> cases z <;> simp_all
theorem merge1 (R : SetZ Z s.heap a L es ep t) {r : Addr} (hne : r ≠ a) {es1 : Array (Int × Value)} {ep1 : Nat} {t1 : SetTable} (R1 : SetD Z s.heap r [] es1 ep1 t1) (T1 : Tab t1 []) (room : L.length ≤ t1.mask) {Q : Unit → Shared → Prop}
    (hQ : ∀ h' es' ep' t' L', Heap.SameBut r s.heap h' → L'.Perm L → SetD Z h' r L' es' ep' t' → Q () { s with heap := h' }) (ts : SetTable) (hts : ts = t1) :
    wpAny (model P w) A (match ts.road t with
    | .slotForSlot => storeSet r es { t with finger := ts.finger, led := ts.led && t.led, moves := ts.moves, plain := ts.plain && t.plain }
    | .clean => do
      let (es, t) ← (do
        let some (t, order) := (SetTable.laid ts.mask ts.finger ts.moves (led := ts.led && t.led) (plain := ts.plain && t.plain) (es.map (·.1))) | unsupported "internal:set-table-without-room"
        let es' := order.filterMap (es[·]?)
        if es'.size != es.size then unsupported "internal:set-table-lost-an-element"
        pure (es', t) : Sem (Array (Int × Value) × SetTable))
      storeSet r es t
    | .oneByOne => do
      for (h, x) in ← setWalkUnseen a [r] (some r) do
        let _ ← holding [x] (setAddHashed r x h)
        pure ()
        if (← setState a).2.1 != ep then unsupported "set.changed-during-merge") Q E s := by
  subst hts
  obtain ⟨o1, ho1, hex1, hd1⟩ := R1.obj
  have few := R.few
  have hz : zBound = 9000 := rfl
  have hl' : sizeLine = 16777216 := by decide
  have sz := R.size
  have fl : ts.fill = 0 := by
    show ts.place.size + ts.dummies.size = 0
    rw [T1.nod, T1.len]
    rfl
  have tl := R.tab.len
  rw [List.length_map] at tl
  have tm := R.room
  unfold SetTable.road
  rw [fl]
  rw [if_neg (by decide)]
  by_cases c : (ts.mask == t.mask && t.dummies.isEmpty) = true
  · rw [if_pos c]
    dsimp only
    refine wpAny_storeSet_of ho1 hd1 ?_ (by omega)
    have sb : Heap.SameBut r s.heap (s.heap.update r (Obj.putSet es { t with finger := ts.finger, led := ts.led && t.led, moves := ts.moves, plain := ts.plain && t.plain })) := Heap.SameBut.update ..
    refine hQ _ es _ _ L sb (List.Perm.refl _) ⟨⟨_, store_at ho1 hd1, ⟨hex1.1, hex1.2.1, hex1.2.2⟩, rfl⟩, R.row, ?_, R.dif, fun p hp => zsame (R.tup p hp) ho1 hd1 sb, by show (ts.plain && t.plain) = true; rw [R1.pln, R.pln]; rfl, and_led R1.led R.led, ?_⟩
    · have T := R.tab
      exact Tab.toD (t := { t with finger := ts.finger, led := ts.led && t.led, moves := ts.moves, plain := ts.plain && t.plain }) ⟨T.up, T.nod, T.len, T.msk, T.low, T.found⟩ (by rw [List.length_map]; show L.length ≤ t.mask; omega)
    · show t.place.size + t.dummies.size < _
      rw [R.tab.nod, tl]
      exact few
  · rw [if_neg c]
    dsimp only
    obtain ⟨t', order, e, hp, T, em, el, epl⟩ := laidW (M := ts.mask) (f := ts.finger) (m := ts.moves) (led := ts.led && t.led) (pl := ts.plain && t.plain) (hs := es.map (·.1)) T1.msk (by rw [Array.size_map, sz]; exact room)
    rw [Array.size_map, sz] at hp
    obtain ⟨L2, r1, r2, r3⟩ := zorder L es order R.row hp
    rw [← r3] at T
    have s2 : (order.filterMap (es[·]?)).size = L.length := by rw [zrows_len r1, r2.length_eq]
    rw [e]
    dsimp only
    refine wpAny_bind (wp_if_neg (by rw [s2, sz]; simp) ?_)
    try refine wpAny_bind (wpAny_pure ?_)
    refine wpAny_pure ?_
    dsimp only
    refine wpAny_storeSet_of ho1 hd1 ?_ (by rw [s2]; omega)
    have sb : Heap.SameBut r s.heap (s.heap.update r (Obj.putSet (order.filterMap (es[·]?)) t')) := Heap.SameBut.update ..
    have t2 := T.len
    rw [List.length_map] at t2
    refine hQ _ _ _ _ L2 sb r2 ⟨⟨_, store_at ho1 hd1, ⟨hex1.1, hex1.2.1, hex1.2.2⟩, rfl⟩, r1, T.toD (by rw [List.length_map, r2.length_eq, em]; exact room), (r2.map (·.2)).nodup_iff.mpr R.dif, fun p h => zsame (R.tup p (r2.mem_iff.mp h)) ho1 hd1 sb, by rw [epl, R1.pln, R.pln]; rfl, by rw [el]; exact and_led R1.led R.led, ?_⟩
    rw [T.nod, t2, r2.length_eq]
    exact few
theorem merge0 (R : SetZ Z s.heap a L es ep t) {r : Addr} (hne : r ≠ a) (hr : s.heap.get? r = some { cls := .type "set", dict := none, data := .set #[] 0 (.fresh 0 0 (!w.params.followText "set-order")) }) {Q : Unit → Shared → Prop}
    (hQ : ∀ h' es' ep' t' L', Heap.SameBut r s.heap h' → L'.Perm L → SetD Z h' r L' es' ep' t' → Q () { s with heap := h' }) :
    wpAny (model P w) A (setMerge r a) Q E s := by
  obtain ⟨o, ho, hex, hd⟩ := R.obj
  obtain ⟨R0, T0⟩ := SetD.empty Z hr
  have few := R.few
  have hz : zBound = 9000 := rfl
  have sz := R.size
  rw [setMerge_eq]
  refine wp_if_neg (by simpa using hne) ?_
  try refine wpAny_bind (wpAny_pure ?_)
  refine wpAny_bind (wpAny_setState_of ho hd R.fits ?_)
  dsimp only
  by_cases c : es.isEmpty = true
  · refine wp_if_pos c (wpAny_pure ?_)
    have : es.size = 0 := by rw [Array.isEmpty_iff.mp c]; rfl
    have eL : L = [] := List.length_eq_zero_iff.mp (by omega)
    exact hQ s.heap _ _ _ [] (Heap.SameBut.refl r s.heap) (by rw [eL]) R0
  · refine wp_if_neg c ?_
    try refine wpAny_bind (wpAny_pure ?_)
    refine wpAny_bind ?_
    unfold setRoomFor
    refine wpAny_bind (wpAny_setState_of hr rfl R0.fits ?_)
    dsimp only
    by_cases g : (0 + es.size) * 5 ≥ 7 * 3
    · have : (SetTable.fresh 0 0 (!w.params.followText "set-order")).roomFor es.size = some ((0 + es.size) * 2) := by
        unfold SetTable.roomFor
        exact if_pos g
      rw [this]
      dsimp only
      refine relayW R0 (by omega) (by show (0 : Nat) ≤ _; omega) fun h' L' es' ep' t' sb R' T' pm le => ?_
      have eL : L' = [] := List.Perm.eq_nil pm
      subst eL
      have R2 := R.same (fun z => hne z.symm) hr rfl sb
      obtain ⟨o1, ho1, hex1, hd1⟩ := R'.obj
      refine wpAny_bind (wpAny_setState_of (s := { s with heap := h' }) ho1 hd1 (SetD.fits (s := { s with heap := h' }) R') ?_)
      dsimp only
      exact merge1 (s := { s with heap := h' }) R2 hne R' T' (by omega) (fun h2 es2 ep2 t2 L2 sb2 pm2 R3 => hQ h2 es2 ep2 t2 L2 (sb.trans sb2) pm2 R3) _ rfl
    · have : (SetTable.fresh 0 0 (!w.params.followText "set-order")).roomFor es.size = none := by
        unfold SetTable.roomFor
        exact if_neg g
      rw [this]
      dsimp only
      refine wpAny_pure ?_
      refine wpAny_bind (wpAny_setState_of hr rfl R0.fits ?_)
      dsimp only
      exact merge1 R hne R0 T0 (by show L.length ≤ 7; omega) hQ _ rfl
end
end ZS
end
section
set_option maxHeartbeats 4000000
/-! TSetD5: the difference of two sets -/
namespace ZS
open PySem PySem.Spec PyProof.Rows L2 TS
theorem erase_keys {K : Type} {l : List K} (nd : l.Nodup) {i : Nat} {x : K} (h : l[i]? = some x) (y : K) : y ∈ l.eraseIdx i ↔ y ∈ l ∧ y ≠ x := by
  rw [List.mem_eraseIdx_iff_getElem?]
  constructor
  · rintro ⟨k, hk, e⟩
    refine ⟨List.mem_of_getElem? e, fun q => hk ?_⟩
    obtain ⟨hl1, e1⟩ := List.getElem?_eq_some_iff.mp h
    obtain ⟨hl2, e2⟩ := List.getElem?_eq_some_iff.mp e
    exact (List.getElem_inj nd).mp (by rw [e1, e2, q])
  · rintro ⟨hy, hne⟩
    obtain ⟨k, hk, e⟩ := List.getElem_of_mem hy
    have e3 : l[k]? = some y := by rw [List.getElem?_eq_getElem hk, e]
    refine ⟨k, fun q => hne ?_, e3⟩
    rw [q, h] at e3
    exact (Option.some.inj e3).symm
theorem erase_map {α β : Type} (f : α → β) (l : List α) (i : Nat) : (l.eraseIdx i).map f = (l.map f).eraseIdx i := by
  rw [List.eraseIdx_eq_take_drop_succ, List.eraseIdx_eq_take_drop_succ, List.map_append, List.map_take, List.map_drop]
section
variable {P : Program} {w : World} {K : Type} [DecidableEq K] {Z : ZK P w K} {A : Around} {E : Value → Shared → Prop} {s : Shared} {a b : Addr} {La Lb L : List (Addr × K)} {esa esb es : Array (Int × Value)} {epa epb ep : Nat} {ta tb t : SetTable}
theorem SetD.type (R : SetD Z s.heap a L es ep t) : s.TypeIs (.ref a) "set" := by
  obtain ⟨o, ho, hex, hd⟩ := R.obj
  exact ⟨o, ho, hex.1⟩
theorem anySetD (R : SetD Z s.heap a L es ep t) {Q : Bool → Shared → Prop} (h : Q true s) : wpAny (model P w) A (Builtin.Frozenset.isAnySet (.ref a)) Q E s := by
  unfold Builtin.Frozenset.isAnySet orM
  refine wpAny_bind (wpAny_isInstance R.type PySem.F.sub_set_set ?_)
  exact wpAny_pure h
theorem baseD (R : SetD Z s.heap a L es ep t) {Q : Value → Shared → Prop} (h : Q (.type "set") s) : wpAny (model P w) A (Builtin.Frozenset.baseOf a) Q E s := by
  unfold Builtin.Frozenset.baseOf
  refine wpAny_bind (wpAny_isInstance R.type PySem.F.sub_set_set ?_)
  exact wpAny_pure h
theorem sizeD (R : SetD Z s.heap a L es ep t) {Q : Nat → Shared → Prop} (h : Q L.length s) : wpAny (model P w) A (Builtin.Frozenset.sizeOf a) Q E s := by
  obtain ⟨o, ho, hex, hd⟩ := R.obj
  unfold Builtin.Frozenset.sizeOf setEntries
  refine wpAny_bind (wpAny_bind (wpAny_setState_of ho hd R.fits (wpAny_pure (wpAny_pure ?_))))
  dsimp only
  rw [R.size]
  exact h
theorem epochD (R : SetD Z s.heap a L es ep t) {Q : Nat → Shared → Prop} (h : Q ep s) : wpAny (model P w) A (setEpoch a) Q E s := by
  obtain ⟨o, ho, hex, hd⟩ := R.obj
  unfold setEpoch
  exact wpAny_bind (wpAny_setState_of ho hd R.fits (wpAny_pure h))
theorem unchangedD (R : SetD Z s.heap a L es ep t) {id : String} {Q : Unit → Shared → Prop} (h : Q () s) : wpAny (model P w) A (Builtin.Frozenset.unchanged id a ep) Q E s := by
  unfold Builtin.Frozenset.unchanged
  refine wpAny_bind (epochD R ?_)
  refine wp_if_neg (by simp) ?_
  exact wpAny_pure h
/-- b's rows taken from r -/
theorem cutD {id : String} {r : Addr} (hne : b ≠ r) (R : SetD Z s.heap r L es ep t) (Rb : SetZ Z s.heap b Lb esb epb tb) (hu : Z.room A) (small : ¬ Lb.length / 8 > L.length) {Q : Unit → Shared → Prop}
    (hQ : ∀ h' L' es' ep' t', Heap.SameBut r s.heap h' → SetD Z h' r L' es' ep' t' → (∀ p ∈ L', p ∈ L) → (∀ k, k ∈ L'.map (·.2) ↔ k ∈ L.map (·.2) ∧ k ∉ Lb.map (·.2)) → Q () { s with heap := h' }) :
    wpAny (model P w) A (Builtin.Frozenset.differenceUpdate id r (.ref b)) Q E s := by
  unfold Builtin.Frozenset.differenceUpdate
  refine wp_if_neg (by simpa using hne) ?_
  try refine wpAny_bind (wpAny_pure ?_)
  refine wpAny_bind (anySetD Rb.toD ?_)
  refine wp_if_pos rfl ?_
  show wpAny _ _ (pure b >>= _) _ _ _
  refine wpAny_bind (wpAny_pure ?_)
  refine wpAny_bind (sizeD Rb.toD ?_)
  refine wpAny_bind (sizeD R ?_)
  refine wp_if_neg small ?_
  try refine wpAny_bind (wpAny_pure ?_)
  refine wpAny_bind (epochD Rb.toD ?_)
  refine wpAny_bind (wpAny_holding ?_)
  refine wpAny_bind (walkD Rb.toD fun Lw pw out eo => ?_)
  rw [← Array.forIn_toList, eo]
  refine wpAny_bind (wpAny_forIn_list _ (fun rest _ s' => ∃ done Lr h' L' es' ep' t', Lw = done ++ Lr ∧ rest = zrows Z Lr ∧ s' = { s with heap := h' } ∧ Heap.SameBut r s.heap h' ∧ SetD Z h' r L' es' ep' t' ∧ (∀ p ∈ L', p ∈ L) ∧ (∀ k, k ∈ L'.map (·.2) ↔ k ∈ L.map (·.2) ∧ k ∉ done.map (·.2))) _ ?_ ?_ _ _ ⟨[], Lw, s.heap, L, es, ep, t, rfl, rfl, rfl, Heap.SameBut.refl r s.heap, R, fun _ z => z, fun k => by simp⟩)
  · rintro x rest u s' ⟨done, Lr, h', L', es', ep', t', e1, e2, rfl, sb, R', sub, keys⟩
    match Lr, e2 with
    | q :: Lr, e2 =>
      obtain ⟨e3, e4⟩ := List.cons.inj e2
      have hq : q ∈ Lb := pw.mem_iff.mp (by rw [e1]; exact List.mem_append_right _ List.mem_cons_self)
      obtain ⟨o, ho, hex, hd⟩ := R.obj
      have Rb' := Rb.same hne ho hd sb
      subst e3
      dsimp only
      refine wpAny_bind (wpAny_holding (discardD (s := { s with heap := h' }) R' (Rb'.tup q hq) hu (fun i p h2 es2 ep2 t2 hp hk sb2 R2 _ => ?_) fun hm => ?_))
      · have Rb2 := Rb.same hne ho hd (sb.trans sb2)
        refine wpAny_bind (unchangedD (s := { s with heap := h2 }) (SetZ.toD (s := { s with heap := h2 }) Rb2) (wpAny_pure ⟨done ++ [q], Lr, h2, _, es2, ep2, t2, by rw [e1, List.append_assoc]; rfl, e4, rfl, sb.trans sb2, R2, fun p hp => sub p (List.eraseIdx_subset hp), fun k => ?_⟩))
        have hp2 : (L'.map (·.2))[i]? = some q.2 := by rw [List.getElem?_map, hp, ← hk]; rfl
        rw [erase_map, erase_keys R'.dif hp2, keys, List.map_append, List.mem_append]
        simp [not_or, and_assoc]
      · refine wpAny_bind (unchangedD (s := { s with heap := h' }) (SetZ.toD (s := { s with heap := h' }) Rb') (wpAny_pure ⟨done ++ [q], Lr, h', L', es', ep', t', by rw [e1, List.append_assoc]; rfl, e4, rfl, sb, R', sub, fun k => ?_⟩))
        rw [keys, List.map_append, List.mem_append]
        constructor
        · rintro ⟨g1, g2⟩
          refine ⟨g1, fun z => z.elim g2 fun z => ?_⟩
          simp at z
          exact hm ((keys _).mpr ⟨by rw [← z]; exact g1, by rw [← z]; exact g2⟩)
        · rintro ⟨g1, g2⟩
          exact ⟨g1, fun z => g2 (.inl z)⟩
  · rintro u s' ⟨done, Lr, h', L', es', ep', t', e1, e2, rfl, sb, R', sub, keys⟩
    have eL : Lr = [] := by
      cases Lr with
      | nil => rfl
      | cons _ _ => cases e2
    rw [eL, List.append_nil] at e1
    try refine wpAny_pure ?_
    refine tidyD (s := { s with heap := h' }) R' fun h2 L2 es2 ep2 t2 sb2 R2 pm => ?_
    refine hQ h2 L2 es2 ep2 t2 (sb.trans sb2) R2 (fun p hp => sub p (pm.mem_iff.mp hp)) fun k => ?_
    rw [(pm.map (·.2)).mem_iff, keys, ← e1, (pw.map (·.2)).mem_iff]
end
end ZS
end
section
set_option maxHeartbeats 4000000
/-! TSetD6: the difference of two sets, as a whole -/
namespace ZS
open PySem PySem.Spec PyProof.Rows L2 TS
theorem nodup_le {α : Type} [DecidableEq α] : ∀ (l m : List α), l.Nodup → (∀ x ∈ l, x ∈ m) → l.length ≤ m.length
  | [], _, _, _ => Nat.zero_le _
  | x :: l, m, nd, h => by
    obtain ⟨n1, n2⟩ := List.nodup_cons.mp nd
    have hx := h x List.mem_cons_self
    have e := List.length_erase_of_mem hx
    have p := List.length_pos_of_mem hx
    have := nodup_le l (m.erase x) n2 fun y hy => (List.mem_erase_of_ne fun z => n1 (by rw [← z]; exact hy)).mpr (h y (List.mem_cons_of_mem _ hy))
    rw [List.length_cons]
    omega
section
variable {P : Program} {w : World} {K : Type} [DecidableEq K] {Z : ZK P w K} {A : Around} {E : Value → Shared → Prop} {s : Shared} {a b : Addr} {La Lb L : List (Addr × K)} {esa esb es : Array (Int × Value)} {epa epb ep : Nat} {ta tb t : SetTable}
theorem SetZ.push (R : SetZ Z s.heap a L es ep t) (o : Obj) : SetZ Z (s.heap.push o) a L es ep t := by
  obtain ⟨oa, hoa, he, hda⟩ := R.obj
  exact ⟨⟨oa, Heap.get?_push_of_some _ hoa, he, hda⟩, R.row, R.tab, R.dif, fun p hp => Z.keep (R.tup p hp) fun c oc vs n hc _ => Heap.get?_push_of_some _ hc, R.pln, R.led, R.room, R.few⟩
theorem newD {Q : Value → Shared → Prop} (h : ∀ h', h' = s.heap.push { cls := .type "set", dict := none, data := .set #[] 0 (.fresh 0 0 (!w.params.followText "set-order")) } → h'.get? s.heap.objs.size = some { cls := .type "set", dict := none, data := .set #[] 0 (.fresh 0 0 (!w.params.followText "set-order")) } →
      Q (.ref s.heap.objs.size) { s with heap := h' }) : wpAny (model P w) A (newSet (.type "set")) Q E s :=
  by
    unfold newSet setsByText
    refine wpAny_bind (wpAny_bind (wpAny_askSetting (wpAny_pure ?_)))
    dsimp only
    simp only [newObj]
    exact wpAny_bind (wpAny_alloc (wpAny_pure (h _ rfl (Heap.get?_push_size _ rfl))))
theorem SetZ.off (R : SetZ Z s.heap a L es ep t) : s.heap.objs.size ≠ a := by
  obtain ⟨o, ho, _⟩ := R.obj
  exact Nat.ne_of_gt (Heap.lt_size ho)
theorem diffZ {id : String} (Ra : SetZ Z s.heap a La esa epa ta) (Rb : SetZ Z s.heap b Lb esb epb tb) (hu : Z.room A) (few : La.length + 1 < zBound) {Q : Value → Shared → Prop}
    (hQ : ∀ h' L' es' ep' t', (∀ c o, s.heap.get? c = some o → h'.get? c = some o) → SetD Z h' s.heap.objs.size L' es' ep' t' → (∀ p ∈ L', p ∈ La) → (∀ k, k ∈ L'.map (·.2) ↔ k ∈ La.map (·.2) ∧ k ∉ Lb.map (·.2)) → Q (.ref s.heap.objs.size) { s with heap := h' }) :
    wpAny (model P w) A (Builtin.Frozenset.difference id a (.ref b)) Q E s := by
  have na := Ra.off
  have nb := Rb.off
  generalize hr : s.heap.objs.size = r at na nb hQ
  have keepP : ∀ {h' h'' : Heap} {o : Obj}, h' = s.heap.push o → Heap.SameBut r h' h'' → ∀ c o', s.heap.get? c = some o' → h''.get? c = some o' := fun {h' h'' o} e sb c o' hc => by
    have : c ≠ r := fun z => by
      have q := Heap.lt_size hc
      rw [hr, z] at q
      exact Nat.lt_irrefl _ q
    rw [sb.2 c this, e]
    exact Heap.get?_push_of_some _ hc
  unfold Builtin.Frozenset.difference
  refine wpAny_bind (anySetD Rb.toD ?_)
  dsimp only
  refine wp_if_neg (by simp) ?_
  try refine wpAny_bind (wpAny_pure ?_)
  refine wp_if_neg (by simp) ?_
  try refine wpAny_bind (wpAny_pure ?_)
  refine wp_if_pos rfl ?_
  refine wpAny_bind (sizeD Rb.toD ?_)
  refine wpAny_bind (sizeD Ra.toD ?_)
  by_cases c : La.length / 4 > Lb.length
  · refine wp_if_pos c ?_
    refine wpAny_bind (wpAny_rule ?_)
    unfold Builtin.Frozenset.copyOf
    refine wpAny_bind (wpAny_bind (baseD Ra.toD ?_))
    refine wpAny_bind (newD fun h1 e1 g1 => ?_)
    rw [hr] at g1 ⊢
    have Ra1 : SetZ Z h1 a La esa epa ta := by rw [e1]; exact Ra.push _
    have Rb1 : SetZ Z h1 b Lb esb epb tb := by rw [e1]; exact Rb.push _
    show wpAny _ _ (pure r >>= _) _ _ _
    refine wpAny_bind (wpAny_pure ?_)
    refine wpAny_bind (merge0 (s := { s with heap := h1 }) Ra1 na g1 fun h2 es2 ep2 t2 L2 sb2 pm2 R2 => ?_)
    refine wpAny_pure ?_
    have Rb2 := SetZ.same (s := { s with heap := h1 }) Rb1 (fun z => nb z.symm) g1 rfl sb2
    show wpAny _ _ (pure r >>= _) _ _ _
    refine wpAny_bind (wpAny_pure ?_)
    refine wpAny_bind (wpAny_holding ?_)
    refine cutD (s := { s with heap := h2 }) (fun z => nb z.symm) R2 Rb2 hu (by rw [pm2.length_eq]; omega) fun h3 L3 es3 ep3 t3 sb3 R3 sub keys => ?_
    refine wpAny_pure (hQ h3 L3 es3 ep3 t3 (keepP e1 (sb2.trans sb3)) R3 (fun p hp => pm2.mem_iff.mp (sub p hp)) fun k => ?_)
    rw [keys, (pm2.map (·.2)).mem_iff]
  · refine wp_if_neg c ?_
    try refine wpAny_bind (wpAny_pure ?_)
    refine wpAny_bind (baseD Ra.toD ?_)
    refine wpAny_bind (newD fun h1 e1 g1 => ?_)
    rw [hr] at g1 ⊢
    have Ra1 : SetZ Z h1 a La esa epa ta := by rw [e1]; exact Ra.push _
    have Rb1 : SetZ Z h1 b Lb esb epb tb := by rw [e1]; exact Rb.push _
    have R1 := SetD.empty Z g1
    show wpAny _ _ (pure r >>= _) _ _ _
    refine wpAny_bind (wpAny_pure ?_)
    refine wpAny_bind (epochD (s := { s with heap := h1 }) (SetZ.toD (s := { s with heap := h1 }) Ra1) ?_)
    refine wpAny_bind (wpAny_holding ?_)
    refine wpAny_bind (wp_if_pos rfl (walkD (s := { s with heap := h1 }) (SetZ.toD (s := { s with heap := h1 }) Ra1) fun Lw pw out eo => ?_))
    rw [← Array.forIn_toList, eo]
    obtain ⟨R1, T1⟩ := R1
    have R1 : SetZ Z h1 r [] #[] 0 (.fresh 0 0 (!w.params.followText "set-order")) := ⟨R1.obj, R1.row, T1, R1.dif, R1.tup, R1.pln, R1.led, (by show 0 * 5 < 7 * 3; decide), (by show 0 < 9000; decide)⟩
    refine wpAny_bind (wpAny_forIn_list _ (fun rest _ s' => ∃ done Lr h' L' es' ep' t', Lw = done ++ Lr ∧ rest = zrows Z Lr ∧ s' = { s with heap := h' } ∧ Heap.SameBut r h1 h' ∧ SetZ Z h' r L' es' ep' t' ∧ (∀ p ∈ L', p ∈ done) ∧ (∀ k, k ∈ L'.map (·.2) ↔ k ∈ done.map (·.2) ∧ k ∉ Lb.map (·.2))) _ ?_ ?_ _ _ ⟨[], Lw, h1, [], _, _, _, rfl, rfl, rfl, Heap.SameBut.refl r h1, R1, fun _ z => z, fun k => by simp⟩)
    · rintro x rest u s' ⟨done, Lr, h', L', es', ep', t', e1, e2, rfl, sb, R', sub, keys⟩
      match Lr, e2 with
      | q :: Lr, e2 =>
        obtain ⟨e3, e4⟩ := List.cons.inj e2
        have hq : q ∈ La := pw.mem_iff.mp (by rw [e1]; exact List.mem_append_right _ List.mem_cons_self)
        have Rb' := SetZ.same (s := { s with heap := h1 }) Rb1 (fun z => nb z.symm) g1 rfl sb
        have Ra' := SetZ.same (s := { s with heap := h1 }) Ra1 (fun z => na z.symm) g1 rfl sb
        subst e3
        dsimp only
        have small : L'.length + 1 < zBound := by
          have n1 : (L'.map (·.2)).length ≤ (La.map (·.2)).length := nodup_le _ _ R'.dif fun k hk => by
            obtain ⟨p, hp, e⟩ := List.mem_map.mp ((keys k).mp hk).1
            exact List.mem_map.mpr ⟨p, pw.mem_iff.mp (by rw [e1]; exact List.mem_append_left _ hp), e⟩
          rw [List.length_map, List.length_map] at n1
          omega
        have dif : q.2 ∉ done.map (·.2) := fun hm => by
          have z : (Lw.map (·.2)).Nodup := (pw.map (·.2)).nodup_iff.mpr Ra.dif
          rw [e1, List.map_append, List.map_cons] at z
          exact (List.nodup_append.mp z).2.2 _ hm _ List.mem_cons_self rfl
        refine wpAny_bind (wpAny_holding ?_)
        refine wp_if_pos rfl ?_
        refine wpAny_bind (finds (s := { s with heap := h' }) Rb' (Ra'.tup q hq) hu fun r0 hr0 => ?_)
        refine wpAny_bind (wpAny_pure ?_)
        rw [hr0]
        by_cases hm : q.2 ∈ Lb.map (·.2)
        · refine wp_if_neg (by rw [decide_eq_true hm]; decide) ?_
          refine wpAny_pure ?_
          refine wpAny_bind (unchangedD (s := { s with heap := h' }) (SetZ.toD (s := { s with heap := h' }) Ra') (wpAny_pure ⟨done ++ [q], Lr, h', L', es', ep', t', by rw [e1, List.append_assoc]; rfl, e4, rfl, sb, R', fun p hp => List.mem_append_left _ (sub p hp), fun k => ?_⟩))
          rw [keys, List.map_append, List.mem_append]
          constructor
          · rintro ⟨z1, z2⟩
            exact ⟨.inl z1, z2⟩
          · rintro ⟨z1, z2⟩
            refine ⟨z1.resolve_right fun z => z2 ?_, z2⟩
            simp at z
            rw [z]
            exact hm
        · refine wp_if_pos (by rw [decide_eq_false hm]; decide) ?_
          refine wpAny_bind (adds (s := { s with heap := h' }) R' (Ra'.tup q hq) hu small fun b1 h2 L2 es2 ep2 t2 sb2 R2 _ pm => ?_)
          refine wpAny_pure ?_
          have Ra2 := SetZ.same (s := { s with heap := h1 }) Ra1 (fun z => na z.symm) g1 rfl (sb.trans sb2)
          have pm := pm fun z => dif ((keys _).mp z).1
          refine wpAny_bind (unchangedD (s := { s with heap := h2 }) (SetZ.toD (s := { s with heap := h2 }) Ra2) (wpAny_pure ⟨done ++ [q], Lr, h2, L2, es2, ep2, t2, by rw [e1, List.append_assoc]; rfl, e4, rfl, sb.trans sb2, R2, fun p hp => ?_, fun k => ?_⟩))
          · rcases List.mem_cons.mp (pm.mem_iff.mp hp) with z | z
            · rw [z]; exact List.mem_append_right _ (List.mem_singleton.mpr rfl)
            · exact List.mem_append_left _ (sub p z)
          · rw [(pm.map (·.2)).mem_iff, List.map_cons, List.mem_cons, keys, List.map_append, List.mem_append]
            simp only [List.map_cons, List.map_nil, List.mem_singleton]
            constructor
            · rintro (z | ⟨z1, z2⟩)
              · rw [z]; exact ⟨.inr rfl, hm⟩
              · exact ⟨.inl z1, z2⟩
            · rintro ⟨z1 | z1, z2⟩
              · exact .inr ⟨z1, z2⟩
              · exact .inl z1
    · rintro u s' ⟨done, Lr, h', L', es', ep', t', e5, e2, rfl, sb, R', sub, keys⟩
      have eL : Lr = [] := by
        cases Lr with
        | nil => rfl
        | cons _ _ => cases e2
      rw [eL, List.append_nil] at e5
      refine wpAny_pure ?_
      refine wpAny_pure (hQ h' L' es' ep' t' (keepP e1 sb) (SetZ.toD (s := { s with heap := h' }) R') (fun p hp => pw.mem_iff.mp (by rw [e5]; exact sub p hp)) fun k => ?_)
      rw [keys, ← e5, (pw.map (·.2)).mem_iff]
end
end ZS
end
section
set_option maxHeartbeats 4000000
/-! TSetD7: what `a - b` gives as a tracked thing; its length, its sorting -/
namespace ZS
open PySem PySem.Spec PyProof.Rows L2 TS PpSet
theorem entry_set_sub : entryFor table "set.__sub__" = some Builtin.«frozenset.__sub__» :=
  entryFor_alias (id' := "frozenset.__sub__") (by kernel_rfl) rfl (by decide +kernel) (by kernel_rfl)
/-- a set of which is known no more than its rows -/
structure SetW (P : Program) (w : World) (h : Heap) (a : Addr) (L : List (Addr × NK)) (es : Array (Int × Value)) (ep : Nat) (t : SetTable) : Prop where
  obj : ∃ o, h.get? a = some o ∧ o.ExactSet ∧ o.data = .set es ep t
  row : es.toList = zrows (zk P w) L
  up : Ris t.place.toList
  fits : t.fits es.size = true
  dif : (L.map (·.2)).Nodup
  led : w.params.followText "set-order" = true ∨ t.led = true
theorem SetW.size {P : Program} {w : World} {h : Heap} {a : Addr} {L : List (Addr × NK)} {es : Array (Int × Value)} {ep : Nat} {t : SetTable} (R : SetW P w h a L es ep t) : es.size = L.length := zrows_len R.row
def SetW0 (P : Program) (w : World) (h : Heap) (a : Addr) (L : List (Addr × NK)) : Prop := ∃ es ep t, SetW P w h a L es ep t
def WSet (P : Program) (w : World) (a : Addr) (L : List (Addr × NK)) : HO := .ext fun h => SetW0 P w h a L
theorem SetW0.laid {P : Program} {w : World} {h : Heap} {a : Addr} {L : List (Addr × NK)} (R : SetW0 P w h a L) (H : Hp) : ObjOk P w H h a (WSet P w a L) := by
  have ⟨es, ep, t, R0⟩ := R
  obtain ⟨o, ho, _⟩ := R0.obj
  refine ⟨R, ⟨o, ho⟩, fun h1 h2 p k => ?_⟩
  have ⟨es', ep', t', R'⟩ := (show SetW0 P w h1 a L from p)
  obtain ⟨o', ho', r'⟩ := R'.obj
  exact ⟨es', ep', t', ⟨o', k o' ho', r'⟩, R'.row, R'.up, R'.fits, R'.dif, R'.led⟩
section
variable {X : Cx} {pins : List (Addr × Obj)} {σ : L2.St} {H : Hp} {s : Shared} {a b : Addr} {L : List (Addr × NK)}
/-- a - b -/
def rZSub (K : PySem.W.Frag) (P : Program) (w : World) : R2 := fun x y H Q => ∃ (a b : Addr) (La Lb : List (Addr × NK)), x = .ref a ∧ y = .ref b ∧ H a = some (ZSet P w a La) ∧ H b = some (ZSet P w b Lb) ∧ (∀ p ∈ La, ElK K H p.1 p.2) ∧ (∀ p ∈ Lb, ElK K H p.1 p.2) ∧ La.length + 1 < zBound ∧
  ∀ r L', H r = none → (∀ p ∈ L', p ∈ La) → (L'.map (·.2)).Nodup → (∀ k, k ∈ L'.map (·.2) ↔ k ∈ La.map (·.2) ∧ k ∉ Lb.map (·.2)) → Q (.ref r) (upd H r (WSet P w r L'))
theorem op_zsub (hu : X.A.units + 64 < cLine) : OpR X (binaryOp .Sub) (rZSub X.K X.prog X.w) := by
  intro pins s σ H x y v u Q I rx ry h
  obtain ⟨a, b, La, Lb, rfl, rfl, ha, hb, ea, eb, few, q⟩ := h
  obtain rfl : v = Value.ref a := rx
  obtain rfl : u = Value.ref b := ry
  obtain ⟨esa, epa, ta, Ra⟩ := zset_at I ha ea
  obtain ⟨esb, epb, tb, Rb⟩ := zset_at I hb eb
  have Ta := Ra.toD.type
  have Tb := Rb.toD.type
  refine wpAny_binaryOp_same Ta Tb PySem.F.fills_set_sub PySem.F.slot_set_sub ?_
  refine wpAny_call_entry PySem.F.slot_set_sub Ta entry_set_sub ?_ (PySem.F.args_set_sub_2 _ _)
  show wpAny _ _ (Builtin.Frozenset.slot1 "__sub__" ⟨[.ref a, .ref b], []⟩ >>= fun p => match p with | (self, other) => _) _ _ _
  refine wpAny_bind (wpAny_of_eq (a := ((Value.ref a : Value), (Value.ref b : Value))) rfl ?_)
  simp only [Bool.false_eq_true, if_false]
  unfold andM
  refine wpAny_bind (wpAny_bind (anySetD Ra.toD ?_))
  show wpAny _ _ (Builtin.Frozenset.isAnySet (.ref b)) _ _ _
  refine anySetD Rb.toD ?_
  refine wp_if_neg (by decide) ?_
  try refine wpAny_bind (wpAny_pure ?_)
  refine wpAny_bind (diffZ Ra Rb (by show X.A.units + 1 + 8 < cLine; omega) few fun h' L' es' ep' t' keep R' sub keys => ?_)
  have hn : H s.heap.objs.size = none := I.hok.fresh (Nat.le_refl _)
  have W : SetW0 X.prog X.w h' s.heap.objs.size L' := ⟨es', ep', t', R'.obj, R'.row, R'.tab.up, SetD.fits (s := { s with heap := h' }) R', R'.dif, R'.led⟩
  have I' : Inv X pins σ (upd H s.heap.objs.size (WSet X.prog X.w s.heap.objs.size L')) { s with heap := h' } := I.laid (t' := s.toks) keep (Nat.le_refl _) (W.laid _)
  exact wpAny_pure ⟨_, rfl, (by intro z; cases z), .ref _, _, I', rfl, q _ L' hn sub R'.dif keys⟩
/-- len of such a set -/
def rWLen (K : PySem.W.Frag) (P : Program) (w : World) : List V → Hp → VK → Prop := fun vs H Q => ∃ (a : Addr) (L : List (Addr × NK)), vs = [.ref a] ∧ H a = some (WSet P w a L) ∧ L.length < zBound ∧ Q (.int L.length) H
theorem cr_wlen : CallR X (.builtin "len") (rWLen X.K X.prog X.w) := by
  intro pins s σ H vs us Q I r h
  obtain ⟨a, L, rfl, ha, few, q⟩ := h
  rw [Vals.ref1 r]
  obtain ⟨es, ep, t, R⟩ := (show SetW0 X.prog X.w s.heap a L from (I.hok a _ ha).1)
  obtain ⟨o, ho, hex, hd⟩ := R.obj
  have sz := R.size
  have hz : zBound = 9000 := rfl
  refine call_len_set ho hex hd R.fits (by omega) ⟨.int L.length, H, I.tok _, ⟨_, by rw [sz]⟩, q⟩
end
section
variable {X : Cx}
end
end ZS
end
section
set_option maxHeartbeats 4000000
/-! RSetT: set of a tuple of keys; set of nothing -/
namespace ZS
open PySem PySem.Spec PyProof.Rows L2 PpSet
section
variable {P : Program} {w : World} {A : Around} {E : Value → Shared → Prop} {s : Shared}
/-- set(l), l a tuple: the loop over the new set is what the caller knows -/
theorem set_of_tup {l : Addr} {items : Array Value} {Rz : Shared → Prop} {Q : Value → Shared → Prop} (hl : s.heap.IsTuple l items)
    (loop : codeAny (model P w) A.in1.in1 (.builtin "set.update.loop" ⟨[.ref s.heap.objs.size, .ref (s.heap.push (setO0 w)).objs.size], []⟩) (fun r s' => r = .ok (.ret .none) ∧ Rz s')
      { s with heap := (s.heap.push (setO0 w)).push { cls := .type "tuple_iterator", data := .fields #[.ref l, .int 0 0] } })
    (h : ∀ s', Rz s' → Q (.ref s.heap.objs.size) s') : wpAny (model P w) A (call (.type "set") [.ref l]) Q E s := by
  obtain ⟨cl0, tl0, hmro⟩ := F.called_set.mro
  have hm1 := F.called_set.made
  have hs1 := F.called_set.sub
  refine wpAny_call (codeAny_of_tree ?_)
  show wpAny _ _ (callAny (.type "set") _) _ _ _
  refine wpAny_pure ⟨Code.quiet_builtin _ (by decide +kernel), codeAny_builtin F.entry_type_call ?_⟩
  rw [Around.under_plain (weight_type_call_type "set" [.ref l] []) rfl]
  have hn1 := F.called_set.notType
  have hn2 := F.called_set.canCreate
  have hn3 := F.typeCall_set_1 (.ref l)
  repeat (any_goals (first | assumption | wp_step))
  refine codeAny_mono (code_set_led1 (.ref l) (E := E) (Q₁ := fun z s₁ => z = .ref s.heap.objs.size ∧ s₁ = { s with heap := s.heap.push (setO0 w) }) ⟨rfl, rfl⟩) fun r s₁ hr => ?_
  match r, hr with
  | .error e, hr => exact hr
  | .ok (.ret z), hr =>
    obtain ⟨rfl, rfl⟩ := hr
    have hS : (s.heap.push (setO0 w)).get? s.heap.objs.size = some (setO0 w) := Heap.get?_push_size _ rfl
    have hT : Shared.TypeIs { s with heap := s.heap.push (setO0 w) } (.ref s.heap.objs.size) "set" := ⟨_, hS, rfl⟩
    have hi1 := F.called_set.init.lookup
    have hi2 := F.called_set.init.bind (.ref s.heap.objs.size)
    repeat (any_goals (first | assumption | wp_step))
    refine codeAny_mono (codeAny_call_builtin (R := wants (fun z s₂ => z = .none ∧ Rz s₂) E) F.called_set.init.plain F.entry_set_init (check_set_init_1 hT ?_)) fun r₂ s₂ hr₂ => ?_
    · obtain ⟨⟨ocls, odict, odata, oslots⟩, hol, hcl, nl, hdl⟩ := hl
      simp only at hcl hdl
      subst hcl
      subst hdl
      have hol' : (s.heap.push (setO0 w)).get? l = some { cls := .type "tuple", dict := odict, data := .seq items nl, slots := oslots } := Heap.get?_push_of_some _ hol
      have k1 := F.sub_tuple_set
      have k2 := F.sub_tuple_frozenset
      have k3 : (Value.type "tuple" == Value.type "dict") = false := by decide
      unfold Builtin.«set.__init__» noKeywords Builtin.Frozenset.updateFrom
      generalize hPI : pyIter = PI
      wp_walk
      subst hPI
      refine wpAny_pyIter_tuple ⟨_, hol', rfl, nl, rfl⟩ (wpAny_bind (wpAny_runValue (codeAny_mono loop fun r s' hr => ?_)))
      obtain ⟨rfl, hz⟩ := hr
      show wpAny _ _ _ _ _ _
      refine wpAny_pure ?_
      show wpAny _ _ (ret Value.none) _ _ _
      exact wpAny_pure ⟨rfl, hz⟩
    · match r₂, hr₂ with
      | .error e, hr₂ => exact hr₂
      | .ok (.ret z), hr₂ =>
        obtain ⟨rfl, hz⟩ := hr₂
        repeat (any_goals (first | assumption | wp_step))
        exact h _ hz
      | .ok .next, hr₂ => exact hr₂.elim
      | .ok .brk, hr₂ => exact hr₂.elim
      | .ok .cont, hr₂ => exact hr₂.elim
  | .ok .next, hr => exact hr.elim
  | .ok .brk, hr => exact hr.elim
  | .ok .cont, hr => exact hr.elim
end
section
variable {X : Cx} {pins : List (Addr × Obj)} {σ : L2.St} {H : Hp}
theorem zfillT {A : Around} {S it l : Addr} {ks : List (Addr × NK)} (hh : A.handled = none) (hu : A.units + 10 < cLine) (hl : SqT X.K H l (ks.map fun p => V.ref p.1)) (hk : ∀ p ∈ ks, ElK X.K H p.1 p.2) (few : ks.length + 1 < zBound)
    (hS : H S = none) (hf : FpOk X pins H it) (hne : it ≠ S) : ∀ (k i : Nat) (s : Shared) (L : List (Addr × NK)), ks.length - i = k → i ≤ ks.length → Inv X pins σ (upd H S (ZSet X.prog X.w S L)) s → s.heap.IsTupleIter it l i → Came ks i L →
      codeAny (model X.prog X.w) A (.builtin "set.update.loop" ⟨[.ref S, .ref it], []⟩) (fun r s2 => r = .ok (.ret .none) ∧ ∃ L', Inv X pins σ (upd H S (ZSet X.prog X.w S L')) s2 ∧ Came ks ks.length L') s := by
  obtain ⟨f0, f1, f2, f3, f4, f5⟩ := hf
  have up : ∀ L, Tup H (upd H S (ZSet X.prog X.w S L)) := fun L => Tup.new hS
  have f0' : ∀ L, upd H S (ZSet X.prog X.w S L) it = none := fun L => by rw [upd_ne hne]; exact f0
  have hl' : ∀ L, SqT X.K (upd H S (ZSet X.prog X.w S L)) l (ks.map fun p => V.ref p.1) := fun L => by
    rcases hl with (h | ⟨o, h⟩) | h
    · exact .inl (.inl (by rw [upd_ne (ne_of_none h hS)]; exact h))
    · exact .inl (.inr ⟨o, by rw [upd_ne (ne_of_none h hS)]; exact h⟩)
    · exact .inr h
  intro k
  induction k with
  | zero =>
    intro i s L hk' hi I hit g
    have ei : i = ks.length := by omega
    subst ei
    obtain ⟨its, rv, pl, hz⟩ := I.tuple (hl' L)
    have hlen := rv.length
    rw [List.length_map] at hlen
    refine codeAny_builtin F.entry_set_update_loop ?_
    rw [Around.under_plainId F.plain_set_update_loop _]
    show wpAny _ A.in1 (pyNext (.ref it) >>= _) _ _ s
    refine wpAny_bind (wpAny_pyNext_tuple_end hh hit pl (by simp; omega) fun h' eb => ?_)
    show wpAny _ A.in1 (ret Value.none) _ _ _
    exact wpAny_pure ⟨rfl, L, I.turned (t' := s.toks) (fun b o hb e => eb b o hb e) (f0' L) f1 f3 f4 f5, g⟩
  | succ k ih =>
    intro i s L hk' hi I hit g
    have hlt : i < ks.length := by omega
    obtain ⟨its, rv, pl, hz⟩ := I.tuple (hl' L)
    obtain ⟨u, hu', ru⟩ := rv.get (i := i) (x := .ref (ks[i]).1) (by rw [List.getElem?_map, List.getElem?_eq_getElem hlt]; rfl)
    obtain rfl : u = Value.ref (ks[i]).1 := ru
    have hx : ks[i]? = some ks[i] := List.getElem?_eq_getElem hlt
    generalize ks[i] = x at hu' hx
    have hxm : x ∈ ks := List.mem_of_getElem? hx
    refine codeAny_builtin F.entry_set_update_loop ?_
    rw [Around.under_plainId F.plain_set_update_loop _]
    show wpAny _ A.in1 (pyNext (.ref it) >>= _) _ _ s
    refine wpAny_bind (wpAny_pyNext_tuple_item hit pl (x := .ref x.1) (by simpa using hu') fun h' hit' sb => ?_)
    have I1 : Inv X pins σ (upd H S (ZSet X.prog X.w S L)) { s with heap := h' } := I.turned (t' := s.toks) (fun b o hb e => (sb.2 b hb).trans e) (f0' L) f1 f3 f4 f5
    show wpAny _ A.in1 (holding [Value.ref x.1] (setAdd S (.ref x.1)) >>= _) _ _ _
    obtain ⟨oi, hoi, _⟩ := id hit'
    have I1p : Inv X (pins ++ [(it, oi)]) σ (upd H S (ZSet X.prog X.w S L)) { s with heap := h' } := I1.pins_of fun p hp => by
      rcases List.mem_append.mp hp with z | z
      · exact I1.pin p (List.mem_append_right _ z)
      · rw [List.mem_singleton.mp z]
        refine ⟨hoi, f0' L, f1, f2, fun v q => ?_⟩
        obtain ⟨o', e', c', d'⟩ := id hit'
        rw [hoi] at e'
        cases e'
        rw [d'] at q
        cases q
    have hzb : L.length + 1 < zBound := by have := g.few; omega
    refine wpAny_bind (wpAny_holding (zset_add I1p (by show A.units + 1 + 8 < cLine; omega) upd_same (fun p hp => (up L).el (hk p (List.mem_of_mem_take (g.from_ p hp)))) ((up L).el (hk x hxm)) hzb fun r L' s' c1 c2 I2 => ?_))
    rw [upd_upd] at I2
    have hoi' := (I2.pin (it, oi) (List.mem_append_right _ (List.mem_append_right _ (List.mem_singleton.mpr rfl)))).1
    have hit2 : s'.heap.IsTupleIter it l (i + 1) := hit'.at fun o e => by rw [hoi] at e; cases e; exact hoi'
    exact wpAny_pure ⟨plainId_quiet F.plain_set_update_loop _, ih (i + 1) s' L' (by omega) hlt I2.unpinned hit2 (g.next hx c1 c2)⟩
/-- set(xs), xs a tuple of keys -/
def rZSetOfT (K : PySem.W.Frag) (P : Program) (w : World) : List V → Hp → VK → Prop := fun xs H Q => ∃ (l : Addr) (ks : List (Addr × NK)), xs = [V.ref l] ∧ SqT K H l (ks.map fun p => V.ref p.1) ∧ (∀ p ∈ ks, ElK K H p.1 p.2) ∧ ks.length + 1 < zBound ∧
  ∀ a L, H a = none → (∀ p ∈ L, p ∈ ks) → (∀ p ∈ ks, p.2 ∈ L.map (·.2)) → L.length ≤ ks.length → Q (.ref a) (upd H a (ZSet P w a L))
theorem cr_zsetOfT (hc : X.calm = true) (hu : X.A.units + 64 < cLine) : CallR X (.type "set") (rZSetOfT X.K X.prog X.w) := by
  intro pins s σ H xs us Q I r h
  obtain ⟨l, ks, rfl, hl, hk, few, q⟩ := h
  rw [Vals.ref1 r]
  obtain ⟨its, rv, pl, hz⟩ := I.tuple hl
  have hn : H s.heap.objs.size = none := I.hok.fresh (Nat.le_refl _)
  have k1 : ∀ b u, s.heap.get? b = some u → (s.heap.push (setO0 X.w)).get? b = some u := fun b u e => Heap.get?_push_of_some _ e
  have I1 : Inv X pins σ (upd H s.heap.objs.size (ZSet X.prog X.w s.heap.objs.size [])) { s with heap := s.heap.push (setO0 X.w) } :=
    I.laid (t' := s.toks) k1 (Nat.le_refl _) ((SetZ0.nil X.w (Heap.get?_push_size _ rfl)).laid _)
  have szS : (s.heap.push (setO0 X.w)).objs.size = s.heap.objs.size + 1 := Heap.size_push ..
  have nI : H (s.heap.push (setO0 X.w)).objs.size = none := I.hok.fresh (by rw [szS]; exact Nat.le_succ _)
  have fI : FpOk X pins H (s.heap.push (setO0 X.w)).objs.size := I.fpOk (by rw [szS]; exact Nat.le_succ _) nI
  have I2 := I1.kept (h' := (s.heap.push (setO0 X.w)).push { cls := .type "tuple_iterator", data := .fields #[.ref l, .int 0 0] }) (t' := s.toks) fun b u e => Heap.get?_push_of_some _ e
  refine set_of_tup pl (zfillT (pins := pins) (σ := σ) (H := H) (A := X.A.in1.in1) (ks := ks) (I.ok.hd hc) (by show X.A.units + 1 + 1 + 10 < cLine; omega) hl hk few hn fI (by rw [szS]; exact Nat.succ_ne_self _) ks.length 0 _ [] (Nat.sub_zero _) (Nat.zero_le _) I2 ⟨_, Heap.get?_push_size _ rfl, rfl, rfl⟩ (Came.none ks)) fun s' hz' => ?_
  obtain ⟨L', I', g⟩ := hz'
  refine ⟨.ref _, _, I', rfl, q _ L' hn (fun p hp => List.mem_of_mem_take (g.from_ p hp)) (fun p hp => g.in_ p (by rw [List.take_length]; exact hp)) g.few⟩
end
end ZS
end
section
set_option maxHeartbeats 4000000
/-! N5: covers -/
namespace NS
open PySem PySem.Spec PyProof.Rows L2 ZS
theorem scBoth : FnScope ["house", "part"] ["house", "part"] (defScope sBoth) := ⟨rfl, rfl, rfl, by decide +kernel, rfl, by decide +kernel, by decide +kernel⟩
theorem scLies : FnScope ["inner", "whole"] ["inner", "whole"] (defScope sLies) := ⟨rfl, rfl, rfl, by decide +kernel, rfl, by decide +kernel, by decide +kernel⟩
theorem scPartG : FnScope ["house", "part", "whole", "inner"] ["house", "part"] (defScope sPartG) := ⟨rfl, rfl, rfl, by decide +kernel, rfl, by decide +kernel, by decide +kernel⟩
theorem pr_refs {K : PySem.W.Frag} {H : Hp} : ∀ {vs : List V} {M : List (List Int)}, Paired (ElT K H) vs M → ∃ ks : List (Addr × List Int), vs = ks.map (fun p => V.ref p.1) ∧ ks.map (·.2) = M ∧ ∀ p ∈ ks, ElT K H (.ref p.1) p.2
  | _, _, .nil => ⟨[], rfl, rfl, fun p h => by cases h⟩
  | _, _, .cons (a := v) (b := m) p t => by
    obtain ⟨ks, e1, e2, h⟩ := pr_refs t
    obtain ⟨b, e, hb⟩ := id p.1
    refine ⟨(b, m) :: ks, by rw [e1, e]; rfl, by rw [← e2]; rfl, fun q hq => ?_⟩
    rcases List.mem_cons.mp hq with z | z
    · rw [z, ← e]; exact p
    · exact h q z
theorem Kp.with {H H' : Hp} (z : Kp H H') {p : Addr} {o : HO} (h : H' p = some o) (n : ∀ ps, o ≠ .tbl ps) : Kp (upd H p o) H' := by
  refine ⟨fun b u e q => ?_, fun b ps e => ?_⟩
  · by_cases c : b = p
    · rw [c, upd_same] at e
      rw [c, h, e]
    · rw [upd_ne c] at e
      exact z.k b u e q
  · by_cases c : b = p
    · rw [c, upd_same] at e
      exact absurd (Option.some.inj e) (n ps)
    · rw [upd_ne c] at e
      exact z.t b ps e
def spBoth (K : PySem.W.Frag) (pT pA : Addr) : Sp := fun vs H Q _ => ∃ (v u : V) (n : Nat) (ts U us U' : List (List Int)), vs = [v, u] ∧ HW K pT pA H v n ts U ∧ HW K pT pA H u n us U' ∧
  ∀ p rl rm H' L M, Kp H H' → SqT K H' p [rl, rm] → TupEl H' (ElT K H') rl L → TupEl H' (ElT K H') rm M → Asc ltT (Grp n ts) L → Asc ltT (Grp n us) M → Q (.ref p) H'
def spLies (K : PySem.W.Frag) : Sp := fun vs H Q _ => ∃ (x y : V) (M L : List (List Int)), vs = [x, y] ∧ TupEl H (ElT K H) x M ∧ TupEl H (ElT K H) y L ∧ M.length ≤ 4000 ∧ L.length ≤ 4000 ∧ ∀ H', Kp H H' → Q (.bl (M.all fun m => decide (m ∈ L))) H'
section
variable {P : Program} {w : World} {K : PySem.W.Frag} {mg : Str → Option Value} {base : Heap} {f : Addr} {fd : FuncData} {pT pA C : Addr} {S : Addr → Option Sp}
theorem has_both (F : FnP K "both_groups" sBoth f fd) (m : mg "both_groups" = some (.ref f)) (hC : Has P w K mg base "check_house" 7 [] (spHouse K pT pA)) (hM : Has P w K mg base "members" 8 [] (spMembers K pT pA)) : Has P w K mg base "both_groups" 9 [] (spBoth K pT pA) := by
  refine ⟨f, fd, ["house", "part"], [], m, F.kp, F.bindsN (fun _ _ _ _ _ _ us hl => match us, hl with | [_, _], _ => rfl), .nil, ?_⟩
  refine F.ok scBoth (fun vs H Q E h => ?_) (fun cdv A outer s H vs Q E hr h => ⟨_, PSs.nox (
    pss_cons (ps_expr (pe_has hC hr (by decide) (pa_cons (pv 0) pa_nil)))
    (pss_cons (ps_expr (pe_has hC hr (by decide) (pa_cons (pv 1) pa_nil)))
    (pss_cons (ps_if (pt_cmpR op_ne (pe_ix (r := rIxT K) ix_tup (pv 0) pe_int (fun _ _ => rfl)) (pe_ix (r := rIxT K) ix_tup (pv 1) pe_int (fun _ _ => rfl)) (nomark _)) (pss_one ps_never) pss_nil)
    (pss_one (ps_ret (pe_tupP (pa_cons (pe_has hM hr (by decide) (pa_cons (pv 0) pa_nil)) (pa_cons (pe_has hM hr (by decide) (pa_cons (pv 1) pa_nil)) pa_nil)))))))), ?_⟩)
  · obtain ⟨v, u, n, ts, U, us, U', rfl, _⟩ := h
    rfl
  · obtain ⟨v, u, n, ts, U, us, U', rfl, hw, hw', q⟩ := h
    refine ⟨_, rfl, v, n, ts, rfl, hw.1, hw.2.1, hw.2.2.1, hw.2.2.2.1, fun H1 z1 => ?_⟩
    have hw1 := hw'.kp z1
    refine ⟨_, rfl, u, n, us, rfl, hw1.1, hw1.2.1, hw1.2.2.1, hw1.2.2.2.1, fun H2 z2 => ?_⟩
    have z12 := z1.trans z2
    obtain ⟨a, tv, ev, hT, hp⟩ := z12.house hw.1
    obtain ⟨b, uv, eu, hS, hq⟩ := z12.house hw'.1
    subst ev
    subst eu
    refine ⟨_, rfl, a, _, 0, _, rfl, rfl, hT, rfl, _, rfl, b, _, 0, _, rfl, rfl, hS, rfl, rfl, _, rfl, ifF (A := _) (B := _) (by simp) ?_⟩
    obtain ⟨hv, hi, gT, gA, rm⟩ := hw.kp z12
    refine ⟨_, rfl, _, n, ts, U, rfl, hv, hi, gT, gA, rm, fun r H3 L z3 pt as => ?_⟩
    obtain ⟨hv', hi', gT', gA', rm'⟩ := (hw'.kp z12).kp z3
    refine ⟨_, rfl, _, n, us, U', rfl, hv', hi', gT', gA', rm', fun r' H4 M z4 pt' as' => ?_⟩
    refine ⟨by rw [sizeLine_eq]; show 2 ≤ 16777216; decide, fun p o hp4 ho => ?_⟩
    have z5 := (Kp.refl H4).new hp4 (o := .frz o (.tup [r, r']))
    refine q p r r' _ L M (((z12.trans z3).trans z4).trans z5) (.inl (.inr ⟨o, upd_same⟩)) ?_ ?_ as as'
    · obtain ⟨p1, o1, v1, e1, h1, d1, pr1⟩ := pt
      exact ⟨p1, o1, v1, e1, (z4.trans z5).k _ _ h1 (fun _ q => by cases q), d1, pr1.mono fun _ _ q => q.tup (z4.trans z5).tup⟩
    · obtain ⟨p1, o1, v1, e1, h1, d1, pr1⟩ := pt'
      exact ⟨p1, o1, v1, e1, z5.k _ _ h1 (fun _ q => by cases q), d1, pr1.mono fun _ _ q => q.tup z5.tup⟩
theorem has_lies (F : FnP K "lies_within" sLies f fd) (m : mg "lies_within" = some (.ref f)) (B : Bl mg) : Has P w K mg base "lies_within" 1 [] (spLies K) := by
  refine ⟨f, fd, ["inner", "whole"], [], m, F.kp, F.bindsN (fun _ _ _ _ _ _ us hl => match us, hl with | [_, _], _ => rfl), .nil, ?_⟩
  refine F.ok scLies (fun vs H Q E h => ?_) (fun cdv A outer s H vs Q E hr h => ⟨_, PSs.nox (
    pss_one (ps_ret (pe_cmpR op_eq (pe_callB cr_wlen rfl B.len PySem.boot_len (pa_cons (pe_op (op_zsub hr.units) (pe_callTy (cr_zsetOfT rfl hr.units) rfl B.set PyProof.Rows.boot_set (pa_cons (pv 0) pa_nil)) (pe_callTy (cr_zsetOfT rfl hr.units) rfl B.set PyProof.Rows.boot_set (pa_cons (pv 1) pa_nil))) pa_nil)) pe_int (nomark _)))), ?_⟩)
  · obtain ⟨x, y, M, L, rfl, _⟩ := h
    rfl
  · obtain ⟨x, y, M, L, rfl, ⟨px, ox, vx, rfl, hx, dx, prx⟩, ⟨py, oy, vy, rfl, hy, dy, pry⟩, lM, lL, q⟩ := h
    obtain ⟨kx, rfl, e2, hkx⟩ := pr_refs prx
    obtain ⟨ky, rfl, e4, hky⟩ := pr_refs pry
    have lkx : kx.length = M.length := by rw [← e2, List.length_map]
    have lky : ky.length = L.length := by rw [← e4, List.length_map]
    have zb : zBound = 9000 := rfl
    refine ⟨_, rfl, px, keys kx, rfl, ?_, keys_el hkx, by rw [List.length_map]; omega, fun a A0 ha sa ca la => ?_⟩
    · have : (keys kx).map (fun p => V.ref p.1) = kx.map (fun p => V.ref p.1) := by unfold keys; rw [List.map_map]; rfl
      rw [this]
      exact .inl (.inr ⟨ox, hx⟩)
    have z1 : Kp H (upd H a (ZSet P w a A0)) := (Kp.refl H).new ha
    refine ⟨_, rfl, py, keys ky, rfl, ?_, keys_el fun p hp => (hky p hp).tup z1.tup, by rw [List.length_map]; omega, fun b B0 hb sb cb lb => ?_⟩
    · have : (keys ky).map (fun p => V.ref p.1) = ky.map (fun p => V.ref p.1) := by unfold keys; rw [List.map_map]; rfl
      rw [this]
      exact z1.sqT (.inl (.inr ⟨oy, hy⟩))
    have z2 : Kp (upd H a (ZSet P w a A0)) (upd (upd H a (ZSet P w a A0)) b (ZSet P w b B0)) := (Kp.refl _).new hb
    have nab : a ≠ b := fun e => by rw [← e, upd_same] at hb; cases hb
    rw [List.length_map] at la lb
    refine ⟨a, b, A0, B0, rfl, rfl, by rw [upd_ne nab]; exact upd_same, upd_same, fun p hp => (z1.trans z2).tup.el (keys_el hkx p (sa p hp)), fun p hp => (z1.trans z2).tup.el (keys_el hky p (sb p hp)), by omega, fun r L' hr' sub nd ks => ?_⟩
    refine ⟨r, L', rfl, upd_same, ?_, rfl, ?_⟩
    · have n1 := nodup_le (L'.map (·.2)) (A0.map (·.2)) nd fun k hk => ((ks k).mp hk).1
      rw [List.length_map, List.length_map] at n1
      omega
    · have z3 := (z1.trans z2).new hr' (o := WSet P w r L')
      have e : decide (V.int (L'.length : Int) = V.int 0) = M.all fun m => decide (m ∈ L) := by
        rw [Bool.eq_iff_iff, decide_eq_true_iff, List.all_eq_true]
        have h0 : V.int (L'.length : Int) = V.int 0 ↔ L' = [] := ⟨fun e => by injection e with e; exact List.length_eq_zero_iff.mp (by omega), fun e => by rw [e]; rfl⟩
        rw [h0]
        have inA : ∀ m, tk m ∈ A0.map (·.2) ↔ m ∈ M := fun m => by
          rw [← e2, ← tk_mem, ← keys_snd]
          exact ⟨fun h => (by obtain ⟨p, hp, e⟩ := List.mem_map.mp h; exact List.mem_map.mpr ⟨p, sa p hp, e⟩), fun h => (by obtain ⟨p, hp, e⟩ := List.mem_map.mp h; rw [← e]; exact ca p hp)⟩
        have inB : ∀ m, tk m ∈ B0.map (·.2) ↔ m ∈ L := fun m => by
          rw [← e4, ← tk_mem, ← keys_snd]
          exact ⟨fun h => (by obtain ⟨p, hp, e⟩ := List.mem_map.mp h; exact List.mem_map.mpr ⟨p, sb p hp, e⟩), fun h => (by obtain ⟨p, hp, e⟩ := List.mem_map.mp h; rw [← e]; exact cb p hp)⟩
        constructor
        · intro e0 m hm
          refine decide_eq_true (Classical.byContradiction fun hn => ?_)
          have := (ks (tk m)).mpr ⟨(inA m).mpr hm, fun h => hn ((inB m).mp h)⟩
          rw [e0] at this
          cases this
        · intro h
          cases hL : L' with
          | nil => rfl
          | cons p r0 =>
            exfalso
            have hp : p ∈ L' := by rw [hL]; exact List.mem_cons_self
            obtain ⟨h1, h2⟩ := (ks p.2).mp (List.mem_map.mpr ⟨p, hp, rfl⟩)
            obtain ⟨p2, hp2, ep⟩ := List.mem_map.mp (sa p (sub p hp))
            have : p.2 = tk p2.2 := by rw [← ep]
            rw [this] at h1 h2
            exact h2 ((inB _).mpr (of_decide_eq_true (h _ ((inA _).mp h1))))
      show Q (.bl (decide (V.int (L'.length : Int) = V.int 0))) _
      rw [e]
      exact q _ z3
end
end NS
end
section
set_option maxHeartbeats 4000000
/-! N6: covers, asked of houses -/
namespace NS
open PySem PySem.Spec PyProof.Rows L2 ZS
theorem scUncT : FnScope ["house", "part", "whole", "inner"] ["house", "part"] (defScope sUncT) := ⟨rfl, rfl, rfl, by decide +kernel, rfl, by decide +kernel, by decide +kernel⟩
theorem scWithin : FnScope ["house", "part", "whole", "inner"] ["house", "part"] (defScope sWithin) := ⟨rfl, rfl, rfl, by decide +kernel, rfl, by decide +kernel, by decide +kernel⟩
theorem scCountC : FnScope ["house", "part", "inner"] ["house", "part"] (defScope sCountC) := ⟨rfl, rfl, rfl, by decide +kernel, rfl, by decide +kernel, by decide +kernel⟩
theorem scUnc : FnScope ["house", "part", "found"] ["house", "part"] (defScope sUnc) := ⟨rfl, rfl, rfl, by decide +kernel, rfl, by decide +kernel, by decide +kernel⟩
theorem scShowsU : FnScope ["house", "part", "value", "found"] ["house", "part", "value"] (defScope sShowsU) := ⟨rfl, rfl, rfl, by decide +kernel, rfl, by decide +kernel, by decide +kernel⟩
/-- a value that is no turn of n halls by its kind or its length -/
def OddV (K : PySem.W.Frag) (H : Hp) (n : Nat) (x : V) : Prop := (∃ T : String, (∀ H', Kp H H' → TyX K H' x (.type T)) ∧ kitB T "tuple" = some false) ∨ ∃ a ys, x = .ref a ∧ SqT K H a ys ∧ ys.length ≠ n
/-- all of a part is of the house -/
abbrev Sub (M L : List (List Int)) : Prop := ∀ m ∈ M, m ∈ L
def spPartG (K : PySem.W.Frag) (pT pA C : Addr) : Sp := fun vs H Q E => ∃ (v u : V) (n : Nat) (ts U us U' : List (List Int)), vs = [v, u] ∧ HW K pT pA H v n ts U ∧ HW K pT pA H u n us U' ∧
  (∀ p rl rm H' L M, Kp H H' → SqT K H' p [rl, rm] → TupEl H' (ElT K H') rl L → TupEl H' (ElT K H') rm M → Asc ltT (Grp n ts) L → Asc ltT (Grp n us) M → Sub M L → Q (.ref p) H') ∧ (∀ H' L M, Kp H H' → Asc ltT (Grp n ts) L → Asc ltT (Grp n us) M → ¬ Sub M L → E (.ref C) none H')
/-- the turns without a like in M -/
structure UncL (ts L M D : List (List Int)) : Prop where
  pw : D.Pairwise ltT
  nd : D.Nodup
  mem : ∀ a, a ∈ D ↔ a ∈ L ∧ ¬ ∃ m ∈ M, Rch likeS ts m a
def spWithin (K : PySem.W.Frag) (pT pA : Addr) : Sp := fun vs H Q _ => ∃ (v u : V) (n : Nat) (ts U us U' : List (List Int)), vs = [v, u] ∧ HW K pT pA H v n ts U ∧ HW K pT pA H u n us U' ∧
  ∀ H' L M, Kp H H' → Asc ltT (Grp n ts) L → Asc ltT (Grp n us) M → Q (.bl (M.all fun m => decide (m ∈ L))) H'
section
variable {P : Program} {w : World} {K : PySem.W.Frag} {mg : Str → Option Value} {base : Heap} {f : Addr} {fd : FuncData} {pT pA C : Addr} {S : Addr → Option Sp}
theorem has_partG (F : FnP K "part_groups" sPartG f fd) (m : mg "part_groups" = some (.ref f)) (T : ExcC K mg "NotWithin" C) (hB : Has P w K mg base "both_groups" 9 [] (spBoth K pT pA)) (hL : Has P w K mg base "lies_within" 1 [] (spLies K)) : HasX P w K mg base "part_groups" 10 (spPartG K pT pA C) := by
  refine ⟨f, fd, ["house", "part"], m, F.kp, F.bindsN (fun _ _ _ _ _ _ us hl => match us, hl with | [_, _], _ => rfl), ?_⟩
  refine F.ok scPartG (fun vs H Q E h => ?_) (fun cdv A outer s H vs Q E hr h => ⟨_,
    pss_cons (ps_asg (pe_has hB hr (by decide) (pa_cons (pv 0) (pa_cons (pv 1) pa_nil))) (pg_tup rfl (pgs_cons (pg_name (i := 2) scPartG.nd rfl (Or.inl rfl)) (pgs_cons (pg_name (i := 3) scPartG.nd rfl (Or.inl rfl)) pgs_nil))))
    (pss_cons (ps_if (pt_not (pt_val (pe_has hL hr (by decide) (pa_cons (pv 3) (pa_cons (pv 2) pa_nil))))) (pss_one (ps_raise0 T (takes_of rfl rfl rfl rfl))) pss_nil)
    (PSs.nox (pss_one (ps_ret (pe_tupP (pa_cons (pv 2) (pa_cons (pv 3) pa_nil))))))), ?_⟩)
  · obtain ⟨v, u, n, ts, U, us, U', rfl, _⟩ := h
    rfl
  · obtain ⟨v, u, n, ts, U, us, U', rfl, hw, hw', q, qe⟩ := h
    refine ⟨_, rfl, _, rfl, v, u, n, ts, U, us, U', rfl, hw, hw', fun p rl rm H1 L M z1 sp1 tl tm aL aM => ?_⟩
    refine ⟨p, _, rfl, sp1, rfl, _, _, rfl, _, _, rfl, rfl, ?_⟩
    have lL := asc_few hw.2.2.2.2 aL
    have lM := asc_few hw'.2.2.2.2 aM
    refine ⟨_, rfl, _, rfl, rm, rl, M, L, rfl, tm, tl, lM, lL, fun H2 z2 => ⟨_, rfl, ?_⟩⟩
    have up : ∀ {H3 H4 : Hp}, Kp H3 H4 → ∀ {r : V} {R : List (List Int)}, TupEl H3 (ElT K H3) r R → TupEl H4 (ElT K H4) r R := fun z r R ⟨p1, o1, v1, e1, h1, d1, pr1⟩ => ⟨p1, o1, v1, e1, z.k _ _ h1 (fun _ q => by cases q), d1, pr1.mono fun _ _ q => q.tup z.tup⟩
    by_cases e : Sub M L
    · have e1 : (M.all fun m => decide (m ∈ L)) = true := List.all_eq_true.mpr fun m hm => decide_eq_true (e m hm)
      refine ifF (A := _) (B := _) (by rw [e1]; rfl) ?_
      refine ⟨_, rfl, _, rfl, by rw [sizeLine_eq]; show 2 ≤ 16777216; decide, fun p2 o2 hp2 ho2 => ?_⟩
      have z3 := (Kp.refl H2).new hp2 (o := .frz o2 (.tup [rl, rm]))
      exact q p2 rl rm _ L M ((z1.trans z2).trans z3) (.inl (.inr ⟨o2, upd_same⟩)) (up (z2.trans z3) tl) (up (z2.trans z3) tm) aL aM e
    · have e1 : (M.all fun m => decide (m ∈ L)) = false := by
        cases h : (M.all fun m => decide (m ∈ L)) with
        | false => rfl
        | true => exact absurd (fun m hm => of_decide_eq_true (List.all_eq_true.mp h m hm)) e
      exact ifT (A := _) (B := _) (by rw [e1]; rfl) (qe _ L M (z1.trans z2) aL aM e)
theorem has_within (F : FnP K "is_within" sWithin f fd) (m : mg "is_within" = some (.ref f)) (hB : Has P w K mg base "both_groups" 9 [] (spBoth K pT pA)) (hL : Has P w K mg base "lies_within" 1 [] (spLies K)) : Has P w K mg base "is_within" 10 [] (spWithin K pT pA) := by
  refine ⟨f, fd, ["house", "part"], [], m, F.kp, F.bindsN (fun _ _ _ _ _ _ us hl => match us, hl with | [_, _], _ => rfl), .nil, ?_⟩
  refine F.ok scWithin (fun vs H Q E h => ?_) (fun cdv A outer s H vs Q E hr h => ⟨_, PSs.nox (
    pss_cons (ps_asg (pe_has hB hr (by decide) (pa_cons (pv 0) (pa_cons (pv 1) pa_nil))) (pg_tup rfl (pgs_cons (pg_name (i := 2) scWithin.nd rfl (Or.inl rfl)) (pgs_cons (pg_name (i := 3) scWithin.nd rfl (Or.inl rfl)) pgs_nil))))
    (pss_one (ps_ret (pe_has hL hr (by decide) (pa_cons (pv 3) (pa_cons (pv 2) pa_nil)))))), ?_⟩)
  · obtain ⟨v, u, n, ts, U, us, U', rfl, _⟩ := h
    rfl
  · obtain ⟨v, u, n, ts, U, us, U', rfl, hw, hw', q⟩ := h
    refine ⟨_, rfl, _, rfl, v, u, n, ts, U, us, U', rfl, hw, hw', fun p rl rm H1 L M z1 sp1 tl tm aL aM => ?_⟩
    refine ⟨p, _, rfl, sp1, rfl, _, _, rfl, _, _, rfl, rfl, ?_⟩
    exact ⟨_, rfl, _, rfl, rm, rl, M, L, rfl, tm, tl, asc_few hw'.2.2.2.2 aM, asc_few hw.2.2.2.2 aL, fun H2 z2 => q H2 L M (z1.trans z2) aL aM⟩
end
end NS
end
section
set_option maxHeartbeats 4000000
/-! N7: covers: counted, shown -/
namespace NS
open PySem PySem.Spec PyProof.Rows L2 ZS
theorem TupEl.kp {K : PySem.W.Frag} {H H' : Hp} (z : Kp H H') {r : V} {R : List (List Int)} (h : TupEl H (ElT K H) r R) : TupEl H' (ElT K H') r R := by
  obtain ⟨p1, o1, v1, e1, h1, d1, pr1⟩ := h
  exact ⟨p1, o1, v1, e1, z.k _ _ h1 (fun _ q => by cases q), d1, pr1.mono fun _ _ q => q.tup z.tup⟩
section
variable {P : Program} {w : World} {K : PySem.W.Frag} {mg : Str → Option Value} {base : Heap} {f : Addr} {fd : FuncData} {pT pA C : Addr} {S : Addr → Option Sp}
end
end NS
end
section
set_option maxHeartbeats 4000000
/-! N8: shows_uncovered -/
namespace NS
open PySem PySem.Spec PyProof.Rows L2 ZS
theorem OddV.kp {K : PySem.W.Frag} {H H' : Hp} (z : Kp H H') {n : Nat} {x : V} (h : OddV K H n x) : OddV K H' n x := by
  rcases h with ⟨T, h, k⟩ | ⟨a, ys, e, h, l⟩
  · exact .inl ⟨T, fun H2 z2 => h H2 (z.trans z2), k⟩
  · exact .inr ⟨a, ys, e, z.sqT h, l⟩
section
variable {P : Program} {w : World} {K : PySem.W.Frag} {mg : Str → Option Value} {base : Heap} {f : Addr} {fd : FuncData}
end
section
variable {P : Program} {w : World} {K : PySem.W.Frag} {mg : Str → Option Value} {base : Heap} {f : Addr} {fd : FuncData} {pT pA C : Addr} {S : Addr → Option Sp}
end
end NS
end
section
set_option maxHeartbeats 4000000
/-! N11: the checks of any value -/
namespace NS
open PySem PySem.Spec PyProof.Rows L2 ZS
theorem ddp : ∀ t : List Int, ∃ D : List Int, D.Nodup ∧ (∀ k, k ∈ D ↔ k ∈ t) ∧ D.length ≤ t.length ∧ (D.length = t.length ↔ t.Nodup)
  | [] => ⟨[], .nil, fun _ => Iff.rfl, Nat.le_refl _, ⟨fun _ => .nil, fun _ => rfl⟩⟩
  | x :: t => by
    obtain ⟨D, nd, mem, le, iff⟩ := ddp t
    by_cases hx : x ∈ D
    · refine ⟨D, nd, fun k => ?_, by rw [List.length_cons]; omega, ⟨fun e => ?_, fun e => ?_⟩⟩
      · rw [mem, List.mem_cons]
        exact ⟨.inr, fun h => h.elim (fun e => by rw [e]; exact (mem x).mp hx) id⟩
      · rw [List.length_cons] at e
        omega
      · exact absurd ((mem x).mp hx) (List.nodup_cons.mp e).1
    · refine ⟨x :: D, List.nodup_cons.mpr ⟨hx, nd⟩, fun k => ?_, by simp only [List.length_cons]; omega, ?_⟩
      · rw [List.mem_cons, List.mem_cons, mem]
      · rw [List.nodup_cons, ← iff]
        simp only [List.length_cons]
        exact ⟨fun e => ⟨fun h => hx ((mem x).mpr h), by omega⟩, fun ⟨_, e⟩ => by omega⟩
/-- x isn't of this class, whatever comes -/
def NotTy (K : PySem.W.Frag) (H : Hp) (x : V) (T : String) : Prop := ∃ t : String, (∀ H', Kp H H' → TyX K H' x (.type t)) ∧ kitB t T = some false
theorem NotTy.kp {K : PySem.W.Frag} {H H' : Hp} (z : Kp H H') {x : V} {T : String} (h : NotTy K H x T) : NotTy K H' x T := let ⟨t, h, k⟩ := h; ⟨t, fun H2 z2 => h H2 (z.trans z2), k⟩
/-- whether x is a number from lo to hi -/
def NumX (K : PySem.W.Frag) (H : Hp) (lo hi : Int) (x : V) (b : Bool) : Prop := (∃ i : Int, x = .int i ∧ b = decide (lo ≤ i ∧ i ≤ hi)) ∨ ((∃ c, x = .bl c) ∨ NotTy K H x "int") ∧ b = false
theorem NumX.kp {K : PySem.W.Frag} {H H' : Hp} (z : Kp H H') {lo hi : Int} {x : V} {b : Bool} (h : NumX K H lo hi x b) : NumX K H' lo hi x b :=
  h.elim .inl fun h => .inr ⟨h.1.elim .inl fun q => .inr (q.kp z), h.2⟩
/-- whether x is a turn of n halls -/
def TurnX (K : PySem.W.Frag) (H : Hp) (n : Nat) (x : V) (b : Bool) : Prop :=
  (NotTy K H x "tuple" ∧ b = false) ∨ (∃ a xs, x = .ref a ∧ SqT K H a xs ∧ xs.length ≠ n ∧ b = false) ∨
  (∃ a xs bs, x = .ref a ∧ SqT K H a xs ∧ xs.length = n ∧ Paired (NumX K H 0 ((n : Int) - 1)) xs bs ∧ false ∈ bs ∧ b = false) ∨
  (∃ (a : Addr) (t : List Int), x = .ref a ∧ SqT K H a (t.map V.int) ∧ t.length = n ∧ n ≤ 1000 ∧ (∀ k ∈ t, 0 ≤ k ∧ k < (n : Int)) ∧ b = decide t.Nodup)
theorem TurnX.kp {K : PySem.W.Frag} {H H' : Hp} (z : Kp H H') {n : Nat} {x : V} {b : Bool} (h : TurnX K H n x b) : TurnX K H' n x b := by
  rcases h with ⟨h, e⟩ | ⟨a, xs, e, h, l⟩ | ⟨a, xs, bs, e, h, l, p, q⟩ | ⟨a, t, e, h, q⟩
  · exact .inl ⟨h.kp z, e⟩
  · exact .inr (.inl ⟨a, xs, e, z.sqT h, l⟩)
  · exact .inr (.inr (.inl ⟨a, xs, bs, e, z.sqT h, l, p.mono fun _ _ q => q.kp z, q⟩))
  · exact .inr (.inr (.inr ⟨a, t, e, z.sqT h, q⟩))
/-- whether x is some turns of n halls -/
def TurnsX (K : PySem.W.Frag) (H : Hp) (n : Nat) (x : V) (b : Bool) : Prop :=
  (NotTy K H x "tuple" ∧ b = false) ∨ (∃ a xs, x = .ref a ∧ SqT K H a xs ∧ (xs.length = 0 ∨ 6 < xs.length) ∧ b = false) ∨
  (∃ a xs bs, x = .ref a ∧ SqT K H a xs ∧ 1 ≤ xs.length ∧ xs.length ≤ 6 ∧ Paired (TurnX K H n) xs bs ∧ b = bs.all id)
theorem TurnsX.kp {K : PySem.W.Frag} {H H' : Hp} (z : Kp H H') {n : Nat} {x : V} {b : Bool} (h : TurnsX K H n x b) : TurnsX K H' n x b := by
  rcases h with ⟨h, e⟩ | ⟨a, xs, e, h, l⟩ | ⟨a, xs, bs, e, h, l, l', p, q⟩
  · exact .inl ⟨h.kp z, e⟩
  · exact .inr (.inl ⟨a, xs, e, z.sqT h, l⟩)
  · exact .inr (.inr ⟨a, xs, bs, e, z.sqT h, l, l', p.mono fun _ _ q => q.kp z, q⟩)
/-- what is wrong with x as a house -/
def FaultX (K : PySem.W.Frag) (H : Hp) (x r : V) : Prop :=
  (NotTy K H x "tuple" ∧ r = .str "whole") ∨ (∃ a xs, x = .ref a ∧ SqT K H a xs ∧ xs.length ≠ 2 ∧ r = .str "whole") ∨
  (∃ a y tv, x = .ref a ∧ SqT K H a [y, tv] ∧ NumX K H 1 8 y false ∧ r = .str "halls") ∨
  (∃ (a : Addr) (n : Nat) (tv : V) (b : Bool), x = .ref a ∧ SqT K H a [.int n, tv] ∧ 1 ≤ n ∧ n ≤ 8 ∧ TurnsX K H n tv b ∧ r = if b then .non else .str "turns")
theorem FaultX.kp {K : PySem.W.Frag} {H H' : Hp} (z : Kp H H') {x r : V} (h : FaultX K H x r) : FaultX K H' x r := by
  rcases h with ⟨h, e⟩ | ⟨a, xs, e, h, l⟩ | ⟨a, y, tv, e, h, l, q⟩ | ⟨a, n, tv, b, e, h, n1, n8, q, er⟩
  · exact .inl ⟨h.kp z, e⟩
  · exact .inr (.inl ⟨a, xs, e, z.sqT h, l⟩)
  · exact .inr (.inr (.inl ⟨a, y, tv, e, z.sqT h, l.kp z, q⟩))
  · exact .inr (.inr (.inr ⟨a, n, tv, b, e, z.sqT h, n1, n8, q.kp z, er⟩))
def spNumX (K : PySem.W.Frag) : Sp := fun vs H Q _ => ∃ (x : V) (lo hi : Int) (b : Bool), vs = [x, .int lo, .int hi] ∧ NumX K H lo hi x b ∧ Q (.bl b) H
def spTurnX (K : PySem.W.Frag) (P : Addr) : Sp := fun vs H Q _ => ∃ (n : Nat) (x : V) (b : Bool), vs = [.int n, x] ∧ TurnX K H n x b ∧ GxR.TabG H P ∧ ∀ H', Kp H H' → Q (.bl b) H'
def spTurnsX (K : PySem.W.Frag) (P P2 : Addr) : Sp := fun vs H Q _ => ∃ (n : Nat) (x : V) (b : Bool), vs = [.int n, x] ∧ TurnsX K H n x b ∧ GxR.TabG H P ∧ GxR.TabG H P2 ∧ ∀ H', Kp H H' → Q (.bl b) H'
def spFaultX (K : PySem.W.Frag) (P P2 : Addr) : Sp := fun vs H Q _ => ∃ x r : V, vs = [x] ∧ FaultX K H x r ∧ GxR.TabG H P ∧ GxR.TabG H P2 ∧ ∀ H', Kp H H' → Q r H'
section
variable {P : Program} {w : World} {K : PySem.W.Frag} {mg : Str → Option Value} {base : Heap} {f : Addr} {fd : FuncData}
theorem has_numX (F : FnP K "is_number" sNumber f fd) (m : mg "is_number" = some (.ref f)) (B : Bl mg) : Has P w K mg base "is_number" 1 [] (spNumX K) := by
  refine ⟨f, fd, ["value", "least", "most"], [], m, F.kp, F.bindsN (fun _ _ _ _ _ _ us hl => match us, hl with | [_, _, _], _ => rfl), .nil, ?_⟩
  refine F.ok scNumber (fun vs H Q E h => ?_) (fun cdv A outer s H vs Q E hr h => ⟨_, PSs.nox (pss_one (ps_ret
    (pe_and (pe_callB call_isi rfl B.isinstance PyProof.Rows.boot_isinstance (pa_cons (pv 0) (pa_cons (pe_bltn (v := .ty "int") rfl B.int PyProof.Rows.boot_int rfl) pa_nil)))
    (pe_and (pe_not (pe_callB call_isi rfl B.isinstance PyProof.Rows.boot_isinstance (pa_cons (pv 0) (pa_cons (pe_bltn (v := .ty "bool") rfl B.bool PyProof.Rows.boot_bool rfl) pa_nil))))
    (pe_one (pe_chain op_le op_le (pv 1) (pv 0) (pv 2))))))), ?_⟩)
  · obtain ⟨x, lo, hi, b, rfl, _⟩ := h
    rfl
  · obtain ⟨x, lo, hi, b, rfl, ⟨i, rfl, rfl⟩ | ⟨⟨c, rfl⟩ | ⟨t, ty, k⟩, rfl⟩, q⟩ := h
    · refine ⟨_, rfl, _, _, _, _, true, rfl, .ty "int", .base (.int i), kit_ty (by decide +kernel), _, rfl, ?_⟩
      refine iteT (B := _) ⟨_, rfl, _, _, _, _, false, rfl, .ty "bool", .base (.int i), kit_ty (by decide +kernel), _, rfl, _, rfl, ?_⟩
      refine iteT (B := _) ⟨_, rfl, _, rfl, _, _, rfl, rfl, _, rfl, ?_⟩
      by_cases h1 : lo ≤ i
      · rw [if_pos (decide_eq_true h1)]
        refine ⟨_, rfl, _, _, rfl, rfl, ?_⟩
        have e : decide (lo ≤ i ∧ i ≤ hi) = decide (i ≤ hi) := by simp [h1]
        rw [e] at q
        exact q
      · rw [if_neg (by simp [h1])]
        have e : decide (lo ≤ i ∧ i ≤ hi) = false := by simp [h1]
        rw [← e]
        exact q
    · refine ⟨_, rfl, _, _, _, _, true, rfl, .ty "int", .base (.bl c), kit_ty (by decide +kernel), _, rfl, ?_⟩
      refine iteT (B := _) ⟨_, rfl, _, _, _, _, true, rfl, .ty "bool", .base (.bl c), kit_ty (by decide +kernel), _, rfl, _, rfl, ?_⟩
      exact iteF (A := _) q
    · refine ⟨_, rfl, _, _, _, _, false, rfl, .ty "int", ty H (Kp.refl H), kit_ty k, _, rfl, ?_⟩
      exact iteF (A := _) q
theorem has_turnX (F : FnP K "is_turn" sIsTurn f fd) (m : mg "is_turn" = some (.ref f)) (B : Bl mg) (hN : Has P w K mg base "is_number" 1 [] (spNumX K)) {c PT : Addr} (ec : fd.code = .ref c) (TB : GxR.TabB base mg c PT) : Has P w K mg base "is_turn" 3 [] (spTurnX K PT) := by
  refine ⟨f, fd, ["halls", "value"], [], m, F.kp, F.bindsN (fun _ _ _ _ _ _ us hl => match us, hl with | [_, _], _ => rfl), .nil, ?_⟩
  refine ok_code F scIsTurn (fun vs H Q E h => ?_) (fun cdv A outer s H vs Q E hcd hr h => ⟨_, PSs.nox (pss_cons (ps_if
      (PW.pt (pw_or (pt_not (pt_val (pe_callB call_isi rfl B.isinstance PyProof.Rows.boot_isinstance (pa_cons (pv 1) (pa_cons (pe_bltn (v := .ty "tuple") rfl B.tuple PyProof.Rows.boot_tuple rfl) pa_nil)))))
        (pw_or1 (pt_cmpR op_ne (pe_callB call_len_seq rfl B.len PySem.boot_len (pa_cons (pv 1) pa_nil)) (pv 0) (nomark _)))))
      (pss_one (ps_ret pe_bl)) pss_nil)
    (pss_one (ps_ret (pe_and (GA.pe_allG [("halls", 0)] hr rfl rfl B.all TB (hcd.trans ec) ⟨rfl, rfl, by decide +kernel, rfl, rfl, ?_⟩ (by decide +kernel) ?_ (pv 1) (fun C code A s H ex hr' => pe_has hN hr' (by decide) (pa_cons (pv 1) (pa_cons pe_int (pa_cons (pe_op op_sub (pv 2) pe_int) pa_nil)))))
      (pe_one (pe_cmpR op_eq (pe_callB cr_slen rfl B.len PySem.boot_len (pa_cons (pe_callTy (cr_isetOf rfl) rfl B.set PyProof.Rows.boot_set (pa_cons (pv 1) pa_nil)) pa_nil)) (pv 0) (nomark _))))))), ?_⟩)
  · obtain ⟨n, x, b, rfl, _⟩ := h
    rfl
  · exact free1 (x := "halls") (by decide +kernel) rfl
  · exact cap1 rfl rfl (.inl rfl)
  · obtain ⟨n, x, b, rfl, h, hG, q⟩ := h
    rcases h with ⟨⟨t, ty, k⟩, rfl⟩ | ⟨a, xs, rfl, hT, hl, rfl⟩ | ⟨a, xs, bs, rfl, hT, hl, hp, hf, rfl⟩ | ⟨a, t, rfl, hT, hl, hn, low, rfl⟩
    · refine ⟨_, rfl, _, _, _, _, false, rfl, .ty "tuple", ty H (Kp.refl H), kit_ty k, _, rfl, ?_⟩
      exact iteT (B := _) (ifT (A := _) (B := _) rfl (q H (Kp.refl H)))
    · refine ⟨_, rfl, _, _, _, _, true, rfl, .ty "tuple", tyx_T hT, kit_ty (by decide +kernel), _, rfl, ?_⟩
      refine iteF (A := _) ⟨_, rfl, a, _, rfl, .inr hT, _, rfl, rfl, _, rfl, ?_⟩
      exact ifT (A := _) (B := _) (by simp; omega) (q H (Kp.refl H))
    · refine ⟨_, rfl, _, _, _, _, true, rfl, .ty "tuple", tyx_T hT, kit_ty (by decide +kernel), _, rfl, ?_⟩
      refine iteF (A := _) ⟨_, rfl, a, _, rfl, .inr hT, _, rfl, rfl, _, rfl, ?_⟩
      rw [hl]
      refine ifF (A := _) (B := _) (by simp) ?_
      refine ⟨_, rfl, a, xs, rfl, hT, hG, fun i => bs.getD i true, fun i H' => Kp H H' ∧ ∀ j, j < i → bs.getD j true = true, fun H2 z => ⟨Kp.tab hG (by decide) z, fun j hj => absurd hj (Nat.not_lt_zero j)⟩, fun i H2 z => z.1.sqT hT, fun i v H2 it hv z => ?_, fun H2 z => ?_⟩
      · obtain ⟨b, hb, nx⟩ := pr_get hp hv
        have eb : bs.getD i true = b := by rw [List.getD_eq_getElem?_getD, hb]; rfl
        refine ⟨_, rfl, _, rfl, _, _, rfl, rfl, v, 0, (n : Int) - 1, b, rfl, nx.kp z.1, by show V.bl b = V.bl (bs.getD i true); rw [eb], fun e => ⟨z.1, fun j hj => ?_⟩, fun e => ⟨false, rfl, iteF (A := _) (q H2 z.1)⟩⟩
        rcases Nat.lt_succ_iff_lt_or_eq.mp hj with h | h
        · exact z.2 j h
        · rw [h]
          exact e
      · obtain ⟨j, hj⟩ := List.getElem?_of_mem hf
        have hj2 := (List.getElem?_eq_some_iff.mp hj).1
        have := z.2 j (by rw [hp.length]; exact hj2)
        rw [List.getD_eq_getElem?_getD, hj] at this
        cases this
    · have hl' : (t.map V.int).length = n := by rw [List.length_map, hl]
      refine ⟨_, rfl, _, _, _, _, true, rfl, .ty "tuple", tyx_T hT, kit_ty (by decide +kernel), _, rfl, ?_⟩
      refine iteF (A := _) ⟨_, rfl, a, _, rfl, .inr hT, _, rfl, rfl, _, rfl, ?_⟩
      rw [hl']
      refine ifF (A := _) (B := _) (by simp) ?_
      refine ⟨_, rfl, a, t.map V.int, rfl, hT, hG, fun _ => true, fun _ H' => Kp H H', fun H2 z => Kp.tab hG (by decide) z, fun i H2 z => z.sqT hT, fun i v H2 it hv z => ?_, fun H2 z => ⟨true, rfl, iteT (B := _) ?_⟩⟩
      · obtain ⟨k, hk, rfl⟩ := map_some hv
        have := low k (List.mem_of_getElem? hk)
        refine ⟨_, rfl, _, rfl, _, _, rfl, rfl, _, 0, (n : Int) - 1, true, rfl, .inl ⟨k, rfl, (decide_eq_true (by omega)).symm⟩, rfl, fun _ => z, fun e => by cases e⟩
      · refine ⟨_, rfl, a, t, rfl, .inr (z.sqT hT), by have : scanBound = 4096 := rfl; omega, fun b m hb hm => ?_⟩
        obtain ⟨D, nd, mem, le, iff⟩ := ddp t
        refine ⟨b, _, m, D, rfl, upd_same, nd, fun k => by simp [mem], _, rfl, rfl, ?_⟩
        have e : decide (V.int (D.length : Int) = V.int (n : Int)) = decide t.Nodup := decide_eq_decide.mpr ⟨fun e => iff.mp (by injection e with e; omega), fun e => by rw [iff.mpr e, hl]⟩
        show Q (.bl (decide (V.int (D.length : Int) = V.int (n : Int)))) _
        rw [e]
        exact q _ (z.new hb)
theorem has_turnsX (F : FnP K "are_turns" sAreTurns f fd) (m : mg "are_turns" = some (.ref f)) (B : Bl mg) (m6 : ∃ t, mg "MOST_TURNS" = some (.int 6 t)) {pT c PA : Addr} (hN : Has P w K mg base "is_turn" 3 [] (spTurnX K pT)) (ec : fd.code = .ref c) (TB : GxR.TabB base mg c PA) : Has P w K mg base "are_turns" 5 [] (spTurnsX K pT PA) := by
  obtain ⟨t6, m6⟩ := m6
  refine ⟨f, fd, ["halls", "value"], [], m, F.kp, F.bindsN (fun _ _ _ _ _ _ us hl => match us, hl with | [_, _], _ => rfl), .nil, ?_⟩
  refine ok_code F scAreTurns (fun vs H Q E h => ?_) (fun cdv A outer s H vs Q E hcd hr h => ⟨_, PSs.nox (pss_cons (ps_if
      (PW.pt (pw_or (pt_not (pt_val (pe_callB call_isi rfl B.isinstance PyProof.Rows.boot_isinstance (pa_cons (pv 1) (pa_cons (pe_bltn (v := .ty "tuple") rfl B.tuple PyProof.Rows.boot_tuple rfl) pa_nil)))))
        (pw_or1 (pt_not (pt_chain op_le op_le pe_int (pe_callB call_len_seq rfl B.len PySem.boot_len (pa_cons (pv 1) pa_nil)) (pe_glob (v := .int 6) rfl m6 ⟨_, rfl⟩))))))
      (pss_one (ps_ret pe_bl)) pss_nil)
    (pss_one (ps_ret (GA.pe_allG [("halls", 0)] hr rfl rfl B.all TB (hcd.trans ec) ⟨rfl, rfl, by decide +kernel, rfl, rfl, ?_⟩ (by decide +kernel) ?_ (pv 1) (fun C code A s H ex hr' => pe_has hN hr' (by decide) (pa_cons (pv 2) (pa_cons (pv 1) pa_nil))))))), ?_⟩)
  · obtain ⟨n, x, b, rfl, _⟩ := h
    rfl
  · exact free1 (x := "halls") (by decide +kernel) rfl
  · exact cap1 rfl rfl (.inl rfl)
  · obtain ⟨n, x, b, rfl, h, gT, gA, q⟩ := h
    rcases h with ⟨⟨t, ty, k⟩, rfl⟩ | ⟨a, xs, rfl, hT, hl, rfl⟩ | ⟨a, xs, bs, rfl, hT, h1, h6, hp, rfl⟩
    · refine ⟨_, rfl, _, _, _, _, false, rfl, .ty "tuple", ty H (Kp.refl H), kit_ty k, _, rfl, ?_⟩
      exact iteT (B := _) (ifT (A := _) (B := _) rfl (q H (Kp.refl H)))
    · refine ⟨_, rfl, _, _, _, _, true, rfl, .ty "tuple", tyx_T hT, kit_ty (by decide +kernel), _, rfl, ?_⟩
      refine iteF (A := _) ⟨_, rfl, a, _, rfl, .inr hT, _, _, rfl, rfl, _, rfl, ?_⟩
      rcases hl with hl | hl
      · refine ifF (A := _) (B := _) (decide_eq_false (by omega)) ?_
        exact ⟨_, rfl, ifT (A := _) (B := _) rfl (q H (Kp.refl H))⟩
      · refine ifT (A := _) (B := _) (decide_eq_true (by omega)) ⟨_, _, rfl, rfl, _, rfl, ?_⟩
        exact ifT (A := _) (B := _) (by rw [decide_eq_false (by omega)]; rfl) (q H (Kp.refl H))
    · refine ⟨_, rfl, _, _, _, _, true, rfl, .ty "tuple", tyx_T hT, kit_ty (by decide +kernel), _, rfl, ?_⟩
      refine iteF (A := _) ⟨_, rfl, a, _, rfl, .inr hT, _, _, rfl, rfl, _, rfl, ifT (A := _) (B := _) (decide_eq_true (by omega)) ⟨_, _, rfl, rfl, _, rfl, ?_⟩⟩
      refine ifF (A := _) (B := _) (by rw [decide_eq_true (by omega)]; rfl) ?_
      refine ⟨_, rfl, a, xs, rfl, hT, gA, fun i => bs.getD i true, fun i H' => Kp H H' ∧ ∀ j, j < i → bs.getD j true = true, fun H2 z => ⟨Kp.tab gA (by decide) z, fun j hj => absurd hj (Nat.not_lt_zero j)⟩, fun i H2 z => z.1.sqT hT, fun i v H2 it hv z => ?_, fun H2 z => ?_⟩
      · obtain ⟨b, hb, nx⟩ := pr_get hp hv
        have eb : bs.getD i true = b := by rw [List.getD_eq_getElem?_getD, hb]; rfl
        refine ⟨_, rfl, _, rfl, n, v, b, rfl, nx.kp z.1, z.1.tabG gT, fun H3 z3 => ⟨by show V.bl b = V.bl (bs.getD i true); rw [eb], fun e => ⟨z.1.trans z3, fun j hj => ?_⟩, fun e => ?_⟩⟩
        · rcases Nat.lt_succ_iff_lt_or_eq.mp hj with h | h
          · exact z.2 j h
          · rw [h]
            exact e
        · have : bs.all id = false := by
            have e : bs.getD i true = false := e
            rw [eb] at e
            subst e
            exact List.all_eq_false.mpr ⟨false, List.mem_of_getElem? hb, by simp⟩
          rw [this] at q
          exact q H3 (z.1.trans z3)
      · have : bs.all id = true := List.all_eq_true.mpr fun b hb => by
          obtain ⟨j, hj⟩ := List.getElem?_of_mem hb
          have hj2 := (List.getElem?_eq_some_iff.mp hj).1
          have := z.2 j (by rw [hp.length]; exact hj2)
          rw [List.getD_eq_getElem?_getD, hj] at this
          exact this
        rw [this] at q
        exact q H2 z.1
theorem has_faultX (F : FnP K "house_fault" sFault f fd) (m : mg "house_fault" = some (.ref f)) (B : Bl mg) (m8 : ∃ t, mg "MOST_HALLS" = some (.int 8 t)) {pT PA : Addr} (hN : Has P w K mg base "is_number" 1 [] (spNumX K)) (hA : Has P w K mg base "are_turns" 5 [] (spTurnsX K pT PA)) :
    Has P w K mg base "house_fault" 6 [] (spFaultX K pT PA) := by
  obtain ⟨t8, m8⟩ := m8
  refine ⟨f, fd, ["value"], [], m, F.kp, F.bindsN (fun _ _ _ _ _ _ us hl => match us, hl with | [_], _ => rfl), .nil, ?_⟩
  refine F.ok scFault (fun vs H Q E h => ?_) (fun cdv A outer s H vs Q E hr h => ⟨_, PSs.nox (pss_cons (ps_if
      (PW.pt (pw_or (pt_not (pt_val (pe_callB call_isi rfl B.isinstance PyProof.Rows.boot_isinstance (pa_cons (pv 0) (pa_cons (pe_bltn (v := .ty "tuple") rfl B.tuple PyProof.Rows.boot_tuple rfl) pa_nil)))))
        (pw_or1 (pt_cmpR op_ne (pe_callB call_len_seq rfl B.len PySem.boot_len (pa_cons (pv 0) pa_nil)) pe_int (nomark _)))))
      (pss_one (ps_ret pe_str)) pss_nil)
    (pss_cons (ps_asg (pv 0) (pg_tup rfl (pgs_cons (pg_name (i := 1) scFault.nd rfl (Or.inl rfl)) (pgs_cons (pg_name (i := 2) scFault.nd rfl (Or.inl rfl)) pgs_nil))))
    (pss_cons (ps_if (pt_not (pt_val (pe_has hN hr (by decide) (pa_cons (pv 1) (pa_cons pe_int (pa_cons (pe_glob (v := .int 8) rfl m8 ⟨_, rfl⟩) pa_nil)))))) (pss_one (ps_ret pe_str)) pss_nil)
    (pss_cons (ps_if (pt_not (pt_val (pe_has hA hr (by decide) (pa_cons (pv 1) (pa_cons (pv 2) pa_nil))))) (pss_one (ps_ret pe_str)) pss_nil)
    (pss_one (ps_ret pe_non)))))), ?_⟩)
  · obtain ⟨x, r, rfl, _⟩ := h
    rfl
  · obtain ⟨x, r, rfl, h, gT, gA, q⟩ := h
    rcases h with ⟨⟨t, ty, k⟩, rfl⟩ | ⟨a, xs, rfl, hT, hl, rfl⟩ | ⟨a, y, tv, rfl, hT, hy, rfl⟩ | ⟨a, n, tv, b, rfl, hT, h1, h8, hp, rfl⟩
    · refine ⟨_, rfl, _, _, _, _, false, rfl, .ty "tuple", ty H (Kp.refl H), kit_ty k, _, rfl, ?_⟩
      exact iteT (B := _) (ifT (A := _) (B := _) rfl (q H (Kp.refl H)))
    · refine ⟨_, rfl, _, _, _, _, true, rfl, .ty "tuple", tyx_T hT, kit_ty (by decide +kernel), _, rfl, ?_⟩
      refine iteF (A := _) ⟨_, rfl, a, _, rfl, .inr hT, rfl, _, rfl, ifT (A := _) (B := _) (by simp; omega) (q H (Kp.refl H))⟩
    · refine ⟨_, rfl, _, _, _, _, true, rfl, .ty "tuple", tyx_T hT, kit_ty (by decide +kernel), _, rfl, ?_⟩
      refine iteF (A := _) ⟨_, rfl, a, _, rfl, .inr hT, rfl, _, rfl, ifF (A := _) (B := _) (by show (!decide (V.int (2 : Int) = V.int 2)) = false; decide +kernel) ?_⟩
      refine ⟨_, rfl, a, _, rfl, hT, rfl, _, _, rfl, _, _, rfl, rfl, ?_⟩
      exact ⟨_, rfl, y, 1, 8, false, rfl, hy, _, rfl, ifT (A := _) (B := _) rfl (q H (Kp.refl H))⟩
    · refine ⟨_, rfl, _, _, _, _, true, rfl, .ty "tuple", tyx_T hT, kit_ty (by decide +kernel), _, rfl, ?_⟩
      refine iteF (A := _) ⟨_, rfl, a, _, rfl, .inr hT, rfl, _, rfl, ifF (A := _) (B := _) (by show (!decide (V.int (2 : Int) = V.int 2)) = false; decide +kernel) ?_⟩
      refine ⟨_, rfl, a, _, rfl, hT, rfl, _, _, rfl, _, _, rfl, rfl, ?_⟩
      refine ⟨_, rfl, .int n, 1, 8, true, rfl, .inl ⟨n, rfl, (decide_eq_true (by omega)).symm⟩, _, rfl, ifF (A := _) (B := _) rfl ?_⟩
      refine ⟨_, rfl, _, rfl, n, tv, b, rfl, hp, gT, gA, fun H' z => ?_⟩
      cases b with
      | true => exact ⟨_, rfl, ifF (A := _) (B := _) rfl (q H' z)⟩
      | false => exact ⟨_, rfl, ifT (A := _) (B := _) rfl (q H' z)⟩
/-- a house has no fault -/
theorem faultX_house {H : Hp} {v : V} {n : Nat} {ts : List (List Int)} (hv : HouseAt K H v n ts) (hi : IsH n ts) : FaultX K H v .non := by
  obtain ⟨a, tv, rfl, hT, b, xs, rfl, hT2, hp⟩ := hv
  have n8 := hi.n8
  refine .inr (.inr (.inr ⟨a, n, _, true, rfl, hT, hi.n1, hi.n8, .inr (.inr ⟨b, xs, ts.map fun _ => true, rfl, hT2, by rw [hp.length]; exact hi.t1, by rw [hp.length]; exact hi.t6, ?_, ?_⟩), rfl⟩))
  · have go : ∀ {xs : List V} {ts : List (List Int)}, Paired (PT H) xs ts → (∀ t ∈ ts, IsT n t) → Paired (TurnX K H n) xs (ts.map fun _ => true) := by
      intro xs ts hp
      induction hp with
      | nil => intro _; exact .nil
      | cons p _ ih =>
        rename_i x t xs ts hh
        intro hi
        have it := hi _ List.mem_cons_self
        obtain ⟨c, o, rfl, hc, _⟩ := p
        exact .cons (.inr (.inr (.inr ⟨c, _, rfl, .inl (.inr ⟨o, hc⟩), it.len, by omega, it.low, (decide_eq_true it.nd).symm⟩))) (ih fun t h => hi t (List.mem_cons_of_mem _ h))
    exact go hp hi.is
  · exact (List.all_eq_true.mpr fun b hb => by
      obtain ⟨_, _, e⟩ := List.mem_map.mp hb
      rw [← e]
      rfl).symm
end
end NS
end
section
set_option maxHeartbeats 4000000
/-! N13: check_house of any value -/
namespace NS
open PySem PySem.Spec PyProof.Rows L2 ZS
def spChkHouseX (K : PySem.W.Frag) (pT pA C : Addr) : Sp := fun vs H Q E => ∃ x r : V, vs = [x] ∧ FaultX K H x r ∧ GxR.TabG H pT ∧ GxR.TabG H pA ∧ (r = .non → ∀ H', Kp H H' → Q .non H') ∧ (r ≠ .non → ∀ d H', Kp H H' → H' d = none → E (.ref C) (some d) (upd H' d (.xd [("part", r)])))
section
variable {P : Program} {w : World} {K : PySem.W.Frag} {mg : Str → Option Value} {base : Heap} {f : Addr} {fd : FuncData} {pT pA C : Addr}
theorem has_chkhouseX (F : FnP K "check_house" sCheckHouse f fd) (m : mg "check_house" = some (.ref f)) (T : ErrF P w K mg base "BadHouse" "part" C) (hF : Has P w K mg base "house_fault" 6 [] (spFaultX K pT pA)) : HasX P w K mg base "check_house" 7 (spChkHouseX K pT pA C) := by
  refine ⟨f, fd, ["house"], m, F.kp, F.bindsN (fun _ _ _ _ _ _ us hl => match us, hl with | [_], _ => rfl), ?_⟩
  refine F.ok scCheckHouse (fun vs H Q E h => ?_) (fun cdv A outer s H vs Q E hr h => ⟨_,
    pss_cons (ps_set (i := 1) scCheckHouse.nd rfl (Or.inl rfl) (pe_has hF hr (by decide) (pa_cons (pv 0) pa_nil)))
    (pss_one (ps_if (pt_cmp (pc_notN (pv 1))) (pss_one (ps_raiseF (k := 4) T hr (takes_of rfl rfl rfl rfl) (pa_cons (pv 1) pa_nil))) pss_nil)), ?_⟩)
  · obtain ⟨x, r, rfl, _⟩ := h
    rfl
  · obtain ⟨x, r, rfl, hx, gT, gA, q, qe⟩ := h
    refine ⟨_, rfl, x, r, rfl, hx, gT, gA, fun H1 z1 => ⟨_, rfl, _, rfl, ?_⟩⟩
    by_cases e : r = .non
    · subst e
      exact ifF (A := _) (B := _) (by decide +kernel) (q rfl H1 z1)
    · refine ifT (A := _) (B := _) (by rw [decide_eq_false e]; rfl) ?_
      exact ⟨_, rfl, mkF fun d hd => qe e d H1 z1 hd⟩
end
end NS
end
section
set_option maxHeartbeats 4000000
/-! E2: an error class of the program with two fields -/
namespace NS
open PySem PySem.Spec PyProof.Rows L2 ZS
section
variable {X : Cx} {C : Addr} {W : WX} {x f g : Str} {e1 e2 : Expr} {ta : TA} {p pos pos' : Pos} {k : Nat}
end
section
variable {P : Program} {w : World} {K : PySem.W.Frag} {mg : Str → Option Value} {base : Heap} {fI C : Addr} {fd : FuncData}
end
end NS
end
section
set_option maxHeartbeats 4000000
/-! X1: a tuple of whole numbers at module level, told by the head -/
namespace NS
open PySem PySem.Spec PyProof.Rows L2 ZS
end NS
end
section
set_option maxHeartbeats 4000000
/-! X5: a dict of the module with texts for keys and whole numbers for values, asked by .get -/
namespace NS
open PySem PySem.Spec PyProof.Rows L2 ZS
section
variable {X : Cx}
variable {o e : Expr} {apos cpos : Pos} {td ty : TE}
end
end NS
end
section
set_option maxHeartbeats 4000000
/-! S9: texts as lists of signs: how a house's text is read, what spaces and void lines leave as it is -/
namespace NS
open PySem SX PySem.StrLaws
abbrev Cs := List Nat
/-- the parts between signs c -/
def cutC (c : Nat) : Cs → List Cs
  | [] => [[]]
  | x :: r => if x = c then [] :: cutC c r else match cutC c r with
    | [] => [[x]]
    | p :: ps => (x :: p) :: ps
/-! ### words -/
def wds (l : Cs) : List Cs := (cutC 32 l).filter fun w => !decide (w = [])
/-! ### the lines' words, void lines left out -/
def wsL (ls : List Cs) : List (List Cs) := (ls.map wds).filter fun w => !decide (w = [])
def ws (t : Cs) : List (List Cs) := wsL (cutC 10 t)
/-! ### one sign replaced -/
def subC (c : Nat) (z : Cs) (l : Cs) : Cs := l.flatMap fun x => if x = c then z else [x]
/-! ### how a text is read -/
def figs : List (Str × Int) := [("0", 0), ("1", 1), ("2", 2), ("3", 3), ("4", 4), ("5", 5), ("6", 6), ("7", 7), ("8", 8)]
def figC (w : Cs) : Option Int := figs.lookup (S w)
def cHalls : Cs := [104, 97, 108, 108, 115]
def cTurn : Cs := [116, 117, 114, 110]
def rdSecond (w : List Cs) (first : Cs) : Except Nat Cs := match w with
  | [] => .error 1
  | a :: r => if a = first then (match r with
    | [] => .error 2
    | b :: _ => .ok b) else .error 1
def rdHalls (w : List Cs) : Except Nat Int := match rdSecond w cHalls with
  | .error e => .error e
  | .ok b => match figC b with
    | some d => if 1 ≤ d ∧ d ≤ 8 then (if 2 < w.length then .error 3 else .ok d) else .error 2
    | none => .error 2
def allS : List (Option Int) → Option (List Int)
  | [] => some []
  | none :: _ => none
  | some i :: r => match allS r with
    | some l => some (i :: l)
    | none => none
def turnB (n : Int) (t : List Int) : Bool := decide ((t.length : Int) = n) && t.all (fun k => decide (0 ≤ k ∧ k < n)) && decide t.Nodup
def rdTurn (n : Int) (w : List Cs) : Except Nat (List Int) := match rdSecond w cTurn with
  | .error e => .error e
  | .ok b => match allS (b.map fun c => figC [c]) with
    | some t => if turnB n t = true then (if 2 < w.length then .error 3 else .ok t) else .error 2
    | none => .error 2
abbrev RdS := Option Int × List (List Int)
def rdLine (st : RdS) (w : List Cs) : Except Nat RdS := if w = [] then .ok st else if st.2.length = 6 then .error 1 else match st.1 with
  | none => (match rdHalls w with
    | .error e => .error e
    | .ok d => .ok (some d, st.2))
  | some n => (match rdTurn n w with
    | .error e => .error e
    | .ok t => .ok (some n, st.2 ++ [t]))
def rdLines : Nat → RdS → List Cs → Except (Nat × Nat) RdS
  | _, st, [] => .ok st
  | k, st, l :: ls => match rdLine st (wds l) with
    | .error j => .error (k, j)
    | .ok st' => rdLines (k + 1) st' ls
def rd (t : Cs) : Except (Nat × Nat) (Int × List (List Int)) := match rdLines 1 (none, []) (cutC 10 t) with
  | .error e => .error e
  | .ok (h, ts) => if ts = [] then .error ((cutC 10 t).length + 1, 1) else .ok (h.getD 0, ts)
/-! ### a house's text -/
/-- the text with spaces and void lines put in -/
def loose (pre s1 s2 post t : Cs) : Cs := subC 10 s2 (pre ++ subC 32 s1 t) ++ post
end NS
end
section
set_option maxHeartbeats 4000000
/-! REnum: enumerate(list, start=k); text * k -/
namespace ZS
open PySem PySem.Spec PyProof.Rows L2
section
variable {M : Model} {A : Around} {E : Value → Shared → Prop} {s : Shared} {env : Env}
end
end ZS
end
section
set_option maxHeartbeats 4000000
/-! LP: what most laws begin with -/
namespace NS
open PySem PySem.Spec PyProof.Rows L2 ZS
section
variable {X : Cx}
end
/-- a statement, and what holds behind it -/
def tMid (t : TS) : TS := fun D σ H => ∃ P : L2.St → Hp → Prop, (∀ σ' H', P σ' H' → D.nx σ' H') ∧ t { D with nx := P } σ H
theorem ps_mid {X : Cx} {st : Stmt} {t : TS} (h : PS X st t) : PS X st (tMid t) := by
  refine ⟨fun pins s σ H D I hm => ?_⟩
  obtain ⟨P, hP, ht⟩ := hm
  refine thn (h.run pins s σ H { D with nx := P } I ht) fun f s1 q => ?_
  cases f with
  | next =>
    obtain ⟨σ', H', I', q⟩ := q
    exact ⟨σ', H', I', hP _ _ q⟩
  | ret v => exact q
  | brk => exact q
  | cont => exact q
section
variable {K : PySem.W.Frag} {H H' : Hp} {r sa wa : Addr} {v tv : V} {n : Nat} {ts U : List (List Int)} {pT pA : Addr} {W : List (Addr × List Int)}
end
end NS
end
section
set_option maxHeartbeats 4000000
/-! N17: texts: words_of, second_word, check_end, read_halls -/
namespace NS
open PySem PySem.Spec PyProof.Rows L2 ZS
/-- the error of line k, word j is what is wished -/
def ErrAt (E : XK) (C : Addr) (k j : Nat) (H : Hp) : Prop := ∀ d H', Kp H H' → H' d = none → E (.ref C) (some d) (upd H' d (.xd [("word", .int (j : Int)), ("line", .int (k : Int))]))
theorem ErrAt.kp {E : XK} {C : Addr} {k j : Nat} {H H' : Hp} (h : ErrAt E C k j H) (z : Kp H H') : ErrAt E C k j H' := fun d H2 z2 => h d H2 (z.trans z2)
section
variable {P : Program} {w : World} {K : PySem.W.Frag} {mg : Str → Option Value} {base : Heap} {f C : Addr} {fd : FuncData}
end
end NS
end
section
set_option maxHeartbeats 4000000
/-! N18: read_turn, read_lines, read_house -/
namespace NS
open PySem PySem.Spec PyProof.Rows L2 ZS
theorem Wlk.str {H : Hp} (l : Cs) : Wlk (Its (SX.S l)) H l.length (fun i x _ => ∃ c, l[i]? = some c ∧ x = .str ⟨#[c]⟩) where
  go := fun i H' z hi => by show i < l.toArray.size; simpa using hi
  stop := fun H' z => by show l.toArray.size ≤ l.length; simp
  yld := fun i H1 x H2 z hi y => by
    obtain ⟨e, c, hc, y⟩ := y
    subst e
    exact ⟨Kp.refl _, c, by simpa using hc, y⟩
section
variable {P : Program} {w : World} {K : PySem.W.Frag} {mg : Str → Option Value} {base : Heap} {f C pT : Addr} {fd : FuncData}
end
section
variable {P : Program} {w : World} {K : PySem.W.Frag} {mg : Str → Option Value} {base : Heap} {f C pT : Addr} {fd : FuncData}
end
end NS
end
section
set_option maxHeartbeats 4000000
/-! N19: write_turn, write_house -/
namespace NS
open PySem PySem.Spec PyProof.Rows L2 ZS
theorem scWriteHouse : FnScope ["house", "halls", "turns", "turn"] ["house"] (defScope sWriteHouse) := ⟨rfl, rfl, rfl, by decide +kernel, rfl, by decide +kernel, by decide +kernel⟩
section
variable {P : Program} {w : World} {K : PySem.W.Frag} {mg : Str → Option Value} {base : Heap} {f : Addr} {fd : FuncData} {pT pA : Addr}
end
end NS
end
section
set_option maxHeartbeats 4000000
/-! N22: what is refused ahead of all else goes through -/
namespace NS
open PySem PySem.Spec PyProof.Rows L2 ZS
theorem pe_nv {X : Cx} {e : Expr} : PE X e (fun _ _ _ => False) := ⟨fun _ _ _ _ _ _ h => h.elim⟩
theorem pt_nv {X : Cx} {e : Expr} : L2.PT X e (fun _ _ _ => False) := ⟨fun _ _ _ _ _ _ h => h.elim⟩
theorem pts_nv {X : Cx} {c : Expr} : PTs X [c] (fun _ _ _ => False) := pts_one pt_nv
theorem ix_nv {X : Cx} : IxR X (fun _ _ _ _ => False) := fun _ _ _ _ _ _ _ _ _ _ _ _ _ _ h _ => h.elim
theorem op_nv {X : Cx} {f : Value → Value → Sem Value} : OpR X f (fun _ _ _ _ => False) := fun _ _ _ _ _ _ _ _ _ _ _ _ h => h.elim
theorem cr_nv {X : Cx} {f : Value} : CallR X f (fun _ _ _ => False) := fun _ _ _ _ _ _ _ _ _ h => h.elim
/-- what is refused of a house -/
abbrev RC := V → Hp → XK → Prop
def spR1 (C : RC) : Sp := fun vs H _ E => ∃ v, vs = [v] ∧ C v H E
def spR2 (C : RC) : Sp := fun vs H _ E => ∃ v u, vs = [v, u] ∧ C v H E
def spCW (C : RC) : Sp := fun vs H Q E => ∃ v, vs = [v] ∧ C v H E ∧ ∀ H', Kp H H' → Q .non H'
section
variable {P : Program} {w : World} {K : PySem.W.Frag} {mg : Str → Option Value} {base : Heap} {f : Addr} {fd : FuncData} {C : RC}
theorem has_orderR (F : FnP K "order" sOrder f fd) (m : mg "order" = some (.ref f)) (B : Bl mg) (hM : HasX P w K mg base "members" 8 (spR1 C)) : HasX P w K mg base "order" 9 (spR1 C) := by
  refine ⟨f, fd, ["house"], m, F.kp, F.bindsN (fun _ _ _ _ _ _ us hl => match us, hl with | [_], _ => rfl), ?_⟩
  refine F.ok scOrder (fun vs H Q E h => ?_) (fun cdv A outer s H vs Q E hr h => ⟨_, pss_one (ps_ret (pe_callB cr_nv rfl B.len PySem.boot_len (pa_cons (pe_hasX hM hr (by decide) (takes_of rfl rfl rfl rfl) (pa_cons (pv 0) pa_nil)) pa_nil))), ?_⟩)
  · obtain ⟨v, rfl, _⟩ := h
    rfl
  · obtain ⟨v, rfl, c⟩ := h
    exact ⟨_, rfl, v, rfl, c⟩
theorem has_tableR (F : FnP K "table" sTable f fd) (m : mg "table" = some (.ref f)) (hM : HasX P w K mg base "members" 8 (spR1 C)) : HasX P w K mg base "table" 9 (spR1 C) := by
  refine ⟨f, fd, ["house"], m, F.kp, F.bindsN (fun _ _ _ _ _ _ us hl => match us, hl with | [_], _ => rfl), ?_⟩
  refine F.ok scTable (fun vs H Q E h => ?_) (fun cdv A outer s H vs Q E hr h => ⟨_, pss_cons (ps_set (i := 1) scTable.nd rfl (Or.inl rfl) (pe_hasX hM hr (by decide) (takes_of rfl rfl rfl rfl) (pa_cons (pv 0) pa_nil))) pss_never, ?_⟩)
  · obtain ⟨v, rfl, _⟩ := h
    rfl
  · obtain ⟨v, rfl, c⟩ := h
    exact ⟨_, rfl, v, rfl, c⟩
theorem has_roamersR (F : FnP K "roamers" sRoamers f fd) (m : mg "roamers" = some (.ref f)) (B : Bl mg) (hM : HasX P w K mg base "members" 8 (spR1 C)) : HasX P w K mg base "roamers" 9 (spR1 C) := by
  refine ⟨f, fd, ["house"], m, F.kp, F.bindsN (fun _ _ _ _ _ _ us hl => match us, hl with | [_], _ => rfl), ?_⟩
  refine F.ok scRoamers (fun vs H Q E h => ?_) (fun cdv A outer s H vs Q E hr h => ⟨_, pss_one (ps_ret (pe_callTy cr_nv rfl B.tuple PyProof.Rows.boot_tuple (pa_cons
    (pe_lc (own := [("turn", 1)]) (g := gName 1) (tt := fun _ _ _ => False) (te := fun _ _ _ => False) rfl scRoamers.nd (pi_tup (pe_hasX hM hr (by decide) (takes_of rfl rfl rfl rfl) (pa_cons (pv 0) pa_nil))) (blkOk_by (N := ["house", "turn"]) (sc := defScope sRoamers) (by decide +kernel))
      (fun _ _ _ _ _ => pg_name (i := 1) scRoamers.nd rfl (Or.inl rfl)) (fun _ _ _ _ _ => pts_nv) (fun _ _ _ _ _ => pe_nv)) pa_nil))), ?_⟩)
  · obtain ⟨v, rfl, _⟩ := h
    rfl
  · obtain ⟨v, rfl, c⟩ := h
    exact ⟨_, rfl, v, rfl, c⟩
theorem has_countrR (F : FnP K "count_roamers" sCountR f fd) (m : mg "count_roamers" = some (.ref f)) (B : Bl mg) (hM : HasX P w K mg base "roamers" 9 (spR1 C)) : HasX P w K mg base "count_roamers" 10 (spR1 C) := by
  refine ⟨f, fd, ["house"], m, F.kp, F.bindsN (fun _ _ _ _ _ _ us hl => match us, hl with | [_], _ => rfl), ?_⟩
  refine F.ok scCountR (fun vs H Q E h => ?_) (fun cdv A outer s H vs Q E hr h => ⟨_, pss_one (ps_ret (pe_callB cr_nv rfl B.len PySem.boot_len (pa_cons (pe_hasX hM hr (by decide) (takes_of rfl rfl rfl rfl) (pa_cons (pv 0) pa_nil)) pa_nil))), ?_⟩)
  · obtain ⟨v, rfl, _⟩ := h
    rfl
  · obtain ⟨v, rfl, c⟩ := h
    exact ⟨_, rfl, v, rfl, c⟩
theorem has_leastR (F : FnP K "least_roamer" sLeast f fd) (m : mg "least_roamer" = some (.ref f)) (hM : HasX P w K mg base "roamers" 9 (spR1 C)) : HasX P w K mg base "least_roamer" 10 (spR1 C) := by
  refine ⟨f, fd, ["house"], m, F.kp, F.bindsN (fun _ _ _ _ _ _ us hl => match us, hl with | [_], _ => rfl), ?_⟩
  refine F.ok scLeast (fun vs H Q E h => ?_) (fun cdv A outer s H vs Q E hr h => ⟨_, pss_cons (ps_set (i := 1) scLeast.nd rfl (Or.inl rfl) (pe_hasX hM hr (by decide) (takes_of rfl rfl rfl rfl) (pa_cons (pv 0) pa_nil))) pss_never, ?_⟩)
  · obtain ⟨v, rfl, _⟩ := h
    rfl
  · obtain ⟨v, rfl, c⟩ := h
    exact ⟨_, rfl, v, rfl, c⟩
theorem has_plainR (F : FnP K "plain_roamers" sPlain f fd) (m : mg "plain_roamers" = some (.ref f)) (B : Bl mg) (hM : HasX P w K mg base "roamers" 9 (spR1 C)) : HasX P w K mg base "plain_roamers" 10 (spR1 C) := by
  refine ⟨f, fd, ["house"], m, F.kp, F.bindsN (fun _ _ _ _ _ _ us hl => match us, hl with | [_], _ => rfl), ?_⟩
  refine F.ok scPlain (fun vs H Q E h => ?_) (fun cdv A outer s H vs Q E hr h => ⟨_, pss_one (ps_ret (pe_callTy cr_nv rfl B.tuple PyProof.Rows.boot_tuple (pa_cons
    (pe_lc (own := [("turn", 1)]) (g := gName 1) (tt := fun _ _ _ => False) (te := fun _ _ _ => False) rfl scPlain.nd (pi_tup (pe_hasX hM hr (by decide) (takes_of rfl rfl rfl rfl) (pa_cons (pv 0) pa_nil))) (blkOk_by (N := ["house", "turn"]) (sc := defScope sPlain) (by decide +kernel))
      (fun _ _ _ _ _ => pg_name (i := 1) scPlain.nd rfl (Or.inl rfl)) (fun _ _ _ _ _ => pts_nv) (fun _ _ _ _ _ => pe_nv)) pa_nil))), ?_⟩)
  · obtain ⟨v, rfl, _⟩ := h
    rfl
  · obtain ⟨v, rfl, c⟩ := h
    exact ⟨_, rfl, v, rfl, c⟩
theorem has_spareR (F : FnP K "spare" sSpare f fd) (m : mg "spare" = some (.ref f)) (kp : ∀ v H H' E, Kp H H' → C v H E → C v H' E) (hC : HasX P w K mg base "check_whole" 10 (spCW C)) (hT : HasX P w K mg base "table" 9 (spR1 C)) : HasX P w K mg base "spare" 11 (spR1 C) := by
  refine ⟨f, fd, ["house"], m, F.kp, F.bindsN (fun _ _ _ _ _ _ us hl => match us, hl with | [_], _ => rfl), ?_⟩
  refine F.ok scSpare (fun vs H Q E h => ?_) (fun cdv A outer s H vs Q E hr h => ⟨_,
    pss_cons (ps_expr (pe_hasX hC hr (by decide) (takes_of rfl rfl rfl rfl) (pa_cons (pv 0) pa_nil)))
    (pss_cons (ps_set (i := 1) scSpare.nd rfl (Or.inl rfl) (pe_hasX hT hr (by decide) (takes_of rfl rfl rfl rfl) (pa_cons (pv 0) pa_nil))) pss_never), ?_⟩)
  · obtain ⟨v, rfl, _⟩ := h
    rfl
  · obtain ⟨v, rfl, c⟩ := h
    exact ⟨_, rfl, v, rfl, c, fun H' z => ⟨_, rfl, v, rfl, kp _ _ _ _ z c⟩⟩
theorem has_fewestR (F : FnP K "has_fewest" sFewest f fd) (m : mg "has_fewest" = some (.ref f)) (hC : HasX P w K mg base "spare" 11 (spR1 C)) : HasX P w K mg base "has_fewest" 12 (spR1 C) := by
  refine ⟨f, fd, ["house"], m, F.kp, F.bindsN (fun _ _ _ _ _ _ us hl => match us, hl with | [_], _ => rfl), ?_⟩
  refine F.ok scFewest (fun vs H Q E h => ?_) (fun cdv A outer s H vs Q E hr h => ⟨_, pss_one (ps_ret (pe_cmpR op_nv (pe_hasX hC hr (by decide) (takes_of rfl rfl rfl rfl) (pa_cons (pv 0) pa_nil)) pe_int (nomark _))), ?_⟩)
  · obtain ⟨v, rfl, _⟩ := h
    rfl
  · obtain ⟨v, rfl, c⟩ := h
    exact ⟨_, rfl, v, rfl, c⟩
theorem has_surplusR (F : FnP K "surplus" sSurplus f fd) (m : mg "surplus" = some (.ref f)) (kp : ∀ v H H' E, Kp H H' → C v H E → C v H' E) (hC : HasX P w K mg base "check_whole" 10 (spCW C)) (hT : HasX P w K mg base "table" 9 (spR1 C)) : HasX P w K mg base "surplus" 11 (spR1 C) := by
  refine ⟨f, fd, ["house"], m, F.kp, F.bindsN (fun _ _ _ _ _ _ us hl => match us, hl with | [_], _ => rfl), ?_⟩
  refine F.ok scSurplus (fun vs H Q E h => ?_) (fun cdv A outer s H vs Q E hr h => ⟨_,
    pss_cons (ps_expr (pe_hasX hC hr (by decide) (takes_of rfl rfl rfl rfl) (pa_cons (pv 0) pa_nil)))
    (pss_one (ps_ret (pe_op op_nv (pe_ix ix_nv (pe_hasX hT hr (by decide) (takes_of rfl rfl rfl rfl) (pa_cons (pv 0) pa_nil)) pe_int (fun _ _ => rfl)) pe_nv))), ?_⟩)
  · obtain ⟨v, rfl, _⟩ := h
    rfl
  · obtain ⟨v, rfl, c⟩ := h
    exact ⟨_, rfl, v, rfl, c, fun H' z => ⟨_, rfl, v, rfl, kp _ _ _ _ z c⟩⟩
theorem has_singleR (F : FnP K "is_single" sSingle f fd) (m : mg "is_single" = some (.ref f)) (B : Bl mg) (kp : ∀ v H H' E, Kp H H' → C v H E → C v H' E) (hC : HasX P w K mg base "check_whole" 10 (spCW C)) (hT : HasX P w K mg base "table" 9 (spR1 C)) : HasX P w K mg base "is_single" 11 (spR1 C) := by
  refine ⟨f, fd, ["house"], m, F.kp, F.bindsN (fun _ _ _ _ _ _ us hl => match us, hl with | [_], _ => rfl), ?_⟩
  refine F.ok scSingle (fun vs H Q E h => ?_) (fun cdv A outer s H vs Q E hr h => ⟨_,
    pss_cons (ps_expr (pe_hasX hC hr (by decide) (takes_of rfl rfl rfl rfl) (pa_cons (pv 0) pa_nil)))
    (pss_one (ps_ret (pe_cmpR op_nv (pe_callB cr_nv rfl B.sum PyProof.Rows.boot_sum (pa_cons (pe_slice sl_tup (pe_hasX hT hr (by decide) (takes_of rfl rfl rfl rfl) (pa_cons (pv 0) pa_nil)) (po_some pe_int) po_none) pa_nil)) pe_int (nomark _)))), ?_⟩)
  · obtain ⟨v, rfl, _⟩ := h
    rfl
  · obtain ⟨v, rfl, c⟩ := h
    exact ⟨_, rfl, v, rfl, c, fun H' z => ⟨_, rfl, v, rfl, kp _ _ _ _ z c⟩⟩
theorem has_coreR (F : FnP K "core" sCore f fd) (m : mg "core" = some (.ref f)) (hC : HasX P w K mg base "is_single" 11 (spR1 C)) : HasX P w K mg base "core" 12 (spR1 C) := by
  refine ⟨f, fd, ["house"], m, F.kp, F.bindsN (fun _ _ _ _ _ _ us hl => match us, hl with | [_], _ => rfl), ?_⟩
  refine F.ok scCore (fun vs H Q E h => ?_) (fun cdv A outer s H vs Q E hr h => ⟨_, pss_cons (ps_if (pt_not (pt_val (pe_hasX hC hr (by decide) (takes_of rfl rfl rfl rfl) (pa_cons (pv 0) pa_nil)))) pss_never pss_nil) pss_never, ?_⟩)
  · obtain ⟨v, rfl, _⟩ := h
    rfl
  · obtain ⟨v, rfl, c⟩ := h
    exact ⟨_, rfl, v, rfl, c⟩
theorem has_coregR (F : FnP K "core_is_group" sCoreG f fd) (m : mg "core_is_group" = some (.ref f)) (hC : HasX P w K mg base "core" 12 (spR1 C)) : HasX P w K mg base "core_is_group" 13 (spR1 C) := by
  refine ⟨f, fd, ["house"], m, F.kp, F.bindsN (fun _ _ _ _ _ _ us hl => match us, hl with | [_], _ => rfl), ?_⟩
  refine F.ok scCoreG (fun vs H Q E h => ?_) (fun cdv A outer s H vs Q E hr h => ⟨_, pss_cons (ps_set (i := 1) scCoreG.nd rfl (Or.inr rfl) (pe_hasX hC hr (by decide) (takes_of rfl rfl rfl rfl) (pa_cons (pv 0) pa_nil))) pss_never, ?_⟩)
  · obtain ⟨v, rfl, _⟩ := h
    rfl
  · obtain ⟨v, rfl, c⟩ := h
    exact ⟨_, rfl, v, rfl, c⟩
end
end NS
end
section
set_option maxHeartbeats 4000000
/-! N23: houses that are none -/
namespace NS
open PySem PySem.Spec PyProof.Rows L2 ZS
section
variable {P : Program} {w : World} {K : PySem.W.Frag} {mg : Str → Option Value} {base : Heap} {f : Addr} {fd : FuncData} {C : RC}
theorem has_membersR (F : FnP K "members" sMembers f fd) (m : mg "members" = some (.ref f)) (hC : HasX P w K mg base "check_house" 7 (spR1 C)) : HasX P w K mg base "members" 8 (spR1 C) := by
  refine ⟨f, fd, ["house"], m, F.kp, F.bindsN (fun _ _ _ _ _ _ us hl => match us, hl with | [_], _ => rfl), ?_⟩
  refine F.ok scMembers (fun vs H Q E h => ?_) (fun cdv A outer s H vs Q E hr h => ⟨_, pss_cons (ps_expr (pe_hasX hC hr (by decide) (takes_of rfl rfl rfl rfl) (pa_cons (pv 0) pa_nil))) pss_never, ?_⟩)
  · obtain ⟨v, rfl, _⟩ := h
    rfl
  · obtain ⟨v, rfl, c⟩ := h
    exact ⟨_, rfl, v, rfl, c⟩
theorem has_ismemberR (F : FnP K "is_member" sIsMember f fd) (m : mg "is_member" = some (.ref f)) (hC : HasX P w K mg base "check_house" 7 (spR1 C)) : HasX P w K mg base "is_member" 9 (spR2 C) := by
  refine ⟨f, fd, ["house", "turn"], m, F.kp, F.bindsN (fun _ _ _ _ _ _ us hl => match us, hl with | [_, _], _ => rfl), ?_⟩
  refine F.ok scIsMember (fun vs H Q E h => ?_) (fun cdv A outer s H vs Q E hr h => ⟨_, pss_cons (ps_expr (pe_hasX hC hr (by decide) (takes_of rfl rfl rfl rfl) (pa_cons (pv 0) pa_nil))) pss_never, ?_⟩)
  · obtain ⟨v, u, rfl, _⟩ := h
    rfl
  · obtain ⟨v, u, rfl, c⟩ := h
    exact ⟨_, rfl, v, rfl, c⟩
theorem has_partsR (F : FnP K "parts" sParts f fd) (m : mg "parts" = some (.ref f)) (hC : HasX P w K mg base "check_house" 7 (spR1 C)) : HasX P w K mg base "parts" 8 (spR1 C) := by
  refine ⟨f, fd, ["house"], m, F.kp, F.bindsN (fun _ _ _ _ _ _ us hl => match us, hl with | [_], _ => rfl), ?_⟩
  refine F.ok scParts (fun vs H Q E h => ?_) (fun cdv A outer s H vs Q E hr h => ⟨_, pss_cons (ps_expr (pe_hasX hC hr (by decide) (takes_of rfl rfl rfl rfl) (pa_cons (pv 0) pa_nil))) pss_never, ?_⟩)
  · obtain ⟨v, rfl, _⟩ := h
    rfl
  · obtain ⟨v, rfl, c⟩ := h
    exact ⟨_, rfl, v, rfl, c⟩
theorem has_rankR (F : FnP K "rank" sRank f fd) (m : mg "rank" = some (.ref f)) (hC : HasX P w K mg base "check_house" 7 (spR1 C)) : HasX P w K mg base "rank" 8 (spR1 C) := by
  refine ⟨f, fd, ["house"], m, F.kp, F.bindsN (fun _ _ _ _ _ _ us hl => match us, hl with | [_], _ => rfl), ?_⟩
  refine F.ok scRank (fun vs H Q E h => ?_) (fun cdv A outer s H vs Q E hr h => ⟨_, pss_cons (ps_expr (pe_hasX hC hr (by decide) (takes_of rfl rfl rfl rfl) (pa_cons (pv 0) pa_nil))) pss_never, ?_⟩)
  · obtain ⟨v, rfl, _⟩ := h
    rfl
  · obtain ⟨v, rfl, c⟩ := h
    exact ⟨_, rfl, v, rfl, c⟩
theorem has_likesR (F : FnP K "likes" sLikes f fd) (m : mg "likes" = some (.ref f)) (hC : HasX P w K mg base "check_house" 7 (spR1 C)) : HasX P w K mg base "likes" 8 (spR2 C) := by
  refine ⟨f, fd, ["house", "turn"], m, F.kp, F.bindsN (fun _ _ _ _ _ _ us hl => match us, hl with | [_, _], _ => rfl), ?_⟩
  refine F.ok scLikes (fun vs H Q E h => ?_) (fun cdv A outer s H vs Q E hr h => ⟨_, pss_cons (ps_expr (pe_hasX hC hr (by decide) (takes_of rfl rfl rfl rfl) (pa_cons (pv 0) pa_nil))) pss_never, ?_⟩)
  · obtain ⟨v, u, rfl, _⟩ := h
    rfl
  · obtain ⟨v, u, rfl, c⟩ := h
    exact ⟨_, rfl, v, rfl, c⟩
theorem has_stayersR (F : FnP K "stayers" sStayers f fd) (m : mg "stayers" = some (.ref f)) (hC : HasX P w K mg base "check_house" 7 (spR1 C)) : HasX P w K mg base "stayers" 8 (spR2 C) := by
  refine ⟨f, fd, ["house", "turn"], m, F.kp, F.bindsN (fun _ _ _ _ _ _ us hl => match us, hl with | [_, _], _ => rfl), ?_⟩
  refine F.ok scStayers (fun vs H Q E h => ?_) (fun cdv A outer s H vs Q E hr h => ⟨_, pss_cons (ps_expr (pe_hasX hC hr (by decide) (takes_of rfl rfl rfl rfl) (pa_cons (pv 0) pa_nil))) pss_never, ?_⟩)
  · obtain ⟨v, u, rfl, _⟩ := h
    rfl
  · obtain ⟨v, u, rfl, c⟩ := h
    exact ⟨_, rfl, v, rfl, c⟩
theorem has_ringsR (F : FnP K "rings" sRings f fd) (m : mg "rings" = some (.ref f)) (hC : HasX P w K mg base "check_house" 7 (spR1 C)) : HasX P w K mg base "rings" 9 (spR2 C) := by
  refine ⟨f, fd, ["house", "turn"], m, F.kp, F.bindsN (fun _ _ _ _ _ _ us hl => match us, hl with | [_, _], _ => rfl), ?_⟩
  refine F.ok scRings (fun vs H Q E h => ?_) (fun cdv A outer s H vs Q E hr h => ⟨_, pss_cons (ps_expr (pe_hasX hC hr (by decide) (takes_of rfl rfl rfl rfl) (pa_cons (pv 0) pa_nil))) pss_never, ?_⟩)
  · obtain ⟨v, u, rfl, _⟩ := h
    rfl
  · obtain ⟨v, u, rfl, c⟩ := h
    exact ⟨_, rfl, v, rfl, c⟩
theorem has_madeR (F : FnP K "made" sMade f fd) (m : mg "made" = some (.ref f)) (hC : HasX P w K mg base "check_house" 7 (spR1 C)) : HasX P w K mg base "made" 8 (spR2 C) := by
  refine ⟨f, fd, ["house", "row"], m, F.kp, F.bindsN (fun _ _ _ _ _ _ us hl => match us, hl with | [_, _], _ => rfl), ?_⟩
  refine F.ok scMade (fun vs H Q E h => ?_) (fun cdv A outer s H vs Q E hr h => ⟨_, pss_cons (ps_expr (pe_hasX hC hr (by decide) (takes_of rfl rfl rfl rfl) (pa_cons (pv 0) pa_nil))) pss_never, ?_⟩)
  · obtain ⟨v, u, rfl, _⟩ := h
    rfl
  · obtain ⟨v, u, rfl, c⟩ := h
    exact ⟨_, rfl, v, rfl, c⟩
theorem has_sharpR (F : FnP K "is_sharp" sSharp f fd) (m : mg "is_sharp" = some (.ref f)) (hC : HasX P w K mg base "check_whole" 10 (spR1 C)) : HasX P w K mg base "is_sharp" 11 (spR1 C) := by
  refine ⟨f, fd, ["house"], m, F.kp, F.bindsN (fun _ _ _ _ _ _ us hl => match us, hl with | [_], _ => rfl), ?_⟩
  refine F.ok scSharp (fun vs H Q E h => ?_) (fun cdv A outer s H vs Q E hr h => ⟨_, pss_cons (ps_expr (pe_hasX hC hr (by decide) (takes_of rfl rfl rfl rfl) (pa_cons (pv 0) pa_nil))) pss_never, ?_⟩)
  · obtain ⟨v, rfl, _⟩ := h
    rfl
  · obtain ⟨v, rfl, c⟩ := h
    exact ⟨_, rfl, v, rfl, c⟩
theorem has_wrhouseR (F : FnP K "write_house" sWriteHouse f fd) (m : mg "write_house" = some (.ref f)) (hC : HasX P w K mg base "check_house" 7 (spR1 C)) : HasX P w K mg base "write_house" 8 (spR1 C) := by
  refine ⟨f, fd, ["house"], m, F.kp, F.bindsN (fun _ _ _ _ _ _ us hl => match us, hl with | [_], _ => rfl), ?_⟩
  refine F.ok scWriteHouse (fun vs H Q E h => ?_) (fun cdv A outer s H vs Q E hr h => ⟨_, pss_cons (ps_expr (pe_hasX hC hr (by decide) (takes_of rfl rfl rfl rfl) (pa_cons (pv 0) pa_nil))) pss_never, ?_⟩)
  · obtain ⟨v, rfl, _⟩ := h
    rfl
  · obtain ⟨v, rfl, c⟩ := h
    exact ⟨_, rfl, v, rfl, c⟩
theorem has_bothR (F : FnP K "both_groups" sBoth f fd) (m : mg "both_groups" = some (.ref f)) (hC : HasX P w K mg base "check_house" 7 (spR1 C)) : HasX P w K mg base "both_groups" 9 (spR2 C) := by
  refine ⟨f, fd, ["house", "part"], m, F.kp, F.bindsN (fun _ _ _ _ _ _ us hl => match us, hl with | [_, _], _ => rfl), ?_⟩
  refine F.ok scBoth (fun vs H Q E h => ?_) (fun cdv A outer s H vs Q E hr h => ⟨_, pss_cons (ps_expr (pe_hasX hC hr (by decide) (takes_of rfl rfl rfl rfl) (pa_cons (pv 0) pa_nil))) pss_never, ?_⟩)
  · obtain ⟨v, u, rfl, _⟩ := h
    rfl
  · obtain ⟨v, u, rfl, c⟩ := h
    exact ⟨_, rfl, v, rfl, c⟩
theorem has_transR (F : FnP K "is_transitive" sTrans f fd) (m : mg "is_transitive" = some (.ref f)) (B : Bl mg) (hC : HasX P w K mg base "parts" 8 (spR1 C)) : HasX P w K mg base "is_transitive" 9 (spR1 C) := by
  refine ⟨f, fd, ["house"], m, F.kp, F.bindsN (fun _ _ _ _ _ _ us hl => match us, hl with | [_], _ => rfl), ?_⟩
  refine F.ok scTrans (fun vs H Q E h => ?_) (fun cdv A outer s H vs Q E hr h => ⟨_, pss_one (ps_ret (pe_cmpR op_nv (pe_callB cr_nv rfl B.len PySem.boot_len (pa_cons (pe_hasX hC hr (by decide) (takes_of rfl rfl rfl rfl) (pa_cons (pv 0) pa_nil)) pa_nil)) pe_int (nomark _))), ?_⟩)
  · obtain ⟨v, rfl, _⟩ := h
    rfl
  · obtain ⟨v, rfl, c⟩ := h
    exact ⟨_, rfl, v, rfl, c⟩
theorem has_chkwholeR (F : FnP K "check_whole" sChkWhole f fd) (m : mg "check_whole" = some (.ref f)) (hC : HasX P w K mg base "is_transitive" 9 (spR1 C)) : HasX P w K mg base "check_whole" 10 (spR1 C) := by
  refine ⟨f, fd, ["house"], m, F.kp, F.bindsN (fun _ _ _ _ _ _ us hl => match us, hl with | [_], _ => rfl), ?_⟩
  refine F.ok scChkWhole (fun vs H Q E h => ?_) (fun cdv A outer s H vs Q E hr h => ⟨_, pss_one (ps_if (PW.pt (pw_or (pt_not (pt_val (pe_hasX hC hr (by decide) (takes_of rfl rfl rfl rfl) (pa_cons (pv 0) pa_nil)))) (pw_or1 pt_nv))) pss_never pss_nil), ?_⟩)
  · obtain ⟨v, rfl, _⟩ := h
    rfl
  · obtain ⟨v, rfl, c⟩ := h
    exact ⟨_, rfl, v, rfl, c⟩
theorem spR1_CW {C : RC} {k : Nat} {x : Str} (h : HasX P w K mg base x k (spR1 C)) : HasX P w K mg base x k (spCW C) := h.imp fun vs H Q E ⟨v, e, c, _⟩ => ⟨v, e, c⟩
/-- what is refused of a house and a part -/
abbrev RC2 := V → V → Hp → XK → Prop
def spB2 (C2 : RC2) : Sp := fun vs H _ E => ∃ v u, vs = [v, u] ∧ C2 v u H E
def spB3 (C2 : RC2) : Sp := fun vs H _ E => ∃ v u x, vs = [v, u, x] ∧ C2 v u H E
variable {C2 : RC2}
theorem has_withinR (F : FnP K "is_within" sWithin f fd) (m : mg "is_within" = some (.ref f)) (B : Bl mg) (hC : HasX P w K mg base "both_groups" 9 (spB2 C2)) : HasX P w K mg base "is_within" 10 (spB2 C2) := by
  refine ⟨f, fd, ["house", "part"], m, F.kp, F.bindsN (fun _ _ _ _ _ _ us hl => match us, hl with | [_, _], _ => rfl), ?_⟩
  refine F.ok scWithin (fun vs H Q E h => ?_) (fun cdv A outer s H vs Q E hr h => ⟨_, pss_cons (ps_asg (pe_hasX hC hr (by decide) (takes_of rfl rfl rfl rfl) (pa_cons (pv 0) (pa_cons (pv 1) pa_nil))) (pg_tup rfl (pgs_cons (pg_name (i := 2) scWithin.nd rfl (Or.inl rfl)) (pgs_cons (pg_name (i := 3) scWithin.nd rfl (Or.inl rfl)) pgs_nil)))) pss_never, ?_⟩)
  · obtain ⟨v, u, rfl, _⟩ := h
    rfl
  · obtain ⟨v, u, rfl, c⟩ := h
    exact ⟨_, rfl, _, rfl, v, u, rfl, c⟩
theorem has_partgR (F : FnP K "part_groups" sPartG f fd) (m : mg "part_groups" = some (.ref f)) (B : Bl mg) (hC : HasX P w K mg base "both_groups" 9 (spB2 C2)) : HasX P w K mg base "part_groups" 10 (spB2 C2) := by
  refine ⟨f, fd, ["house", "part"], m, F.kp, F.bindsN (fun _ _ _ _ _ _ us hl => match us, hl with | [_, _], _ => rfl), ?_⟩
  refine F.ok scPartG (fun vs H Q E h => ?_) (fun cdv A outer s H vs Q E hr h => ⟨_, pss_cons (ps_asg (pe_hasX hC hr (by decide) (takes_of rfl rfl rfl rfl) (pa_cons (pv 0) (pa_cons (pv 1) pa_nil))) (pg_tup rfl (pgs_cons (pg_name (i := 2) scPartG.nd rfl (Or.inl rfl)) (pgs_cons (pg_name (i := 3) scPartG.nd rfl (Or.inl rfl)) pgs_nil)))) pss_never, ?_⟩)
  · obtain ⟨v, u, rfl, _⟩ := h
    rfl
  · obtain ⟨v, u, rfl, c⟩ := h
    exact ⟨_, rfl, _, rfl, v, u, rfl, c⟩
theorem has_unctR (F : FnP K "uncovered_turns" sUncT f fd) (m : mg "uncovered_turns" = some (.ref f)) (B : Bl mg) (hC : HasX P w K mg base "part_groups" 10 (spB2 C2)) : HasX P w K mg base "uncovered_turns" 11 (spB2 C2) := by
  refine ⟨f, fd, ["house", "part"], m, F.kp, F.bindsN (fun _ _ _ _ _ _ us hl => match us, hl with | [_, _], _ => rfl), ?_⟩
  refine F.ok scUncT (fun vs H Q E h => ?_) (fun cdv A outer s H vs Q E hr h => ⟨_, pss_cons (ps_asg (pe_hasX hC hr (by decide) (takes_of rfl rfl rfl rfl) (pa_cons (pv 0) (pa_cons (pv 1) pa_nil))) (pg_tup rfl (pgs_cons (pg_name (i := 2) scUncT.nd rfl (Or.inl rfl)) (pgs_cons (pg_name (i := 3) scUncT.nd rfl (Or.inl rfl)) pgs_nil)))) pss_never, ?_⟩)
  · obtain ⟨v, u, rfl, _⟩ := h
    rfl
  · obtain ⟨v, u, rfl, c⟩ := h
    exact ⟨_, rfl, _, rfl, v, u, rfl, c⟩
theorem has_countcR (F : FnP K "count_covered" sCountC f fd) (m : mg "count_covered" = some (.ref f)) (B : Bl mg) (hC : HasX P w K mg base "part_groups" 10 (spB2 C2)) : HasX P w K mg base "count_covered" 11 (spB2 C2) := by
  refine ⟨f, fd, ["house", "part"], m, F.kp, F.bindsN (fun _ _ _ _ _ _ us hl => match us, hl with | [_, _], _ => rfl), ?_⟩
  refine F.ok scCountC (fun vs H Q E h => ?_) (fun cdv A outer s H vs Q E hr h => ⟨_, pss_cons (ps_set (i := 2) scCountC.nd rfl (Or.inl rfl) (pe_ix ix_nv (pe_hasX hC hr (by decide) (takes_of rfl rfl rfl rfl) (pa_cons (pv 0) (pa_cons (pv 1) pa_nil))) pe_int (fun _ _ => rfl))) pss_never, ?_⟩)
  · obtain ⟨v, u, rfl, _⟩ := h
    rfl
  · obtain ⟨v, u, rfl, c⟩ := h
    exact ⟨_, rfl, _, rfl, v, u, rfl, c⟩
theorem has_uncR (F : FnP K "uncovered" sUnc f fd) (m : mg "uncovered" = some (.ref f)) (B : Bl mg) (hC : HasX P w K mg base "uncovered_turns" 11 (spB2 C2)) : HasX P w K mg base "uncovered" 12 (spB2 C2) := by
  refine ⟨f, fd, ["house", "part"], m, F.kp, F.bindsN (fun _ _ _ _ _ _ us hl => match us, hl with | [_, _], _ => rfl), ?_⟩
  refine F.ok scUnc (fun vs H Q E h => ?_) (fun cdv A outer s H vs Q E hr h => ⟨_, pss_cons (ps_set (i := 2) scUnc.nd rfl (Or.inl rfl) (pe_hasX hC hr (by decide) (takes_of rfl rfl rfl rfl) (pa_cons (pv 0) (pa_cons (pv 1) pa_nil)))) pss_never, ?_⟩)
  · obtain ⟨v, u, rfl, _⟩ := h
    rfl
  · obtain ⟨v, u, rfl, c⟩ := h
    exact ⟨_, rfl, _, rfl, v, u, rfl, c⟩
theorem has_showsuR (F : FnP K "shows_uncovered" sShowsU f fd) (m : mg "shows_uncovered" = some (.ref f)) (B : Bl mg) (hC : HasX P w K mg base "uncovered_turns" 11 (spB2 C2)) : HasX P w K mg base "shows_uncovered" 12 (spB3 C2) := by
  refine ⟨f, fd, ["house", "part", "value"], m, F.kp, F.bindsN (fun _ _ _ _ _ _ us hl => match us, hl with | [_, _, _], _ => rfl), ?_⟩
  refine F.ok scShowsU (fun vs H Q E h => ?_) (fun cdv A outer s H vs Q E hr h => ⟨_, pss_cons (ps_set (i := 3) scShowsU.nd rfl (Or.inl rfl) (pe_hasX hC hr (by decide) (takes_of rfl rfl rfl rfl) (pa_cons (pv 0) (pa_cons (pv 1) pa_nil)))) pss_never, ?_⟩)
  · obtain ⟨v, u, x, rfl, _⟩ := h
    rfl
  · obtain ⟨v, u, x, rfl, c⟩ := h
    exact ⟨_, rfl, _, rfl, v, u, rfl, c⟩
end
end NS
end
section
set_option maxHeartbeats 4000000
/-! R3: reached where it stops at most -/
namespace NS
open PySem PySem.Spec PyProof.Rows L2 ZS
/-- reached where more than most can be found: some and more than most, or all of it -/
def spReachedL (K : PySem.W.Frag) (P : Program) (w : World) (S : Addr → Option Sp) : Sp := fun vs H Q _ => ∃ (α : Type) (R : Rep K P w α) (step : α → List Int → α) (a0 : α) (ts : List (List Int)) (U : List α) (start tv most : V) (fl : Addr) (spl : Sp),
  vs = [start, tv, .ref fl, most] ∧ R.El H start a0 ∧ PTS K H tv ts ∧ S fl = some spl ∧
  a0 ∈ U ∧ (∀ a ∈ U, ∀ t ∈ ts, step a t ∈ U) ∧ ∃ lm : Nat, most = .int (lm : Int) ∧ 1 ≤ lm ∧ lm + ts.length + 1 < R.lim ∧
  (∀ H1 thing tw a t Q1, Kp H H1 → R.El H1 thing a → a ∈ U → PT H1 tw t → t ∈ ts → (∀ v H2, Kp H1 H2 → R.El H2 v (step a t) → Q1 v H2) → spl [thing, tw] H1 Q1 (fun _ _ _ => False)) ∧
  ∀ p o H' vs' L, Kp H H' → H' p = some (.frz o (.tup vs')) → o.dict = none → Paired (R.El H') vs' L → L.Pairwise R.lt → L.Nodup → (∀ a ∈ L, Rch step ts a0 a) → ((∀ a, Rch step ts a0 a → a ∈ L) ∨ lm < L.length) → Q (.ref p) H'
/-- ahead of each turn of the while -/
def WRL (lm : Nat) {K : PySem.W.Frag} {P : Program} {w : World} {α : Type} (R : Rep K P w α) (step : α → List Int → α) (ts : List (List Int)) (a0 : α) (U : List α) (H : Hp) (start : V) (tb fl : Addr) (most : V) (sa wa : Addr) (m : Nat) (σ : L2.St) (H' : Hp) : Prop :=
  ∃ (L : List α) (ws : List V) (as : List α) (x y z : Option V), σ = [some start, some (.ref tb), some (.ref fl), some most, some (.ref sa), some (.ref wa), x, y, z] ∧ Kp H H' ∧ R.St H' sa L ∧ H' wa = some (.lst ws) ∧ Paired (R.El H') ws as ∧
    (∀ a ∈ as, a ∈ L) ∧ (∀ a ∈ L, Rch step ts a0 a) ∧ a0 ∈ L ∧ (∀ a ∈ L, a ∉ as → ∀ t ∈ ts, step a t ∈ L) ∧ m = 2 * (U.length - L.length) + as.length ∧ L.length ≤ lm + ts.length ∧ as.length ≤ L.length
/-- ahead of each turn of the for -/
def FRL (lm : Nat) {K : PySem.W.Frag} {P : Program} {w : World} {α : Type} (R : Rep K P w α) (step : α → List Int → α) (ts : List (List Int)) (a0 : α) (U : List α) (H : Hp) (start : V) (tb fl : Addr) (most : V) (sa wa : Addr) (v : V) (a : α) (m : Nat) (i : Nat) (σ : L2.St) (H' : Hp) : Prop :=
  ∃ (L : List α) (ws : List V) (as : List α) (y z : Option V), σ = [some start, some (.ref tb), some (.ref fl), some most, some (.ref sa), some (.ref wa), some v, y, z] ∧ Kp H H' ∧ R.El H' v a ∧ a ∈ L ∧ R.St H' sa L ∧ H' wa = some (.lst ws) ∧ Paired (R.El H') ws as ∧
    (∀ a ∈ as, a ∈ L) ∧ (∀ a ∈ L, Rch step ts a0 a) ∧ a0 ∈ L ∧ (∀ b ∈ L, b ∉ as → b ≠ a → ∀ t ∈ ts, step b t ∈ L) ∧ (∀ j, j < i → ∀ t, ts[j]? = some t → step a t ∈ L) ∧ 2 * (U.length - L.length) + as.length < m ∧ L.length ≤ lm + i ∧ as.length + 1 ≤ L.length
theorem FRL.kp {lm : Nat} {K : PySem.W.Frag} {P : Program} {w : World} {α : Type} {R : Rep K P w α} {step : α → List Int → α} {ts : List (List Int)} {a0 : α} {U : List α} {H : Hp} {start : V} {tb fl : Addr} {most : V} {sa wa : Addr} {v : V} {a : α} {m i : Nat} {σ : L2.St} {H' : Hp} (h : FRL lm R step ts a0 U H start tb fl most sa wa v a m i σ H') : Kp H H' := by
  obtain ⟨L, ws, as, y, z, _, zk, _⟩ := h
  exact zk
section
variable {P : Program} {w : World} {K : PySem.W.Frag} {mg : Str → Option Value} {base : Heap} {f : Addr} {fd : FuncData}
theorem ok_reachedL (F : FunD K "reached" "reached" (defArgs sReached) (defBody sReached) (defScope sReached) [.non] [] f fd) (B : Bl mg) {S : Addr → Option Sp} (A : ∀ f sp, S f = some sp → Held P w K mg base 2 f sp) :
    FnOk P w K mg base CX0 3 f fd ["start", "turns", "lead", "most"] (spReachedL K P w S) := by
  refine ok_code F scReached (fun vs H Q E h => ?_) (fun cdv A' outer s H vs Q E hcd hr h => ⟨_, PSs.nox (
    pss_cons (ps_set (i := 4) scReached.nd rfl (Or.inl rfl) (pe_one' hr.units (show PySem.W.kdsCode K cdv = true by rw [hcd]; exact kds_of (codeD F)) (pv 0)))
    (pss_cons (ps_set (i := 5) scReached.nd rfl (Or.inl rfl) (pe_lst (pa_cons (pv 0) pa_nil)))
    (pss_cons (ps_while PassesOwn.never (PW.pt (pw_and (pt_truth (pv 5) (fun _ => rfl)) (pw_and1 (PW.pt (pw_or (pt_cmp (pc_isN (pv 3))) (pw_or1 (pt_cmpR op_le (pe_callB cr_len' rfl B.len PySem.boot_len (pa_cons (pv 4) pa_nil)) (pv 3) (nomark _)))))))) 
      (pss_cons (ps_set (i := 6) scReached.nd rfl (Or.inl rfl) (pe_bm0 PySem.F.plainAttrs_list PySem.F.slot_list_pop PySem.F.type_list_pop mt_pop (pv 5)))
      (pss_one (ps_for PassesOwn.never rfl (pi_tup (pv 1)) (pg_name (i := 7) scReached.nd rfl (Or.inl rfl))
        (pss_cons (ps_set (i := 8) scReached.nd rfl (Or.inl rfl) (pe_callA (i := 2) A hr rfl (.inl rfl) (pa_cons (pv 6) (pa_cons (pv 7) pa_nil))))
        (pss_one (ps_if (pt_cmpR (op_nin hr.units) (pv 8) (pv 4) rfl)
          (pss_cons (ps_expr (pe_imp (pe_uadd hr.units (pv 4) (pa_cons (pv 8) pa_nil)) (fun _ _ _ h => uadd_of h))) (pss_one (ps_expr (pe_bm PySem.F.plainAttrs_list PySem.F.slot_list_append PySem.F.type_list_append mt_append (pv 5) (pa_cons (pv 8) pa_nil))))) pss_nil)))))))
    (pss_one (ps_ret (pe_callTy cr_tupP rfl B.tuple PyProof.Rows.boot_tuple (pa_cons (pe_callB (cr_sor rfl) rfl B.sorted PyProof.Rows.boot_sorted (pa_cons (pv 4) pa_nil)) pa_nil))))))), ?_⟩)
  · obtain ⟨α, R, step, a0, ts, U, start, tv, most, fl, spl, rfl, _⟩ := h
    rfl
  · classical
    obtain ⟨α, R, step, a0, ts, U, start, tv, most, fl, spl, rfl, h0, ⟨tb, tvs, rfl, hT, hp⟩, hS, u0, uc, lm, rfl, l1, ul, hl, q⟩ := h
    refine ⟨_, rfl, R.one h0 fun sa o hsa st1 => ?_⟩
    refine ⟨_, rfl, (by show 1 ≤ sizeLine; decide), fun wa hwa => ?_⟩
    have nws : wa ≠ sa := fun e => by rw [e, upd_same] at hwa; cases hwa
    have hwa0 : H wa = none := by rw [upd_ne nws] at hwa; exact hwa
    have tl := hp.length
    have Rb := R.big
    have inU : ∀ L : List α, (∀ b ∈ L, Rch step ts a0 b) → ∀ b ∈ L, b ∈ U := fun L h b hb => (h b hb).inU u0 uc
    refine ⟨WRL lm R step ts a0 U H start tb fl (.int (lm : Int)) sa wa, ⟨2 * (U.length - 1) + 1, [a0], [start], [a0], none, none, none, rfl, ((Kp.refl H).new hsa).put hwa0, R.st_tup (Tup.new hwa) (upd_ne nws.symm) st1, upd_same, .cons (R.el_tup ((Tup.new hsa).trans (Tup.new hwa)) h0) .nil, fun a h => h, fun a h => by rw [List.mem_singleton.mp h]; exact .base, List.mem_singleton.mpr rfl, fun a h h' => absurd h h', rfl, by show 1 ≤ lm + ts.length; omega, Nat.le_refl _⟩, ?_⟩
    rintro m σ H' ⟨L, ws, as, x, y, z, rfl, zk, st, hw, hp2, sub, rch, m0, cl, rfl, cap, asl⟩
    obtain ⟨os, hos, nos, ndL⟩ := R.st_some st
    have lU : L.length ≤ U.length := nd_le ndL (inU L rch)
    have hor : ∀ Qw : Bool → Hp → Prop, (L.length ≤ lm → Qw true H') → (lm < L.length → Qw false H') → tOr (tB (tIsN (tVar 3))) (tTest (tOp (rI0 fun i j => .bl (decide (i ≤ j))) (tCB (Len K P w) (tCons (tVar 4) tNil)) (tVar 3))) [some start, some (.ref tb), some (.ref fl), some (.int (lm : Int)), some (.ref sa), some (.ref wa), x, y, z] H' Qw := fun Qw hq hf => by
      refine ⟨_, rfl, _, rfl, ifF (A := _) (B := _) (decide_eq_false (fun e => by cases e)) ⟨_, rfl, R.len st ⟨_, rfl, _, _, rfl, rfl, _, rfl, ?_⟩⟩⟩
      by_cases hle : (L.length : Int) ≤ lm
      · rw [decide_eq_true hle]
        exact hq (by omega)
      · rw [decide_eq_false hle]
        exact hf (by omega)
    have fin : ((∀ a, Rch step ts a0 a → a ∈ L) ∨ lm < L.length) → tCB (fun xs H Q => ∃ p ys, xs = [.ref p] ∧ SqL K H p ys ∧ ∀ l o, H l = none → o.dict = none → Q (.ref l) (upd H l (.frz o (.tup ys)))) (tCons (tCB (Sor K P w) (tCons (tVar 4) tNil)) tNil) [some start, some (.ref tb), some (.ref fl), some (.int (lm : Int)), some (.ref sa), some (.ref wa), x, y, z] H' Q := fun hall => by
      refine ⟨_, rfl, R.sort st (by omega) fun p vs' L' pm pw hpn hpr => ⟨p, vs', rfl, SqL.of upd_same, fun l o2 hl2 ho2 => ?_⟩⟩
      exact q l o2 _ vs' L' ((zk.new hpn).new hl2) upd_same ho2 (pair_el R ((Tup.new hpn).trans (Tup.new hl2)) hpr) pw (pm.nodup_iff.mpr ndL) (fun a ha => rch a (pm.mem_iff.mp ha)) (hall.imp (fun h a ha => pm.mem_iff.mpr (h a ha)) (fun hlt => by rw [pm.length_eq]; exact hlt))
    refine ⟨_, rfl, _, .inl ⟨ws, SqL.of hw, rfl⟩, ?_⟩
    by_cases hws : ws = []
    · subst hws
      cases hp2
      refine ifF (A := _) (B := _) rfl (ifF (A := _) (B := _) rfl (fin (.inl fun a h => ?_)))
      induction h with
      | base => exact m0
      | next _ ht ih => exact cl _ ih List.not_mem_nil _ ht
    · refine ifT (A := _) (B := _) (by cases ws with | nil => exact absurd rfl hws | cons _ _ => rfl) (hor _ (fun lle => ifT (A := _) (B := _) rfl ?_) fun hm => ifF (A := _) (B := _) rfl (fin (.inr hm)))
      obtain ⟨v, a, ws', as', rfl, rfl, hva, hp3⟩ := pr_append hp2 hws
      refine ⟨fun σ' H'' => ∃ m', m' < 2 * (U.length - L.length) + (as' ++ [a]).length ∧ WRL lm R step ts a0 U H start tb fl (.int (lm : Int)) sa wa m' σ' H'', fun σ' H'' h => h, ?_⟩
      refine ⟨_, rfl, .inl ⟨rfl, _, SqL.of hw⟩, wa, _, v, rfl, rfl, hw, by simp, ?_⟩
      rw [List.dropLast_concat]
      have tz : Tup H' (upd H' wa (.lst ws')) := Tup.put (by rw [hw]; trivial)
      refine ⟨_, rfl, tb, rfl, ⟨_, (zk.put hwa0).sqT hT⟩, ?_⟩
      refine forG (Wlk.tup hT) (FRL lm R step ts a0 U H start tb fl (.int (lm : Int)) sa wa v a (2 * (U.length - L.length) + (as' ++ [a]).length)) ⟨L, ws', as', y, z, rfl, zk.put hwa0, R.el_tup tz hva, sub a (by simp), R.st_tup tz (upd_ne nws.symm) st, upd_same, pair_el R tz hp3, fun b hb => sub b (by simp [hb]), rch, m0, fun b hb h1 h2 => cl b hb (by simp [h1, h2]), fun j hj => absurd hj (Nat.not_lt_zero _), by rw [List.length_append]; simp, lle, by rw [List.length_append, List.length_singleton] at asl; omega⟩
        (fun i σ' H1 _ h => h.kp) (fun i tw σ' H1 H2 hi hpv z12 hx => ?_) (fun σ' H1 hpv => ?_)
      · obtain ⟨L4, ws4, as4, y4, z4, rfl, zk4, el4, ma, st4, hw4, hp4, sub4, rch4, m04, cl4, done4, ms, cap4, asl4⟩ := hpv
        obtain ⟨os4, hos4, nos4, nd4⟩ := R.st_some st4
        obtain ⟨t, ht, pt⟩ := pr_get hp hx
        have mt := List.mem_of_getElem? ht
        have lU4 : L4.length ≤ U.length := nd_le nd4 (inU L4 rch4)
        refine ⟨fl, spl, rfl, hS, _, rfl, _, rfl, hl _ _ _ a t _ (zk4.trans z12) (R.el_tup z12.tup el4) (inU L4 rch4 a ma) ((zk4.trans z12).pt pt) mt fun v' H4 z24 e4 => ?_⟩
        have zz := z12.trans z24
        have st5 := R.st_tup zz.tup ((zz.k _ _ hos4 nos4).trans hos4.symm) st4
        have hw5 := zz.lst hw4
        refine ⟨_, rfl, _, rfl, R.notin e4 st5 fun b hb => ⟨_, rfl, ?_⟩⟩
        by_cases hb1 : b = true
        · have na := hb.mp hb1
          have lU5 : (step a t :: L4).length ≤ U.length := nd_le (List.nodup_cons.mpr ⟨na, nd4⟩) (inU _ fun b hb => by
            rcases List.mem_cons.mp hb with e | e
            · rw [e]; exact .next (rch4 a ma) mt
            · exact rch4 b e)
          simp only [List.length_cons] at lU5
          refine ifT (A := _) (B := _) hb1 ⟨_, _, rfl, rfl, R.add e4 st5 na (by omega) fun o5 z5 st6 => ?_⟩
          have hw6 : (upd H4 sa o5) wa = some (.lst ws4) := by rw [upd_ne nws]; exact hw5
          have pl := hp4.length
          refine ⟨_, rfl, .inl ⟨rfl, _, SqL.of hw6⟩, _, rfl, wa, ws4, v', rfl, rfl, hw6, by rw [sizeLine_eq]; omega, ?_⟩
          have z6 : Tup (upd H4 sa o5) (upd (upd H4 sa o5) wa (.lst (ws4 ++ [v']))) := Tup.put (by rw [hw6]; trivial)
          have z46 := z5.trans z6
          refine ⟨step a t :: L4, ws4 ++ [v'], as4 ++ [step a t], _, _, rfl, ((zk4.trans zz).put hsa).put hwa0, R.el_tup (zz.tup.trans z46) el4, List.mem_cons_of_mem _ ma, R.st_tup z6 (upd_ne nws.symm) st6, upd_same, Paired.snoc (pair_el R (zz.tup.trans z46) hp4) (R.el_tup z46 e4), fun b hb => ?_, fun b hb => ?_, List.mem_cons_of_mem _ m04, fun b hb h1 h2 t' ht' => ?_, fun j hj t' ht' => ?_, ?_⟩
          · rcases List.mem_append.mp hb with e | e
            · exact List.mem_cons_of_mem _ (sub4 b e)
            · rw [List.mem_singleton.mp e]; exact List.mem_cons_self ..
          · rcases List.mem_cons.mp hb with e | e
            · rw [e]; exact .next (rch4 a ma) mt
            · exact rch4 b e
          · rcases List.mem_cons.mp hb with e | e
            · exact absurd (by rw [e]; simp) h1
            · exact List.mem_cons_of_mem _ (cl4 b e (fun h => h1 (by simp [h])) h2 t' ht')
          · rcases Nat.lt_succ_iff_lt_or_eq.mp hj with e | e
            · exact List.mem_cons_of_mem _ (done4 j e t' ht')
            · rw [e, ht] at ht'
              cases ht'
              exact List.mem_cons_self ..
          · rw [List.length_append, List.length_cons, List.length_singleton]
            refine ⟨by omega, by omega, by omega⟩
        · refine ifF (A := _) (B := _) (by simpa using hb1) ?_
          have ina : step a t ∈ L4 := Classical.not_not.mp fun h => hb1 (hb.mpr h)
          refine ⟨L4, ws4, as4, _, _, rfl, zk4.trans zz, R.el_tup zz.tup el4, ma, st5, hw5, pair_el R zz.tup hp4, sub4, rch4, m04, cl4, fun j hj t' ht' => ?_, ms, by omega, asl4⟩
          rcases Nat.lt_succ_iff_lt_or_eq.mp hj with e | e
          · exact done4 j e t' ht'
          · rw [e, ht] at ht'
            cases ht'
            exact ina
      · obtain ⟨L4, ws4, as4, y4, z4, rfl, zk4, el4, ma, st4, hw4, hp4, sub4, rch4, m04, cl4, done4, ms, cap4, asl4⟩ := hpv
        refine ⟨_, ms, L4, ws4, as4, _, _, _, rfl, zk4, st4, hw4, hp4, sub4, rch4, m04, fun b hb h1 t ht => ?_, rfl, by omega, by omega⟩
        by_cases e : b = a
        · obtain ⟨j, hj, e2⟩ := List.mem_iff_getElem.mp ht
          rw [e]
          exact done4 j (by rw [tl]; exact hj) t (by rw [List.getElem?_eq_getElem hj, e2])
        · exact cl4 b hb h1 e t ht
end
end NS
end
section
set_option maxHeartbeats 4000000
/-! X2: a dict of the module with whole numbers for keys, told by the head -/
namespace NS
open PySem PySem.Spec PyProof.Rows L2 ZS
section
variable {X : Cx}
end
end NS
end
section
set_option maxHeartbeats 4000000
/-! N9: sharps, of houses as they are -/
namespace NS
open PySem PySem.Spec PyProof.Rows L2 ZS
theorem scIsHouse : FnScope ["value"] ["value"] (defScope sIsHouse) := ⟨rfl, rfl, rfl, by decide +kernel, rfl, by decide +kernel, by decide +kernel⟩
section
variable {P : Program} {w : World} {K : PySem.W.Frag} {mg : Str → Option Value} {base : Heap} {f : Addr} {fd : FuncData} {pT pA C : Addr}
end
end NS
end
section
set_option maxHeartbeats 4000000
/-! X3: a dict of the module with whole numbers for keys and turns for values, told by the head -/
namespace NS
open PySem PySem.Spec PyProof.Rows L2 ZS
section
variable {X : Cx}
end
end NS
end
section
set_option maxHeartbeats 4000000
/-! N12: sharps, of any value -/
namespace NS
open PySem PySem.Spec PyProof.Rows L2 ZS
/-- all lists of k halls -/
def listsB (n : Nat) : Nat → List (List Int)
  | 0 => [[]]
  | k + 1 => (listsB n k).flatMap fun l => (List.range n).map fun i : Nat => (i : Int) :: l
theorem mem_listsB {n : Nat} : ∀ {k : Nat} {t : List Int}, t ∈ listsB n k ↔ t.length = k ∧ ∀ x ∈ t, 0 ≤ x ∧ x < (n : Int)
  | 0, t => by
    unfold listsB
    rw [List.mem_singleton]
    refine ⟨fun e => by rw [e]; exact ⟨rfl, fun x h => by cases h⟩, fun ⟨h, _⟩ => List.length_eq_zero_iff.mp h⟩
  | k + 1, t => by
    unfold listsB
    rw [List.mem_flatMap]
    constructor
    · rintro ⟨l, hl, h⟩
      obtain ⟨i, hi, rfl⟩ := List.mem_map.mp h
      obtain ⟨e, lo⟩ := mem_listsB.mp hl
      have := List.mem_range.mp hi
      refine ⟨by rw [List.length_cons, e], fun x hx => ?_⟩
      rcases List.mem_cons.mp hx with rfl | h
      · omega
      · exact lo x h
    · rintro ⟨e, lo⟩
      cases t with
      | nil => cases e
      | cons a l =>
        have ha := lo a List.mem_cons_self
        refine ⟨l, mem_listsB.mpr ⟨by rw [List.length_cons] at e; omega, fun x h => lo x (List.mem_cons_of_mem _ h)⟩, List.mem_map.mpr ⟨a.toNat, List.mem_range.mpr (by omega), ?_⟩⟩
        rw [show ((a.toNat : Nat) : Int) = a by omega]
def spIsHouseX (K : PySem.W.Frag) (pT pA : Addr) : Sp := fun vs H Q _ => ∃ x r : V, vs = [x] ∧ FaultX K H x r ∧ GxR.TabG H pT ∧ GxR.TabG H pA ∧ ∀ H', Kp H H' → Q (.bl (decide (r = .non))) H'
def spSharpG (K : PySem.W.Frag) (pT pA : Addr) : Sp := fun vs H Q _ => ∃ (v : V) (n : Nat) (ts : List (List Int)), vs = [v] ∧ HouseAt K H v n ts ∧ IsH n ts ∧ GxR.TabG H pT ∧ GxR.TabG H pA ∧ Whl n ts ∧
  ∀ b H' (LL : List (List (List Int))), Kp H H' → LL.Nodup → (∀ k, k ∈ LL ↔ Lots2 n ts k) → (∀ W : List (List Int), W.Nodup → (∀ x, x ∈ W ↔ Grp n ts x) → (b = true ↔ LL.length = 2 ∧ W.length = n * n - n)) → Q (.bl b) H'
section
variable {P : Program} {w : World} {K : PySem.W.Frag} {mg : Str → Option Value} {base : Heap} {f : Addr} {fd : FuncData} {pT pA C : Addr} {S : Addr → Option Sp}
theorem has_ishouseX (F : FnP K "is_house" sIsHouse f fd) (m : mg "is_house" = some (.ref f)) (hF : Has P w K mg base "house_fault" 6 [] (spFaultX K pT pA)) : Has P w K mg base "is_house" 7 [] (spIsHouseX K pT pA) := by
  refine ⟨f, fd, ["value"], [], m, F.kp, F.bindsN (fun _ _ _ _ _ _ us hl => match us, hl with | [_], _ => rfl), .nil, ?_⟩
  refine F.ok scIsHouse (fun vs H Q E h => ?_) (fun cdv A outer s H vs Q E hr h => ⟨_, PSs.nox (
    pss_one (ps_ret (pe_cmp (pc_isN (pe_has hF hr (by decide) (pa_cons (pv 0) pa_nil)))))), ?_⟩)
  · obtain ⟨x, r, rfl, _⟩ := h
    rfl
  · obtain ⟨x, r, rfl, hx, gT, gA, q⟩ := h
    exact ⟨_, rfl, x, r, rfl, hx, gT, gA, fun H1 z1 => q H1 z1⟩
/-- check_whole of a whole house, whatever its group -/
theorem has_chkwholeG (F : FnP K "check_whole" sChkWhole f fd) (m : mg "check_whole" = some (.ref f)) (hT : Has P w K mg base "is_transitive" 9 [] (spTrans K pT pA)) : Has P w K mg base "check_whole" 10 [] (fun vs H Q _ => ∃ (v : V) (n : Nat) (ts : List (List Int)), vs = [v] ∧ HouseAt K H v n ts ∧ IsH n ts ∧ GxR.TabG H pT ∧ GxR.TabG H pA ∧ Whl n ts ∧ ∀ H', Kp H H' → Q .non H') := by
  refine ⟨f, fd, ["house"], [], m, F.kp, F.bindsN (fun _ _ _ _ _ _ us hl => match us, hl with | [_], _ => rfl), .nil, ?_⟩
  refine F.ok scChkWhole (fun vs H Q E h => ?_) (fun cdv A outer s H vs Q E hr h => ⟨_, PSs.nox (
    pss_one (ps_if (PW.pt (pw_or (pt_not (pt_val (pe_has hT hr (by decide) (pa_cons (pv 0) pa_nil)))) (pw_or1 (pt_cmpR op_lt (pe_ix (r := rIxT K) ix_tup (pv 0) pe_int (fun _ _ => rfl)) pe_int (nomark _))))) (pss_one ps_never) pss_nil)), ?_⟩)
  · obtain ⟨v, n, ts, rfl, _⟩ := h
    rfl
  · obtain ⟨v, n, ts, rfl, hv, hi, gT, gA, one, q⟩ := h
    refine ⟨_, rfl, v, n, ts, rfl, hv, hi, gT, gA, fun H1 LL z1 as => ?_⟩
    have e1 := one.2 LL as
    obtain ⟨a, tv, rfl, hT, hp⟩ := z1.house hv
    refine ⟨_, rfl, ?_⟩
    rw [decide_eq_true e1]
    refine ifF (A := _) (B := _) rfl ⟨_, rfl, a, _, 0, _, rfl, rfl, hT, rfl, _, _, rfl, rfl, _, rfl, ifF (A := _) (B := _) (decide_eq_false (by have := one.1; omega)) (q H1 z1)⟩
theorem has_sharpG (F : FnP K "is_sharp" sSharp f fd) (m : mg "is_sharp" = some (.ref f)) (B : Bl mg) {fT : Addr} (mT : mg "then" = some (.ref fT)) (sT : S fT = some (spThen K))
    (hC : Has P w K mg base "check_whole" 10 [] (fun vs H Q _ => ∃ (v : V) (n : Nat) (ts : List (List Int)), vs = [v] ∧ HouseAt K H v n ts ∧ IsH n ts ∧ GxR.TabG H pT ∧ GxR.TabG H pA ∧ Whl n ts ∧ ∀ H', Kp H H' → Q .non H'))
    (hK : Has P w K mg base "rank" 8 [] (spRank K pT pA)) (hS : Has P w K mg base "still" 1 [] spStill) (hR : Has P w K mg base "reached" 3 [] (spReachedL K P w S)) : Has P w K mg base "is_sharp" 11 [] (spSharpG K pT pA) := by
  refine ⟨f, fd, ["house"], [], m, F.kp, F.bindsN (fun _ _ _ _ _ _ us hl => match us, hl with | [_], _ => rfl), .nil, ?_⟩
  refine F.ok scSharp (fun vs H Q E h => ?_) (fun cdv A outer s H vs Q E hr h => ⟨_, PSs.nox (
    pss_cons (ps_expr (pe_has hC hr (by decide) (pa_cons (pv 0) pa_nil)))
    (pss_cons (ps_asg (pv 0) (pg_tup rfl (pgs_cons (pg_name (i := 1) scSharp.nd rfl (Or.inl rfl)) (pgs_cons (pg_name (i := 2) scSharp.nd rfl (Or.inl rfl)) pgs_nil))))
    (pss_cons (ps_set (i := 3) scSharp.nd rfl (Or.inl rfl) (pe_op op_mul (pv 1) (pe_op op_sub (pv 1) pe_int)))
    (pss_one (ps_ret (pe_and (pe_cmpR op_eq (pe_has hK hr (by decide) (pa_cons (pv 0) pa_nil)) pe_int (nomark _))
      (pe_one (pe_cmpR op_eq (pe_callB call_len_seq rfl B.len PySem.boot_len (pa_cons (pe_has hR hr (by decide) (pa_cons (pe_has hS hr (by decide) (pa_cons (pv 1) pa_nil)) (pa_cons (pv 2) (pa_cons (pe_glob (v := .ref fT) rfl mT rfl) (pa_cons (pv 3) pa_nil))))) pa_nil)) (pv 3) (nomark _))))))))), ?_⟩)
  · obtain ⟨v, n, ts, rfl, _⟩ := h
    rfl
  · obtain ⟨v, n, ts, rfl, hv0, hi, gT0, gA0, one, q⟩ := h
    refine ⟨_, rfl, v, n, ts, rfl, hv0, hi, gT0, gA0, one, fun H1 z1 => ?_⟩
    have hv := z1.house hv0
    have gT := z1.tabG gT0
    have gA := z1.tabG gA0
    have hv1 := hv
    obtain ⟨a, tv, rfl, hT, hp⟩ := hv
    have h1 := hi.n1
    have h8 := hi.n8
    have n2 := one.1
    have t6 := hi.t6
    refine ⟨_, rfl, a, _, rfl, hT, rfl, _, _, rfl, _, _, rfl, rfl, ?_⟩
    refine ⟨_, rfl, _, rfl, _, _, rfl, rfl, _, _, rfl, rfl, .inl ⟨by omega, by omega⟩, ?_⟩
    refine ⟨_, rfl, _, n, ts, rfl, hv1, hi, gT, gA, fun H2 LL z2 nd2 mem2 => ⟨rfl, _, rfl, ?_⟩⟩
    have d1 : decide (V.int (LL.length : Int) = V.int 2) = decide (LL.length = 2) := decide_eq_decide.mpr ⟨fun e => by injection e; omega, fun e => by rw [e]; rfl⟩
    rw [d1]
    by_cases e2 : LL.length = 2
    · refine ifT (A := _) (B := _) (decide_eq_true e2) ?_
      refine ⟨_, rfl, n, rfl, by omega, fun sv H3 z3 ps => ⟨_, rfl, _, rfl, ?_⟩⟩
      have pos := nn_pos n2
      have lm8 : n * n - n ≤ 56 := by
        have : n * n ≤ 8 * n := Nat.mul_le_mul_right n h8
        have : n * n - n = n * (n - 1) := by rw [Nat.mul_sub, Nat.mul_one]
        rw [this]
        exact Nat.le_trans (Nat.mul_le_mul h8 (show n - 1 ≤ 7 by omega)) (by decide)
      refine ⟨_, repT K P w, comp, idt n, ts, listsB n n, sv, tv, _, fT, _, rfl, elT ps (ne_len (idt_isT n) h1), NS.Tup.pts (z2.trans z3).tup hp, sT, mem_listsB.mpr ⟨(idt_isT n).len, (idt_isT n).low⟩, fun a ha t ht => ?_, n * n - n, by show V.int ((n : Int) * ((n : Int) - 1)) = _; rw [nn_int h1], pos, by show n * n - n + ts.length + 1 < 4096; omega, fun H4 th tw b t Q1 z4 el bU pt ht q1 => ?_, fun p o H4 vs' L z4 e4 d4 pr pw nd mem all => ?_⟩
      · obtain ⟨e, lo⟩ := mem_listsB.mp ha
        have tt := hi.is t ht
        refine mem_listsB.mpr ⟨by rw [comp_len, e], fun x hx => ?_⟩
        obtain ⟨k, hk, rfl⟩ := List.mem_map.mp hx
        have := lo k hk
        have := (tt.getD (i := k.toNat) (by omega))
        omega
      · obtain ⟨e, lo⟩ := mem_listsB.mp bU
        have tt := hi.is t ht
        refine ⟨th, tw, b, t, rfl, el.1, (by first | exact pt | exact pt.ti), by rw [tt.len]; exact lo, by omega, fun r H5 z5 p5 => q1 r H5 z5 (elT p5 fun e0 => ?_)⟩
        have := comp_len b t
        rw [e0, e] at this
        simp at this
        omega
      · refine ⟨p, vs', rfl, .inr (.inl (.inr ⟨o, e4⟩)), _, rfl, rfl, ?_⟩
        rw [pr.length]
        refine q _ H4 LL (((z1.trans z2).trans z3).trans z4) nd2 mem2 fun W ndW mW => ?_
        have sub : L.length ≤ W.length := nd_le nd fun x hx => (mW x).mpr (mem x hx)
        rw [decide_eq_true_iff]
        show V.int (L.length : Int) = V.int ((n : Int) * ((n : Int) - 1)) ↔ _
        rw [nn_int h1]
        constructor
        · intro e
          injection e with e
          refine ⟨e2, ?_⟩
          rcases all with h | hlt
          · have := nd_le ndW fun x hx => h x ((mW x).mp hx)
            omega
          · omega
        · rintro ⟨_, e⟩
          rcases all with h | hlt
          · have := nd_le ndW fun x hx => h x ((mW x).mp hx)
            rw [show L.length = n * n - n by omega]
          · omega
    · refine ifF (A := _) (B := _) (decide_eq_false e2) ?_
      exact q false H2 LL (z1.trans z2) nd2 mem2 fun W ndW mW => ⟨fun e => (by cases e), fun ⟨e, _⟩ => absurd e e2⟩
end
end NS
end
section
set_option maxHeartbeats 4000000
/-! M21: a group of all turns of eight halls -/
namespace NS
def gr8 : List (List Int) := [[1, 2, 3, 4, 5, 6, 7, 0], [1, 0, 2, 3, 4, 5, 6, 7]]
theorem gr8_is : ∀ t ∈ gr8, IsT 8 t := by
  intro t h
  have : ∀ t ∈ gr8, t.length = 8 ∧ (∀ x ∈ t, 0 ≤ x ∧ x < 8) ∧ t.Nodup := by decide +kernel
  obtain ⟨h1, h2, h3⟩ := this t h
  exact ⟨h1, h2, h3⟩
/-- i and j change places -/
def g8swp (i j : Nat) : List Int := (List.range 8).map fun k => if k = i then (j : Int) else if k = j then (i : Int) else (k : Int)
def cy8 : List Int := [1, 2, 3, 4, 5, 6, 7, 0]
def tw8 : List Int := [1, 0, 2, 3, 4, 5, 6, 7]
def g8adj (k : Nat) : List (List Int) := List.replicate ((8 - k) % 8) cy8 ++ (tw8 :: List.replicate k cy8)
/-- i < j -/
def g8w (i j : Nat) : List (List Int) := ((List.range (j - i)).map (i + ·)).flatMap g8adj ++ ((List.range (j - i - 1)).reverse.map (i + ·)).flatMap g8adj
def g8ws (i j : Nat) : List (List Int) := if i < j then g8w i j else if j < i then g8w j i else []
theorem g8w_ok : ∀ i < 8, ∀ j < 8, (g8ws i j).foldl comp (idt 8) = g8swp i j := by decide +kernel
theorem g8w_in : ∀ i < 8, ∀ j < 8, ∀ t ∈ g8ws i j, t ∈ gr8 := by decide +kernel
theorem g8rch_word {ts : List (List Int)} {a0 : List Int} : ∀ (w : List (List Int)) {a : List Int}, (∀ t ∈ w, t ∈ ts) → Rch comp ts a0 a → Rch comp ts a0 (w.foldl comp a)
  | [], _, _, h => h
  | t :: w, _, hw, h => g8rch_word w (fun u hu => hw u (List.mem_cons_of_mem _ hu)) (.next h (hw t List.mem_cons_self))
theorem g8word_comp {n : Nat} : ∀ (w : List (List Int)) {a b : List Int}, IsT n a → IsT n b → (∀ t ∈ w, IsT n t) → w.foldl comp (comp a b) = comp a (w.foldl comp b)
  | [], _, _, _, _, _ => rfl
  | t :: w, a, b, ha, hb, hw => by
    rw [List.foldl_cons, List.foldl_cons, comp_assoc ha hb t]
    exact g8word_comp w ha (hb.comp (hw t List.mem_cons_self)) fun u hu => hw u (List.mem_cons_of_mem _ hu)
theorem g8rch_swp {a : List Int} (ha : IsT 8 a) (h : Rch comp gr8 (idt 8) a) {i j : Nat} (hi : i < 8) (hj : j < 8) : Rch comp gr8 (idt 8) (comp a (g8swp i j)) := by
  have e := g8word_comp (g8ws i j) ha (idt_isT 8) fun t ht => gr8_is t (g8w_in i hi j hj t ht)
  rw [comp_idt ha, g8w_ok i hi j hj] at e
  rw [← e]
  exact g8rch_word _ (g8w_in i hi j hj) h
theorem g8swp_is {i j : Nat} (hi : i < 8) (hj : j < 8) : IsT 8 (g8swp i j) := by
  have : ∀ i < 8, ∀ j < 8, (g8swp i j).length = 8 ∧ (∀ x ∈ g8swp i j, 0 ≤ x ∧ x < 8) ∧ (g8swp i j).Nodup := by decide +kernel
  obtain ⟨h1, h2, h3⟩ := this i hi j hj
  exact ⟨h1, h2, h3⟩
theorem g8swp_at {i j : Nat} (hi : i < 8) (hj : j < 8) {k : Nat} (hk : k < 8) : at' (g8swp i j) k = if k = i then j else if k = j then i else k := by
  have : ∀ i < 8, ∀ j < 8, ∀ k < 8, at' (g8swp i j) k = if k = i then j else if k = j then i else k := by decide +kernel
  exact this i hi j hj k hk
/-- all turns are reached -/
theorem gr8_all {p : List Int} (hp : IsT 8 p) : Rch comp gr8 (idt 8) p := by
  have key : ∀ m, m ≤ 8 → ∃ q, IsT 8 q ∧ Rch comp gr8 (idt 8) q ∧ ∀ k < m, at' q k = at' p k := by
    intro m
    induction m with
    | zero => exact fun _ => ⟨idt 8, idt_isT 8, .base, fun k h => absurd h (Nat.not_lt_zero k)⟩
    | succ m ih =>
      intro hm
      obtain ⟨q, hq, rq, eq⟩ := ih (by omega)
      have hi := hq.lt (i := m) (by omega)
      have hj := hp.lt (i := m) (by omega)
      refine ⟨comp q (g8swp (at' q m) (at' p m)), hq.comp (g8swp_is hi hj), g8rch_swp hq rq hi hj, fun k hk => ?_⟩
      rw [at_comp hq _ (show k < 8 by omega), g8swp_at hi hj (hq.lt (show k < 8 by omega))]
      by_cases e : k = m
      · subst e
        rw [if_pos rfl]
      · have km : k < m := by omega
        rw [if_neg fun e2 => e (hq.inj (by omega) (by omega) e2), if_neg fun e2 => e (hp.inj (show k < 8 by omega) (show m < 8 by omega) (by rw [← eq k km]; exact e2)), eq k km]
  obtain ⟨q, hq, rq, eq⟩ := key 8 (Nat.le_refl 8)
  rw [← hq.ext hp eq]
  exact rq
/-- turns in order -/
def g8prm : Nat → List Int → List (List Int)
  | 0, _ => [[]]
  | n + 1, l => l.flatMap fun x => (g8prm n (l.filter fun y => decide (y ≠ x))).map (x :: ·)
def g8enc (p : List Int) : Nat := p.foldl (fun a x => a * 8 + x.toNat) 0
def g8inc : List Nat → Bool
  | a :: b :: l => decide (a < b) && g8inc (b :: l)
  | _ => true
theorem g8inc_pw : ∀ {l : List Nat}, g8inc l = true → l.Pairwise (· < ·)
  | [], _ => .nil
  | [a], _ => List.pairwise_singleton ..
  | a :: b :: l, h => by
    unfold g8inc at h
    rw [Bool.and_eq_true, decide_eq_true_iff] at h
    have ih := g8inc_pw h.2
    refine List.pairwise_cons.mpr ⟨fun c hc => ?_, ih⟩
    rcases List.mem_cons.mp hc with e | e
    · rw [e]; exact h.1
    · exact Nat.lt_trans h.1 ((List.pairwise_cons.mp ih).1 c e)
def g8most : List (List Int) := (g8prm 7 [0, 1, 2, 3, 4, 5, 6]).map (· ++ [7]) ++ [[7, 0, 1, 2, 3, 4, 5, 6]]
def g8isB (p : List Int) : Bool := decide (p.length = 8) && p.all (fun x => decide (0 ≤ x) && decide (x < 8)) && decide (p.Nodup)
theorem g8most_ok : (g8most.length == 5041 && g8inc (g8most.map g8enc) && g8most.all g8isB) = true := by decide +kernel
theorem gr8_many {L : List (List Int)} (h : ∀ a, Rch comp gr8 (idt 8) a → a ∈ L) : 5040 < L.length := by
  have ok := g8most_ok
  simp only [Bool.and_eq_true, beq_iff_eq] at ok
  obtain ⟨⟨h1, h2⟩, h3⟩ := ok
  have nd : g8most.Nodup := by
    have := g8inc_pw h2
    rw [List.pairwise_map] at this
    exact this.imp fun h e => by rw [e] at h; exact Nat.lt_irrefl _ h
  have le := nd_le nd fun p hp => h p (gr8_all (by
    have := List.all_eq_true.mp h3 p hp
    unfold g8isB at this
    simp only [Bool.and_eq_true, decide_eq_true_iff, List.all_eq_true] at this
    obtain ⟨⟨a1, a2⟩, a3⟩ := this
    exact ⟨a1, a2, a3⟩))
  omega
end NS
end
section
set_option maxHeartbeats 4000000
/-! N24: groups too great, houses unlike, odd turns, odd rows -/
namespace NS
open PySem PySem.Spec PyProof.Rows L2 ZS
def HG (K : PySem.W.Frag) (pT pA : Addr) (H : Hp) (v : V) (n : Nat) (ts : List (List Int)) : Prop := HouseAt K H v n ts ∧ IsH n ts ∧ GxR.TabG H pT ∧ GxR.TabG H pA
theorem HG.kp {K : PySem.W.Frag} {pT pA : Addr} {H H' : Hp} {v : V} {n : Nat} {ts : List (List Int)} (h : HG K pT pA H v n ts) (z : Kp H H') : HG K pT pA H' v n ts := ⟨z.house h.1, h.2.1, z.tabG h.2.2.1, z.tabG h.2.2.2⟩
def errH (E : XK) (C : Addr) (f : Str) (x : V) (H : Hp) : Prop := ∀ d H', Kp H H' → H' d = none → E (.ref C) (some d) (upd H' d (.xd [(f, x)]))
theorem errH.kp {E : XK} {C : Addr} {f : Str} {x : V} {H H' : Hp} (h : errH E C f x H) (z : Kp H H') : errH E C f x H' := fun d H2 z2 n => h d H2 (z.trans z2) n
/-- no house, at this part -/
def CBad (K : PySem.W.Frag) (pT pA C : Addr) : RC := fun v H E => ∃ w : Str, FaultX K H v (.str w) ∧ GxR.TabG H pT ∧ GxR.TabG H pA ∧ errH E C "part" (.str w) H
/-- the great house -/
def CGreat (K : PySem.W.Frag) (pT pA C : Addr) : RC := fun v H E => HG K pT pA H v 8 gr8 ∧ errH E C "most" (.int 5040) H
theorem CGreat.kp {K : PySem.W.Frag} {pT pA C : Addr} (v : V) (H H' : Hp) (E : XK) (z : Kp H H') (h : CGreat K pT pA C v H E) : CGreat K pT pA C v H' E := ⟨h.1.kp z, h.2.kp z⟩
section
variable {P : Program} {w : World} {K : PySem.W.Frag} {mg : Str → Option Value} {base : Heap} {f : Addr} {fd : FuncData} {pT pA CB CM CU CT CR : Addr} {S : Addr → Option Sp}
theorem chk_of (h : HasX P w K mg base "check_house" 7 (spChkHouseX K pT pA CB)) : Has P w K mg base "check_house" 7 [] (spHouse K pT pA) := h.no.imp fun vs H Q E ⟨v, n, ts, e, hv, hi, gT, gA, q⟩ => ⟨v, .non, e, faultX_house hv hi, gT, gA, fun _ => q, fun n => absurd rfl n⟩
theorem chk_bad (h : HasX P w K mg base "check_house" 7 (spChkHouseX K pT pA CB)) : HasX P w K mg base "check_house" 7 (spR1 (CBad K pT pA CB)) := h.imp fun vs H Q E ⟨v, e, wd, hF, gT, gA, q⟩ => ⟨v, .str wd, e, hF, gT, gA, (fun e => by cases e), fun _ => q⟩
theorem has_membersG (F : FnP K "members" sMembers f fd) (m : mg "members" = some (.ref f)) (B : Bl mg) (m5 : ∃ t, mg "MOST_MEMBERS" = some (.int 5040 t)) {fT : Addr} (mT : mg "then" = some (.ref fT)) (sT : S fT = some (spThen K)) (TM : ErrF P w K mg base "TooMany" "most" CM)
    (hC : Has P w K mg base "check_house" 7 [] (spHouse K pT pA)) (hS : Has P w K mg base "still" 1 [] spStill) (hR : Has P w K mg base "reached" 3 [] (spReachedL K P w S)) : HasX P w K mg base "members" 8 (spR1 (CGreat K pT pA CM)) := by
  obtain ⟨t5, m5⟩ := m5
  refine ⟨f, fd, ["house"], m, F.kp, F.bindsN (fun _ _ _ _ _ _ us hl => match us, hl with | [_], _ => rfl), ?_⟩
  refine F.ok scMembers (fun vs H Q E h => ?_) (fun cdv A outer s H vs Q E hr h => ⟨_,
    pss_cons (ps_expr (pe_has hC hr (by decide) (pa_cons (pv 0) pa_nil)))
    (pss_cons (ps_asg (pv 0) (pg_tup rfl (pgs_cons (pg_name (i := 1) scMembers.nd rfl (Or.inl rfl)) (pgs_cons (pg_name (i := 2) scMembers.nd rfl (Or.inl rfl)) pgs_nil))))
    (pss_cons (ps_set (i := 3) scMembers.nd rfl (Or.inl rfl) (pe_has hR hr (by decide) (pa_cons (pe_has hS hr (by decide) (pa_cons (pv 1) pa_nil)) (pa_cons (pv 2) (pa_cons (pe_glob (v := .ref fT) rfl mT rfl) (pa_cons (pe_glob (v := .int 5040) rfl m5 ⟨_, rfl⟩) pa_nil))))))
    (pss_cons (ps_if (pt_cmpR op_gt (pe_callB call_len_seq rfl B.len PySem.boot_len (pa_cons (pv 3) pa_nil)) (pe_glob (v := .int 5040) rfl m5 ⟨_, rfl⟩) (nomark _)) (pss_one (ps_raiseF (k := 5) TM hr (takes_of rfl rfl rfl rfl) (pa_cons (pe_glob (v := .int 5040) rfl m5 ⟨_, rfl⟩) pa_nil))) pss_nil) pss_never))), ?_⟩)
  · obtain ⟨v, rfl, _⟩ := h
    rfl
  · obtain ⟨v, rfl, ⟨hv, hi, gT, gA⟩, qe⟩ := h
    refine ⟨_, rfl, v, 8, gr8, rfl, hv, hi, gT, gA, fun H1 z1 => ?_⟩
    obtain ⟨a, tv, rfl, hT, hp⟩ := z1.house hv
    refine ⟨_, rfl, a, _, rfl, hT, rfl, _, _, rfl, _, _, rfl, rfl, ?_⟩
    refine ⟨_, rfl, 8, rfl, by omega, fun sv H2 z2 ps => ⟨_, rfl, ?_⟩⟩
    refine ⟨_, repT5 K P w, comp, idt 8, gr8, listsB 8 8, sv, tv, _, fT, _, rfl, elT ps (ne_len (idt_isT 8) (by decide)), z2.pts hp, sT, mem_listsB.mpr ⟨(idt_isT 8).len, (idt_isT 8).low⟩, fun a ha t ht => ?_, 5040, rfl, by decide, by show 5040 + gr8.length + 1 < 5090; decide, fun H4 th tw b t Q1 z4 el bU pt ht q1 => ?_, fun p o H4 vs' L z4 e4 d4 pr pw nd mem all => ?_⟩
    · obtain ⟨e, lo⟩ := mem_listsB.mp ha
      have tt := gr8_is t ht
      refine mem_listsB.mpr ⟨by rw [comp_len, e], fun x hx => ?_⟩
      obtain ⟨k, hk, rfl⟩ := List.mem_map.mp hx
      have := lo k hk
      have := (tt.getD (i := k.toNat) (by omega))
      omega
    · obtain ⟨e, lo⟩ := mem_listsB.mp bU
      have tt := gr8_is t ht
      refine ⟨th, tw, b, t, rfl, el.1, pt.ti, by rw [tt.len]; exact lo, by omega, fun r H5 z5 p5 => q1 r H5 z5 (elT p5 fun e0 => ?_)⟩
      have := comp_len b t
      rw [e0, e] at this
      simp at this
    · have many : 5040 < L.length := all.elim (fun h => gr8_many h) id
      have pl := pr.length
      refine ⟨_, rfl, p, vs', rfl, .inr (.inl (.inr ⟨o, e4⟩)), _, _, rfl, rfl, _, rfl, ifT (A := _) (B := _) (decide_eq_true (by omega)) ?_⟩
      exact mkF fun d hd => qe d H4 ((z1.trans z2).trans z4) hd
/-- a house and something that is none -/
def C2Bad (K : PySem.W.Frag) (pT pA C : Addr) : RC2 := fun v u H E => (∃ n ts, HG K pT pA H v n ts) ∧ CBad K pT pA C u H E
/-- houses of other halls -/
def C2Un (K : PySem.W.Frag) (pT pA C : Addr) : RC2 := fun v u H E => (∃ n ts n' ts', HG K pT pA H v n ts ∧ HG K pT pA H u n' ts' ∧ n ≠ n') ∧ ∀ H', Kp H H' → E (.ref C) none H'
/-- two houses alike, the first too great -/
def C2Gr (K : PySem.W.Frag) (pT pA C : Addr) : RC2 := fun v u H E => CGreat K pT pA C v H E ∧ ∃ ts', HG K pT pA H u 8 ts'
theorem has_bothB (F : FnP K "both_groups" sBoth f fd) (m : mg "both_groups" = some (.ref f)) (hC : HasX P w K mg base "check_house" 7 (spChkHouseX K pT pA CB)) : HasX P w K mg base "both_groups" 9 (spB2 (C2Bad K pT pA CB)) := by
  refine ⟨f, fd, ["house", "part"], m, F.kp, F.bindsN (fun _ _ _ _ _ _ us hl => match us, hl with | [_, _], _ => rfl), ?_⟩
  refine F.ok scBoth (fun vs H Q E h => ?_) (fun cdv A outer s H vs Q E hr h => ⟨_, pss_cons (ps_expr (pe_has (chk_of hC) hr (by decide) (pa_cons (pv 0) pa_nil))) (pss_cons (ps_expr (pe_hasX (chk_bad hC) hr (by decide) (takes_of rfl rfl rfl rfl) (pa_cons (pv 1) pa_nil))) pss_never), ?_⟩)
  · obtain ⟨v, u, rfl, _⟩ := h
    rfl
  · obtain ⟨v, u, rfl, ⟨n, ts, hv, hi, gT, gA⟩, wd, hF, gT', gA', q⟩ := h
    exact ⟨_, rfl, v, n, ts, rfl, hv, hi, gT, gA, fun H1 z1 => ⟨_, rfl, u, rfl, wd, hF.kp z1, z1.tabG gT, z1.tabG gA, q.kp z1⟩⟩
theorem has_bothU (F : FnP K "both_groups" sBoth f fd) (m : mg "both_groups" = some (.ref f)) (T : ExcC K mg "Unlike" CU) (hC : Has P w K mg base "check_house" 7 [] (spHouse K pT pA)) : HasX P w K mg base "both_groups" 9 (spB2 (C2Un K pT pA CU)) := by
  refine ⟨f, fd, ["house", "part"], m, F.kp, F.bindsN (fun _ _ _ _ _ _ us hl => match us, hl with | [_, _], _ => rfl), ?_⟩
  refine F.ok scBoth (fun vs H Q E h => ?_) (fun cdv A outer s H vs Q E hr h => ⟨_, pss_cons (ps_expr (pe_has hC hr (by decide) (pa_cons (pv 0) pa_nil))) (pss_cons (ps_expr (pe_has hC hr (by decide) (pa_cons (pv 1) pa_nil)))
    (pss_cons (ps_if (pt_cmpR op_ne (pe_ix (r := rIxT K) ix_tup (pv 0) pe_int (fun _ _ => rfl)) (pe_ix (r := rIxT K) ix_tup (pv 1) pe_int (fun _ _ => rfl)) (nomark _)) (pss_one (ps_raise0 T (takes_of rfl rfl rfl rfl))) pss_nil) pss_never)), ?_⟩)
  · obtain ⟨v, u, rfl, _⟩ := h
    rfl
  · obtain ⟨v, u, rfl, ⟨n, ts, n', ts', ⟨hv, hi, gT, gA⟩, ⟨hu, hi', _, _⟩, ne⟩, q⟩ := h
    refine ⟨_, rfl, v, n, ts, rfl, hv, hi, gT, gA, fun H1 z1 => ⟨_, rfl, u, n', ts', rfl, z1.house hu, hi', z1.tabG gT, z1.tabG gA, fun H2 z2 => ?_⟩⟩
    obtain ⟨a, tv, rfl, hT, hp⟩ := (z1.trans z2).house hv
    obtain ⟨b, uv, rfl, hT', hp'⟩ := (z1.trans z2).house hu
    refine ⟨_, rfl, a, _, 0, _, rfl, rfl, hT, rfl, _, rfl, b, _, 0, _, rfl, rfl, hT', rfl, rfl, _, rfl, ifT (A := _) (B := _) ?_ (q H2 (z1.trans z2))⟩
    have : V.int (n : Int) ≠ V.int (n' : Int) := fun e => ne (by injection e with e; omega)
    simp [this]
theorem has_bothG (F : FnP K "both_groups" sBoth f fd) (m : mg "both_groups" = some (.ref f)) (hC : Has P w K mg base "check_house" 7 [] (spHouse K pT pA)) (hM : HasX P w K mg base "members" 8 (spR1 (CGreat K pT pA CM))) : HasX P w K mg base "both_groups" 9 (spB2 (C2Gr K pT pA CM)) := by
  refine ⟨f, fd, ["house", "part"], m, F.kp, F.bindsN (fun _ _ _ _ _ _ us hl => match us, hl with | [_, _], _ => rfl), ?_⟩
  refine F.ok scBoth (fun vs H Q E h => ?_) (fun cdv A outer s H vs Q E hr h => ⟨_, pss_cons (ps_expr (pe_has hC hr (by decide) (pa_cons (pv 0) pa_nil))) (pss_cons (ps_expr (pe_has hC hr (by decide) (pa_cons (pv 1) pa_nil)))
    (pss_cons (ps_if (pt_cmpR op_ne (pe_ix (r := rIxT K) ix_tup (pv 0) pe_int (fun _ _ => rfl)) (pe_ix (r := rIxT K) ix_tup (pv 1) pe_int (fun _ _ => rfl)) (nomark _)) pss_never pss_nil)
    (pss_one (ps_ret (pe_tup (pa_cons (pe_hasX hM hr (by decide) (takes_of rfl rfl rfl rfl) (pa_cons (pv 0) pa_nil)) (pa_cons pe_nv pa_nil))))))), ?_⟩)
  · obtain ⟨v, u, rfl, _⟩ := h
    rfl
  · obtain ⟨v, u, rfl, c, ts', ⟨hu, hi', _, _⟩⟩ := h
    obtain ⟨hv, hi, gT, gA⟩ := c.1
    refine ⟨_, rfl, v, 8, gr8, rfl, hv, hi, gT, gA, fun H1 z1 => ⟨_, rfl, u, 8, ts', rfl, z1.house hu, hi', z1.tabG gT, z1.tabG gA, fun H2 z2 => ?_⟩⟩
    have c2 := CGreat.kp _ _ _ _ (z1.trans z2) c
    obtain ⟨a, tv, rfl, hT, hp⟩ := (z1.trans z2).house hv
    obtain ⟨b, uv, rfl, hT', hp'⟩ := (z1.trans z2).house hu
    exact ⟨_, rfl, a, _, 0, _, rfl, rfl, hT, rfl, _, rfl, b, _, 0, _, rfl, rfl, hT', rfl, rfl, _, rfl, ifF (A := _) (B := _) (by simp) ⟨_, rfl, _, rfl, c2⟩⟩
end
end NS
end
section
set_option maxHeartbeats 4000000
/-! N25: odd turns, odd rows -/
namespace NS
open PySem PySem.Spec PyProof.Rows L2 ZS
theorem scRowInit : FnScope ["self", "index"] ["self", "index"] (defScope sRowInit) := ⟨rfl, rfl, rfl, by decide +kernel, rfl, by decide +kernel, by decide +kernel⟩
theorem scManyInit : FnScope ["self", "most"] ["self", "most"] (defScope sManyInit) := ⟨rfl, rfl, rfl, by decide +kernel, rfl, by decide +kernel, by decide +kernel⟩
section
variable {P : Program} {w : World} {K : PySem.W.Frag} {mg : Str → Option Value} {base : Heap} {fI C : Addr} {fd : FuncData}
theorem errR_of (g : mg "BadRow" = some (.ref C)) (o : oexB K C = true) (m : PySem.W.exmOne K (.ref C) (.ref C) = some true) (M : Meth K C "__init__" fI) (no : NoAttr K C "index") (F : FunD K "__init__" "BadRow.__init__" (defArgs sRowInit) (defBody sRowInit) (defScope sRowInit) [] [] fI fd) : ErrF P w K mg base "BadRow" "index" C := by
  have O := oexB_ok o
  refine ⟨g, O, m, fI, fd, ["self", "index"], M.at_, beq_iff_eq.mp M.fn, F.bindsN (fun _ _ _ _ _ _ us hl => match us, hl with | [_, _], _ => rfl), ?_⟩
  refine ok_code F scRowInit (fun vs H Q E h => ?_) (fun cdv A outer s H vs Q E hcd hr h => ⟨_, PSs.nox (pss_one (ps_ost (pv 0) (pv 1))), ?_⟩)
  · obtain ⟨a, v, rfl, _⟩ := h
    rfl
  · obtain ⟨a, v, rfl, ha, q⟩ := h
    exact ⟨_, rfl, _, rfl, a, C, rfl, O, no, .inl ⟨ha, fun dx h1 h2 => q dx h1 h2⟩⟩
theorem errM_of (g : mg "TooMany" = some (.ref C)) (o : oexB K C = true) (m : PySem.W.exmOne K (.ref C) (.ref C) = some true) (M : Meth K C "__init__" fI) (no : NoAttr K C "most") (F : FunD K "__init__" "TooMany.__init__" (defArgs sManyInit) (defBody sManyInit) (defScope sManyInit) [] [] fI fd) : ErrF P w K mg base "TooMany" "most" C := by
  have O := oexB_ok o
  refine ⟨g, O, m, fI, fd, ["self", "most"], M.at_, beq_iff_eq.mp M.fn, F.bindsN (fun _ _ _ _ _ _ us hl => match us, hl with | [_, _], _ => rfl), ?_⟩
  refine ok_code F scManyInit (fun vs H Q E h => ?_) (fun cdv A outer s H vs Q E hcd hr h => ⟨_, PSs.nox (pss_one (ps_ost (pv 0) (pv 1))), ?_⟩)
  · obtain ⟨a, v, rfl, _⟩ := h
    rfl
  · obtain ⟨a, v, rfl, ha, q⟩ := h
    exact ⟨_, rfl, _, rfl, a, C, rfl, O, no, .inl ⟨ha, fun dx h1 h2 => q dx h1 h2⟩⟩
end
def spCTX (K : PySem.W.Frag) (pT C : Addr) : Sp := fun vs H Q E => ∃ (n : Nat) (x : V) (b : Bool), vs = [.int n, x] ∧ TurnX K H n x b ∧ GxR.TabG H pT ∧ (b = true → ∀ H', Kp H H' → Q .non H') ∧ (b = false → ∀ H', Kp H H' → E (.ref C) none H')
/-- what check_row says: none where all is well, else what the error holds -/
def RowX (K : PySem.W.Frag) (H : Hp) (n : Nat) (x : V) (r : V) : Prop :=
  (NotTy K H x "tuple" ∧ r = .non) ∨ (∃ a xs, x = .ref a ∧ SqT K H a xs ∧ 100 < xs.length ∧ r = .non) ∨
  (∃ a xs i, x = .ref a ∧ SqT K H a xs ∧ xs.length ≤ 100 ∧ (∀ j, j < i → ∃ k : Int, xs[j]? = some (.int k) ∧ 0 ≤ k ∧ k < n) ∧ (∃ y, xs[i]? = some y ∧ NumX K H 0 ((n : Int) - 1) y false) ∧ r = .int (i : Nat))
theorem RowX.kp {K : PySem.W.Frag} {H H' : Hp} {n : Nat} {x r : V} (h : RowX K H n x r) (z : Kp H H') : RowX K H' n x r := by
  rcases h with ⟨h, e⟩ | ⟨a, xs, e, s, l, er⟩ | ⟨a, xs, i, e, s, l, b, ⟨y, hy, hn⟩, er⟩
  · exact .inl ⟨h.kp z, e⟩
  · exact .inr (.inl ⟨a, xs, e, z.sqT s, l, er⟩)
  · exact .inr (.inr ⟨a, xs, i, e, z.sqT s, l, b, ⟨y, hy, hn.kp z⟩, er⟩)
def spCRX (K : PySem.W.Frag) (C : Addr) : Sp := fun vs H _ E => ∃ (n : Nat) (x r : V), vs = [.int n, x] ∧ RowX K H n x r ∧ errH E C "index" r H
/-- a house and a turn that is none of it -/
def COdd (K : PySem.W.Frag) (pT pA C : Addr) : RC2 := fun v u H E => ∃ n ts, HG K pT pA H v n ts ∧ TurnX K H n u false ∧ ∀ H', Kp H H' → E (.ref C) none H'
/-- the great house and a turn of it -/
def CGrT (K : PySem.W.Frag) (pT pA C : Addr) : RC2 := fun v u H E => CGreat K pT pA C v H E ∧ TurnX K H 8 u true
/-- a house and an odd row -/
def CRow (K : PySem.W.Frag) (pT pA C : Addr) : RC2 := fun v u H E => ∃ n ts r, HG K pT pA H v n ts ∧ RowX K H ts.length u r ∧ errH E C "index" r H
section
variable {P : Program} {w : World} {K : PySem.W.Frag} {mg : Str → Option Value} {base : Heap} {f : Addr} {fd : FuncData} {pT pA CB CM CU CT CR : Addr}
theorem has_chkturnX (F : FnP K "check_turn" sCheckTurn f fd) (m : mg "check_turn" = some (.ref f)) (T : ExcC K mg "BadTurn" CT) (hN : Has P w K mg base "is_turn" 3 [] (spTurnX K pT)) : HasX P w K mg base "check_turn" 4 (spCTX K pT CT) := by
  refine ⟨f, fd, ["halls", "turn"], m, F.kp, F.bindsN (fun _ _ _ _ _ _ us hl => match us, hl with | [_, _], _ => rfl), ?_⟩
  refine F.ok scCheckTurn (fun vs H Q E h => ?_) (fun cdv A outer s H vs Q E hr h => ⟨_, pss_one (ps_if (pt_not (pt_val (pe_has hN hr (by decide) (pa_cons (pv 0) (pa_cons (pv 1) pa_nil))))) (pss_one (ps_raise0 T (takes_of rfl rfl rfl rfl))) pss_nil), ?_⟩)
  · obtain ⟨n, x, b, rfl, _⟩ := h
    rfl
  · obtain ⟨n, x, b, rfl, hx, gT, q, qe⟩ := h
    refine ⟨_, rfl, _, rfl, n, x, b, rfl, hx, gT, fun H1 z1 => ⟨_, rfl, ?_⟩⟩
    cases b with
    | true => exact ifF (A := _) (B := _) rfl (q rfl H1 z1)
    | false => exact ifT (A := _) (B := _) rfl (qe rfl H1 z1)
theorem has_chkrowX (F : FnP K "check_row" sCheckRow f fd) (m : mg "check_row" = some (.ref f)) (B : Bl mg) (m100 : ∃ t, mg "LONGEST_ROW" = some (.int 100 t)) (T : ErrF P w K mg base "BadRow" "index" CR) (hN : Has P w K mg base "is_number" 1 [] (spNumX K)) : HasX P w K mg base "check_row" 3 (spCRX K CR) := by
  obtain ⟨t100, m100⟩ := m100
  refine ⟨f, fd, ["many", "row"], m, F.kp, F.bindsN (fun _ _ _ _ _ _ us hl => match us, hl with | [_, _], _ => rfl), ?_⟩
  refine F.ok scCheckRow (fun vs H Q E h => ?_) (fun cdv A outer s H vs Q E hr h => ⟨_, pss_cons (ps_if
      (PW.pt (pw_or (pt_not (pt_val (pe_callB call_isi rfl B.isinstance PyProof.Rows.boot_isinstance (pa_cons (pv 1) (pa_cons (pe_bltn (v := .ty "tuple") rfl B.tuple PyProof.Rows.boot_tuple rfl) pa_nil)))))
        (pw_or1 (pt_cmpR op_gt (pe_callB call_len_seq rfl B.len PySem.boot_len (pa_cons (pv 1) pa_nil)) (pe_glob (v := .int 100) rfl m100 ⟨_, rfl⟩) (nomark _)))))
      (pss_one (ps_raiseF (k := 0) T hr (takes_of rfl rfl rfl rfl) (pa_cons pe_non pa_nil))) pss_nil)
    (pss_one (ps_for (passes_of rfl) rfl (pi_enumT rfl B.enumerate (pa_cons (pv 1) pa_nil)) (pg_tup rfl (pgs_cons (pg_name (i := 2) scCheckRow.nd rfl (Or.inl rfl)) (pgs_cons (pg_name (i := 3) scCheckRow.nd rfl (Or.inl rfl)) pgs_nil)))
      (pss_one (ps_if (pt_not (pt_val (pe_has hN hr (by decide) (pa_cons (pv 3) (pa_cons pe_int (pa_cons (pe_op op_sub (pv 0) pe_int) pa_nil)))))) (pss_one (ps_raiseF (k := 0) T hr (takes_of rfl rfl rfl rfl) (pa_cons (pv 2) pa_nil))) pss_nil)))), ?_⟩)
  · obtain ⟨n, x, r, rfl, _⟩ := h
    rfl
  · obtain ⟨n, x, r, rfl, hx, q⟩ := h
    rcases hx with ⟨⟨ty, hty, hk⟩, rfl⟩ | ⟨a, xs, rfl, hT, few, rfl⟩ | ⟨a, xs, i0, rfl, hT, few, good, ⟨y, hy, hn⟩, rfl⟩
    · refine ⟨_, rfl, _, _, _, _, false, rfl, .ty "tuple", hty H (Kp.refl H), kit_ty hk, _, rfl, ?_⟩
      exact iteT (A := _) (ifT (A := _) (B := _) rfl (mkF fun d hd => q d H (Kp.refl H) hd))
    · refine ⟨_, rfl, _, _, _, _, true, rfl, .ty "tuple", tyx_T hT, kit_ty (by decide +kernel), _, rfl, ?_⟩
      refine iteF (A := _) ⟨_, rfl, a, _, rfl, .inr hT, _, _, rfl, rfl, _, rfl, ifT (A := _) (B := _) (decide_eq_true (by omega)) ?_⟩
      exact mkF fun d hd => q d H (Kp.refl H) hd
    · refine ⟨_, rfl, _, _, _, _, true, rfl, .ty "tuple", tyx_T hT, kit_ty (by decide +kernel), _, rfl, ?_⟩
      refine iteF (A := _) ⟨_, rfl, a, _, rfl, .inr hT, _, _, rfl, rfl, _, rfl, ifF (A := _) (B := _) (decide_eq_false (by omega)) ?_⟩
      refine ⟨_, rfl, a, _, rfl, hT, ?_⟩
      have li : i0 < xs.length := (List.getElem?_eq_some_iff.mp hy).1
      refine forG (Wlk.enum hT) (fun i σ H' => i ≤ i0 ∧ Kp H H' ∧ ∃ x y, σ = [some (.int n), some (.ref a), x, y]) ⟨Nat.zero_le _, Kp.refl _, _, _, rfl⟩ (fun i σ H' _ h => h.2.1) (fun i x σ H1 H2 hi hp z hy2 => ?_) (fun σ H' h => absurd h.1 (by omega))
      obtain ⟨ile, z1, x0, y0, rfl⟩ := hp
      obtain ⟨T1, v, rfl, hT2, hv⟩ := hy2
      refine ⟨T1, _, rfl, SqT.of hT2, rfl, _, _, rfl, _, _, rfl, rfl, ?_⟩
      by_cases e : i = i0
      · subst e
        rw [hy] at hv
        cases hv
        refine ⟨_, rfl, _, rfl, _, _, rfl, rfl, y, 0, (n : Int) - 1, false, rfl, hn.kp (z1.trans z), ⟨_, rfl, ifT (A := _) (B := _) rfl ?_⟩⟩
        exact ⟨_, rfl, mkF fun d hd => q d H2 (z1.trans z) hd⟩
      · obtain ⟨k, hk, k0, k1⟩ := good i (by omega)
        rw [hk] at hv
        cases hv
        refine ⟨_, rfl, _, rfl, _, _, rfl, rfl, .int k, 0, (n : Int) - 1, true, rfl, .inl ⟨k, rfl, (decide_eq_true (by omega)).symm⟩, ⟨_, rfl, ifF (A := _) (B := _) rfl ?_⟩⟩
        exact ⟨by omega, z1.trans z, _, _, rfl⟩
theorem has_ismemberO (F : FnP K "is_member" sIsMember f fd) (m : mg "is_member" = some (.ref f)) (hC : Has P w K mg base "check_house" 7 [] (spHouse K pT pA)) (hT : HasX P w K mg base "check_turn" 4 (spCTX K pT CT)) : HasX P w K mg base "is_member" 9 (spB2 (COdd K pT pA CT)) := by
  refine ⟨f, fd, ["house", "turn"], m, F.kp, F.bindsN (fun _ _ _ _ _ _ us hl => match us, hl with | [_, _], _ => rfl), ?_⟩
  refine F.ok scIsMember (fun vs H Q E h => ?_) (fun cdv A outer s H vs Q E hr h => ⟨_, pss_cons (ps_expr (pe_has hC hr (by decide) (pa_cons (pv 0) pa_nil))) (pss_cons (ps_expr (pe_hasX hT hr (by decide) (takes_of rfl rfl rfl rfl) (pa_cons (pe_ix (r := rIxT K) ix_tup (pv 0) pe_int (fun _ _ => rfl)) (pa_cons (pv 1) pa_nil)))) pss_never), ?_⟩)
  · obtain ⟨v, u, rfl, _⟩ := h
    rfl
  · obtain ⟨v, u, rfl, n, ts, ⟨hv, hi, gT, gA⟩, hx, q⟩ := h
    refine ⟨_, rfl, v, n, ts, rfl, hv, hi, gT, gA, fun H1 z1 => ?_⟩
    obtain ⟨a, tv, rfl, hT', hp⟩ := z1.house hv
    exact ⟨_, rfl, a, _, 0, _, rfl, rfl, hT', rfl, _, rfl, n, u, false, rfl, hx.kp z1, z1.tabG gT, (fun e => by cases e), fun _ H2 z2 => q H2 (z1.trans z2)⟩
theorem has_ismemberG (F : FnP K "is_member" sIsMember f fd) (m : mg "is_member" = some (.ref f)) (hC : Has P w K mg base "check_house" 7 [] (spHouse K pT pA)) (hT : HasX P w K mg base "check_turn" 4 (spCTX K pT CT)) (hM : HasX P w K mg base "members" 8 (spR1 (CGreat K pT pA CM))) : HasX P w K mg base "is_member" 9 (spB2 (CGrT K pT pA CM)) := by
  have hT2 : Has P w K mg base "check_turn" 4 [] (fun vs H Q _ => spCTX K pT CT vs H Q fun _ _ _ => False) := hT.no
  refine ⟨f, fd, ["house", "turn"], m, F.kp, F.bindsN (fun _ _ _ _ _ _ us hl => match us, hl with | [_, _], _ => rfl), ?_⟩
  refine F.ok scIsMember (fun vs H Q E h => ?_) (fun cdv A outer s H vs Q E hr h => ⟨_, pss_cons (ps_expr (pe_has hC hr (by decide) (pa_cons (pv 0) pa_nil))) (pss_cons (ps_expr (pe_has hT2 hr (by decide) (pa_cons (pe_ix (r := rIxT K) ix_tup (pv 0) pe_int (fun _ _ => rfl)) (pa_cons (pv 1) pa_nil))))
    (pss_one (ps_ret (pe_cmpR op_nv (pv 1) (pe_hasX hM hr (by decide) (takes_of rfl rfl rfl rfl) (pa_cons (pv 0) pa_nil)) rfl)))), ?_⟩)
  · obtain ⟨v, u, rfl, _⟩ := h
    rfl
  · obtain ⟨v, u, rfl, c, hx⟩ := h
    obtain ⟨hv, hi, gT, gA⟩ := c.1
    refine ⟨_, rfl, v, 8, gr8, rfl, hv, hi, gT, gA, fun H1 z1 => ?_⟩
    have c1 := CGreat.kp _ _ _ _ z1 c
    obtain ⟨a, tv, rfl, hT', hp⟩ := z1.house hv
    exact ⟨_, rfl, a, _, 0, _, rfl, rfl, hT', rfl, _, rfl, 8, u, true, rfl, hx.kp z1, z1.tabG gT, (fun _ H2 z2 => ⟨_, rfl, _, rfl, _, rfl, CGreat.kp _ _ _ _ z2 c1⟩), fun e => by cases e⟩
theorem has_stayersO (F : FnP K "stayers" sStayers f fd) (m : mg "stayers" = some (.ref f)) (hC : Has P w K mg base "check_house" 7 [] (spHouse K pT pA)) (hT : HasX P w K mg base "check_turn" 4 (spCTX K pT CT)) : HasX P w K mg base "stayers" 8 (spB2 (COdd K pT pA CT)) := by
  refine ⟨f, fd, ["house", "turn"], m, F.kp, F.bindsN (fun _ _ _ _ _ _ us hl => match us, hl with | [_, _], _ => rfl), ?_⟩
  refine F.ok scStayers (fun vs H Q E h => ?_) (fun cdv A outer s H vs Q E hr h => ⟨_, pss_cons (ps_expr (pe_has hC hr (by decide) (pa_cons (pv 0) pa_nil))) (pss_cons (ps_expr (pe_hasX hT hr (by decide) (takes_of rfl rfl rfl rfl) (pa_cons (pe_ix (r := rIxT K) ix_tup (pv 0) pe_int (fun _ _ => rfl)) (pa_cons (pv 1) pa_nil)))) pss_never), ?_⟩)
  · obtain ⟨v, u, rfl, _⟩ := h
    rfl
  · obtain ⟨v, u, rfl, n, ts, ⟨hv, hi, gT, gA⟩, hx, q⟩ := h
    refine ⟨_, rfl, v, n, ts, rfl, hv, hi, gT, gA, fun H1 z1 => ?_⟩
    obtain ⟨a, tv, rfl, hT', hp⟩ := z1.house hv
    exact ⟨_, rfl, a, _, 0, _, rfl, rfl, hT', rfl, _, rfl, n, u, false, rfl, hx.kp z1, z1.tabG gT, (fun e => by cases e), fun _ H2 z2 => q H2 (z1.trans z2)⟩
theorem has_ringsO (F : FnP K "rings" sRings f fd) (m : mg "rings" = some (.ref f)) (hC : Has P w K mg base "check_house" 7 [] (spHouse K pT pA)) (hT : HasX P w K mg base "check_turn" 4 (spCTX K pT CT)) : HasX P w K mg base "rings" 9 (spB2 (COdd K pT pA CT)) := by
  refine ⟨f, fd, ["house", "turn"], m, F.kp, F.bindsN (fun _ _ _ _ _ _ us hl => match us, hl with | [_, _], _ => rfl), ?_⟩
  refine F.ok scRings (fun vs H Q E h => ?_) (fun cdv A outer s H vs Q E hr h => ⟨_, pss_cons (ps_expr (pe_has hC hr (by decide) (pa_cons (pv 0) pa_nil))) (pss_cons (ps_set (i := 2) scRings.nd rfl (Or.inl rfl) (pe_ix (r := rIxT K) ix_tup (pv 0) pe_int (fun _ _ => rfl)))
    (pss_cons (ps_expr (pe_hasX hT hr (by decide) (takes_of rfl rfl rfl rfl) (pa_cons (pv 2) (pa_cons (pv 1) pa_nil)))) pss_never)), ?_⟩)
  · obtain ⟨v, u, rfl, _⟩ := h
    rfl
  · obtain ⟨v, u, rfl, n, ts, ⟨hv, hi, gT, gA⟩, hx, q⟩ := h
    refine ⟨_, rfl, v, n, ts, rfl, hv, hi, gT, gA, fun H1 z1 => ?_⟩
    obtain ⟨a, tv, rfl, hT', hp⟩ := z1.house hv
    exact ⟨_, rfl, a, _, 0, _, rfl, rfl, hT', rfl, _, rfl, _, rfl, n, u, false, rfl, hx.kp z1, z1.tabG gT, (fun e => by cases e), fun _ H2 z2 => q H2 (z1.trans z2)⟩
theorem has_likesO (F : FnP K "likes" sLikes f fd) (m : mg "likes" = some (.ref f)) (hC : Has P w K mg base "check_house" 7 [] (spHouse K pT pA)) (hT : HasX P w K mg base "check_turn" 4 (spCTX K pT CT)) : HasX P w K mg base "likes" 8 (spB2 (COdd K pT pA CT)) := by
  refine ⟨f, fd, ["house", "turn"], m, F.kp, F.bindsN (fun _ _ _ _ _ _ us hl => match us, hl with | [_, _], _ => rfl), ?_⟩
  refine F.ok scLikes (fun vs H Q E h => ?_) (fun cdv A outer s H vs Q E hr h => ⟨_, pss_cons (ps_expr (pe_has hC hr (by decide) (pa_cons (pv 0) pa_nil))) (pss_cons (ps_asg (pv 0) (pg_tup rfl (pgs_cons (pg_name (i := 2) scLikes.nd rfl (Or.inl rfl)) (pgs_cons (pg_name (i := 3) scLikes.nd rfl (Or.inl rfl)) pgs_nil))))
    (pss_cons (ps_expr (pe_hasX hT hr (by decide) (takes_of rfl rfl rfl rfl) (pa_cons (pv 2) (pa_cons (pv 1) pa_nil)))) pss_never)), ?_⟩)
  · obtain ⟨v, u, rfl, _⟩ := h
    rfl
  · obtain ⟨v, u, rfl, n, ts, ⟨hv, hi, gT, gA⟩, hx, q⟩ := h
    refine ⟨_, rfl, v, n, ts, rfl, hv, hi, gT, gA, fun H1 z1 => ?_⟩
    obtain ⟨a, tv, rfl, hT', hp⟩ := z1.house hv
    exact ⟨_, rfl, a, _, rfl, hT', rfl, _, _, rfl, _, _, rfl, rfl, _, rfl, _, rfl, n, u, false, rfl, hx.kp z1, z1.tabG gT, (fun e => by cases e), fun _ H2 z2 => q H2 (z1.trans z2)⟩
theorem has_madeO (F : FnP K "made" sMade f fd) (m : mg "made" = some (.ref f)) (B : Bl mg) (hC : Has P w K mg base "check_house" 7 [] (spHouse K pT pA)) (hR : HasX P w K mg base "check_row" 3 (spCRX K CR)) : HasX P w K mg base "made" 8 (spB2 (CRow K pT pA CR)) := by
  refine ⟨f, fd, ["house", "row"], m, F.kp, F.bindsN (fun _ _ _ _ _ _ us hl => match us, hl with | [_, _], _ => rfl), ?_⟩
  refine F.ok scMade (fun vs H Q E h => ?_) (fun cdv A outer s H vs Q E hr h => ⟨_, pss_cons (ps_expr (pe_has hC hr (by decide) (pa_cons (pv 0) pa_nil))) (pss_cons (ps_asg (pv 0) (pg_tup rfl (pgs_cons (pg_name (i := 2) scMade.nd rfl (Or.inl rfl)) (pgs_cons (pg_name (i := 3) scMade.nd rfl (Or.inl rfl)) pgs_nil))))
    (pss_cons (ps_expr (pe_hasX hR hr (by decide) (takes_of rfl rfl rfl rfl) (pa_cons (pe_callB call_len_seq rfl B.len PySem.boot_len (pa_cons (pv 3) pa_nil)) (pa_cons (pv 1) pa_nil)))) pss_never)), ?_⟩)
  · obtain ⟨v, u, rfl, _⟩ := h
    rfl
  · obtain ⟨v, u, rfl, n, ts, r, ⟨hv, hi, gT, gA⟩, hx, q⟩ := h
    refine ⟨_, rfl, v, n, ts, rfl, hv, hi, gT, gA, fun H1 z1 => ?_⟩
    obtain ⟨a, tv, rfl, hT', tb, xs, rfl, hTb, hp⟩ := z1.house hv
    refine ⟨_, rfl, a, _, rfl, hT', rfl, _, _, rfl, _, _, rfl, rfl, ?_⟩
    have e : xs.length = ts.length := hp.length
    refine ⟨_, rfl, tb, _, rfl, .inr hTb, _, rfl, ts.length, u, r, by rw [e], hx.kp z1, q.kp z1⟩
end
end NS
end
section
set_option maxHeartbeats 4000000
/-! E4: lists of lambdas made by a def -/
namespace NS
open PySem PySem.Spec PyProof.Rows L2 ZS LamX LamY LamE
theorem KpL.refl (P : Addr) (H : Hp) : KpL P H H := ⟨ExtN.refl H, fun _ _ h _ => h⟩
theorem KpL.trans {P : Addr} {H H1 H2 : Hp} (a : KpL P H H1) (b : KpL P H1 H2) : KpL P H H2 := ⟨a.e.trans b.e, fun c ps h n => b.t c ps (a.t c ps h n) n⟩
theorem KpL.ext {P : Addr} {H H' : Hp} (z : ∀ b o, H b = some o → H' b = some o) : KpL P H H' := ⟨ExtN.of z, fun b ps h _ => z b _ h⟩
theorem KpL.new {P : Addr} {H : Hp} {p : Addr} {o : HO} (n : H p = none) : KpL P H (upd H p o) := .ext fun b u e => by rw [upd_ne (ne_of_none e n)]; exact e
theorem tabL_ext {H H' : Hp} {P : Addr} {q : Str} (h : TabL H P q) (z : ∀ b o, H b = some o → H' b = some o) : TabL H' P q := by
  obtain ⟨ps, h1, h2, h3⟩ := h
  exact ⟨ps, z _ _ h1, h2, fun p cv hp hc => let ⟨c, e, hco⟩ := h3 p cv hp hc; ⟨c, e, z _ _ hco⟩⟩
theorem tabL_new {H : Hp} {P p : Addr} {q : Str} {o : HO} (h : TabL H P q) (n : H p = none) : TabL (upd H p o) P q := tabL_ext h fun b u e => by rw [upd_ne (ne_of_none e n)]; exact e
abbrev MadeX (X : Cx) (k : Nat) (H : Hp) (v : V) (t : XK → TE) : Prop := MadeL X.prog X.w X.K X.mg X.base X.N X.env.scope k X.env.cells (X.env.qual ++ "<lambda>") H v t
def tMs (X : Cx) (k : Nat) (P : Addr) (ts : List (XK → TE)) : TA := fun _ H Q => TabL H P (X.env.qual ++ "<lambda>") ∧ ∀ vs H1, KpL P H H1 → TabL H1 P (X.env.qual ++ "<lambda>") → Paired (MadeX X k H1) vs ts → Q vs H1
def tML (X : Cx) (k : Nat) (P : Addr) (ts : List (XK → TE)) : TE := fun _ H Q => TabL H P (X.env.qual ++ "<lambda>") ∧ ∀ p vs H1, KpL P H H1 → TabL H1 P (X.env.qual ++ "<lambda>") → H1 p = some (.lst vs) → Paired (MadeX X k H1) vs ts → Q (.ref p) H1
section
variable {X : Cx} {k : Nat} {P : Addr}
theorem pl_nil : PA X [] (tMs X k P []) := ⟨fun pos pins s σ H Q I h => pa_nil.run pos pins s σ H Q I (h.2 [] H (KpL.refl P H) h.1 .nil)⟩
theorem pl_cons {e : Expr} {es : List Expr} {t : XK → TE} {ts : List (XK → TE)} (h1 : PE X e (tLamE X k P t)) (h2 : PA X es (tMs X k P ts)) (hs : starEach (e :: es) X.env = (false, eval e X.env) :: starEach es X.env := by rfl) : PA X (e :: es) (tMs X k P (t :: ts)) :=
  ⟨fun pos pins s σ H Q I h => (pa_cons h1 h2 hs).run pos pins s σ H Q I (show tCons (tLamE X k P t) (tMs X k P ts) σ H Q from ⟨h.1, fun f H1 eN eT T1 m => ⟨T1, fun vs H2 z2 T2 pr => h.2 _ H2 (KpL.trans ⟨eN, eT⟩ z2) T2 (.cons (MadeL.ext m z2.e) pr)⟩⟩)⟩
theorem pl_lst {es : List Expr} {pos : Pos} {ts : List (XK → TE)} (h : PA X es (tMs X k P ts)) (hl : ts.length ≤ 100 := by simp) : PE X (.List es pos) (tML X k P ts) :=
  pe_imp (pe_lst h) fun σ H Q q => show tLst (tMs X k P ts) σ H Q from ⟨q.1, fun vs H1 z1 T1 pr => ⟨by rw [pr.length, sizeLine_eq]; omega, fun p hp => q.2 p vs _ (z1.trans (KpL.new hp)) (tabL_new T1 hp) upd_same (pr.mono fun _ _ m => MadeL.ext m (KpL.new (P := P) hp).e)⟩⟩
end
/-- data stand, tables stay tables -/
structure Dk (H H' : Hp) : Prop where
  k : ∀ b o, H b = some o → (∀ ps, o ≠ .tbl ps) → (∀ φ, o ≠ .ext φ) → H' b = some o
  t : ∀ P, GxR.TabG H P → GxR.TabG H' P
theorem Dk.refl (H : Hp) : Dk H H := ⟨fun _ _ e _ _ => e, fun _ h => h⟩
theorem Up.dk {H H' : Hp} (z : Up H H') : Dk H H' := ⟨fun b o e n _ => z.k b o e n, z.t⟩
theorem Dk.trans {H H1 H2 : Hp} (a : Dk H H1) (b : Dk H1 H2) : Dk H H2 := ⟨fun c o e n m => b.k c o (a.k c o e n m) n m, fun P h => b.t P (a.t P h)⟩
theorem Dk.tup {H H' : Hp} (z : Dk H H') : Tup H H' := ⟨fun c xs h => z.k c _ h (fun _ q => by cases q) (fun _ q => by cases q), fun c o u h => z.k c _ h (fun _ q => by cases q) (fun _ q => by cases q)⟩
theorem dk_del {cs : List Addr} {H : Hp} (C : CellsH cs H) : Dk H (delL cs H) := ⟨fun b o e _ m => by rw [del_out (C.out e m)]; exact e, fun P ⟨ps, h1, h2⟩ => ⟨ps, by rw [del_out (C.out h1 (fun _ q => by cases q))]; exact h1, h2⟩⟩
def Ref1 (A : ErrA) (out : Out) (C : RC) (v : V) (H : Hp) : Prop := ∀ (H3 : Hp) (E : XK), Dk H H3 → (∀ cls d H', Kp H3 H' → Raised A out cls d H' → E cls d H') → C v H3 E
def Ref2 (A : ErrA) (out : Out) (C2 : RC2) (v u : V) (H : Hp) : Prop := ∀ (H3 : Hp) (E : XK), Dk H H3 → (∀ cls d H', Kp H3 H' → Raised A out cls d H' → E cls d H') → C2 v u H3 E
/-- the lambda's body: a call that is refused -/
def tR1 (i : Nat) (C : RC) : XK → TE := fun E σ H _ => ∃ v, σ[i]? = some (some v) ∧ C v H E
def tR2 (i j : Nat) (C2 : RC2) : XK → TE := fun E σ H _ => ∃ v u, σ[i]? = some (some v) ∧ σ[j]? = some (some u) ∧ C2 v u H E
theorem does1 {A : ErrA} {out : Out} {C : RC} {v : V} {H H3 : Hp} {σ : L2.St} {i : Nat} (h : Ref1 A out C v H) (e : σ[i]? = some (some v)) (z : Dk H H3) : Does A out (tR1 i C) σ H3 := fun E Q qe _ => ⟨v, e, h H3 E z qe⟩
theorem does2 {A : ErrA} {out : Out} {C2 : RC2} {v u : V} {H H3 : Hp} {σ : L2.St} {i j : Nat} (h : Ref2 A out C2 v u H) (e : σ[i]? = some (some v)) (e' : σ[j]? = some (some u)) (z : Dk H H3) : Does A out (tR2 i j C2) σ H3 := fun E Q qe _ => ⟨v, u, e, e', h H3 E z qe⟩
/-- what was made may be called anywhere -/
theorem made_esc {X : Cx} {A : ErrA} {k : Nat} {σ : L2.St} {H0 H' H2 : Hp} {v : V} {t : XK → TE} {out : Out} (h : MadeX X k H' v t) (L : Lent X σ H' H2) (up : Up H0 H') (inj : ∀ y z c, X.env.cells.lookup y = some c → X.env.cells.lookup z = some c → y = z) (hlen : σ.length = X.N.length)
    (has : ∀ y, X.env.scope.names.lookup y = some .cell → ∃ c, X.env.cells.lookup y = some c) (nfree : ∀ y, X.env.scope.names.lookup y ≠ some .free) (val : ∀ (i : Nat) (y : Str), X.N[i]? = some y → X.env.scope.names.lookup y = some .cell → ∃ v, σ[i]? = some (some v))
    (does : ∀ H3, Dk H0 H3 → Does A out t σ H3) : EscAt X.prog X.w X.K X.mg X.base A k H2 v out := by
  obtain ⟨cl, ie⟩ := MadeL.esc h L (ExtN.refl H') inj hlen has nfree val
  refine ⟨X.N, σ, cl, t, ie, fun H3 z3 => does _ ?_⟩
  have C3 := isEsc_cells (isEsc_up ie z3.k)
  exact (up.dk.trans ((up_ext L.ext).dk.trans z3.dk)).trans (dk_del C3)
end NS
end
section
set_option maxHeartbeats 4000000
/-! E5: the law's lists of calls -/
namespace NS
open PySem PySem.Spec PyProof.Rows L2 ZS LamX LamY LamE
def tMC (X : Cx) (k : Nat) (P : Addr) (i : Nat) (ts2 : List (XK → TE)) : TE := fun σ H Q => ∃ p vs ts1, σ[i]? = some (some (.ref p)) ∧ H p = some (.lst vs) ∧ Paired (MadeX X k H) vs ts1 ∧ vs.length + ts2.length ≤ 1000 ∧ TabL H P (X.env.qual ++ "<lambda>") ∧
  ∀ p' vs' H', KpL P H H' → TabL H' P (X.env.qual ++ "<lambda>") → H' p' = some (.lst vs') → Paired (MadeX X k H') vs' (ts1 ++ ts2) → Q (.ref p') H'
theorem pe_mcat {X : Cx} {k i : Nat} {P : Addr} {ts2 : List (XK → TE)} {e1 e2 : Expr} {pos : Pos} (h1 : PE X e1 (tVar i)) (h2 : PE X e2 (tML X k P ts2)) : PE X (.BinOp e1 .Add e2 pos) (tMC X k P i ts2) :=
  pe_imp (pe_op op_cat h1 h2) fun σ H Q ⟨p, vs, ts1, hs, hp, pr, hl, hT, q⟩ => ⟨.ref p, hs, hT, fun p2 vs2 H2 z2 T2 hp2 pr2 => ⟨p, p2, vs, vs2, rfl, rfl, z2.e _ _ hp (fun _ e => by cases e), hp2, by rw [pr2.length, sizeLine_eq]; omega, fun p3 hp3 => q p3 _ _ (z2.trans (KpL.new hp3)) (tabL_new T2 hp3) upd_same (pr_app (pr.mono fun _ _ m => MadeL.ext m (z2.trans (KpL.new hp3)).e) (pr2.mono fun _ _ m => MadeL.ext m (KpL.new (P := P) hp3).e))⟩⟩
abbrev lamQ (x : Str) (st : Stmt) : Str := (envOfC x (defScope st) 0 0 .none).qual ++ "<lambda>"
/-- the ways of is_within -/
abbrev RCW := V → V → Hp → VK → XK → Prop
def spBW (CW : RCW) : Sp := fun vs H Q E => ∃ v u, vs = [v, u] ∧ CW v u H Q E
def tRW (i j : Nat) (CW : RCW) : XK → TE := fun E σ H Q => ∃ v u, σ[i]? = some (some v) ∧ σ[j]? = some (some u) ∧ CW v u H Q E
def RefW (A : ErrA) (out : Out) (CW : RCW) (v u : V) (H : Hp) : Prop := ∀ (H3 : Hp) (E : XK) (Q : VK), Dk H H3 → (∀ cls d H', Kp H3 H' → Raised A out cls d H' → E cls d H') → (∀ y H', out = .ok → Kp H3 H' → Q y H') → CW v u H3 Q E
theorem doesW {A : ErrA} {out : Out} {CW : RCW} {v u : V} {H H3 : Hp} {σ : L2.St} {i j : Nat} (h : RefW A out CW v u H) (e : σ[i]? = some (some v)) (e' : σ[j]? = some (some u)) (z : Dk H H3) : Does A out (tRW i j CW) σ H3 := fun E Q qe q => ⟨v, u, e, e', h H3 E Q z qe q⟩
abbrev nLCalls : List Str := ["bad", "turn", "works"]
abbrev nLParted : List Str := ["bad", "part", "works"]
abbrev nLMore : List Str := ["bad", "works"]
theorem scLCalls : FnScope nLCalls ["bad", "turn"] (defScope sLCalls) := ⟨rfl, rfl, rfl, by decide +kernel, rfl, by decide +kernel, by decide +kernel⟩
theorem scLParted : FnScope nLParted ["bad", "part"] (defScope sLParted) := ⟨rfl, rfl, rfl, by decide +kernel, rfl, by decide +kernel, by decide +kernel⟩
theorem scLMore : FnScope nLMore ["bad"] (defScope sLMore) := ⟨rfl, rfl, rfl, by decide +kernel, rfl, by decide +kernel, by decide +kernel⟩
structure CallsD (P : Program) (w : World) (K : PySem.W.Frag) (mg : Str → Option Value) (base : Heap) (C : RC) (C2 : RC2) : Prop where
  members : HasX P w K mg base "members" 8 (spR1 C)
  order : HasX P w K mg base "order" 9 (spR1 C)
  ismember : HasX P w K mg base "is_member" 9 (spB2 C2)
  table : HasX P w K mg base "table" 9 (spR1 C)
  roamers : HasX P w K mg base "roamers" 9 (spR1 C)
  countr : HasX P w K mg base "count_roamers" 10 (spR1 C)
  least : HasX P w K mg base "least_roamer" 10 (spR1 C)
  plain : HasX P w K mg base "plain_roamers" 10 (spR1 C)
  spare : HasX P w K mg base "spare" 11 (spR1 C)
  fewest : HasX P w K mg base "has_fewest" 12 (spR1 C)
  surplus : HasX P w K mg base "surplus" 11 (spR1 C)
  single : HasX P w K mg base "is_single" 11 (spR1 C)
  core : HasX P w K mg base "core" 12 (spR1 C)
  coreg : HasX P w K mg base "core_is_group" 13 (spR1 C)
structure PartedD (P : Program) (w : World) (K : PySem.W.Frag) (mg : Str → Option Value) (base : Heap) (CW : RCW) (C2 : RC2) : Prop where
  within : HasX P w K mg base "is_within" 10 (spBW CW)
  countc : HasX P w K mg base "count_covered" 11 (spB2 C2)
  unc : HasX P w K mg base "uncovered" 12 (spB2 C2)
  showsu : HasX P w K mg base "shows_uncovered" 12 (spB3 C2)
structure MoreD (P : Program) (w : World) (K : PySem.W.Frag) (mg : Str → Option Value) (base : Heap) (C : RC) : Prop where
  parts : HasX P w K mg base "parts" 8 (spR1 C)
  trans : HasX P w K mg base "is_transitive" 9 (spR1 C)
  rank : HasX P w K mg base "rank" 8 (spR1 C)
  likes : HasX P w K mg base "likes" 8 (spR2 C)
  stayers : HasX P w K mg base "stayers" 8 (spR2 C)
  rings : HasX P w K mg base "rings" 9 (spR2 C)
  made : HasX P w K mg base "made" 8 (spR2 C)
  sharp : HasX P w K mg base "is_sharp" 11 (spR1 C)
  wrhouse : HasX P w K mg base "write_house" 8 (spR1 C)
/-- a list of calls that all end so -/
def Works (P : Program) (w : World) (K : PySem.W.Frag) (mg : Str → Option Value) (base : Heap) (A : ErrA) (H : Hp) (us : List V) (os : List Out) : Prop := Paired (EscAt P w K mg base A 14 H) us os
def spCalls (P : Program) (w : World) (K : PySem.W.Frag) (mg : Str → Option Value) (base : Heap) (A : ErrA) (PL : Addr) (C : RC) (C2 : RC2) : Sp := fun vs H Q _ => ∃ v u out, vs = [v, u] ∧ TabL H PL (lamQ "_law_calls" sLCalls) ∧ Ref1 A out C v H ∧ Ref2 A out C2 v u H ∧
  ∀ p us H', KpL PL H H' → TabL H' PL (lamQ "_law_calls" sLCalls) → H' p = some (.lst us) → Works P w K mg base A H' us (List.replicate 14 out) → Q (.ref p) H'
def spParted (P : Program) (w : World) (K : PySem.W.Frag) (mg : Str → Option Value) (base : Heap) (A : ErrA) (PL : Addr) (CW : RCW) (C2 : RC2) : Sp := fun vs H Q _ => ∃ v u o1 out, vs = [v, u] ∧ TabL H PL (lamQ "_law_parted" sLParted) ∧ RefW A o1 CW v u H ∧ Ref2 A out C2 v u H ∧
  ∀ p us H', KpL PL H H' → TabL H' PL (lamQ "_law_parted" sLParted) → H' p = some (.lst us) → Works P w K mg base A H' us [o1, out, out, out] → Q (.ref p) H'
def spMore (P : Program) (w : World) (K : PySem.W.Frag) (mg : Str → Option Value) (base : Heap) (A : ErrA) (PL : Addr) (C : RC) : Sp := fun vs H Q _ => ∃ v out, vs = [v] ∧ TabL H PL (lamQ "_law_more" sLMore) ∧ Ref1 A out C v H ∧
  ∀ p us H', KpL PL H H' → TabL H' PL (lamQ "_law_more" sLMore) → H' p = some (.lst us) → Works P w K mg base A H' us (List.replicate 9 out) → Q (.ref p) H'
section
variable {P : Program} {w : World} {K : PySem.W.Frag} {mg : Str → Option Value} {base : Heap} {f c0 PL : Addr} {fd : FuncData} {A : ErrA} {C : RC} {C2 : RC2} {CW : RCW}
theorem ok_lcalls (F : FnP K "_law_calls" sLCalls f fd) (ec : fd.code = .ref c0) (TB : LamX.TabB base mg c0 PL) (M : CallsD P w K mg base C C2) : FnOk P w K mg base CX0 1 f fd ["bad", "turn"] (spCalls P w K mg base A PL C C2) := by
  refine ok_codeE F scLCalls (fun vs H Q E h => ?_) (fun cdv A0 outer s H vs Q E hcd hr h => ⟨_, (psse_set (j := 2) scLCalls.nd rfl (Or.inl rfl) (pl_lst (pl_cons (pe_lamEN (k := 14) (P := PL) (t := tR1 0 C) TB (hcd.trans ec) (lamZ_by (by show lamZB nLCalls (defScope sLCalls) _ = true; decide +kernel)) ⟨escZ_by (by show escZB nLCalls _ = true; decide +kernel), fun _ _ _ _ _ => rfl, fun A' outer' s' H' E' q f' c' cl hr' => pe_imp (pe_hasX M.members hr' (by decide) (L2.takes_of (E := E') rfl rfl rfl rfl) (pa_cons (pv 0) pa_nil)) (fun _ _ _ ⟨v, h, c⟩ => ⟨v, h, v, rfl, c⟩)⟩) (pl_cons (pe_lamED (k := 14) (P := PL) (t := tR1 0 C) TB (hcd.trans ec) (lamZ_by (by show lamZB nLCalls (defScope sLCalls) _ = true; decide +kernel)) ⟨escZ_by (by show escZB nLCalls _ = true; decide +kernel), ⟨"a", rfl, fun _ _ _ _ _ _ => ⟨_, rfl, fun _ => rfl⟩⟩, fun A' outer' s' H' E' q f' c' cl hr' => pe_imp (pe_hasX M.order hr' (by decide) (L2.takes_of (E := E') rfl rfl rfl rfl) (pa_cons (pv 0) pa_nil)) (fun _ _ _ ⟨v, h, c⟩ => ⟨v, h, v, rfl, c⟩)⟩) (pl_cons (pe_lamED (k := 14) (P := PL) (t := tR2 0 1 C2) TB (hcd.trans ec) (lamZ_by (by show lamZB nLCalls (defScope sLCalls) _ = true; decide +kernel)) ⟨escZ_by (by show escZB nLCalls _ = true; decide +kernel), ⟨"b", rfl, fun _ _ _ _ _ _ => ⟨_, rfl, fun _ => rfl⟩⟩, fun A' outer' s' H' E' q f' c' cl hr' => pe_imp (pe_hasX M.ismember hr' (by decide) (L2.takes_of (E := E') rfl rfl rfl rfl) (pa_cons (pv 0) (pa_cons (pv 1) pa_nil))) (fun _ _ _ ⟨v, u, h, h', c⟩ => ⟨v, h, u, h', v, u, rfl, c⟩)⟩) (pl_cons (pe_lamED (k := 14) (P := PL) (t := tR1 0 C) TB (hcd.trans ec) (lamZ_by (by show lamZB nLCalls (defScope sLCalls) _ = true; decide +kernel)) ⟨escZ_by (by show escZB nLCalls _ = true; decide +kernel), ⟨"c", rfl, fun _ _ _ _ _ _ => ⟨_, rfl, fun _ => rfl⟩⟩, fun A' outer' s' H' E' q f' c' cl hr' => pe_imp (pe_hasX M.table hr' (by decide) (L2.takes_of (E := E') rfl rfl rfl rfl) (pa_cons (pv 0) pa_nil)) (fun _ _ _ ⟨v, h, c⟩ => ⟨v, h, v, rfl, c⟩)⟩) pl_nil)))))
    (psse_set (j := 2) scLCalls.nd rfl (Or.inl rfl) (pe_mcat (pv 2) (pl_lst (pl_cons (pe_lamEN (k := 14) (P := PL) (t := tR1 0 C) TB (hcd.trans ec) (lamZ_by (by show lamZB nLCalls (defScope sLCalls) _ = true; decide +kernel)) ⟨escZ_by (by show escZB nLCalls _ = true; decide +kernel), fun _ _ _ _ _ => rfl, fun A' outer' s' H' E' q f' c' cl hr' => pe_imp (pe_hasX M.roamers hr' (by decide) (L2.takes_of (E := E') rfl rfl rfl rfl) (pa_cons (pv 0) pa_nil)) (fun _ _ _ ⟨v, h, c⟩ => ⟨v, h, v, rfl, c⟩)⟩) (pl_cons (pe_lamED (k := 14) (P := PL) (t := tR1 0 C) TB (hcd.trans ec) (lamZ_by (by show lamZB nLCalls (defScope sLCalls) _ = true; decide +kernel)) ⟨escZ_by (by show escZB nLCalls _ = true; decide +kernel), ⟨"a", rfl, fun _ _ _ _ _ _ => ⟨_, rfl, fun _ => rfl⟩⟩, fun A' outer' s' H' E' q f' c' cl hr' => pe_imp (pe_hasX M.countr hr' (by decide) (L2.takes_of (E := E') rfl rfl rfl rfl) (pa_cons (pv 0) pa_nil)) (fun _ _ _ ⟨v, h, c⟩ => ⟨v, h, v, rfl, c⟩)⟩) pl_nil))))
    (psse_set (j := 2) scLCalls.nd rfl (Or.inl rfl) (pe_mcat (pv 2) (pl_lst (pl_cons (pe_lamED (k := 14) (P := PL) (t := tR1 0 C) TB (hcd.trans ec) (lamZ_by (by show lamZB nLCalls (defScope sLCalls) _ = true; decide +kernel)) ⟨escZ_by (by show escZB nLCalls _ = true; decide +kernel), ⟨"b", rfl, fun _ _ _ _ _ _ => ⟨_, rfl, fun _ => rfl⟩⟩, fun A' outer' s' H' E' q f' c' cl hr' => pe_imp (pe_hasX M.least hr' (by decide) (L2.takes_of (E := E') rfl rfl rfl rfl) (pa_cons (pv 0) pa_nil)) (fun _ _ _ ⟨v, h, c⟩ => ⟨v, h, v, rfl, c⟩)⟩) (pl_cons (pe_lamED (k := 14) (P := PL) (t := tR1 0 C) TB (hcd.trans ec) (lamZ_by (by show lamZB nLCalls (defScope sLCalls) _ = true; decide +kernel)) ⟨escZ_by (by show escZB nLCalls _ = true; decide +kernel), ⟨"c", rfl, fun _ _ _ _ _ _ => ⟨_, rfl, fun _ => rfl⟩⟩, fun A' outer' s' H' E' q f' c' cl hr' => pe_imp (pe_hasX M.plain hr' (by decide) (L2.takes_of (E := E') rfl rfl rfl rfl) (pa_cons (pv 0) pa_nil)) (fun _ _ _ ⟨v, h, c⟩ => ⟨v, h, v, rfl, c⟩)⟩) pl_nil))))
    (psse_set (j := 2) scLCalls.nd rfl (Or.inl rfl) (pe_mcat (pv 2) (pl_lst (pl_cons (pe_lamEN (k := 14) (P := PL) (t := tR1 0 C) TB (hcd.trans ec) (lamZ_by (by show lamZB nLCalls (defScope sLCalls) _ = true; decide +kernel)) ⟨escZ_by (by show escZB nLCalls _ = true; decide +kernel), fun _ _ _ _ _ => rfl, fun A' outer' s' H' E' q f' c' cl hr' => pe_imp (pe_hasX M.spare hr' (by decide) (L2.takes_of (E := E') rfl rfl rfl rfl) (pa_cons (pv 0) pa_nil)) (fun _ _ _ ⟨v, h, c⟩ => ⟨v, h, v, rfl, c⟩)⟩) (pl_cons (pe_lamED (k := 14) (P := PL) (t := tR1 0 C) TB (hcd.trans ec) (lamZ_by (by show lamZB nLCalls (defScope sLCalls) _ = true; decide +kernel)) ⟨escZ_by (by show escZB nLCalls _ = true; decide +kernel), ⟨"a", rfl, fun _ _ _ _ _ _ => ⟨_, rfl, fun _ => rfl⟩⟩, fun A' outer' s' H' E' q f' c' cl hr' => pe_imp (pe_hasX M.fewest hr' (by decide) (L2.takes_of (E := E') rfl rfl rfl rfl) (pa_cons (pv 0) pa_nil)) (fun _ _ _ ⟨v, h, c⟩ => ⟨v, h, v, rfl, c⟩)⟩) pl_nil))))
    (psse_set (j := 2) scLCalls.nd rfl (Or.inl rfl) (pe_mcat (pv 2) (pl_lst (pl_cons (pe_lamED (k := 14) (P := PL) (t := tR1 0 C) TB (hcd.trans ec) (lamZ_by (by show lamZB nLCalls (defScope sLCalls) _ = true; decide +kernel)) ⟨escZ_by (by show escZB nLCalls _ = true; decide +kernel), ⟨"b", rfl, fun _ _ _ _ _ _ => ⟨_, rfl, fun _ => rfl⟩⟩, fun A' outer' s' H' E' q f' c' cl hr' => pe_imp (pe_hasX M.surplus hr' (by decide) (L2.takes_of (E := E') rfl rfl rfl rfl) (pa_cons (pv 0) pa_nil)) (fun _ _ _ ⟨v, h, c⟩ => ⟨v, h, v, rfl, c⟩)⟩) (pl_cons (pe_lamED (k := 14) (P := PL) (t := tR1 0 C) TB (hcd.trans ec) (lamZ_by (by show lamZB nLCalls (defScope sLCalls) _ = true; decide +kernel)) ⟨escZ_by (by show escZB nLCalls _ = true; decide +kernel), ⟨"c", rfl, fun _ _ _ _ _ _ => ⟨_, rfl, fun _ => rfl⟩⟩, fun A' outer' s' H' E' q f' c' cl hr' => pe_imp (pe_hasX M.single hr' (by decide) (L2.takes_of (E := E') rfl rfl rfl rfl) (pa_cons (pv 0) pa_nil)) (fun _ _ _ ⟨v, h, c⟩ => ⟨v, h, v, rfl, c⟩)⟩) pl_nil))))
    (psse_ret (pe_mcat (pv 2) (pl_lst (pl_cons (pe_lamEN (k := 14) (P := PL) (t := tR1 0 C) TB (hcd.trans ec) (lamZ_by (by show lamZB nLCalls (defScope sLCalls) _ = true; decide +kernel)) ⟨escZ_by (by show escZB nLCalls _ = true; decide +kernel), fun _ _ _ _ _ => rfl, fun A' outer' s' H' E' q f' c' cl hr' => pe_imp (pe_hasX M.core hr' (by decide) (L2.takes_of (E := E') rfl rfl rfl rfl) (pa_cons (pv 0) pa_nil)) (fun _ _ _ ⟨v, h, c⟩ => ⟨v, h, v, rfl, c⟩)⟩) (pl_cons (pe_lamED (k := 14) (P := PL) (t := tR1 0 C) TB (hcd.trans ec) (lamZ_by (by show lamZB nLCalls (defScope sLCalls) _ = true; decide +kernel)) ⟨escZ_by (by show escZB nLCalls _ = true; decide +kernel), ⟨"a", rfl, fun _ _ _ _ _ _ => ⟨_, rfl, fun _ => rfl⟩⟩, fun A' outer' s' H' E' q f' c' cl hr' => pe_imp (pe_hasX M.coreg hr' (by decide) (L2.takes_of (E := E') rfl rfl rfl rfl) (pa_cons (pv 0) pa_nil)) (fun _ _ _ ⟨v, h, c⟩ => ⟨v, h, v, rfl, c⟩)⟩) pl_nil)))))))))), ?_⟩)
  · obtain ⟨v, u, out, rfl, _⟩ := h
    rfl
  · obtain ⟨v, u, out, rfl, hT, r1, r2, q⟩ := h
    refine ⟨hT, fun p1 v1 H1 z1 T1 h1 m1 => ?_⟩
    have l1 := m1.length
    refine ⟨p1, v1, _, rfl, h1, m1, by rw [l1]; simp, T1, fun p2 v2 H2 y2 T2 h2 m2 => ?_⟩
    have z2 := z1.trans y2
    have l2 := m2.length
    refine ⟨p2, v2, _, rfl, h2, m2, by rw [l2]; simp, T2, fun p3 v3 H3 y3 T3 h3 m3 => ?_⟩
    have z3 := z2.trans y3
    have l3 := m3.length
    refine ⟨p3, v3, _, rfl, h3, m3, by rw [l3]; simp, T3, fun p4 v4 H4 y4 T4 h4 m4 => ?_⟩
    have z4 := z3.trans y4
    have l4 := m4.length
    refine ⟨p4, v4, _, rfl, h4, m4, by rw [l4]; simp, T4, fun p5 v5 H5 y5 T5 h5 m5 => ?_⟩
    have z5 := z4.trans y5
    have l5 := m5.length
    refine ⟨p5, v5, _, rfl, h5, m5, by rw [l5]; simp, T5, fun p6 v6 H6 y6 T6 h6 m6 => ?_⟩
    have z6 := z5.trans y6
    intro H9 L inj
    have hlen : ∀ (p : Addr) , True := fun _ => trivial
    refine q p6 v6 H9 (z6.trans (KpL.ext L.ext)) (tabL_ext T6 L.ext) (L.ext _ _ h6) ?_
    have esc := fun {v : V} {t : XK → TE} {o : Out} (m : MadeX _ 14 H6 v t) (does : ∀ H3, Dk H H3 → Does A o t _ H3) => made_esc (A := A) (H0 := H) m L (KpL.up z6 T6) inj rfl (fun y e => cell_has e) (fun y e => absurd rfl (scLCalls.nofree _ (PySem.mem_of_lookup e))) (by
      intro i y hi hy
      match i, hi with
      | 0, _ => exact ⟨_, rfl⟩
      | 1, _ => exact ⟨_, rfl⟩
      | 2, hi =>
        cases hi
        exact absurd (show (defScope sLCalls).names.lookup ("works" : Str) = some NameKind.cell from hy) (by decide +kernel)
      | i + 3, hi => cases hi) does
    clear z1
    rcases m6 with _ | ⟨a0, m6⟩
    rcases m6 with _ | ⟨a1, m6⟩
    rcases m6 with _ | ⟨a2, m6⟩
    rcases m6 with _ | ⟨a3, m6⟩
    rcases m6 with _ | ⟨a4, m6⟩
    rcases m6 with _ | ⟨a5, m6⟩
    rcases m6 with _ | ⟨a6, m6⟩
    rcases m6 with _ | ⟨a7, m6⟩
    rcases m6 with _ | ⟨a8, m6⟩
    rcases m6 with _ | ⟨a9, m6⟩
    rcases m6 with _ | ⟨a10, m6⟩
    rcases m6 with _ | ⟨a11, m6⟩
    rcases m6 with _ | ⟨a12, m6⟩
    rcases m6 with _ | ⟨a13, m6⟩
    cases m6
    exact .cons (esc a0 (fun _ z => does1 r1 rfl z)) (.cons (esc a1 (fun _ z => does1 r1 rfl z)) (.cons (esc a2 (fun _ z => does2 r2 rfl rfl z)) (.cons (esc a3 (fun _ z => does1 r1 rfl z)) (.cons (esc a4 (fun _ z => does1 r1 rfl z)) (.cons (esc a5 (fun _ z => does1 r1 rfl z)) (.cons (esc a6 (fun _ z => does1 r1 rfl z)) (.cons (esc a7 (fun _ z => does1 r1 rfl z)) (.cons (esc a8 (fun _ z => does1 r1 rfl z)) (.cons (esc a9 (fun _ z => does1 r1 rfl z)) (.cons (esc a10 (fun _ z => does1 r1 rfl z)) (.cons (esc a11 (fun _ z => does1 r1 rfl z)) (.cons (esc a12 (fun _ z => does1 r1 rfl z)) (.cons (esc a13 (fun _ z => does1 r1 rfl z)) (.nil))))))))))))))
theorem ok_lparted (F : FnP K "_law_parted" sLParted f fd) (ec : fd.code = .ref c0) (TB : LamX.TabB base mg c0 PL) (M : PartedD P w K mg base CW C2) : FnOk P w K mg base CX0 1 f fd ["bad", "part"] (spParted P w K mg base A PL CW C2) := by
  refine ok_codeE F scLParted (fun vs H Q E h => ?_) (fun cdv A0 outer s H vs Q E hcd hr h => ⟨_, (psse_set (j := 2) scLParted.nd rfl (Or.inl rfl) (pl_lst (pl_cons (pe_lamEN (k := 14) (P := PL) (t := tRW 0 1 CW) TB (hcd.trans ec) (lamZ_by (by show lamZB nLParted (defScope sLParted) _ = true; decide +kernel)) ⟨escZ_by (by show escZB nLParted _ = true; decide +kernel), fun _ _ _ _ _ => rfl, fun A' outer' s' H' E' q f' c' cl hr' => pe_imp (pe_hasX M.within hr' (by decide) (L2.takes_of (E := E') rfl rfl rfl rfl) (pa_cons (pv 0) (pa_cons (pv 1) pa_nil))) (fun _ _ _ ⟨v, u, h, h', c⟩ => ⟨v, h, u, h', v, u, rfl, c⟩)⟩) (pl_cons (pe_lamED (k := 14) (P := PL) (t := tR2 0 1 C2) TB (hcd.trans ec) (lamZ_by (by show lamZB nLParted (defScope sLParted) _ = true; decide +kernel)) ⟨escZ_by (by show escZB nLParted _ = true; decide +kernel), ⟨"a", rfl, fun _ _ _ _ _ _ => ⟨_, rfl, fun _ => rfl⟩⟩, fun A' outer' s' H' E' q f' c' cl hr' => pe_imp (pe_hasX M.countc hr' (by decide) (L2.takes_of (E := E') rfl rfl rfl rfl) (pa_cons (pv 0) (pa_cons (pv 1) pa_nil))) (fun _ _ _ ⟨v, u, h, h', c⟩ => ⟨v, h, u, h', v, u, rfl, c⟩)⟩) (pl_cons (pe_lamED (k := 14) (P := PL) (t := tR2 0 1 C2) TB (hcd.trans ec) (lamZ_by (by show lamZB nLParted (defScope sLParted) _ = true; decide +kernel)) ⟨escZ_by (by show escZB nLParted _ = true; decide +kernel), ⟨"b", rfl, fun _ _ _ _ _ _ => ⟨_, rfl, fun _ => rfl⟩⟩, fun A' outer' s' H' E' q f' c' cl hr' => pe_imp (pe_hasX M.unc hr' (by decide) (L2.takes_of (E := E') rfl rfl rfl rfl) (pa_cons (pv 0) (pa_cons (pv 1) pa_nil))) (fun _ _ _ ⟨v, u, h, h', c⟩ => ⟨v, h, u, h', v, u, rfl, c⟩)⟩) pl_nil))))
    (psse_ret (pe_mcat (pv 2) (pl_lst (pl_cons (pe_lamEN (k := 14) (P := PL) (t := tR2 0 1 C2) TB (hcd.trans ec) (lamZ_by (by show lamZB nLParted (defScope sLParted) _ = true; decide +kernel)) ⟨escZ_by (by show escZB nLParted _ = true; decide +kernel), fun _ _ _ _ _ => rfl, fun A' outer' s' H' E' q f' c' cl hr' => pe_imp (pe_hasX M.showsu hr' (by decide) (L2.takes_of (E := E') rfl rfl rfl rfl) (pa_cons (pv 0) (pa_cons (pv 1) (pa_cons pe_non pa_nil)))) (fun _ _ _ ⟨v, u, h, h', c⟩ => ⟨v, h, u, h', v, u, .non, rfl, c⟩)⟩) pl_nil))))), ?_⟩)
  · obtain ⟨v, u, o1, out, rfl, _⟩ := h
    rfl
  · obtain ⟨v, u, o1, out, rfl, hT, rw, r2, q⟩ := h
    refine ⟨hT, fun p1 v1 H1 z1 T1 h1 m1 => ?_⟩
    have l1 := m1.length
    refine ⟨p1, v1, _, rfl, h1, m1, by rw [l1]; simp, T1, fun p2 v2 H2 y2 T2 h2 m2 => ?_⟩
    have z2 := z1.trans y2
    intro H9 L inj
    have hlen : ∀ (p : Addr) , True := fun _ => trivial
    refine q p2 v2 H9 (z2.trans (KpL.ext L.ext)) (tabL_ext T2 L.ext) (L.ext _ _ h2) ?_
    have esc := fun {v : V} {t : XK → TE} {o : Out} (m : MadeX _ 14 H2 v t) (does : ∀ H3, Dk H H3 → Does A o t _ H3) => made_esc (A := A) (H0 := H) m L (KpL.up z2 T2) inj rfl (fun y e => cell_has e) (fun y e => absurd rfl (scLParted.nofree _ (PySem.mem_of_lookup e))) (by
      intro i y hi hy
      match i, hi with
      | 0, _ => exact ⟨_, rfl⟩
      | 1, _ => exact ⟨_, rfl⟩
      | 2, hi =>
        cases hi
        exact absurd (show (defScope sLParted).names.lookup ("works" : Str) = some NameKind.cell from hy) (by decide +kernel)
      | i + 3, hi => cases hi) does
    clear z1
    rcases m2 with _ | ⟨a0, m2⟩
    rcases m2 with _ | ⟨a1, m2⟩
    rcases m2 with _ | ⟨a2, m2⟩
    rcases m2 with _ | ⟨a3, m2⟩
    cases m2
    exact .cons (esc a0 (fun _ z => doesW rw rfl rfl z)) (.cons (esc a1 (fun _ z => does2 r2 rfl rfl z)) (.cons (esc a2 (fun _ z => does2 r2 rfl rfl z)) (.cons (esc a3 (fun _ z => does2 r2 rfl rfl z)) (.nil))))
theorem ok_lmore (F : FnP K "_law_more" sLMore f fd) (ec : fd.code = .ref c0) (TB : LamX.TabB base mg c0 PL) (M : MoreD P w K mg base C) : FnOk P w K mg base CX0 1 f fd ["bad"] (spMore P w K mg base A PL C) := by
  refine ok_codeE F scLMore (fun vs H Q E h => ?_) (fun cdv A0 outer s H vs Q E hcd hr h => ⟨_, (psse_set (j := 1) scLMore.nd rfl (Or.inl rfl) (pl_lst (pl_cons (pe_lamEN (k := 14) (P := PL) (t := tR1 0 C) TB (hcd.trans ec) (lamZ_by (by show lamZB nLMore (defScope sLMore) _ = true; decide +kernel)) ⟨escZ_by (by show escZB nLMore _ = true; decide +kernel), fun _ _ _ _ _ => rfl, fun A' outer' s' H' E' q f' c' cl hr' => pe_imp (pe_hasX M.parts hr' (by decide) (L2.takes_of (E := E') rfl rfl rfl rfl) (pa_cons (pv 0) pa_nil)) (fun _ _ _ ⟨v, h, c⟩ => ⟨v, h, v, rfl, c⟩)⟩) (pl_cons (pe_lamED (k := 14) (P := PL) (t := tR1 0 C) TB (hcd.trans ec) (lamZ_by (by show lamZB nLMore (defScope sLMore) _ = true; decide +kernel)) ⟨escZ_by (by show escZB nLMore _ = true; decide +kernel), ⟨"a", rfl, fun _ _ _ _ _ _ => ⟨_, rfl, fun _ => rfl⟩⟩, fun A' outer' s' H' E' q f' c' cl hr' => pe_imp (pe_hasX M.trans hr' (by decide) (L2.takes_of (E := E') rfl rfl rfl rfl) (pa_cons (pv 0) pa_nil)) (fun _ _ _ ⟨v, h, c⟩ => ⟨v, h, v, rfl, c⟩)⟩) pl_nil)))
    (psse_set (j := 1) scLMore.nd rfl (Or.inl rfl) (pe_mcat (pv 1) (pl_lst (pl_cons (pe_lamED (k := 14) (P := PL) (t := tR1 0 C) TB (hcd.trans ec) (lamZ_by (by show lamZB nLMore (defScope sLMore) _ = true; decide +kernel)) ⟨escZ_by (by show escZB nLMore _ = true; decide +kernel), ⟨"b", rfl, fun _ _ _ _ _ _ => ⟨_, rfl, fun _ => rfl⟩⟩, fun A' outer' s' H' E' q f' c' cl hr' => pe_imp (pe_hasX M.rank hr' (by decide) (L2.takes_of (E := E') rfl rfl rfl rfl) (pa_cons (pv 0) pa_nil)) (fun _ _ _ ⟨v, h, c⟩ => ⟨v, h, v, rfl, c⟩)⟩) (pl_cons (pe_lamED (k := 14) (P := PL) (t := tR1 0 C) TB (hcd.trans ec) (lamZ_by (by show lamZB nLMore (defScope sLMore) _ = true; decide +kernel)) ⟨escZ_by (by show escZB nLMore _ = true; decide +kernel), ⟨"c", rfl, fun _ _ _ _ _ _ => ⟨_, rfl, fun _ => rfl⟩⟩, fun A' outer' s' H' E' q f' c' cl hr' => pe_imp (pe_hasX M.likes hr' (by decide) (L2.takes_of (E := E') rfl rfl rfl rfl) (pa_cons (pv 0) (pa_cons pe_non pa_nil))) (fun _ _ _ ⟨v, h, c⟩ => ⟨v, h, v, .non, rfl, c⟩)⟩) pl_nil))))
    (psse_set (j := 1) scLMore.nd rfl (Or.inl rfl) (pe_mcat (pv 1) (pl_lst (pl_cons (pe_lamEN (k := 14) (P := PL) (t := tR1 0 C) TB (hcd.trans ec) (lamZ_by (by show lamZB nLMore (defScope sLMore) _ = true; decide +kernel)) ⟨escZ_by (by show escZB nLMore _ = true; decide +kernel), fun _ _ _ _ _ => rfl, fun A' outer' s' H' E' q f' c' cl hr' => pe_imp (pe_hasX M.stayers hr' (by decide) (L2.takes_of (E := E') rfl rfl rfl rfl) (pa_cons (pv 0) (pa_cons pe_non pa_nil))) (fun _ _ _ ⟨v, h, c⟩ => ⟨v, h, v, .non, rfl, c⟩)⟩) (pl_cons (pe_lamED (k := 14) (P := PL) (t := tR1 0 C) TB (hcd.trans ec) (lamZ_by (by show lamZB nLMore (defScope sLMore) _ = true; decide +kernel)) ⟨escZ_by (by show escZB nLMore _ = true; decide +kernel), ⟨"a", rfl, fun _ _ _ _ _ _ => ⟨_, rfl, fun _ => rfl⟩⟩, fun A' outer' s' H' E' q f' c' cl hr' => pe_imp (pe_hasX M.rings hr' (by decide) (L2.takes_of (E := E') rfl rfl rfl rfl) (pa_cons (pv 0) (pa_cons pe_non pa_nil))) (fun _ _ _ ⟨v, h, c⟩ => ⟨v, h, v, .non, rfl, c⟩)⟩) pl_nil))))
    (psse_set (j := 1) scLMore.nd rfl (Or.inl rfl) (pe_mcat (pv 1) (pl_lst (pl_cons (pe_lamED (k := 14) (P := PL) (t := tR1 0 C) TB (hcd.trans ec) (lamZ_by (by show lamZB nLMore (defScope sLMore) _ = true; decide +kernel)) ⟨escZ_by (by show escZB nLMore _ = true; decide +kernel), ⟨"b", rfl, fun _ _ _ _ _ _ => ⟨_, rfl, fun _ => rfl⟩⟩, fun A' outer' s' H' E' q f' c' cl hr' => pe_imp (pe_hasX M.made hr' (by decide) (L2.takes_of (E := E') rfl rfl rfl rfl) (pa_cons (pv 0) (pa_cons pe_non pa_nil))) (fun _ _ _ ⟨v, h, c⟩ => ⟨v, h, v, .non, rfl, c⟩)⟩) (pl_cons (pe_lamED (k := 14) (P := PL) (t := tR1 0 C) TB (hcd.trans ec) (lamZ_by (by show lamZB nLMore (defScope sLMore) _ = true; decide +kernel)) ⟨escZ_by (by show escZB nLMore _ = true; decide +kernel), ⟨"c", rfl, fun _ _ _ _ _ _ => ⟨_, rfl, fun _ => rfl⟩⟩, fun A' outer' s' H' E' q f' c' cl hr' => pe_imp (pe_hasX M.sharp hr' (by decide) (L2.takes_of (E := E') rfl rfl rfl rfl) (pa_cons (pv 0) pa_nil)) (fun _ _ _ ⟨v, h, c⟩ => ⟨v, h, v, rfl, c⟩)⟩) pl_nil))))
    (psse_ret (pe_mcat (pv 1) (pl_lst (pl_cons (pe_lamEN (k := 14) (P := PL) (t := tR1 0 C) TB (hcd.trans ec) (lamZ_by (by show lamZB nLMore (defScope sLMore) _ = true; decide +kernel)) ⟨escZ_by (by show escZB nLMore _ = true; decide +kernel), fun _ _ _ _ _ => rfl, fun A' outer' s' H' E' q f' c' cl hr' => pe_imp (pe_hasX M.wrhouse hr' (by decide) (L2.takes_of (E := E') rfl rfl rfl rfl) (pa_cons (pv 0) pa_nil)) (fun _ _ _ ⟨v, h, c⟩ => ⟨v, h, v, rfl, c⟩)⟩) pl_nil)))))))), ?_⟩)
  · obtain ⟨v, out, rfl, _⟩ := h
    rfl
  · obtain ⟨v, out, rfl, hT, r1, q⟩ := h
    refine ⟨hT, fun p1 v1 H1 z1 T1 h1 m1 => ?_⟩
    have l1 := m1.length
    refine ⟨p1, v1, _, rfl, h1, m1, by rw [l1]; simp, T1, fun p2 v2 H2 y2 T2 h2 m2 => ?_⟩
    have z2 := z1.trans y2
    have l2 := m2.length
    refine ⟨p2, v2, _, rfl, h2, m2, by rw [l2]; simp, T2, fun p3 v3 H3 y3 T3 h3 m3 => ?_⟩
    have z3 := z2.trans y3
    have l3 := m3.length
    refine ⟨p3, v3, _, rfl, h3, m3, by rw [l3]; simp, T3, fun p4 v4 H4 y4 T4 h4 m4 => ?_⟩
    have z4 := z3.trans y4
    have l4 := m4.length
    refine ⟨p4, v4, _, rfl, h4, m4, by rw [l4]; simp, T4, fun p5 v5 H5 y5 T5 h5 m5 => ?_⟩
    have z5 := z4.trans y5
    intro H9 L inj
    have hlen : ∀ (p : Addr) , True := fun _ => trivial
    refine q p5 v5 H9 (z5.trans (KpL.ext L.ext)) (tabL_ext T5 L.ext) (L.ext _ _ h5) ?_
    have esc := fun {v : V} {t : XK → TE} {o : Out} (m : MadeX _ 14 H5 v t) (does : ∀ H3, Dk H H3 → Does A o t _ H3) => made_esc (A := A) (H0 := H) m L (KpL.up z5 T5) inj rfl (fun y e => cell_has e) (fun y e => absurd rfl (scLMore.nofree _ (PySem.mem_of_lookup e))) (by
      intro i y hi hy
      match i, hi with
      | 0, _ => exact ⟨_, rfl⟩
      | 1, hi =>
        cases hi
        exact absurd (show (defScope sLMore).names.lookup ("works" : Str) = some NameKind.cell from hy) (by decide +kernel)
      | i + 2, hi => cases hi) does
    clear z1
    rcases m5 with _ | ⟨a0, m5⟩
    rcases m5 with _ | ⟨a1, m5⟩
    rcases m5 with _ | ⟨a2, m5⟩
    rcases m5 with _ | ⟨a3, m5⟩
    rcases m5 with _ | ⟨a4, m5⟩
    rcases m5 with _ | ⟨a5, m5⟩
    rcases m5 with _ | ⟨a6, m5⟩
    rcases m5 with _ | ⟨a7, m5⟩
    rcases m5 with _ | ⟨a8, m5⟩
    cases m5
    exact .cons (esc a0 (fun _ z => does1 r1 rfl z)) (.cons (esc a1 (fun _ z => does1 r1 rfl z)) (.cons (esc a2 (fun _ z => does1 r1 rfl z)) (.cons (esc a3 (fun _ z => does1 r1 rfl z)) (.cons (esc a4 (fun _ z => does1 r1 rfl z)) (.cons (esc a5 (fun _ z => does1 r1 rfl z)) (.cons (esc a6 (fun _ z => does1 r1 rfl z)) (.cons (esc a7 (fun _ z => does1 r1 rfl z)) (.cons (esc a8 (fun _ z => does1 r1 rfl z)) (.nil)))))))))
end
end NS
end
section
set_option maxHeartbeats 4000000
/-! M17: parts, and what they cover -/
namespace NS
open PySem PySem.Spec PyProof.Rows L2 ZS
section
variable {n : Nat} {ts us U L M R D : List (List Int)}
end
end NS
end
section
set_option maxHeartbeats 4000000
/-! M18: what groups alike have alike; counts and their sums -/
namespace NS
open PySem PySem.Spec PyProof.Rows L2 ZS
section
variable {n : Nat} {ts L : List (List Int)}
theorem sq_rank (hT : ∀ t ∈ ts, IsT n t) (aL : Asc ltT (Grp n ts) L) {LL : List (List (List Int))} (nd : LL.Nodup) (mem : ∀ k, k ∈ LL ↔ Lots2 n ts k) : (L.map fun t => (keptL t).length * (keptL t).length).sum = L.length * LL.length := by
  obtain ⟨LLp, pl, cm⟩ := pl_ex (n := n) hT
  rw [sum_kept2 hT aL.nd aL.mem pl cm, rank_eq hT nd mem pl cm]
variable {m : List Int} {L' : List (List Int)}
theorem conj_perm (hm : IsT n m) (hT : ∀ t ∈ ts, IsT n t) (aL : Asc ltT (Grp n ts) L) (aL' : Asc ltT (Grp n (ts.map (conj m))) L') : L'.Perm (L.map (conj m)) := by
  have is : ∀ t ∈ L, IsT n t := fun t ht => grp_isT hT ((aL.mem t).mp ht)
  refine (List.perm_ext_iff_of_nodup aL'.nd (nodup_map aL.nd fun a ha b hb e => like_inj (is a ha) (is b hb) hm e)).mpr fun x => ?_
  rw [aL'.mem, grp_conj hm hT, List.mem_map]
  exact ⟨fun ⟨y, h, e⟩ => ⟨y, (aL.mem y).mpr h, e.symm⟩, fun ⟨y, h, e⟩ => ⟨y, (aL.mem y).mp h, e.symm⟩⟩
theorem conj_len (hm : IsT n m) (hT : ∀ t ∈ ts, IsT n t) (aL : Asc ltT (Grp n ts) L) (aL' : Asc ltT (Grp n (ts.map (conj m))) L') : L'.length = L.length := by
  rw [(conj_perm hm hT aL aL').length_eq, List.length_map]
theorem conj_is (hm : IsT n m) (hT : ∀ t ∈ ts, IsT n t) : ∀ t ∈ ts.map (conj m), IsT n t := fun t ht => by
  obtain ⟨u, hu, rfl⟩ := List.mem_map.mp ht
  exact IsT.conj hm (hT u hu)
theorem conj_room (hm : IsT n m) (hT : ∀ t ∈ ts, IsT n t) {U : List (List Int)} (rm : Room' n comp ts (idt n) U) : Room' n comp (ts.map (conj m)) (idt n) (U.map (conj m)) where
  a0 := List.mem_map.mpr ⟨idt n, rm.a0, conj_idt hm⟩
  cl := fun a ha t ht => by
    obtain ⟨b, hb, rfl⟩ := List.mem_map.mp ha
    obtain ⟨u, hu, rfl⟩ := List.mem_map.mp ht
    rw [← conj_comp hm (rm.is b hb) (hT u hu)]
    exact List.mem_map.mpr ⟨_, rm.cl b hb u hu, rfl⟩
  is := fun a ha => by
    obtain ⟨b, hb, rfl⟩ := List.mem_map.mp ha
    exact IsT.conj hm (rm.is b hb)
  few := by rw [List.length_map]; exact rm.few
end
end NS
end
section
set_option maxHeartbeats 4000000
/-! M19: groups worked out by hand -/
namespace NS
open PySem PySem.Spec PyProof.Rows L2 ZS
def isB (n : Nat) (t : List Int) : Bool := decide (t.length = n) && (t.all fun x => decide (0 ≤ x) && decide (x < (n : Int))) && decide t.Nodup
theorem isB_is {n : Nat} {t : List Int} (h : isB n t = true) : IsT n t := by
  unfold isB at h
  simp only [Bool.and_eq_true, decide_eq_true_iff, List.all_eq_true] at h
  exact ⟨h.1.1, fun x hx => h.1.2 x hx, h.2⟩
theorem isB_all {n : Nat} {ts : List (List Int)} (h : (ts.all fun t => isB n t) = true) : ∀ t ∈ ts, IsT n t := fun t ht => isB_is (List.all_eq_true.mp h t ht)
def grpB (p : Nat × List (List Int)) (L : List (List Int)) : Bool := (clK p).contains (idt p.1) && ((clK p).all fun a => p.2.all fun t => (clK p).contains (comp a t)) && decide (L.Pairwise ltT) && ((clK p).all fun a => L.contains a) && L.all fun a => (clK p).contains a
theorem pw_nd {α : Type} {lt : α → α → Prop} (irr : ∀ a, ¬ lt a a) {L : List α} (pw : L.Pairwise lt) : L.Nodup := by
  refine List.Pairwise.imp (S := fun a b => a ≠ b) (fun {a b} (h : lt a b) (e : a = b) => ?_) pw
  rw [e] at h
  exact irr b h
theorem grpB_asc {n : Nat} {ts L : List (List Int)} (h : grpB (n, ts) L = true) : Asc ltT (Grp n ts) L := by
  unfold grpB at h
  simp only [Bool.and_eq_true, decide_eq_true_iff, List.all_eq_true, List.contains_iff_mem] at h
  obtain ⟨⟨⟨⟨h1, h2⟩, h3⟩, h4⟩, h5⟩ := h
  refine ⟨h3, pw_nd ltT_irr h3, fun x => ⟨fun hx => ?_, fun hx => h4 x (hx.inU h1 fun a ha t ht => h2 a ha t ht)⟩⟩
  refine clo_sub (P := Grp n ts) (fun a ha t ht => .next ha ht) 200 _ _ (fun a ha => ?_) (fun a ha => ?_) x (h5 x hx)
  · rw [List.mem_singleton.mp ha]; exact .base
  · rw [List.mem_singleton.mp ha]; exact .base
section
variable {n : Nat} {ts L : List (List Int)}
theorem rank_of (hT : ∀ t ∈ ts, IsT n t) (aL : Asc ltT (Grp n ts) L) {R : Nat} (e : (L.map fun t => (keptL t).length * (keptL t).length).sum = L.length * R) {LL : List (List (List Int))} (nd : LL.Nodup) (mem : ∀ k, k ∈ LL ↔ Lots2 n ts k) : LL.length = R := by
  have h := sq_rank hT aL nd mem
  rw [e] at h
  exact (Nat.eq_of_mul_eq_mul_left (List.length_pos_of_mem ((aL.mem (idt n)).mpr .base)) h).symm
end
end NS
end
section
set_option maxHeartbeats 4000000
/-! L12: what is uncovered, asked by laws -/
namespace NS
open PySem PySem.Spec PyProof.Rows L2 ZS
section
variable {P : Program} {w : World} {K : PySem.W.Frag} {mg : Str → Option Value} {base : Heap} {f : Addr} {fd : FuncData} {pT pA C : Addr}
theorem UncL.uniq {ts L Mi D D' : List (List Int)} (h : UncL ts L Mi D) (h' : UncL ts L Mi D') : D = D' := Asc.uniq ltT_irr ltT_tr (G := fun a => a ∈ L ∧ ¬ ∃ m ∈ Mi, Rch likeS ts m a) ⟨h.pw, h.nd, h.mem⟩ ⟨h'.pw, h'.nd, h'.mem⟩
theorem asc_some {G : List Int → Prop} (U : List (List Int)) (h : ∀ x, G x → x ∈ U) : ∃ M, Asc ltT G M := by
  classical
  obtain ⟨M0, nd0, mem0⟩ := nd_of U
  obtain ⟨k, pm, pw⟩ := asc_exists (lt := ltT) (fun a b c h1 h2 => lexI_tr a b c h1 h2) (fun a b h => by
    cases e : lexI a b with
    | true => exact .inl e
    | false =>
      cases e2 : lexI b a with
      | true => exact .inr e2
      | false => exact absurd (lexI_tot a b e e2) h) (M0.filter fun x => decide (G x)) (List.Pairwise.filter _ nd0)
  refine ⟨k, pw, pm.nodup_iff.mpr (List.Pairwise.filter _ nd0), fun x => ?_⟩
  rw [pm.mem_iff, List.mem_filter, decide_eq_true_eq, mem0]
  exact ⟨fun h => h.2, fun g => ⟨h x g, g⟩⟩
theorem asc_grp {n : Nat} {us U : List (List Int)} (rm : Room' n comp us (idt n) U) : ∃ M, Asc ltT (Grp n us) M := asc_some U fun x g => g.inU rm.a0 rm.cl
end
end NS
end
section
set_option maxHeartbeats 4000000
/-! L15: _law_is_sharp -/
namespace NS
open PySem PySem.Spec PyProof.Rows L2 ZS
section
variable {P : Program} {w : World} {K : PySem.W.Frag} {mg : Str → Option Value} {base : Heap} {f : Addr} {fd : FuncData}
end
end NS
end
section
set_option maxHeartbeats 4000000
/-! M15: cores -/
namespace NS
open PySem PySem.Spec PyProof.Rows L2 ZS
section
variable {n : Nat} {ts W : List (List Int)} {LLp : List (List (List Int))}
end
/-! ### == of lists of whole numbers -/
end NS
end
section
set_option maxHeartbeats 4000000
/-! L9: the law's order and powers -/
namespace NS
open PySem PySem.Spec PyProof.Rows L2 ZS
section
variable {P : Program} {w : World} {K : PySem.W.Frag} {mg : Str → Option Value} {base : Heap} {f : Addr} {fd : FuncData}
end
end NS
end
section
set_option maxHeartbeats 4000000
/-! L11: what law k12 wants besides -/
namespace NS
open PySem PySem.Spec PyProof.Rows L2 ZS
section
variable {P : Program} {w : World} {K : PySem.W.Frag} {mg : Str → Option Value} {base : Heap} {f : Addr} {fd : FuncData}
end
theorem pr_in {α β : Type} {F : α → β → Prop} : ∀ {xs : List α} {ys : List β}, Paired F xs ys → ∀ {x : α}, x ∈ xs → ∃ y ∈ ys, F x y
  | _, _, .nil, x, h => by cases h
  | _, _, .cons p t, x, h => by
    rcases List.mem_cons.mp h with e | e
    · exact ⟨_, List.mem_cons_self, by rw [e]; exact p⟩
    · obtain ⟨y, hy, q⟩ := pr_in t e
      exact ⟨y, List.mem_cons_of_mem _ hy, q⟩
theorem TupEl.kpb {K : PySem.W.Frag} {r : Addr} {H H' : Hp} (z : KpB r H H') {x : V} {R : List (List Int)} (h : TupEl H (ElT K H) x R) : TupEl H' (ElT K H') x R := by
  obtain ⟨p1, o1, v1, e1, h1, d1, pr1⟩ := h
  exact ⟨p1, o1, v1, e1, z.k _ _ h1 (fun _ q => by cases q) (fun _ q => by cases q), d1, pr1.mono fun _ _ q => q.tup z.tup⟩
end NS
end
section
set_option maxHeartbeats 4000000
/-! M20: the written turns -/
namespace NS
open PySem PySem.Spec PyProof.Rows L2 ZS
/-- a whole house whose group is sharp -/
structure Sh7 (n : Nat) (ts : List (List Int)) : Prop where
  n2 : 2 ≤ n
  hi : IsH n ts
  rm : ∃ U, Room' n comp ts (idt n) U
  ex : ∃ L, Asc ltT (Grp n ts) L ∧ L.length = n * n - n ∧ (L.map fun t => (keptL t).length).sum = L.length ∧ (L.map fun t => (keptL t).length * (keptL t).length).sum = L.length * 2
variable {n : Nat} {ts : List (List Int)} {m : List Int}
theorem Sh7.two (f : Sh7 n ts) {LL : List (List (List Int))} (nd : LL.Nodup) (mem : ∀ k, k ∈ LL ↔ Lots2 n ts k) : LL.length = 2 := by
  obtain ⟨n2, hi, _, L, aL, e, e1, e2⟩ := f
  exact rank_of hi.is aL e2 nd mem
theorem Sh7.len (f : Sh7 n ts) : ∃ W : List (List Int), W.Nodup ∧ (∀ x, x ∈ W ↔ Grp n ts x) ∧ W.length = n * n - n := by
  obtain ⟨n2, hi, _, L, aL, e, e1, e2⟩ := f
  exact ⟨L, aL.nd, aL.mem, e⟩
theorem Sh7.conj (f : Sh7 n ts) (hm : IsT n m) : Sh7 n (ts.map (NS.conj m)) := by
  obtain ⟨n2, hi, ⟨U, rm⟩, L, aL, e, e1, e2⟩ := f
  have rm' := conj_room hm hi.is rm
  obtain ⟨L', aL'⟩ := asc_grp rm'
  refine ⟨n2, ⟨hi.n1, hi.n8, by rw [List.length_map]; exact hi.t1, by rw [List.length_map]; exact hi.t6, conj_is hm hi.is⟩, ⟨_, rm'⟩, L', aL', by rw [conj_len hm hi.is aL aL', e], ?_, ?_⟩
  · rw [conj_len hm hi.is aL aL', ← e1, sum_perm ((conj_perm hm hi.is aL aL').map fun t => (keptL t).length), List.map_map]
    refine sum_map_congr fun t ht => ?_
    show (keptL (NS.conj m t)).length = _
    rw [kept_conj hm (grp_isT hi.is ((aL.mem t).mp ht))]
  · rw [conj_len hm hi.is aL aL', ← e2, sum_perm ((conj_perm hm hi.is aL aL').map fun t => (keptL t).length * (keptL t).length), List.map_map]
    refine sum_map_congr fun t ht => ?_
    show (keptL (NS.conj m t)).length * (keptL (NS.conj m t)).length = _
    rw [kept_conj hm (grp_isT hi.is ((aL.mem t).mp ht))]
theorem rch_off {n : Nat} {ts : List (List Int)} (hT : ∀ t ∈ ts, IsT n t) {a b : Int} (ha : 0 ≤ a ∧ a < n) (hb : 0 ≤ b ∧ b < n) (ne : a ≠ b) {x : List Int} (h : Rch comp ts [a, b] x) : ∃ c d : Int, x = [c, d] ∧ (0 ≤ c ∧ c < n) ∧ (0 ≤ d ∧ d < n) ∧ c ≠ d := by
  induction h with
  | base => exact ⟨a, b, rfl, ha, hb, ne⟩
  | @next x t _ ht ih =>
    obtain ⟨c, d, rfl, hc, hd, ne⟩ := ih
    have it := hT t ht
    have g1 := it.getD (i := c.toNat) (by omega)
    have g2 := it.getD (i := d.toNat) (by omega)
    refine ⟨t.getD c.toNat 0, t.getD d.toNat 0, rfl, by omega, by omega, fun e => ne ?_⟩
    have := it.inj (i := c.toNat) (j := d.toNat) (by omega) (by omega) (by omega)
    omega
theorem rch_diag {ts : List (List Int)} {a : Int} {x : List Int} (h : Rch comp ts [a, a] x) : ∃ c : Int, x = [c, c] ∧ Orb ts a c := by
  induction h with
  | base => exact ⟨a, rfl, .base⟩
  | @next x t _ ht ih =>
    obtain ⟨c, rfl, hc⟩ := ih
    exact ⟨t.getD c.toNat 0, rfl, .next hc ht⟩
/-- two lots of pairs: a whole house -/
theorem two_one {n : Nat} {ts : List (List Int)} (n2 : 2 ≤ n) (hT : ∀ t ∈ ts, IsT n t) {LL : List (List (List Int))} (nd : LL.Nodup) (mem : ∀ k, k ∈ LL ↔ Lots2 n ts k) (e : LL.length = 2) : ∀ i : Nat, i < n → Orb ts 0 (i : Int) := by
  have lot : ∀ a b : Nat, a < n → b < n → ∃ k, k ∈ LL ∧ Lot2 ts [(a : Int), (b : Int)] k := fun a b ha hb => by
    obtain ⟨k, ak⟩ := asc_some (G := Rch comp ts [(a : Int), (b : Int)]) (G2 n) fun x hx => hx.inU (pair_g2 ha hb) (g2_cl hT)
    exact ⟨k, (mem k).mpr ⟨(a, b), mem_grid.mpr ⟨ha, hb⟩, ak⟩, ak⟩
  obtain ⟨k00, m00, l00⟩ := lot 0 0 (by omega) (by omega)
  obtain ⟨k01, m01, l01⟩ := lot 0 1 (by omega) (by omega)
  have off : ∀ i : Nat, i < n → ∀ k, Lot2 ts [(i : Int), (i : Int)] k → k ≠ k01 := fun i hi k l q => by
    have : [(i : Int), (i : Int)] ∈ k := (l.mem _).mpr .base
    rw [q] at this
    obtain ⟨c, d, e1, _, _, ne⟩ := rch_off hT (by omega) (by omega) (by decide) ((l01.mem _).mp this)
    cases e1
    exact ne rfl
  intro i hi
  obtain ⟨kii, mii, lii⟩ := lot i i hi hi
  have n0 := off 0 (by omega) k00 l00
  have ni := off i hi kii lii
  have ek : kii = k00 := by
    match LL, e, nd, m00, m01, mii with
    | [u, v], _, nd, m00, m01, mii =>
      simp only [List.mem_cons, List.mem_nil_iff, or_false] at m00 m01 mii
      rcases m00 with rfl | rfl <;> rcases m01 with rfl | rfl <;> rcases mii with rfl | rfl <;> first | rfl | exact absurd rfl n0 | exact absurd rfl ni
  subst ek
  have : [(i : Int), (i : Int)] ∈ kii := (lii.mem _).mpr .base
  obtain ⟨c, e1, o⟩ := rch_diag ((l00.mem _).mp this)
  cases e1
  exact o
abbrev gT8 : List (List Int) := [[1, 2, 3, 4, 5, 6, 7, 0], [1, 0, 2, 3, 4, 5, 6, 7]]
theorem g8_is : IsH 8 gT8 := ⟨by decide, by decide, by decide, by decide, isB_all (by decide +kernel)⟩
theorem great_not {b : Bool} (h : ¬ Whl 8 gT8 ∧ b = false ∨ Whl 8 gT8 ∧ ∃ LL : List (List (List Int)), LL.Nodup ∧ (∀ k, k ∈ LL ↔ Lots2 8 gT8 k) ∧ ∀ W : List (List Int), W.Nodup → (∀ x, x ∈ W ↔ Grp 8 gT8 x) → (b = true ↔ LL.length = 2 ∧ W.length = 8 * 8 - 8)) : b = false := by
  rcases h with ⟨_, h⟩ | ⟨_, LL, nd, mem, h⟩
  · exact h
  · obtain ⟨W, aW⟩ := asc_some (G := Grp 8 gT8) (listsB 8 8) fun x g => by
      have it := grp_isT g8_is.is g
      exact mem_listsB.mpr ⟨it.len, it.low⟩
    cases b with
    | false => rfl
    | true =>
      obtain ⟨e2, eW⟩ := (h W aW.nd aW.mem).mp rfl
      have one := two_one (by decide) g8_is.is nd mem e2
      obtain ⟨LLp, g⟩ := grpd_ex (by decide) g8_is.is aW.nd aW.mem one
      have ep : LLp.length = 2 := by rw [← rank_eq g8_is.is nd mem g.pl g.cm]; exact e2
      have tw := (g.twice ep).1
      rw [eW] at tw
      have c1 : cnt W p01 = 1 := by omega
      have sg := (g.sing_cnt ep).mpr c1
      have it : IsT 8 [1, 0, 2, 3, 4, 5, 6, 7] := g8_is.is _ (List.mem_cons_of_mem _ List.mem_cons_self)
      have hm : [1, 0, 2, 3, 4, 5, 6, 7] ∈ W := (aW.mem _).mpr (by
        have := Rch.next (step := comp) (ts := gT8) (Rch.base (a0 := idt 8)) (List.mem_cons_of_mem _ List.mem_cons_self : [1, 0, 2, 3, 4, 5, 6, 7] ∈ gT8)
        rwa [idt_comp it] at this)
      have := sg _ hm
      exact absurd this (by decide +kernel)
abbrev gT3 : List (List Int) := [[1, 2, 0]]
/-- the odd values of the law, but the great house -/
def Odd7 (K : PySem.W.Frag) (H : Hp) (x : V) : Prop :=
  (∃ p, x = .ref p ∧ SqT K H p []) ∨ x = .int 5 ∨ x = .str "house" ∨ (∃ p, x = .ref p ∧ SqT K H p [.int 3]) ∨ HouseAt K H x 1 [[0]] ∨
  (∃ p a b, x = .ref p ∧ H p = some (.lst [.int 2, .ref a]) ∧ SqT K H a [.ref b] ∧ SqT K H b [.int 1, .int 0]) ∨
  (∃ p a b, x = .ref p ∧ SqT K H p [.int 2, .ref a] ∧ H a = some (.lst [.ref b]) ∧ SqT K H b [.int 1, .int 0]) ∨ HouseAt K H x 2 [[0, 1]] ∨ HouseAt K H x 3 gT3
theorem Odd7.kp {K : PySem.W.Frag} {H H' : Hp} (z : Kp H H') {x : V} (h : Odd7 K H x) : Odd7 K H' x := by
  rcases h with ⟨p, e, s⟩ | h | h | ⟨p, e, s⟩ | h | ⟨p, a, b, e, s1, s2, s3⟩ | ⟨p, a, b, e, s1, s2, s3⟩ | h | h
  · exact .inl ⟨p, e, z.sqT s⟩
  · exact .inr (.inl h)
  · exact .inr (.inr (.inl h))
  · exact .inr (.inr (.inr (.inl ⟨p, e, z.sqT s⟩)))
  · exact .inr (.inr (.inr (.inr (.inl (z.house h)))))
  · exact .inr (.inr (.inr (.inr (.inr (.inl ⟨p, a, b, e, z.lst s1, z.sqT s2, z.sqT s3⟩)))))
  · exact .inr (.inr (.inr (.inr (.inr (.inr (.inl ⟨p, a, b, e, z.sqT s1, z.lst s2, z.sqT s3⟩))))))
  · exact .inr (.inr (.inr (.inr (.inr (.inr (.inr (.inl (z.house h))))))))
  · exact .inr (.inr (.inr (.inr (.inr (.inr (.inr (.inr (z.house h))))))))
end NS
end
section
set_option maxHeartbeats 4000000
/-! M22: what the great house answers -/
namespace NS
open PySem PySem.Spec PyProof.Rows L2 ZS
theorem gr8_house : IsH 8 gr8 := ⟨by decide, by decide, by decide, by decide, gr8_is⟩
theorem gr8_to {i : Nat} (hi : i < 8) : ∃ g, Grp 8 gr8 g ∧ at' g 0 = i := by
  refine ⟨g8swp 0 i, gr8_all (g8swp_is (by decide) hi), ?_⟩
  rw [g8swp_at (by decide) hi (by decide), if_pos rfl]
theorem gr8_to2 {i j : Nat} (hi : i < 8) (hj : j < 8) (ne : i ≠ j) : ∃ g, Grp 8 gr8 g ∧ at' g 0 = i ∧ at' g 1 = j := by
  have s1 := g8swp_is (i := 0) (j := i) (by decide) hi
  have hs := s1.lt (i := 1) (by decide)
  have e0 : at' (g8swp 0 i) 0 = i := by rw [g8swp_at (by decide) hi (by decide), if_pos rfl]
  have nes : i ≠ at' (g8swp 0 i) 1 := fun e => by
    have := s1.inj (i := 0) (j := 1) (by decide) (by decide) (by rw [e0]; exact e)
    cases this
  have s2 := g8swp_is hs hj
  refine ⟨comp (g8swp 0 i) (g8swp (at' (g8swp 0 i) 1) j), gr8_all (s1.comp s2), ?_, ?_⟩
  · rw [at_comp s1 _ (by decide), e0, g8swp_at hs hj hi, if_neg nes, if_neg ne]
  · rw [at_comp s1 _ (by decide), g8swp_at hs hj hs, if_pos rfl]
theorem gr8_whl : Whl 8 gr8 := whl_of (by decide) gr8_is fun i hi => by
  obtain ⟨g, hg, e⟩ := gr8_to hi
  refine (orb_grp gr8_is (mem_idt.mpr (by omega))).mpr ⟨g, hg, ?_⟩
  have it := grp_isT gr8_is hg
  show (i : Int) = g.getD 0 0
  rw [(it.getD (i := 0) (by decide)).1, e]
theorem gr8_rank {LL : List (List (List Int))} (nd : LL.Nodup) (mem : ∀ k, k ∈ LL ↔ Lots2 8 gr8 k) : LL.length = 2 := by
  have lot : ∀ a b : Nat, a < 8 → b < 8 → ∃ k, k ∈ LL ∧ Lot2 gr8 [(a : Int), (b : Int)] k := fun a b ha hb => by
    obtain ⟨k, ak⟩ := asc_some (G := Rch comp gr8 [(a : Int), (b : Int)]) (G2 8) fun x hx => hx.inU (pair_g2 ha hb) (g2_cl gr8_is)
    exact ⟨k, (mem k).mpr ⟨(a, b), mem_grid.mpr ⟨ha, hb⟩, ak⟩, ak⟩
  obtain ⟨k00, m00, l00⟩ := lot 0 0 (by decide) (by decide)
  obtain ⟨k01, m01, l01⟩ := lot 0 1 (by decide) (by decide)
  have lo2 : ∀ a b : Nat, a < 8 → b < 8 → Low 8 [(a : Int), (b : Int)] := fun a b ha hb => (mem_g2.mp (pair_g2 ha hb)).2
  have at2 : ∀ {g : List Int} {a b c d : Nat}, Grp 8 gr8 g → a < 8 → b < 8 → at' g a = c → at' g b = d → Rch comp gr8 [(a : Int), (b : Int)] [(c : Int), (d : Int)] := fun {g a b c d} hg ha hb e1 e2 => by
    refine (rch_comp gr8_is (lo2 a b ha hb)).mpr ⟨g, hg, ?_⟩
    have it := grp_isT gr8_is hg
    show _ = [g.getD ((a : Int).toNat) 0, g.getD ((b : Int).toNat) 0]
    rw [Int.toNat_natCast, Int.toNat_natCast, (it.getD ha).1, (it.getD hb).1, e1, e2]
  have same : ∀ {a b c d : Nat} {k k' : List (List Int)}, a < 8 → b < 8 → c < 8 → d < 8 → Rch comp gr8 [(a : Int), (b : Int)] [(c : Int), (d : Int)] → Lot2 gr8 [(a : Int), (b : Int)] k → Lot2 gr8 [(c : Int), (d : Int)] k' → k' = k := fun {a b c d k k'} ha hb hc hd r l l' => by
    have r' := g2_sym gr8_is (pair_g2 ha hb) r
    refine lot2_uniq (ts := gr8) (p := [(a : Int), (b : Int)]) ⟨l'.pw, l'.nd, fun x => (l'.mem x).trans ⟨fun h => r.trans h, fun h => r'.trans h⟩⟩ l
  have ne : k00 ≠ k01 := fun e => by
    have : [((0 : Nat) : Int), ((0 : Nat) : Int)] ∈ k01 := by rw [← e]; exact (l00.mem _).mpr .base
    obtain ⟨c, d, e1, _, _, ne⟩ := rch_off gr8_is (by decide) (by decide) (by decide) ((l01.mem _).mp this)
    cases e1
    exact ne rfl
  have pm : LL.Perm [k00, k01] := (List.perm_ext_iff_of_nodup nd (by simp [ne])).mpr fun k => by
    constructor
    · intro hk
      obtain ⟨⟨i, j⟩, hp, l⟩ := (mem k).mp hk
      obtain ⟨hi, hj⟩ := mem_grid.mp hp
      by_cases e : i = j
      · subst e
        obtain ⟨g, hg, eg⟩ := gr8_to hi
        rw [same (by decide) (by decide) hi hi (at2 hg (by decide) (by decide) eg eg) l00 l]
        exact List.mem_cons_self
      · obtain ⟨g, hg, e0, e1⟩ := gr8_to2 hi hj e
        rw [same (by decide) (by decide) hi hj (at2 hg (by decide) (by decide) e0 e1) l01 l]
        exact List.mem_cons_of_mem _ List.mem_cons_self
    · intro hk
      rcases List.mem_cons.mp hk with e | e
      · rw [e]; exact m00
      · rw [List.mem_singleton.mp e]; exact m01
  exact pm.length_eq
end NS
end
section
set_option maxHeartbeats 4000000
/-! N26: odd values as trees -/
namespace NS
open PySem PySem.Spec PyProof.Rows L2 ZS
inductive Dw where
  | non | bl (b : Bool) | int (i : Int) | str (z : Str) | tup (xs : List Dw) | lst (xs : List Dw) | dic
mutual
def IsDw (K : PySem.W.Frag) (H : Hp) : Dw → V → Prop
  | .non, v => v = .non
  | .bl b, v => v = .bl b
  | .int i, v => v = .int i
  | .str z, v => v = .str z
  | .tup ds, v => ∃ a xs, v = .ref a ∧ SqT K H a xs ∧ IsDws K H ds xs
  | .lst ds, v => ∃ a xs, v = .ref a ∧ H a = some (.lst xs) ∧ IsDws K H ds xs
  | .dic, v => ∃ a, v = .ref a ∧ H a = some (.dK [])
def IsDws (K : PySem.W.Frag) (H : Hp) : List Dw → List V → Prop
  | [], vs => vs = []
  | d :: ds, vs => ∃ v r, vs = v :: r ∧ IsDw K H d v ∧ IsDws K H ds r
end
section
variable {K : PySem.W.Frag} {H H' : Hp}
mutual
theorem IsDw.dk (z : Dk H H') : ∀ (d : Dw) (v : V), IsDw K H d v → IsDw K H' d v
  | .non, v, h => by unfold IsDw at h ⊢; exact h
  | .bl b, v, h => by unfold IsDw at h ⊢; exact h
  | .int i, v, h => by unfold IsDw at h ⊢; exact h
  | .str x, v, h => by unfold IsDw at h ⊢; exact h
  | .tup ds, v, h => by
    unfold IsDw at h ⊢
    obtain ⟨a, xs, e, s, r⟩ := h
    exact ⟨a, xs, e, z.tup.sq s, IsDws.dk z ds xs r⟩
  | .lst ds, v, h => by
    unfold IsDw at h ⊢
    obtain ⟨a, xs, e, s, r⟩ := h
    exact ⟨a, xs, e, z.k _ _ s (fun _ q => by cases q) (fun _ q => by cases q), IsDws.dk z ds xs r⟩
  | .dic, v, h => by
    unfold IsDw at h ⊢
    obtain ⟨a, e, s⟩ := h
    exact ⟨a, e, z.k _ _ s (fun _ q => by cases q) (fun _ q => by cases q)⟩
theorem IsDws.dk (z : Dk H H') : ∀ (ds : List Dw) (vs : List V), IsDws K H ds vs → IsDws K H' ds vs
  | [], vs, h => by unfold IsDws at h ⊢; exact h
  | d :: ds, vs, h => by
    unfold IsDws at h ⊢
    obtain ⟨v, r, e, h1, h2⟩ := h
    exact ⟨v, r, e, IsDw.dk z d v h1, IsDws.dk z ds r h2⟩
end
theorem IsDw.kp {d : Dw} {v : V} (h : IsDw K H d v) (z : Kp H H') : IsDw K H' d v := IsDw.dk z.up.dk d v h
theorem IsDws.len : ∀ {ds : List Dw} {vs : List V}, IsDws K H ds vs → vs.length = ds.length
  | [], vs, h => by unfold IsDws at h; rw [h]; rfl
  | d :: ds, vs, h => by
    unfold IsDws at h
    obtain ⟨v, r, e, _, h2⟩ := h
    rw [e, List.length_cons, List.length_cons, IsDws.len h2]
theorem IsDws.pr {F : V → Dw → Prop} (f : ∀ d v, IsDw K H d v → F v d) : ∀ {ds : List Dw} {vs : List V}, IsDws K H ds vs → Paired F vs ds
  | [], vs, h => by unfold IsDws at h; rw [h]; exact .nil
  | d :: ds, vs, h => by
    unfold IsDws at h
    obtain ⟨v, r, e, h1, h2⟩ := h
    rw [e]
    exact .cons (f d v h1) (IsDws.pr f h2)
def tyD : Dw → String
  | .non => "NoneType" | .bl _ => "bool" | .int _ => "int" | .str _ => "str" | .tup _ => "tuple" | .lst _ => "list" | .dic => "dict"
theorem dw_ty {d : Dw} {v : V} (h : IsDw K H d v) : TyX K H v (.type (tyD d)) := by
  cases d with
  | non => unfold IsDw at h; subst h; exact .base .non
  | bl b => unfold IsDw at h; subst h; exact .base (.bl b)
  | int i => unfold IsDw at h; subst h; exact .base (.int i)
  | str z => unfold IsDw at h; subst h; exact .base (.str z)
  | tup ds => unfold IsDw at h; obtain ⟨a, xs, rfl, s, _⟩ := h; exact tyx_T s
  | lst ds => unfold IsDw at h; obtain ⟨a, xs, rfl, s, _⟩ := h; exact .base (.lst s)
  | dic => unfold IsDw at h; obtain ⟨a, rfl, s⟩ := h; exact .base (.dK s)
theorem dw_not {d : Dw} {v : V} {T : String} (h : IsDw K H d v) (k : kitB (tyD d) T = some false) : NotTy K H v T := ⟨tyD d, fun H' z => dw_ty (h.kp z), k⟩
def numD (lo hi : Int) : Dw → Bool
  | .int i => decide (lo ≤ i ∧ i ≤ hi)
  | _ => false
theorem dw_num {lo hi : Int} {d : Dw} {v : V} (h : IsDw K H d v) : NumX K H lo hi v (numD lo hi d) := by
  cases d with
  | int i => unfold IsDw at h; exact .inl ⟨i, h, rfl⟩
  | bl b => unfold IsDw at h; exact .inr ⟨.inl ⟨b, h⟩, rfl⟩
  | non => exact .inr ⟨.inr (dw_not h (by decide +kernel)), rfl⟩
  | str z => exact .inr ⟨.inr (dw_not h (show kitB "str" "int" = some false by decide +kernel)), rfl⟩
  | tup ds => exact .inr ⟨.inr (dw_not h (show kitB "tuple" "int" = some false by decide +kernel)), rfl⟩
  | lst ds => exact .inr ⟨.inr (dw_not h (show kitB "list" "int" = some false by decide +kernel)), rfl⟩
  | dic => exact .inr ⟨.inr (dw_not h (by decide +kernel)), rfl⟩
def intD : Dw → Int
  | .int i => i
  | _ => 0
def turnD (n : Nat) : Dw → Bool
  | .tup ds => decide (ds.length = n) && (ds.all (numD 0 ((n : Int) - 1)) && decide (ds.map intD).Nodup)
  | _ => false
theorem turnD_tup {n : Nat} {ds : List Dw} : turnD n (.tup ds) = (decide (ds.length = n) && (ds.all (numD 0 ((n : Int) - 1)) && decide (ds.map intD).Nodup)) := rfl
theorem dws_ints {lo hi : Int} : ∀ {ds : List Dw} {vs : List V}, IsDws K H ds vs → ds.all (numD lo hi) = true → vs = (ds.map intD).map V.int ∧ ∀ k ∈ ds.map intD, lo ≤ k ∧ k ≤ hi
  | [], vs, h, _ => by unfold IsDws at h; exact ⟨h, fun k hk => by cases hk⟩
  | d :: ds, vs, h, b => by
    unfold IsDws at h
    obtain ⟨v, r, rfl, h1, h2⟩ := h
    rw [List.all_cons, Bool.and_eq_true] at b
    obtain ⟨e, lows⟩ := dws_ints h2 b.2
    cases d with
    | int i =>
      unfold IsDw at h1
      have bi : lo ≤ i ∧ i ≤ hi := of_decide_eq_true b.1
      refine ⟨by rw [h1, e]; rfl, fun k hk => ?_⟩
      rcases List.mem_cons.mp hk with q | q
      · rw [q]; exact bi
      · exact lows k q
    | non => cases b.1
    | bl _ => cases b.1
    | str _ => cases b.1
    | tup _ => cases b.1
    | lst _ => cases b.1
    | dic => cases b.1
theorem dw_turn {n : Nat} (n8 : n ≤ 1000) {d : Dw} {v : V} (h : IsDw K H d v) : TurnX K H n v (turnD n d) := by
  cases d with
  | tup ds =>
    have h0 := h
    unfold IsDw at h
    obtain ⟨a, xs, rfl, s, r⟩ := h
    have l := r.len
    by_cases e : ds.length = n
    · cases eb : ds.all (numD 0 ((n : Int) - 1)) with
      | true =>
        obtain ⟨ex, low⟩ := dws_ints r eb
        refine .inr (.inr (.inr ⟨a, ds.map intD, rfl, by rw [← ex]; exact s, by rw [List.length_map, e], n8, fun k hk => (by have := low k hk; omega), ?_⟩))
        rw [turnD_tup]
        rw [decide_eq_true e, eb]
        rfl
      | false =>
        refine .inr (.inr (.inl ⟨a, xs, ds.map (numD 0 ((n : Int) - 1)), rfl, s, by rw [l, e], ?_, ?_, ?_⟩))
        · have := IsDws.pr (F := fun v d => NumX K H 0 ((n : Int) - 1) v (numD 0 ((n : Int) - 1) d)) (fun d v h => dw_num h) r
          clear eb l e s h0
          induction this with
          | nil => exact .nil
          | cons p _ ih => exact .cons p (ih (by
              unfold IsDws at r
              obtain ⟨_, _, e, _, r2⟩ := r
              cases e
              exact r2))
        · obtain ⟨x, hx, e2⟩ := List.all_eq_false.mp eb
          exact List.mem_map.mpr ⟨x, hx, by simpa using e2⟩
        · rw [turnD_tup]
          rw [eb]
          simp
    · refine .inr (.inl ⟨a, xs, rfl, s, by rw [l]; exact e, ?_⟩)
      rw [turnD_tup]
      rw [decide_eq_false e]
      rfl
  | non => exact .inl ⟨dw_not h (by decide +kernel), rfl⟩
  | bl b => exact .inl ⟨dw_not h (show kitB "bool" "tuple" = some false by decide +kernel), rfl⟩
  | int i => exact .inl ⟨dw_not h (show kitB "int" "tuple" = some false by decide +kernel), rfl⟩
  | str z => exact .inl ⟨dw_not h (show kitB "str" "tuple" = some false by decide +kernel), rfl⟩
  | lst ds => exact .inl ⟨dw_not h (show kitB "list" "tuple" = some false by decide +kernel), rfl⟩
  | dic => exact .inl ⟨dw_not h (by decide +kernel), rfl⟩
def turnsD (n : Nat) : Dw → Bool
  | .tup ds => decide (1 ≤ ds.length ∧ ds.length ≤ 6) && ds.all (turnD n)
  | _ => false
theorem turnsD_tup {n : Nat} {ds : List Dw} : turnsD n (.tup ds) = (decide (1 ≤ ds.length ∧ ds.length ≤ 6) && ds.all (turnD n)) := rfl
theorem pr_map_r {α β γ : Type} {F : α → β → Prop} (f : γ → β) : ∀ {as : List α} {cs : List γ}, Paired (fun a c => F a (f c)) as cs → Paired F as (cs.map f)
  | _, _, .nil => .nil
  | _, _, .cons p t => .cons p (pr_map_r f t)
theorem dw_turns {n : Nat} (n8 : n ≤ 1000) {d : Dw} {v : V} (h : IsDw K H d v) : TurnsX K H n v (turnsD n d) := by
  cases d with
  | tup ds =>
    unfold IsDw at h
    obtain ⟨a, xs, rfl, s, r⟩ := h
    have l := r.len
    by_cases e : 1 ≤ ds.length ∧ ds.length ≤ 6
    · refine .inr (.inr ⟨a, xs, ds.map (turnD n), rfl, s, by omega, by omega, pr_map_r _ (IsDws.pr (fun d v h => dw_turn n8 h) r), ?_⟩)
      rw [turnsD_tup]
      rw [decide_eq_true e, List.all_map]
      rfl
    · refine .inr (.inl ⟨a, xs, rfl, s, by omega, ?_⟩)
      rw [turnsD_tup]
      rw [decide_eq_false e]
      rfl
  | non => exact .inl ⟨dw_not h (by decide +kernel), rfl⟩
  | bl b => exact .inl ⟨dw_not h (show kitB "bool" "tuple" = some false by decide +kernel), rfl⟩
  | int i => exact .inl ⟨dw_not h (show kitB "int" "tuple" = some false by decide +kernel), rfl⟩
  | str z => exact .inl ⟨dw_not h (show kitB "str" "tuple" = some false by decide +kernel), rfl⟩
  | lst ds => exact .inl ⟨dw_not h (show kitB "list" "tuple" = some false by decide +kernel), rfl⟩
  | dic => exact .inl ⟨dw_not h (by decide +kernel), rfl⟩
/-- what is wrong with it as a house: none if nothing is -/
def faultD : Dw → Option Str
  | .tup [y, t] => if numD 1 8 y = true then (if turnsD (intD y).toNat t = true then none else some "turns") else some "halls"
  | _ => some "whole"
theorem faultD_two {y t : Dw} : faultD (.tup [y, t]) = if numD 1 8 y = true then (if turnsD (intD y).toNat t = true then none else some ("turns" : Str)) else some ("halls" : Str) := rfl
theorem dw_fault {d : Dw} {v : V} {wd : Str} (h : IsDw K H d v) (f : faultD d = some wd) : FaultX K H v (.str wd) := by
  cases d with
  | tup ds =>
    unfold IsDw at h
    obtain ⟨a, xs, rfl, s, r⟩ := h
    have l := r.len
    by_cases e : ds.length = 2
    · match ds, e with
      | [y, t], _ =>
        unfold IsDws at r
        obtain ⟨vy, r1, rfl, hy, r⟩ := r
        unfold IsDws at r
        obtain ⟨vt, r2, rfl, ht, r⟩ := r
        unfold IsDws at r
        subst r
        rw [faultD_two] at f
        cases en : numD 1 8 y with
        | false =>
          rw [en, if_neg Bool.false_ne_true] at f
          cases f
          exact .inr (.inr (.inl ⟨a, vy, vt, rfl, s, by rw [← en]; exact dw_num hy, rfl⟩))
        | true =>
          rw [en, if_pos rfl] at f
          cases y with
          | int i =>
            have bi : 1 ≤ i ∧ i ≤ 8 := of_decide_eq_true en
            unfold IsDw at hy
            subst hy
            have ei : i = ((i.toNat : Nat) : Int) := by omega
            refine .inr (.inr (.inr ⟨a, i.toNat, vt, turnsD i.toNat t, rfl, by rw [← ei]; exact s, by omega, by omega, dw_turns (by omega) ht, ?_⟩))
            have f : (if turnsD i.toNat t = true then none else some ("turns" : Str)) = some wd := f
            split at f
            · cases f
            · cases f
              rename_i q
              rw [if_neg q]
          | non => cases en
          | bl _ => cases en
          | str _ => cases en
          | tup _ => cases en
          | lst _ => cases en
          | dic => cases en
    · have fe : faultD (.tup ds) = some "whole" := by
        match ds, e with
        | [], _ => rfl
        | [_], _ => rfl
        | [_, _], e => exact absurd rfl e
        | _ :: _ :: _ :: _, _ => rfl
      rw [fe] at f
      cases f
      exact .inr (.inl ⟨a, xs, rfl, s, by rw [l]; exact e, rfl⟩)
  | non => cases f; exact .inl ⟨dw_not h (by decide +kernel), rfl⟩
  | bl b => cases f; exact .inl ⟨dw_not h (show kitB "bool" "tuple" = some false by decide +kernel), rfl⟩
  | int i => cases f; exact .inl ⟨dw_not h (show kitB "int" "tuple" = some false by decide +kernel), rfl⟩
  | str z => cases f; exact .inl ⟨dw_not h (show kitB "str" "tuple" = some false by decide +kernel), rfl⟩
  | lst ds => cases f; exact .inl ⟨dw_not h (show kitB "list" "tuple" = some false by decide +kernel), rfl⟩
  | dic => cases f; exact .inl ⟨dw_not h (by decide +kernel), rfl⟩
/-- what is wrong with it as a row of n letters: the place -/
def rowGo (n : Nat) : Nat → List Dw → Option (Option Nat)
  | _, [] => none
  | i, d :: ds => if numD 0 ((n : Int) - 1) d = true then rowGo n (i + 1) ds else some (some i)
def rowD (n : Nat) : Dw → Option (Option Nat)
  | .tup ds => if ds.length ≤ 100 then rowGo n 0 ds else some none
  | _ => some none
def spotV : Option Nat → V
  | none => .non
  | some i => .int (i : Nat)
theorem rowGo_at {n : Nat} : ∀ {ds : List Dw} {i k : Nat}, rowGo n i ds = some (some k) → i ≤ k ∧ k - i < ds.length ∧ (∀ j, j < k - i → ∃ d, ds[j]? = some d ∧ numD 0 ((n : Int) - 1) d = true) ∧ ∃ d, ds[k - i]? = some d ∧ numD 0 ((n : Int) - 1) d = false
  | [], i, k, h => by cases h
  | d :: ds, i, k, h => by
    unfold rowGo at h
    split at h
    · rename_i e
      obtain ⟨h1, h2, h3, h4⟩ := rowGo_at h
      have ek : k - i = (k - (i + 1)) + 1 := by omega
      refine ⟨by omega, by rw [List.length_cons]; omega, fun j hj => ?_, by rw [ek]; exact h4⟩
      cases j with
      | zero => exact ⟨d, rfl, e⟩
      | succ j => exact h3 j (by omega)
    · rename_i e
      cases h
      refine ⟨Nat.le_refl _, by rw [Nat.sub_self]; exact Nat.zero_lt_succ _, fun j hj => absurd hj (by omega), d, by rw [Nat.sub_self]; rfl, by simpa using e⟩
theorem rowGo_none {n : Nat} : ∀ {ds : List Dw} {i : Nat}, rowGo n i ds ≠ some none
  | [], i => fun h => by cases h
  | d :: ds, i => fun h => by
    unfold rowGo at h
    split at h
    · exact rowGo_none h
    · cases h
theorem IsDws.get : ∀ {ds : List Dw} {vs : List V} {i : Nat} {d : Dw}, IsDws K H ds vs → ds[i]? = some d → ∃ v, vs[i]? = some v ∧ IsDw K H d v
  | [], vs, i, d, h, e => by simp at e
  | d0 :: ds, vs, 0, d, h, e => by
    unfold IsDws at h
    obtain ⟨v, r, e1, h1, _⟩ := h
    cases e
    exact ⟨v, by rw [e1]; rfl, h1⟩
  | d0 :: ds, vs, i + 1, d, h, e => by
    unfold IsDws at h
    obtain ⟨v, r, e1, _, h2⟩ := h
    obtain ⟨x, h3, h4⟩ := IsDws.get h2 (i := i) (d := d) e
    exact ⟨x, by rw [e1]; exact h3, h4⟩
theorem rowD_tup {n : Nat} {ds : List Dw} : rowD n (.tup ds) = if ds.length ≤ 100 then rowGo n 0 ds else some none := rfl
theorem dw_row {n : Nat} {d : Dw} {v : V} {o : Option Nat} (h : IsDw K H d v) (f : rowD n d = some o) : RowX K H n v (spotV o) := by
  cases d with
  | tup ds =>
    unfold IsDw at h
    obtain ⟨a, xs, rfl, s, r⟩ := h
    have l := r.len
    rw [rowD_tup] at f
    split at f
    · rename_i few
      cases o with
      | none => exact absurd f rowGo_none
      | some k =>
        obtain ⟨h1, h2, h3, d, h4, h5⟩ := rowGo_at f
        rw [Nat.sub_zero] at h2 h3 h4
        obtain ⟨y, hy, iy⟩ := r.get h4
        refine .inr (.inr ⟨a, xs, k, rfl, s, by rw [l]; exact few, fun j hj => ?_, ⟨y, hy, by rw [← h5]; exact dw_num iy⟩, rfl⟩)
        obtain ⟨dj, hdj, nj⟩ := h3 j hj
        obtain ⟨vj, hvj, ij⟩ := r.get hdj
        cases dj with
        | int i =>
          have bi : 0 ≤ i ∧ i ≤ (n : Int) - 1 := of_decide_eq_true nj
          unfold IsDw at ij
          subst ij
          exact ⟨i, hvj, bi.1, by omega⟩
        | non => cases nj
        | bl _ => cases nj
        | str _ => cases nj
        | tup _ => cases nj
        | lst _ => cases nj
        | dic => cases nj
    · rename_i many
      cases f
      exact .inr (.inl ⟨a, xs, rfl, s, by rw [l]; omega, rfl⟩)
  | non => cases f; exact .inl ⟨dw_not h (by decide +kernel), rfl⟩
  | bl b => cases f; exact .inl ⟨dw_not h (show kitB "bool" "tuple" = some false by decide +kernel), rfl⟩
  | int i => cases f; exact .inl ⟨dw_not h (show kitB "int" "tuple" = some false by decide +kernel), rfl⟩
  | str z => cases f; exact .inl ⟨dw_not h (show kitB "str" "tuple" = some false by decide +kernel), rfl⟩
  | lst ds => cases f; exact .inl ⟨dw_not h (show kitB "list" "tuple" = some false by decide +kernel), rfl⟩
  | dic => cases f; exact .inl ⟨dw_not h (by decide +kernel), rfl⟩
end
end NS
end
section
set_option maxHeartbeats 4000000
/-! N27: what each list of calls is given -/
namespace NS
open PySem PySem.Spec PyProof.Rows L2 ZS LamX LamY LamE
theorem HG.dk {K : PySem.W.Frag} {pT pA : Addr} {H H' : Hp} {v : V} {n : Nat} {ts : List (List Int)} (h : HG K pT pA H v n ts) (z : Dk H H') : HG K pT pA H' v n ts := ⟨NS.Tup.house z.tup h.1, h.2.1, z.t _ h.2.2.1, z.t _ h.2.2.2⟩
theorem errH_of {A : ErrA} {E : XK} {H : Hp} {i : E6} {f : Str} {x : V} {out : Out} (qe : ∀ cls d H', Kp H H' → Raised A out cls d H' → E cls d H') (hr : ∀ d H', H' d = some (.xd [(f, x)]) → Raised A out (.ref (A.c i)) (some d) H') : errH E (A.c i) f x H := fun d H' z hd => qe _ _ _ (z.new hd) (hr d _ upd_same)
section
variable {K : PySem.W.Frag} {pT pA : Addr} {A : ErrA} {H : Hp} {v u : V}
theorem ref_bad {d : Dw} {wd : Str} (h : IsDw K H d v) (f : faultD d = some wd) (gT : GxR.TabG H pT) (gA : GxR.TabG H pA) : Ref1 A (.house wd) (CBad K pT pA (A.c .b)) v H := fun H3 E z qe =>
  ⟨wd, dw_fault (IsDw.dk z d v h) f, z.t _ gT, z.t _ gA, errH_of (i := .b) qe fun d H' e => ⟨rfl, d, rfl, e⟩⟩
theorem ref_great (h : HG K pT pA H v 8 gr8) : Ref1 A .many (CGreat K pT pA (A.c .m)) v H := fun H3 E z qe => ⟨h.dk z, errH_of (i := .m) qe fun d H' e => ⟨rfl, d, rfl, e⟩⟩
theorem ref_bad2 {d : Dw} {wd : Str} (h : IsDw K H d v) (f : faultD d = some wd) (gT : GxR.TabG H pT) (gA : GxR.TabG H pA) : Ref2 A (.house wd) (fun v _ H E => CBad K pT pA (A.c .b) v H E) v u H := fun H3 E z qe => ref_bad h f gT gA H3 E z qe
theorem ref_badP {d : Dw} {wd : Str} {n : Nat} {ts : List (List Int)} (hv : HG K pT pA H v n ts) (h : IsDw K H d u) (f : faultD d = some wd) : Ref2 A (.house wd) (C2Bad K pT pA (A.c .b)) v u H := fun H3 E z qe => ⟨⟨n, ts, hv.dk z⟩, ref_bad h f hv.2.2.1 hv.2.2.2 H3 E z qe⟩
theorem ref_grt (h : HG K pT pA H v 8 gr8) {d : Dw} (hu : IsDw K H d u) (ht : turnD 8 d = true) : Ref2 A .many (CGrT K pT pA (A.c .m)) v u H := fun H3 E z qe => ⟨ref_great h H3 E z qe, by rw [← ht]; exact dw_turn (by decide) (IsDw.dk z d u hu)⟩
theorem ref_grP (h : HG K pT pA H v 8 gr8) {ts' : List (List Int)} (hu : HG K pT pA H u 8 ts') : Ref2 A .many (C2Gr K pT pA (A.c .m)) v u H := fun H3 E z qe => ⟨ref_great h H3 E z qe, ts', hu.dk z⟩
theorem ref_un {n n' : Nat} {ts ts' : List (List Int)} (h : HG K pT pA H v n ts) (hu : HG K pT pA H u n' ts') (ne : n ≠ n') : Ref2 A .unlike (C2Un K pT pA (A.c .u)) v u H := fun H3 E z qe => ⟨⟨n, ts, n', ts', h.dk z, hu.dk z, ne⟩, fun H' z' => qe _ _ _ z' ⟨rfl, rfl⟩⟩
theorem ref_odd {n : Nat} {ts : List (List Int)} (h : HG K pT pA H v n ts) {d : Dw} (hu : IsDw K H d u) (ht : turnD n d = false) (n8 : n ≤ 1000) : Ref2 A .turn (COdd K pT pA (A.c .t)) v u H := fun H3 E z qe => ⟨n, ts, h.dk z, by rw [← ht]; exact dw_turn n8 (IsDw.dk z d u hu), fun H' z' => qe _ _ _ z' ⟨rfl, rfl⟩⟩
theorem ref_row {n : Nat} {ts : List (List Int)} (h : HG K pT pA H v n ts) {d : Dw} {o : Option Nat} (hu : IsDw K H d u) (ht : rowD ts.length d = some o) : Ref2 A (.row (spotV o)) (CRow K pT pA (A.c .r)) v u H := fun H3 E z qe => ⟨n, ts, spotV o, h.dk z, dw_row (IsDw.dk z d u hu) ht, errH_of (i := .r) qe fun d H' e => ⟨rfl, d, rfl, e⟩⟩
theorem refW_of {out : Out} {C2 : RC2} (h : Ref2 A out C2 v u H) : RefW A out (fun v u H _ E => C2 v u H E) v u H := fun H3 E Q z qe _ => h H3 E z qe
/-- a part that isn't within -/
def C2N (K : PySem.W.Frag) (pT pA C : Addr) : RC2 := fun v u H E => ∃ n ts U us U', HW K pT pA H v n ts U ∧ HW K pT pA H u n us U' ∧ (∀ L M, Asc ltT (Grp n ts) L → Asc ltT (Grp n us) M → ¬ Sub M L) ∧ ∀ H', Kp H H' → E (.ref C) none H'
def CWN (K : PySem.W.Frag) (pT pA : Addr) : RCW := fun v u H Q _ => ∃ n ts U us U', HW K pT pA H v n ts U ∧ HW K pT pA H u n us U' ∧ ∀ y H', Kp H H' → Q y H'
theorem HW.dk {H' : Hp} {n : Nat} {ts U : List (List Int)} (h : HW K pT pA H v n ts U) (z : Dk H H') : HW K pT pA H' v n ts U := ⟨NS.Tup.house z.tup h.1, h.2.1, z.t _ h.2.2.1, z.t _ h.2.2.2.1, h.2.2.2.2⟩
theorem ref_not {n : Nat} {ts U us U' : List (List Int)} (h : HW K pT pA H v n ts U) (hu : HW K pT pA H u n us U') (no : ∀ L M, Asc ltT (Grp n ts) L → Asc ltT (Grp n us) M → ¬ Sub M L) : Ref2 A .within (C2N K pT pA (A.c .w)) v u H := fun H3 E z qe => ⟨n, ts, U, us, U', h.dk z, hu.dk z, no, fun H' z' => qe _ _ _ z' ⟨rfl, rfl⟩⟩
theorem refW_not {n : Nat} {ts U us U' : List (List Int)} (h : HW K pT pA H v n ts U) (hu : HW K pT pA H u n us U') : RefW A .ok (CWN K pT pA) v u H := fun H3 E Q z _ q => ⟨n, ts, U, us, U', h.dk z, hu.dk z, fun y H' z' => q y H' rfl z'⟩
end
section
variable {P : Program} {w : World} {K : PySem.W.Frag} {mg : Str → Option Value} {base : Heap} {pT pA C : Addr} {C2 : RC2} {f1 f2 f3 f4 f5 f6 : Addr} {d1 d2 d3 d4 d5 d6 : FuncData}
/-- both_groups refuses: all do -/
theorem parted_of (B : Bl mg) (F1 : FnP K "is_within" sWithin f1 d1) (m1 : mg "is_within" = some (.ref f1)) (F2 : FnP K "part_groups" sPartG f2 d2) (m2 : mg "part_groups" = some (.ref f2)) (F3 : FnP K "uncovered_turns" sUncT f3 d3) (m3 : mg "uncovered_turns" = some (.ref f3)) (F4 : FnP K "count_covered" sCountC f4 d4) (m4 : mg "count_covered" = some (.ref f4)) (F5 : FnP K "uncovered" sUnc f5 d5) (m5 : mg "uncovered" = some (.ref f5)) (F6 : FnP K "shows_uncovered" sShowsU f6 d6) (m6 : mg "shows_uncovered" = some (.ref f6))
    (hB : HasX P w K mg base "both_groups" 9 (spB2 C2)) : PartedD P w K mg base (fun v u H _ E => C2 v u H E) C2 := by
  have hP := has_partgR F2 m2 B hB
  have hU := has_unctR F3 m3 B hP
  exact ⟨has_withinR F1 m1 B hB, has_countcR F4 m4 B hP, has_uncR F5 m5 B hU, has_showsuR F6 m6 B hU⟩
theorem has_toX {x : Str} {k : Nat} {sp : Sp} (h : Has P w K mg base x k [] sp) : HasX P w K mg base x k sp := by
  obtain ⟨f, fd, ps, ds, h1, h2, h3, h4, h5⟩ := h.ex
  cases h4
  refine ⟨f, fd, ps, h1, h2, h3, h5.len, fun A outer s H args us vs Q E hr he hb hv hs => codeAny_mono (h5.run A outer s H args us vs Q E hr he hb hv hs) fun r s' hq => ?_⟩
  cases r with
  | error e => exact hq.elim
  | ok fl =>
    cases fl with
    | ret u => exact hq
    | next => exact hq
    | brk => exact hq
    | cont => exact hq
/-- part_groups says that it isn't within: all do but is_within -/
theorem parted_not (B : Bl mg) (F3 : FnP K "uncovered_turns" sUncT f3 d3) (m3 : mg "uncovered_turns" = some (.ref f3)) (F4 : FnP K "count_covered" sCountC f4 d4) (m4 : mg "count_covered" = some (.ref f4)) (F5 : FnP K "uncovered" sUnc f5 d5) (m5 : mg "uncovered" = some (.ref f5)) (F6 : FnP K "shows_uncovered" sShowsU f6 d6) (m6 : mg "shows_uncovered" = some (.ref f6))
    (hW : Has P w K mg base "is_within" 10 [] (spWithin K pT pA)) (hP : HasX P w K mg base "part_groups" 10 (spPartG K pT pA C)) : PartedD P w K mg base (CWN K pT pA) (C2N K pT pA C) := by
  have hP2 : HasX P w K mg base "part_groups" 10 (spB2 (C2N K pT pA C)) := hP.imp fun vs H Q E h => by
    obtain ⟨v, u, rfl, n, ts, U, us, U', h1, h2, no, q⟩ := h
    exact ⟨v, u, n, ts, U, us, U', rfl, h1, h2, fun p rl rm H' L M z _ _ _ aL aM s => absurd s (no L M aL aM), fun H' L M z _ _ _ => q H' z⟩
  have hU := has_unctR F3 m3 B hP2
  refine ⟨(has_toX hW).imp fun vs H Q E h => ?_, has_countcR F4 m4 B hP2, has_uncR F5 m5 B hU, has_showsuR F6 m6 B hU⟩
  obtain ⟨v, u, rfl, n, ts, U, us, U', h1, h2, q⟩ := h
  exact ⟨v, u, n, ts, U, us, U', rfl, h1, h2, fun H' L M z _ _ => q _ H' z⟩
end
end NS
end
section
set_option maxHeartbeats 4000000
/-! RMul: a tuple times k, 1 too (the tuple itself) -/
namespace L2
open PySem PySem.Spec PyProof.Rows
theorem tuple_mul1W (l : Addr) (items : Array Value) (n : Nat) (dd : Option Addr) (sl : Array (Option Value)) (x : Int) (u : Tok) (c0 : (decide (x < -(2 ^ 63)) || decide (x ≥ 2 ^ 63)) = false) (c1 : (items.isEmpty || x == 1) = true) :
    Meets (Builtin.«tuple.__mul__» ⟨[.ref l, .int x u], []⟩) (fun _ R s => s.heap.get? l = some { cls := .type "tuple", dict := dd, data := .seq items n, slots := sl } ∧
      R (.ok (.ret (Value.ref l))) s) :=
  .of_wp fun prog w A R s h => by
    obtain ⟨hp, g, d, tk, os⟩ := s
    obtain ⟨hl, h⟩ := h
    have f1 := AutoSeq1.idx_int
    wp_walk using wpAny_loadPart' hl
    repeat (first
      | (refine wpAny_ite_false (decide_eq_false (by rw [c0]; exact Bool.false_ne_true)) ?_; wp_walk using wpAny_loadPart' hl)
      | (refine wpAny_ite_true (decide_eq_true (by rw [c1])) ?_; wp_walk using wpAny_loadPart' hl))
    exact ⟨_, rfl, h⟩
def rRepA (K : PySem.W.Frag) : R2 := fun x y H Q => ∃ l k xs, x = .ref l ∧ y = .int k ∧ SqT K H l xs ∧ xs ≠ [] ∧ 1 ≤ k ∧ k ≤ 1000 ∧ xs.length ≤ 1000 ∧ ∀ p H', (H' = H ∨ H p = none ∧ H' = upd H p (.tup (List.replicate k.toNat xs).flatten)) → SqT K H' p (List.replicate k.toNat xs).flatten → Q (.ref p) H'
section
variable {X : Cx}
theorem op_repA : OpR X (binaryOp .Mult) (rRepA X.K) := by
  intro pins s σ H x y v u Q I rx ry h
  obtain ⟨l, k, xs, rfl, rfl, hT, hne, h1, h2, hz, q⟩ := h
  by_cases e1 : k = 1
  · have hT0 := hT
    subst e1
    cases rx
    obtain ⟨t, rfl⟩ := ry
    obtain ⟨its, r, ⟨⟨cls, dd, data, sl⟩, ho, hc, n, hd⟩, hs⟩ := I.tuple hT
    simp only at hc hd
    subst hc hd
    have c0 : (decide ((1 : Int) < -(2 ^ 63)) || decide ((1 : Int) ≥ 2 ^ 63)) = false := by
      rw [decide_eq_false (by omega), decide_eq_false (by omega)] <;> rfl
    have c1 : (its.toArray.isEmpty || (1 : Int) == 1) = true := by
      rw [show ((1 : Int) == 1) = true from rfl, Bool.or_true]
    refine wpAny_binaryOp_repeat_ref (T := "tuple") (U := "int") (by decide) ⟨_, ho, rfl⟩ (fun s' => typeIs_int s' 1 t) noFill_tuple_mul F.fills_int_mul F.slot_int_rmul repeat_tuple F.slot_int_index.lookup
      (call_meets F.slot_int_rmul (typeIs_int s 1 t) F.entry_int_rmul (F.args_int_rmul_2 _ _) (int_rmul_tuple 1 t l its.toArray n dd sl)
        ⟨ho, rfl, ⟨_, ho, rfl⟩, call_meets F.slot_tuple_mul ⟨_, ho, rfl⟩ F.entry_tuple_mul (F.args_tuple_mul_2 _ _) (tuple_mul1W l its.toArray n dd sl 1 t c0 c1) ⟨ho, ?_⟩⟩)
    exact ⟨.ref l, H, I, rfl, q l H (.inl rfl) (by
      have e : (List.replicate (1 : Int).toNat xs).flatten = xs := by
        show xs ++ [] = xs
        rw [List.append_nil]
      rw [e]
      exact hT0)⟩
  · exact op_repT pins s σ H _ _ v u Q I rx ry ⟨l, k, xs, rfl, rfl, hT, hne, by omega, h2, hz, fun p hp => q p _ (.inr ⟨hp, rfl⟩) (SqT.of upd_same)⟩
end
end L2
end
section
set_option maxHeartbeats 4000000
/-! N28: odd values, written -/
namespace NS
open PySem PySem.Spec PyProof.Rows L2 ZS
section
variable {K : PySem.W.Frag} {H H' : Hp} {r : Addr}
theorem IsDws.snoc : ∀ {ds es : List Dw} {vs ws : List V}, IsDws K H ds vs → IsDws K H es ws → IsDws K H (ds ++ es) (vs ++ ws)
  | [], es, vs, ws, h, h' => by unfold IsDws at h; rw [h]; exact h'
  | d :: ds, es, vs, ws, h, h' => by
    unfold IsDws at h
    obtain ⟨v, r, e, h1, h2⟩ := h
    show IsDws K H (d :: (ds ++ es)) (vs ++ ws)
    unfold IsDws
    exact ⟨v, r ++ ws, by rw [e]; rfl, h1, IsDws.snoc h2 h'⟩
theorem dws_rep {ds : List Dw} {vs : List V} (h : IsDws K H ds vs) : ∀ k : Nat, IsDws K H (List.replicate k ds).flatten (List.replicate k vs).flatten
  | 0 => by show IsDws K H [] []; unfold IsDws; rfl
  | k + 1 => by
    rw [List.replicate_succ, List.replicate_succ, List.flatten_cons, List.flatten_cons]
    exact h.snoc (dws_rep h k)
theorem IsDws.kp {ds : List Dw} {vs : List V} (h : IsDws K H ds vs) (z : Kp H H') : IsDws K H' ds vs := IsDws.dk z.up.dk ds vs h
theorem dws_mem : ∀ {ds : List Dw} {vs : List V} {x : V}, IsDws K H ds vs → x ∈ vs → ∃ d ∈ ds, IsDw K H d x
  | [], vs, x, h, m => by unfold IsDws at h; rw [h] at m; cases m
  | d :: ds, vs, x, h, m => by
    unfold IsDws at h
    obtain ⟨v, r, e, h1, h2⟩ := h
    rw [e] at m
    rcases List.mem_cons.mp m with q | q
    · rw [q]; exact ⟨d, List.mem_cons_self, h1⟩
    · obtain ⟨d', m', h'⟩ := dws_mem h2 q
      exact ⟨d', List.mem_cons_of_mem _ m', h'⟩
mutual
/-- no list of four -/
def nb4 : Dw → Bool
  | .tup ds => nb4s ds
  | .lst ds => decide (ds.length ≠ 4) && nb4s ds
  | _ => true
def nb4s : List Dw → Bool
  | [] => true
  | d :: ds => nb4 d && nb4s ds
end
theorem row_len {sa : Addr} (ra : RowAt H r sa) {xs : List V} (e : H r = some (.lst xs)) : xs.length = 4 := by
  obtain ⟨i, sd, rest, e2, _⟩ := ra
  rw [e] at e2
  have e3 := Option.some.inj e2
  injection e3 with e3
  rw [e3]
  rfl
mutual
theorem IsDw.kb {sa : Addr} (z : KpB r H H') (ra : RowAt H r sa) : ∀ (d : Dw) (v : V), nb4 d = true → IsDw K H d v → IsDw K H' d v
  | .non, v, _, h => by unfold IsDw at h ⊢; exact h
  | .bl b, v, _, h => by unfold IsDw at h ⊢; exact h
  | .int i, v, _, h => by unfold IsDw at h ⊢; exact h
  | .str x, v, _, h => by unfold IsDw at h ⊢; exact h
  | .tup ds, v, n, h => by
    unfold IsDw at h ⊢
    obtain ⟨a, xs, e, s, q⟩ := h
    unfold nb4 at n
    exact ⟨a, xs, e, z.tup.sq s, IsDws.kb z ra ds xs n q⟩
  | .lst ds, v, n, h => by
    unfold IsDw at h ⊢
    obtain ⟨a, xs, e, s, q⟩ := h
    unfold nb4 at n
    rw [Bool.and_eq_true] at n
    refine ⟨a, xs, e, z.lst s fun ea => ?_, IsDws.kb z ra ds xs n.2 q⟩
    rw [ea] at s
    have := row_len ra s
    rw [q.len] at this
    exact (of_decide_eq_true n.1) this
  | .dic, v, _, h => by
    unfold IsDw at h ⊢
    obtain ⟨a, e, s⟩ := h
    refine ⟨a, e, z.k a _ s (fun _ q => by cases q) (fun _ q => by cases q)⟩
theorem IsDws.kb {sa : Addr} (z : KpB r H H') (ra : RowAt H r sa) : ∀ (ds : List Dw) (vs : List V), nb4s ds = true → IsDws K H ds vs → IsDws K H' ds vs
  | [], vs, _, h => by unfold IsDws at h ⊢; exact h
  | d :: ds, vs, n, h => by
    unfold IsDws at h ⊢
    obtain ⟨v, q, e, h1, h2⟩ := h
    unfold nb4s at n
    rw [Bool.and_eq_true] at n
    exact ⟨v, q, e, IsDw.kb z ra d v n.1 h1, IsDws.kb z ra ds q n.2 h2⟩
end
end
/-- an expression that makes d out of nothing -/
def tDw (K : PySem.W.Frag) (d : Dw) : TE := fun _ H Q => ∀ v H', Kp H H' → IsDw K H' d v → Q v H'
def tDws (K : PySem.W.Frag) (ds : List Dw) : TA := fun _ H Q => ∀ vs H', Kp H H' → IsDws K H' ds vs → Q vs H'
def tDl (K : PySem.W.Frag) (ds : List Dw) : TE := fun _ H Q => ∀ p H' vs, Kp H H' → H p = none → H' p = some (.lst vs) → IsDws K H' ds vs → Q (.ref p) H'
section
variable {X : Cx} {pos : Pos} {j : Nat}
theorem pw_non : PE X (.Constant .none j pos) (tDw X.K .non) := pe_imp pe_non fun _ H Q h => h _ H (Kp.refl H) (by unfold IsDw; rfl)
theorem pw_bl {b : Bool} : PE X (.Constant (.bool b) j pos) (tDw X.K (.bl b)) := pe_imp pe_bl fun _ H Q h => h _ H (Kp.refl H) (by unfold IsDw; rfl)
theorem pw_int {i : Int} : PE X (.Constant (.int i) j pos) (tDw X.K (.int i)) := pe_imp pe_int fun _ H Q h => h _ H (Kp.refl H) (by unfold IsDw; rfl)
theorem pw_str {z : Str} : PE X (.Constant (.str z) j pos) (tDw X.K (.str z)) := pe_imp pe_str fun _ H Q h => h _ H (Kp.refl H) (by unfold IsDw; rfl)
theorem pw_dic : PE X (.Dict [] [] pos) (tDw X.K .dic) := pe_imp pe_dnewK fun _ H Q h p hp => h _ _ ((Kp.refl H).new hp) (by unfold IsDw; exact ⟨p, rfl, upd_same⟩)
theorem pw_nil : PA X [] (tDws X.K []) := ⟨fun pos pins s σ H Q I h => pa_nil.run pos pins s σ H Q I (h [] H (Kp.refl H) (by unfold IsDws; rfl))⟩
theorem pw_cons {e : Expr} {es : List Expr} {d : Dw} {ds : List Dw} (h1 : PE X e (tDw X.K d)) (h2 : PA X es (tDws X.K ds)) (hs : starEach (e :: es) X.env = (false, eval e X.env) :: starEach es X.env := by rfl) : PA X (e :: es) (tDws X.K (d :: ds)) :=
  ⟨fun pos pins s σ H Q I h => (pa_cons h1 h2 hs).run pos pins s σ H Q I (show tCons (tDw X.K d) (tDws X.K ds) σ H Q from fun v H1 z1 i1 vs H2 z2 i2 => h _ H2 (z1.trans z2) (by unfold IsDws; exact ⟨v, vs, rfl, i1.kp z2, i2⟩))⟩
theorem pw_tup {es : List Expr} {x1} {ds : List Dw} (h : PA X es (tDws X.K ds)) (hl : ds.length ≤ 100 := by decide) : PE X (.Tuple es x1 pos) (tDw X.K (.tup ds)) :=
  pe_imp (pe_tup h) fun _ H Q q => show tTup (tDws X.K ds) _ H Q from fun vs H1 z1 i1 => ⟨by rw [i1.len, sizeLine_eq]; omega, fun p hp => q _ _ (z1.new hp) (by unfold IsDw; exact ⟨p, vs, rfl, SqT.of upd_same, i1.kp ((Kp.refl H1).new hp)⟩)⟩
theorem pw_lst {es : List Expr} {ds : List Dw} (h : PA X es (tDws X.K ds)) (hl : ds.length ≤ 100 := by decide) : PE X (.List es pos) (tDl X.K ds) :=
  pe_imp (pe_lst h) fun _ H Q q => show tLst (tDws X.K ds) _ H Q from fun vs H1 z1 i1 => ⟨by rw [i1.len, sizeLine_eq]; omega, fun p hp => q p _ vs (z1.new hp) (z1.none hp) upd_same (i1.kp ((Kp.refl H1).new hp))⟩
theorem pw_lstE {es : List Expr} {ds : List Dw} (h : PA X es (tDws X.K ds)) (hl : ds.length ≤ 100 := by decide) : PE X (.List es pos) (tDw X.K (.lst ds)) :=
  pe_imp (pw_lst h hl) fun _ H Q q => fun p H' vs z _ e i => q _ _ z (by unfold IsDw; exact ⟨p, vs, rfl, e, i⟩)
/-- (..) * k -/
theorem pw_rep {e : Expr} {k : Int} {p1 : Pos} {ds : List Dw} (h : PE X e (tDw X.K (.tup ds))) (hne : ds ≠ [] := by intro z; cases z) (hk : 1 ≤ k ∧ k ≤ 1000 := by decide) (hl : ds.length ≤ 1000 := by decide) : PE X (.BinOp e .Mult (.Constant (.int k) j p1) pos) (tDw X.K (.tup (List.replicate k.toNat ds).flatten)) :=
  pe_imp (pe_op op_repA h pe_int) fun _ H Q q => fun x H1 z1 i1 => by
    unfold IsDw at i1
    obtain ⟨a, xs, rfl, s, r⟩ := i1
    refine ⟨a, k, xs, rfl, rfl, s, fun ex => hne ?_, hk.1, hk.2, by rw [r.len]; exact hl, fun p H' or s' => ?_⟩
    · have := r.len
      rw [ex] at this
      exact List.length_eq_zero_iff.mp this.symm
    · have z2 : Kp H1 H' := by
        rcases or with e | ⟨n, e⟩
        · rw [e]; exact Kp.refl H1
        · rw [e]; exact (Kp.refl H1).new n
      exact q _ _ (z1.trans z2) (by unfold IsDw; exact ⟨p, _, rfl, s', dws_rep (r.kp z2) _⟩)
/-- x + [..] -/
def tDcat (K : PySem.W.Frag) (i : Nat) (es : List Dw) : TE := fun σ H Q => ∃ a vs ds, σ[i]? = some (some (.ref a)) ∧ H a = some (.lst vs) ∧ IsDws K H ds vs ∧ ds.length ≤ 100 ∧ ∀ p H' ws, Kp H H' → H p = none → H' p = some (.lst ws) → IsDws K H' (ds ++ es) ws → Q (.ref p) H'
theorem pw_cat {e1 e2 : Expr} {i : Nat} {es : List Dw} (h1 : PE X e1 (tVar i)) (h2 : PE X e2 (tDl X.K es)) (hl : es.length ≤ 100 := by decide) : PE X (.BinOp e1 .Add e2 pos) (tDcat X.K i es) :=
  pe_imp (pe_op op_cat h1 h2) fun σ H Q q => by
    obtain ⟨a, vs, ds, hs, ha, hd, l, q⟩ := q
    refine ⟨_, hs, fun p H1 ws z1 n1 e1 i1 => ⟨a, p, vs, ws, rfl, rfl, z1.lst ha, e1, by rw [hd.len, i1.len, sizeLine_eq]; omega, fun p2 n2 => ?_⟩⟩
    have z2 : Kp H1 (upd H1 p2 (.lst (vs ++ ws))) := (Kp.refl H1).new n2
    exact q p2 _ _ (z1.trans z2) (z1.none n2) upd_same (((hd.kp z1).kp z2).snoc (i1.kp z2))
end
end NS
end
section
set_option maxHeartbeats 4000000
/-! N29: written houses; what calls answered -/
namespace NS
open PySem PySem.Spec PyProof.Rows L2 ZS LamX LamY LamE
def tPt (t : List Int) : TE := fun _ H Q => ∀ v H', Kp H H' → PT H' v t → Q v H'
def tPts (ts : List (List Int)) : TA := fun _ H Q => ∀ vs H', Kp H H' → Paired (PT H') vs ts → Q vs H'
def tInts (is : List Int) : TA := fun _ H Q => Q (is.map V.int) H
def tHs (K : PySem.W.Frag) (n : Nat) (ts : List (List Int)) : TE := fun _ H Q => ∀ v H', Kp H H' → HouseAt K H' v n ts → Q v H'
section
variable {X : Cx} {pos : Pos}
theorem pq_nil : PA X [] (tInts []) := ⟨fun pos pins s σ H Q I h => pa_nil.run pos pins s σ H Q I h⟩
theorem pq_cons {i : Int} {j : Nat} {p : Pos} {es : List Expr} {is : List Int} (h2 : PA X es (tInts is)) (hs : starEach (.Constant (.int i) j p :: es) X.env = (false, eval (.Constant (.int i) j p) X.env) :: starEach es X.env := by rfl) : PA X (.Constant (.int i) j p :: es) (tInts (i :: is)) :=
  ⟨fun pos pins s σ H Q I h => (pa_cons pe_int h2 hs).run pos pins s σ H Q I (show tCons (tC (.int i)) (tInts is) σ H Q from h)⟩
theorem pq_turn {es : List Expr} {x1} {is : List Int} (h : PA X es (tInts is)) (hl : is.length ≤ 100 := by decide) : PE X (.Tuple es x1 pos) (tPt is) :=
  pe_imp (pe_tupP h) fun _ H Q q => show tTupP (tInts is) _ H Q from ⟨by rw [List.length_map, sizeLine_eq]; omega, fun p o hp ho => q _ _ ((Kp.refl H).new hp) ⟨p, o, rfl, upd_same, ho⟩⟩
theorem pq_pnil : PA X [] (tPts []) := ⟨fun pos pins s σ H Q I h => pa_nil.run pos pins s σ H Q I (h [] H (Kp.refl H) .nil)⟩
theorem pq_pcons {e : Expr} {es : List Expr} {t : List Int} {ts : List (List Int)} (h1 : PE X e (tPt t)) (h2 : PA X es (tPts ts)) (hs : starEach (e :: es) X.env = (false, eval e X.env) :: starEach es X.env := by rfl) : PA X (e :: es) (tPts (t :: ts)) :=
  ⟨fun pos pins s σ H Q I h => (pa_cons h1 h2 hs).run pos pins s σ H Q I (show tCons (tPt t) (tPts ts) σ H Q from fun v H1 z1 p1 vs H2 z2 pr => h _ H2 (z1.trans z2) (.cons (z2.pt p1) pr))⟩
theorem pq_house {n : Int} {m : Nat} {j : Nat} {p p2 : Pos} {x1 x2} {es : List Expr} {ts : List (List Int)} (h : PA X es (tPts ts)) (en : n = (m : Int) := by rfl) (hl : ts.length ≤ 100 := by decide) (hs1 : starEach [.Constant (.int n) j p, .Tuple es x1 p2] X.env = (false, eval (.Constant (.int n) j p) X.env) :: starEach [.Tuple es x1 p2] X.env := by rfl) (hs2 : starEach [.Tuple es x1 p2] X.env = (false, eval (.Tuple es x1 p2) X.env) :: starEach [] X.env := by rfl) :
    PE X (.Tuple [.Constant (.int n) j p, .Tuple es x1 p2] x2 pos) (tHs X.K m ts) :=
  pe_imp (pe_tup (pa_cons pe_int (pa_cons (pe_tup h) pa_nil hs2) hs1)) fun σ H Q q => show tTup (tCons (tC (.int n)) (tCons (tTup (tPts ts)) tNil)) σ H Q from by
    subst en
    refine fun vs H1 z1 pr => ⟨by rw [pr.length, sizeLine_eq]; omega, fun l hl => ⟨(by show 2 ≤ sizeLine; decide), fun c hc => ?_⟩⟩
    have zl := (Kp.refl H1).new hl (o := .tup vs)
    have zc := zl.new hc (o := .tup [.int (m : Int), .ref l])
    have nlc : l ≠ c := fun e => by rw [← e, upd_same] at hc; cases hc
    exact q _ _ (z1.trans zc) ⟨c, .ref l, rfl, SqT.of upd_same, l, vs, rfl, SqT.of (by rw [upd_ne nlc, upd_same]), pr_pt zc.tup pr⟩
end
/-- no item passes the test -/
theorem lcNoneL {K : PySem.W.Frag} {g : TG} {tt : TT} {te : TE} {vs : List Nat} {σ : L2.St} {H : Hp} {D : Addr} {Qd : Hp → Prop} {a : Addr} {xs : List V} (hT : SqL K H a xs) (hD : H D = none) (hz : xs.length < sizeLine)
    (el : ∀ x ∈ xs, ∀ H' (Q1 : V → Hp → Prop) (Q0 : Hp → Prop), Kp H H' → (∀ H3, Kp H' H3 → Q0 H3) →
      g x (wipe σ vs) H' fun σ2 H2 => wipe σ2 vs = wipe σ vs ∧ tt σ2 H2 fun b H3 => if b = true then te σ2 H3 Q1 else Q0 H3)
    (fin : ∀ H', Kp H H' → H' D = some (.lst []) → Qd H') :
    ∃ W : Nat → Nat → Hp → Prop, (∃ m, W 0 m (upd H D (.lst []))) ∧ ∀ i m H, W i m H →
      ((Itl K a).stop i H ∧ Qd H) ∨ ((Itl K a).go i H ∧ ∃ Nx : Hp → Prop, (∀ H', Nx H' → ∃ m', m' < m ∧ W (i + 1) m' H') ∧ ∀ x H', (Itl K a).yld i H x H' → g x (wipe σ vs) H' fun σ2 H2 => wipe σ2 vs = wipe σ vs ∧ tt σ2 H2 fun b H3 =>
        if b = true then te σ2 H3 fun y H4 => ∃ acc, H4 D = some (.lst acc) ∧ acc.length < sizeLine ∧ Nx (upd H4 D (.lst (acc ++ [y]))) else Nx H3) := by
  refine lcG (Wlk.lst hT) hD hz (fun _ => false) (fun _ _ _ => True) (fun _ _ _ _ _ _ => trivial) (fun i x H' Q1 Q0 hi z hx q1 q0 => el x (List.mem_of_getElem? hx) H' Q1 Q0 z fun H3 z3 => q0 H3 rfl z3) (fun ys H' z hD' hpr => fin H' z ?_)
  rw [List.filter_eq_nil_iff.mpr (fun _ _ h => by cases h)] at hpr
  cases hpr
  exact hD'
section
variable {P : Program} {w : World} {K : PySem.W.Frag} {mg : Str → Option Value} {base : Heap} {A : ErrA} {H H' : Hp}
theorem works_in {us : List V} {os : List Out} {x : V} (h : Works P w K mg base A H us os) (z : Up H H') (m : x ∈ us) : ∃ o ∈ os, EscAt P w K mg base A 14 H' x o := by
  obtain ⟨o, ho, e⟩ := pr_in h m
  exact ⟨o, ho, e.up z⟩
theorem works_up {us : List V} {os : List Out} (h : Works P w K mg base A H us os) (z : Up H H') : Works P w K mg base A H' us os := h.mono fun _ _ e => e.up z
def pdV : V → PyData
  | .int i => .int i
  | .str z => .str z
  | .bl b => .bool b
  | _ => .none
/-- the data of an answer -/
def outD : Out → PyData
  | .ok => .str ""
  | .house w => .tuple [.str "house", .str w]
  | .row x => .tuple [.str "row", pdV x]
  | .many => .tuple [.str "many", .int 5040]
  | .turn => .str "turn"
  | .within => .str "within"
  | .unlike => .str "unlike"
def rowV : V → Prop
  | .non => True
  | .int _ => True
  | _ => False
def okOut : Out → Prop
  | .row x => rowV x
  | _ => True
theorem dpV {x : V} (h : rowV x) : Dp K H x (pdV x) := by
  cases x with
  | non => exact .non
  | int i => exact .int i
  | _ => exact h.elim
theorem out_dp {y : V} {o : Out} (h : OutAt K H y o) (ok : okOut o) : Dp K H y (outD o) := by
  cases o with
  | ok => obtain rfl : y = .str "" := h; exact .str _
  | house w => obtain ⟨p, rfl, s⟩ := h; exact .tup s (.cons (.str _) (.cons (.str _) .nil))
  | row x => obtain ⟨p, rfl, s⟩ := h; exact .tup s (.cons (.str _) (.cons (dpV ok) .nil))
  | many => obtain ⟨p, rfl, s⟩ := h; exact .tup s (.cons (.str _) (.cons (.int _) .nil))
  | turn => obtain rfl : y = .str "turn" := h; exact .str _
  | within => obtain rfl : y = .str "within" := h; exact .str _
  | unlike => obtain rfl : y = .str "unlike" := h; exact .str _
/-- it may be compared, and is alike itself -/
def cmpD (d : PyData) : Bool := SeqAt.shaped d && PyData.eqv d d
theorem ne_same {x y : V} {d : PyData} {Q : VK} (hx : Dp K H x d) (hy : Dp K H y d) (c : cmpD d = true) (q : Q (.bl false) H) : rNeD K x y H Q := by
  unfold cmpD at c
  rw [Bool.and_eq_true] at c
  exact ⟨d, d, hx, hy, c.1, c.1, by rw [c.2]; exact q⟩
theorem out_ne {x y : V} {o : Out} {Q : VK} (hx : OutAt K H x o) (ok : okOut o) (hy : Dp K H y (outD o)) (c : cmpD (outD o) = true) (q : Q (.bl false) H) : rNeD K x y H Q := ne_same (out_dp hx ok) hy c q
end
end NS
end
section
set_option maxHeartbeats 4000000
/-! RLcL: a list comprehension over lambdas of the frame itself: the frame's cells are lent to the whole loop -/
namespace LamE
open PySem PySem.Spec PyProof.Rows L2 LamX LamY
section
variable {X : Cx} {pins : List (Addr × Obj)} {σ : L2.St} {H H2 : Hp} {s : Shared}
theorem lent_fresh (I : Inv X pins σ H s) (k : HOk X.prog X.w H2 s.heap) : H2 s.heap.objs.size = none := k.fresh (Nat.le_refl _)
/-- the block's start, with the cells told of -/
theorem blk_lent {scope : Scope} {cenv : Env} {fp : List Addr} {σ1 : L2.St} {s1 : Shared} (I : Inv X pins σ H s) (hfn : ∀ x, X.fn x = true) (L : Lent X σ H H2) (k : HOk X.prog X.w H2 s.heap) (hz : cenv.cells = []) (hl : cenv.locals = s.heap.objs.size)
    (kp : ∀ b o, s.heap.get? b = some o → s1.heap.get? b = some o) (J : Inv (X.blk s H scope cenv fp) [] σ1 H s1) : Inv (X.blk s H2 scope cenv fp) [] σ1 H2 s1 := by
  have e := lent_env0 I hfn L k
  have o := J.ok
  have none_ : ∀ {y : Str} {c : Addr}, cenv.cells.lookup y = some c → False := fun {y c} q => by rw [hz] at q; cases q
  refine ⟨⟨o.mod, o.kind, o.glob, o.blt, o.above, o.inj, o.has, o.cab, o.hd, o.frames, o.stk, o.exf, e.bs, o.bsz, o.noex, o.exfs, o.funs, e.frf⟩, J.os, J.bare, Un.kept kp, J.loc, J.cell, ?_, fun y c q => (none_ q).elim, fun p hp => absurd (show p ∈ ([] : List (Addr × Obj)) ++ [] from hp) (by simp), k.kept kp, J.len⟩
  show H2 cenv.locals = none
  rw [hl]
  exact lent_fresh I k
/-- what went on while the cells were told of -/
theorem un_lent {fp : List Addr} {H' : Hp} {h' : Heap} (I : Inv X pins σ H s) (hfn : ∀ x, X.fn x = true) (L : Lent X σ H H2) (k : HOk X.prog X.w H2 s.heap) (u : Un (frs X.stack) fp H2 H' s.heap h') (hok : HOk X.prog X.w H' h') (st : ∀ c ∈ cellA X.env.cells, H' c = H2 c) : Un (frs X.stack) fp H (delL (cellA X.env.cells) H') s.heap h' ∧ HOk X.prog X.w (delL (cellA X.env.cells) H') h' := by
  have C3 : CellsH (cellA X.env.cells) H' := fun c m => by
    rw [st c m]
    exact L.cells c m
  have far : ∀ {b x}, H b = some x → b ∉ cellA X.env.cells := fun {b x} e m => by rw [L.fr b m] at e; cases e
  have nt : ∀ {b x}, H b = some x → delL (cellA X.env.cells) H' b = H' b := fun e => del_out (far e)
  refine ⟨⟨fun b ob q n hb hx => ?_, fun b ob q n hb hx => u.slot b ob q (by rw [L.up b fun m => cell_nofr I hfn m hb]; exact n) hb hx, fun b ob q n hx => ?_, u.there, fun b xs q => by rw [nt q]; exact u.tups b xs (L.ext b _ q), fun b ob x q => by rw [nt q]; exact u.frzs b ob x (L.ext b _ q), fun b ps q => by rw [nt q]; exact u.tbls b ps (L.ext b _ q)⟩, del_hok hok C3⟩
  · by_cases m : b ∈ cellA X.env.cells
    · obtain ⟨o1, u0, h1, _⟩ := L.cells b m
      have h2 := cell_get k h1
      rw [q] at h2
      cases h2
      rw [← st b m] at h1
      exact cell_get hok h1
    · exact u.keep b ob q (by rw [L.up b m]; exact n) hb hx
  · by_cases m : b ∈ cellA X.env.cells
    · exact del_in m
    · rw [del_out m]
      exact u.free b ob q (by rw [L.up b m]; exact n) hx
end
section
variable {X : Cx}
/-- no name of the block is captured, and no name of the block is a cell -/
def Plain (scope : Scope) : Prop := ∀ y ∈ scope.names, y.2 ≠ .free ∧ y.2 ≠ .cell
theorem plain_cells {cells : List (Str × Addr)} : ∀ {names : List (Str × NameKind)} {n : Nat}, (∀ y ∈ names, y.2 ≠ .free ∧ y.2 ≠ .cell) → cellsFrom n names (cloFrom cells names []) = [] := by
  have h1 : ∀ {names : List (Str × NameKind)} {acc : List (Str × Addr)}, (∀ y ∈ names, y.2 ≠ .free ∧ y.2 ≠ .cell) → cloFrom cells names acc = acc := by
    intro names
    induction names with
    | nil => intro acc _; rfl
    | cons y r ih =>
      obtain ⟨x, k⟩ := y
      intro acc h
      have hk := (h (x, k) (List.mem_cons_self ..)).1
      have hr := ih (acc := acc) fun y hy => h y (List.mem_cons_of_mem _ hy)
      cases k <;> first | exact hr | exact absurd rfl hk
  have h2 : ∀ {names : List (Str × NameKind)} {acc : List (Str × Addr)} {n : Nat}, (∀ y ∈ names, y.2 ≠ .free ∧ y.2 ≠ .cell) → cellsFrom n names acc = acc := by
    intro names
    induction names with
    | nil => intro acc n _; rfl
    | cons y r ih =>
      obtain ⟨x, k⟩ := y
      intro acc n h
      have hk := (h (x, k) (List.mem_cons_self ..)).2
      have hr := ih (acc := acc) (n := n) fun y hy => h y (List.mem_cons_of_mem _ hy)
      cases k <;> first | exact hr | exact absurd rfl hk
  intro names n h
  rw [h1 h, h2 h]
/-- [elt for target in iter], the frame's cells lent to the loop: D the new list -/
def tLcL (X : Cx) (wi : TI) (g : TG) (te : TE) (vs : List Nat) : TE := fun σ H Q => wi σ H fun J H1 => ∀ D H2, H1 D = none → Lent X σ (upd H1 D (.lst [])) H2 → ∃ W : Nat → Nat → Hp → Prop, (∃ m, W 0 m H2) ∧ ∀ i m H, W i m H →
  (J.stop i H ∧ (∀ c ∈ cellA X.env.cells, H c = H2 c) ∧ Q (.ref D) (delL (cellA X.env.cells) H)) ∨ (J.go i H ∧ ∃ Nx : Hp → Prop, (∀ H', Nx H' → ∃ m', m' < m ∧ W (i + 1) m' H') ∧ ∀ x H', J.yld i H x H' → g x (wipe σ vs) H' fun σ2 H2 => wipe σ2 vs = wipe σ vs ∧
    te σ2 H2 fun y H4 => ∃ acc, H4 D = some (.lst acc) ∧ acc.length < sizeLine ∧ Nx (upd H4 D (.lst (acc ++ [y]))))
theorem pe_lcL {elt tg iter : Expr} {scope : Scope} {own : List (Str × Nat)} {pos : Pos} {wi : TI} {g : TG} {te : TE} (hc : X.calm = true) (hN : X.N.Nodup) (hfn : ∀ x, X.fn x = true) (hi : PI X tg iter wi) (ok : BlkOk X.N X.env.scope scope own) (pl : Plain scope)
    (hg : ∀ (s : Shared) (H : Hp) (C : Addr) (cl : List (Str × Addr)) (fp : List Addr), PG (X.blk s H scope (compEnvC scope cl C X.env) fp) tg g)
    (he : ∀ (s : Shared) (H : Hp) (C : Addr) (cl : List (Str × Addr)) (fp : List Addr), PE (X.blk s H scope (compEnvC scope cl C X.env) fp) elt te) (hs : ∀ x, foldedSetIterable iter X.env x = pure x := by intro _; rfl) :
    PE X (.ListComp elt [⟨tg, iter, [], 0⟩] scope pos) (tLcL X wi g te (own.map (·.2))) := by
  refine ⟨fun pins s σ H Q I h => ?_⟩
  rw [eval_ListComp]
  refine wpAny_comprehension_free (use := none) rfl hs (closure_ok fun y hy e => absurd e (pl y hy).1) ok.kind (fun y hy e => by rw [ok.uniq y hy, e])
    (thn (hi.run pins s σ H _ I h) fun xv s1 hx => thn hx fun itv s2 ⟨it, fp, tn, J, H2, ei, I2, T, st2, f2, q⟩ => ?_)
  subst ei
  refine wpAny_newObj_type (newEnv_comp ?_) (by show 0 ≤ sizeLine; decide)
  obtain ⟨D, hD⟩ : ∃ D, D = s2.heap.objs.size := ⟨_, rfl⟩
  have nD : H2 D = none := I2.hok.fresh (Nat.le_of_eq hD.symm)
  obtain ⟨s3, e3⟩ : ∃ s3 : Shared, s3 = { s2 with heap := s2.heap.push { cls := .type "list", data := .seq ([] : List Value).toArray } } := ⟨_, rfl⟩
  have kp3 : ∀ b o, s2.heap.get? b = some o → s3.heap.get? b = some o := fun b o e => by rw [e3]; exact Heap.get?_push_of_some _ e
  have I3 : Inv X pins σ (upd H2 D (.lst [])) s3 := by
    have z : s3.heap.get? D = some { cls := .type "list", data := .seq ([] : List Value).toArray } := by rw [e3, hD]; exact Heap.get?_push_size _ rfl
    have y : s3 = { s2 with heap := s3.heap } := by rw [e3]
    rw [y]
    exact I2.laid (t' := s2.toks) kp3 (Nat.le_of_eq hD.symm) ⟨Nat.zero_le _, [], 0, .nil, z⟩
  have lt2 : ∀ b ∈ fp, b < s2.heap.objs.size := fun b hb => let ⟨o, e, _⟩ := T.obj _ _ st2 b hb; Heap.lt_size e
  have sz3 : s2.heap.objs.size ≤ s3.heap.objs.size := by rw [e3, Heap.size_push]; exact Nat.le_succ _
  have f3 : ∀ b ∈ fp, FpOk X pins (upd H2 D (.lst [])) b ∧ b < s3.heap.objs.size := fun b hb => by
    refine ⟨⟨?_, (f2 b hb).2⟩, Nat.lt_of_lt_of_le (lt2 b hb) sz3⟩
    rw [upd_ne (by rw [hD]; exact Nat.ne_of_lt (lt2 b hb))]
    exact (f2 b hb).1
  have noc : ∀ b ∈ fp, b ∉ cellA X.env.cells := fun b hb m => let ⟨y, e⟩ := cellA_mem.mp m; (f2 b hb).2.2.2.2.1 y b e rfl
  obtain ⟨HL, L, kL⟩ := lend I3
  obtain ⟨W, ⟨m0, w0⟩, turn⟩ := q D HL nD L
  have B0 := block_start I3 ok hN f3
  rw [← e3]
  obtain ⟨cells, ecl⟩ : ∃ cells, cells = cellsFrom (s3.heap.objs.size + 1) scope.names (cloFrom X.env.cells scope.names []) := ⟨_, rfl⟩
  have pg := hg s3 HL s3.heap.objs.size cells fp
  have pe := he s3 HL s3.heap.objs.size cells fp
  show codeAny _ _ (.compStart (.ListComp elt [⟨tg, iter, [], 0⟩] scope pos) 0 (.ref it) (.ref s2.heap.objs.size) (compEnvC scope (cellsFrom (s3.heap.objs.size + 1) scope.names (cloFrom X.env.cells scope.names [])) s3.heap.objs.size X.env)) (compPost (model X.prog X.w) X.A X.xe none _ (.ref s2.heap.objs.size) s3.heap.objs.size) { s3 with heap := pushCells (s3.heap.push { cls := .type "dict", data := .dict #[] }) scope.names }
  rw [← hD, ← ecl]
  rw [← ecl] at B0
  have hz : cells = [] := by rw [ecl]; exact plain_cells pl
  obtain ⟨s4, e4⟩ : ∃ s4 : Shared, s4 = { s3 with heap := pushCells (s3.heap.push { cls := .type "dict", data := .dict #[] }) scope.names } := ⟨_, rfl⟩
  rw [← e4] at B0 ⊢
  have kp4 : ∀ b o, s3.heap.get? b = some o → s4.heap.get? b = some o := fun b o e => by rw [e4]; exact pushCells_keeps _ _ _ _ (Heap.get?_push_of_some _ e)
  have st4 : tn 0 s4.heap := T.keep _ _ _ st2 fun b _ o e => kp4 _ _ (kp3 _ _ e)
  have BL := blk_lent I3 hfn L kL hz rfl kp4 B0
  have nfp : ∀ b ∈ fp, HL b = none := fun b hb => by rw [L.up b (noc b hb)]; exact (f3 b hb).1.1
  obtain ⟨ce, ece⟩ : ∃ ce, ce = compEnvC scope cells s3.heap.objs.size X.env := ⟨_, rfl⟩
  have cL : ce.locals = s3.heap.objs.size := by rw [ece]; rfl
  rw [← ece] at BL pg pe ⊢
  have stat : ∀ {σ' : L2.St} {H' : Hp} {s' : Shared}, Inv (X.blk s3 HL scope ce fp) [] σ' H' s' → (∀ b ∈ fp, H' b = none) → ∀ b ∈ fp, FpOk (X.blk s3 HL scope ce fp) [] H' b := fun I' hn b hb =>
    ⟨hn b hb, (I'.ok.exf b hb).1, I'.ok.exfs b hb, .inl hb, fun x c e => (I'.ok.exf b hb).2 x c e, fun p hp => absurd (show p ∈ ([] : List (Addr × Obj)) ++ [] from hp) (by simp)⟩
  refine (fun loop => codeAny_compStart_list loop (T.self X.A 0 _ _ _ st4 loop)) ?_
  refine compLoop_any (fun n s' => ∃ i H', Inv (X.blk s3 HL scope ce fp) [] (wipe σ (own.map (·.2))) H' s' ∧ tn i s'.heap ∧ (∀ b ∈ fp, H' b = none) ∧ W i n H') ?_ m0 ⟨0, HL, BL, st4, nfp, w0⟩
  rintro n s5 ⟨i, H5, I5, st5, n5, w5⟩
  rcases turn i n H5 w5 with ⟨stop, keepC, qq⟩ | ⟨go, Nx, hNx, step⟩
  · refine thnF (T.done (X.blk s3 HL scope ce fp) rfl rfl rfl hc i [] s5 _ H5 (fun _ _ => False) I5 (stat I5 n5) st5 stop) fun r s6 ⟨hr, I6⟩ => ?_
    subst hr
    obtain ⟨un6, hok6⟩ := un_lent I3 hfn L kL I6.base I6.hok keepC
    have I7 : Inv X pins σ (delL (cellA X.env.cells) H5) s6 := I3.call' (ch := fp) I6.os un6 hok6 I6.bare fun b hb => let z := (f3 b hb).1.2; ⟨z.2.2.1, z.1, z.2.2.2.1, z.2.2.2.2⟩
    have nC : H5 s3.heap.objs.size = none := by rw [← cL]; exact I6.free
    obtain ⟨m, hn, _⟩ := I6.loc
    have hn : s6.heap.Ns ce.locals m := hn
    rw [cL] at hn
    obtain ⟨g0, g1, g2, g3, g4, g5⟩ := I3.fpOk (Nat.le_refl _) (del_none nC (cs := cellA X.env.cells))
    exact ⟨m, hn, fun h'' sb => ⟨.ref D, _, I7.turned (t' := s6.toks) (fun b o hb e => (sb.2 b hb).trans e) g0 g1 g3 g4 g5, rfl, qq⟩⟩
  · refine thnF (T.item (X.blk s3 HL scope ce fp) rfl rfl rfl hc i [] s5 _ H5 (fun _ _ => False) I5 (stat I5 n5) st5 go) fun r s6 ⟨u, hr, h6⟩ => ?_
    subst hr
    refine thnF h6 fun _ s7 ⟨x, H7, I7, r7, y7, st7, n7⟩ => ?_
    refine thnF (pg.run _ s7 _ H7 x u _ (I7.pinned (stat I7 n7) (T.obj _ _ st7)) r7 (step x H7 y7)) fun _ s8 ⟨σ8, H8, I8, hw8, q8⟩ => ?_
    refine wpAny_tests_nil ?_
    show wpAny _ _ (eval elt ce) _ _ _
    refine thnF (pe.run _ s8 σ8 H8 _ I8 q8) fun z s10 ⟨yv, H10, I10, r10, acc, hD10, hz10, nx⟩ => ?_
    refine app_ok (X := X.blk s3 HL scope ce fp) I10 hD10 hz10 r10 fun s11 I11 => ?_
    obtain ⟨m', hm, w'⟩ := hNx _ nx
    have pin' : ∀ b ∈ fp, ∀ o, s7.heap.get? b = some o → s11.heap.get? b = some o ∧ (upd H10 D (.lst (acc ++ [yv]))) b = none := fun b hb o e =>
      let z := I11.pin (b, o) (List.mem_append_right _ (List.mem_append_right _ (mem_pinsAt hb e)))
      ⟨z.1, z.2.1⟩
    refine ⟨m', hm, i + 1, _, (I11.unpinned (pins := [])).weak (by rw [← hw8, wipe_length]) (fun j v e => ?_), T.keep _ _ _ st7 fun b hb o e => (pin' b hb o e).1, fun b hb => ?_, w'⟩
    · rw [← hw8] at e
      exact (wipe_some e).1
    · obtain ⟨o, e, _⟩ := T.obj _ _ st7 b hb
      exact (pin' b hb o e).2
end
end LamE
end
section
set_option maxHeartbeats 4000000
/-! N30: what stands all through the law -/
namespace NS
open PySem PySem.Spec PyProof.Rows L2 ZS LamX LamY LamE
theorem tabL_o {P P' : Addr} {q : Str} {H H' : Hp} (z : KpL P H H') (ne : P' ≠ P) (h : TabL H P' q) : TabL H' P' q := by
  obtain ⟨ps, h1, h2, h3⟩ := h
  exact ⟨ps, z.t _ _ h1 ne, h2, fun p cv hp hc => let ⟨c, e1, e2⟩ := h3 p cv hp hc; ⟨c, e1, z.e _ _ e2 codeO_nt⟩⟩
theorem Draws.up {K : PySem.W.Frag} {r sa : Addr} {H H' : Hp} (h : Draws K H r sa) (z : Up H H') : Draws K H' r sa := by
  obtain ⟨⟨i, sd, rest, e, hr⟩, ns, hs⟩ := h
  refine ⟨⟨i, sd, rest, z.k _ _ e (fun _ q => by cases q), hr⟩, ns, ?_⟩
  rcases hs with (h | ⟨o, h⟩) | h
  · exact .inl (.inl (z.k _ _ h (fun _ q => by cases q)))
  · exact .inl (.inr ⟨o, z.k _ _ h (fun _ q => by cases q)⟩)
  · exact .inr h
abbrev qC : Str := lamQ "_law_calls" sLCalls
abbrev qP : Str := lamQ "_law_parted" sLParted
abbrev qM : Str := lamQ "_law_more" sLMore
structure St10 (K : PySem.W.Frag) (H : Hp) (r sa pT pA pL pC pP pM : Addr) (qL : Str) : Prop where
  dr : Draws K H r sa
  gT : GxR.TabG H pT
  gA : GxR.TabG H pA
  tL : TabL H pL qL
  tC : TabL H pC qC
  tP : TabL H pP qP
  tM : TabL H pM qM
section
variable {K : PySem.W.Frag} {H H' : Hp} {r sa pT pA pL pC pP pM : Addr} {qL : Str}
theorem St10.kp (h : St10 K H r sa pT pA pL pC pP pM qL) (z : Kp H H') : St10 K H' r sa pT pA pL pC pP pM qL := ⟨h.dr.k z, z.tabG h.gT, z.tabG h.gA, tabL_kp z h.tL, tabL_kp z h.tC, tabL_kp z h.tP, tabL_kp z h.tM⟩
theorem St10.kb (h : St10 K H r sa pT pA pL pC pP pM qL) (z : KpB r H H') (ra : RowAt H' r sa) : St10 K H' r sa pT pA pL pC pP pM qL := ⟨h.dr.b z ra, z.tabG h.gT, z.tabG h.gA, tabL_kpb z h.tL, tabL_kpb z h.tC, tabL_kpb z h.tP, tabL_kpb z h.tM⟩
theorem St10.l (ne : [pL, pC, pP, pM].Nodup) (h : St10 K H r sa pT pA pL pC pP pM qL) (z : KpL pL H H') (l : TabL H' pL qL) : St10 K H' r sa pT pA pL pC pP pM qL := by
  simp only [List.nodup_cons, List.mem_cons, not_or, List.not_mem_nil, or_false, not_false_eq_true, List.nodup_nil, and_true] at ne
  obtain ⟨⟨n1, n2, n3⟩, ⟨n4, n5⟩, n6⟩ := ne
  have u := KpL.up z l
  exact ⟨h.dr.up u, u.t _ h.gT, u.t _ h.gA, l, tabL_o z (Ne.symm n1) h.tC, tabL_o z (Ne.symm n2) h.tP, tabL_o z (Ne.symm n3) h.tM⟩
theorem St10.c (ne : [pL, pC, pP, pM].Nodup) (h : St10 K H r sa pT pA pL pC pP pM qL) (z : KpL pC H H') (l : TabL H' pC qC) : St10 K H' r sa pT pA pL pC pP pM qL := by
  simp only [List.nodup_cons, List.mem_cons, not_or, List.not_mem_nil, or_false, not_false_eq_true, List.nodup_nil, and_true] at ne
  obtain ⟨⟨n1, n2, n3⟩, ⟨n4, n5⟩, n6⟩ := ne
  have u := KpL.up z l
  exact ⟨h.dr.up u, u.t _ h.gT, u.t _ h.gA, tabL_o z n1 h.tL, l, tabL_o z (Ne.symm n4) h.tP, tabL_o z (Ne.symm n5) h.tM⟩
theorem St10.p (ne : [pL, pC, pP, pM].Nodup) (h : St10 K H r sa pT pA pL pC pP pM qL) (z : KpL pP H H') (l : TabL H' pP qP) : St10 K H' r sa pT pA pL pC pP pM qL := by
  simp only [List.nodup_cons, List.mem_cons, not_or, List.not_mem_nil, or_false, not_false_eq_true, List.nodup_nil, and_true] at ne
  obtain ⟨⟨n1, n2, n3⟩, ⟨n4, n5⟩, n6⟩ := ne
  have u := KpL.up z l
  exact ⟨h.dr.up u, u.t _ h.gT, u.t _ h.gA, tabL_o z n2 h.tL, tabL_o z n4 h.tC, l, tabL_o z (Ne.symm n6) h.tM⟩
theorem St10.m (ne : [pL, pC, pP, pM].Nodup) (h : St10 K H r sa pT pA pL pC pP pM qL) (z : KpL pM H H') (l : TabL H' pM qM) : St10 K H' r sa pT pA pL pC pP pM qL := by
  simp only [List.nodup_cons, List.mem_cons, not_or, List.not_mem_nil, or_false, not_false_eq_true, List.nodup_nil, and_true] at ne
  obtain ⟨⟨n1, n2, n3⟩, ⟨n4, n5⟩, n6⟩ := ne
  have u := KpL.up z l
  exact ⟨h.dr.up u, u.t _ h.gT, u.t _ h.gA, tabL_o z n3 h.tL, tabL_o z n5 h.tC, tabL_o z n6 h.tP, l⟩
end
/-- the odd values, each with what is wrong with it -/
def odds0 : List Dw := [.tup [.non, .str "whole"], .tup [.lst [.int 2, .tup [.tup [.int 0, .int 1]]], .str "whole"], .tup [.tup [.int 2], .str "whole"]]
def odds1 : List Dw := [.tup [.dic, .str "whole"], .tup [.tup [.int 0, .tup [.tup []]], .str "halls"], .tup [.tup [.int 9, .tup [.tup [.int 0]]], .str "halls"]]
def odds2 : List Dw := [.tup [.tup [.bl true, .tup [.tup [.int 0]]], .str "halls"], .tup [.tup [.int 2, .tup []], .str "turns"]]
def odds3 : List Dw := [.tup [.tup [.int 2, .tup (List.replicate (7 : Int).toNat [Dw.tup [.int 0, .int 1]]).flatten], .str "turns"], .tup [.tup [.int 2, .lst [.tup [.int 0, .int 1]]], .str "turns"]]
def odds4 : List Dw := [.tup [.tup [.int 2, .tup [.tup [.int 0, .int 0]]], .str "turns"], .tup [.tup [.int 2, .tup [.tup [.int 0, .int 1, .int 2]]], .str "turns"]]
def odds5 : List Dw := [.tup [.tup [.int 2, .tup [.tup [.int 1, .bl false]]], .str "turns"], .tup [.tup [.int 2, .tup [.tup [.int 0, .int 1], .non]], .str "turns"]]
def odds6 : List Dw := [.tup [.tup [.int 2, .tup [.lst [.int 0, .int 1]]], .str "turns"], .tup [.tup [.str "2", .tup [.tup [.int 0, .int 1]]], .str "halls"], .tup [.tup [.int 2, .tup [.tup [.int 1, .int 2]]], .str "turns"]]
def odds : List Dw := ((((((odds0 ++ odds1) ++ odds2) ++ odds3) ++ odds4) ++ odds5) ++ odds6)
def oddT : List Dw := [.non, .tup [], .tup [.int 0, .int 1], .tup [.int 0, .int 0, .int 1], .tup [.int 0, .int 1, .int 3], .lst [.int 0, .int 1, .int 2], .tup [.int 0, .bl true, .int 2], .tup [.int 0, .int 1, .int 2, .int 3], .str "012"]
def oddR : List Dw := [.tup [.non, .non], .tup [.lst [.int 0], .non], .tup [.tup [.int 2], .int 0], .tup [.tup [.int 0, .bl true], .int 1], .tup [.tup [.int 0, .int 1, .non], .int 2], .tup [.tup (List.replicate (101 : Int).toNat [Dw.int 0]).flatten, .non]]
def wordB (d : Dw) (w : Str) : Bool := match faultD d with
  | some x => decide (x = w)
  | none => false
def pairB : Dw → Bool
  | .tup [d, .str w] => wordB d w && (cmpD (.tuple [.str "house", .str w]))
  | _ => false
theorem odds_ok : odds.all (fun d => nb4 d && pairB d) = true := by decide +kernel
theorem oddT_ok : oddT.all (fun d => nb4 d && !turnD 3 d) = true := by decide +kernel
def spotD : Option Nat → Dw
  | none => .non
  | some i => .int (i : Nat)
def rowB : Dw → Bool
  | .tup [d, .non] => decide (rowD 2 d = some none)
  | .tup [d, .int i] => decide (0 ≤ i) && decide (rowD 2 d = some (some i.toNat))
  | _ => false
theorem oddR_ok : oddR.all (fun d => nb4 d && rowB d) = true := by decide +kernel
theorem pair_of {d : Dw} (h : pairB d = true) : ∃ d0 w, d = .tup [d0, .str w] ∧ faultD d0 = some w ∧ cmpD (.tuple [.str "house", .str w]) = true := by
  unfold pairB at h
  split at h
  · rename_i d0 w
    rw [Bool.and_eq_true] at h
    refine ⟨d0, w, rfl, ?_, h.2⟩
    have h1 := h.1
    unfold wordB at h1
    split at h1
    · rename_i x e
      rw [e, of_decide_eq_true h1]
    · cases h1
  · cases h
theorem row_of {d : Dw} (h : rowB d = true) : ∃ d0 o, d = .tup [d0, spotD o] ∧ rowD 2 d0 = some o := by
  unfold rowB at h
  split at h
  · rename_i d0
    exact ⟨d0, none, rfl, of_decide_eq_true h⟩
  · rename_i d0 i
    rw [Bool.and_eq_true] at h
    have h1 : 0 ≤ i := of_decide_eq_true h.1
    refine ⟨d0, some i.toNat, ?_, of_decide_eq_true h.2⟩
    show Dw.tup [d0, .int i] = Dw.tup [d0, .int (i.toNat : Nat)]
    rw [Int.toNat_of_nonneg h1]
  · cases h
theorem dw_pair {K : PySem.W.Frag} {H : Hp} {d e : Dw} {x : V} (h : IsDw K H (.tup [d, e]) x) : ∃ a v u, x = .ref a ∧ SqT K H a [v, u] ∧ IsDw K H d v ∧ IsDw K H e u := by
  unfold IsDw at h
  obtain ⟨a, xs, rfl, s, r⟩ := h
  unfold IsDws at r
  obtain ⟨v, r1, rfl, hv, r⟩ := r
  unfold IsDws at r
  obtain ⟨u, r2, rfl, hu, r⟩ := r
  unfold IsDws at r
  subst r
  exact ⟨a, v, u, rfl, s, hv, hu⟩
theorem dw_str {K : PySem.W.Frag} {H : Hp} {w : Str} {x : V} (h : IsDw K H (.str w) x) : x = .str w := by unfold IsDw at h; exact h
theorem dw_spot {K : PySem.W.Frag} {H : Hp} {o : Option Nat} {x : V} (h : IsDw K H (spotD o) x) : x = spotV o := by
  cases o with
  | none => unfold spotD IsDw at h; exact h
  | some i => unfold spotD IsDw at h; exact h
theorem outAt_kp {K : PySem.W.Frag} {H H' : Hp} {y : V} {o : Out} (h : OutAt K H y o) (z : Kp H H') : OutAt K H' y o := by
  cases o <;> first
    | exact h
    | (obtain ⟨p, e, s⟩ := h; exact ⟨p, e, z.sqT s⟩)
end NS
end
section
set_option maxHeartbeats 4000000
/-! REsc3: as REsc2's making, with the names that the lambda captures (fv) -/
namespace LamE
open PySem PySem.Spec PyProof.Rows L2 LamX LamY
/-- v is a lambda of the frame with these cells -/
def MadeF (fv : List Str) (P : Program) (w : World) (K : PySem.W.Frag) (mg : Str → Option Value) (base : Heap) (N : List Str) (sc0 : Scope) (k : Nat) (cells : List (Str × Addr)) (q : Str) (H : Hp) (v : V) (t : XK → TE) : Prop :=
  ∃ (f c' : Addr) (pm ctv dv : Value) (d : Bool) (p : Arguments) (b : Expr) (sc : Scope), v = .ref f ∧ H f = some (LamH f (lo q p b sc (cloFrom cells sc.names []) pm c' ctv dv)) ∧ H c' = some (CodeO c' q) ∧ Dfv H dv d ∧ LamZ N sc0 sc ∧ EscOK P w K mg base N k d p b sc t ∧ ∀ y ∈ sc.names, y.2 = .free → y.1 ∈ fv
theorem MadeF.ext {fv : List Str} {P : Program} {w : World} {K : PySem.W.Frag} {mg : Str → Option Value} {base : Heap} {N : List Str} {sc0 : Scope} {k : Nat} {cells : List (Str × Addr)} {q : Str} {H H' : Hp} {v : V} {t : XK → TE} (h : MadeF fv P w K mg base N sc0 k cells q H v t) (z : ExtN H H') : MadeF fv P w K mg base N sc0 k cells q H' v t := by
  obtain ⟨f, c', pm, ctv, dv, d, p, b, sc, e, hf, hc, hd, h1, h2, h3⟩ := h
  refine ⟨f, c', pm, ctv, dv, d, p, b, sc, e, z _ _ hf (fun ps => lamH_ext fun _ e => by cases e), z _ _ hc codeO_ne, ?_, h1, h2, h3⟩
  cases d with
  | false => exact hd
  | true =>
    obtain ⟨T, i, e, h⟩ := hd
    exact ⟨T, i, e, z _ _ h (fun _ q => by cases q)⟩
section
variable {X : Cx}
def tLamF (fv : List Str) (X : Cx) (k : Nat) (P : Addr) (t : XK → TE) : TE := fun _ H Q => TabL H P (X.env.qual ++ "<lambda>") ∧ ∀ f H1, ExtN H H1 → (∀ b ps, H b = some (.tbl ps) → b ≠ P → H1 b = some (.tbl ps)) → TabL H1 P (X.env.qual ++ "<lambda>") →
  MadeF fv X.prog X.w X.K X.mg X.base X.N X.env.scope k X.env.cells (X.env.qual ++ "<lambda>") H1 (.ref f) t → Q (.ref f) H1
theorem pe_lamFN {fv : List Str} {k : Nat} {c P : Addr} {params : Arguments} {body : Expr} {scope : Scope} {pos : Pos} {t : XK → TE} (TB : TabB X.base X.mg c P) (hcode : X.env.code = .ref c) (z : LamZ X.N X.env.scope scope) (ok : EscOK X.prog X.w X.K X.mg X.base X.N k false params body scope t) (hv : ∀ y ∈ scope.names, y.2 = .free → y.1 ∈ fv) (hl : 150 < pos.line := by decide) (hdef : defaultsOf params X.env = ([], []) := by rfl) :
    PE X (.Lambda params body scope pos) (tLamF fv X k P t) := by
  refine ⟨fun pins s σ H Q I h => PySem.W.kla_eval hdef ?_⟩
  obtain ⟨hT, q⟩ := h
  rw [makeFunction_eq]
  simp only [List.zip_nil_right, List.filterMap_nil, List.isEmpty_nil, if_true, pure_bind]
  exact lam_make3 I TB hcode hl hT (z.has I.ok) fun f c' pm ctv H1 s' I1 eN eT T1 hf hc => ⟨.ref f, H1, I1, rfl, q f H1 eN eT T1 ⟨f, c', pm, ctv, .none, false, params, body, scope, rfl, hf, hc, rfl, z, ok, hv⟩⟩
theorem pe_lamFD {fv : List Str} {k : Nat} {c P : Addr} {params : Arguments} {body : Expr} {scope : Scope} {pos : Pos} {t : XK → TE} {i : Int} {j : Nat} {cp : Pos} (TB : TabB X.base X.mg c P) (hcode : X.env.code = .ref c) (z : LamZ X.N X.env.scope scope) (ok : EscOK X.prog X.w X.K X.mg X.base X.N k true params body scope t) (hv : ∀ y ∈ scope.names, y.2 = .free → y.1 ∈ fv) (hl : 150 < pos.line := by decide) (hdef : defaultsOf params X.env = ([eval (.Constant (.int i) j cp) X.env], []) := by rfl) :
    PE X (.Lambda params body scope pos) (tLamF fv X k P t) := by
  refine ⟨fun pins s σ H Q I h => ?_⟩
  obtain ⟨hT, q⟩ := h
  rw [arm_eval_Lambda, hdef]
  show wpAny _ _ (do let dv ← evalAll [eval (.Constant (.int i) j cp) X.env]; let kdv ← holding dv (evalAllOpt []); makeFunction "<lambda>" (X.env.qual ++ "<lambda>") params (.expr body) scope X.env dv kdv [] pos pos.line) _ _ s
  refine wpAny_bind ?_
  show wpAny _ _ (do let v ← eval (.Constant (.int i) j cp) X.env; return v :: (← holding [v] (evalAll []))) _ _ s
  refine wpAny_bind (thn ((pe_int (X := X) (i := i) (j := j) (pos := cp)).run pins s σ H (fun x H1 => x = .int i ∧ H1 = H) I ⟨rfl, rfl⟩) fun v s1 ⟨x, H1, I1, r1, e1, e2⟩ => ?_)
  subst e1
  rw [e2] at I1
  refine wpAny_bind (wpAny_holding (wpAny_pure (wpAny_pure (wpAny_bind (wpAny_holding (wpAny_pure ?_))))))
  rw [makeFunction_eq]
  simp only [List.zip_nil_right, List.filterMap_nil, List.isEmpty_nil, List.isEmpty_cons, Bool.false_eq_true, if_false, if_true, pure_bind]
  refine wpAny_bind (wpAny_newTextTuple ?_)
  have nT : H s1.heap.objs.size = none := I1.hok.fresh (Nat.le_refl _)
  have I2 := I1.laid (a := s1.heap.objs.size) (o := .tup [.int i]) (h' := s1.heap.push { cls := .type "tuple", data := .seq [v].toArray }) (t' := s1.toks) (fun b o e => Heap.get?_push_of_some _ e) (Nat.le_refl _) ⟨by show 1 ≤ sizeLine; decide, _, .cons r1 .nil, IsTup.new _ _⟩
  have up : ∀ b o, H b = some o → upd H s1.heap.objs.size (.tup [.int i]) b = some o := fun b o e => by rw [upd_ne (ne_of_none e nT)]; exact e
  obtain ⟨ps, hP, ht, ha⟩ := hT
  refine lam_make3 I2 TB hcode hl ⟨ps, up _ _ hP, ht, fun p cv h150 hc => ?_⟩ (z.has I2.ok) fun f c' pm ctv H3 s' I3 eN eT T3 hf hc => ⟨.ref f, H3, I3, rfl, q f H3 (fun b o e n => eN b o (up b o e) n) (fun b qs e hb => eT b qs (up _ _ e) hb) T3 ⟨f, c', pm, ctv, .ref s1.heap.objs.size, true, params, body, scope, rfl, hf, hc, ⟨_, i, rfl, eN _ _ upd_same (fun _ z => by cases z)⟩, z, ok, hv⟩⟩
  obtain ⟨c0, e1, e2⟩ := ha p cv h150 hc
  exact ⟨c0, e1, up _ _ e2⟩
/-- once the cells are told of, it may be called anywhere -/
theorem MadeF.esc {fv : List Str} {σ : L2.St} {H H' H2 : Hp} {k : Nat} {q : Str} {v : V} {t : XK → TE} (h : MadeF fv X.prog X.w X.K X.mg X.base X.N X.env.scope k X.env.cells q H v t) (L : Lent X σ H' H2) (up : ExtN H H') (inj : ∀ y z c, X.env.cells.lookup y = some c → X.env.cells.lookup z = some c → y = z) (hlen : σ.length = X.N.length)
    (has : ∀ y, X.env.scope.names.lookup y = some .cell → ∃ c, X.env.cells.lookup y = some c) (nfree : ∀ y, X.env.scope.names.lookup y ≠ some .free) (val : ∀ (i : Nat) (y : Str), y ∈ fv → X.N[i]? = some y → X.env.scope.names.lookup y = some .cell → ∃ v, σ[i]? = some (some v)) : ∃ cl, IsEsc X.prog X.w X.K X.mg X.base k H2 v X.N σ cl t := by
  obtain ⟨f, c', pm, ctv, dv, d, p, b, sc, e, hf, hc, hd, hz, ok, hv⟩ := h.ext up
  have free : ∀ y ∈ sc.names, y.2 = .free → X.env.scope.names.lookup y.1 = some .cell := fun y hy e => (hz.free y hy e).elim id fun z => absurd z (nfree _)
  have cm : ∀ {y c}, (y, c) ∈ cloFrom X.env.cells sc.names [] → X.env.cells.lookup y = some c ∧ X.env.scope.names.lookup y = some .cell := fun {y c} hm => by
    rcases cloFrom_mem hm with hm | ⟨h1, h2⟩
    · cases hm
    · have k := free _ h1 rfl
      obtain ⟨c1, hc⟩ := has _ k
      have hc : X.env.cells.lookup y = some c1 := hc
      have e2 : c = c1 := by rw [h2, hc] <;> rfl
      rw [e2]
      exact ⟨hc, k⟩
  have out : ∀ {b u}, H' b = some u → b ∉ (cloFrom X.env.cells sc.names []).map (·.2) := fun {b u} e m => by
    obtain ⟨⟨y, c⟩, hm, rfl⟩ := List.mem_map.mp m
    rw [L.fr _ (cellA_mem.mpr ⟨y, (cm hm).1⟩)] at e
    cases e
  refine ⟨_, f, c', pm, ctv, dv, d, p, b, sc, q, e, L.ext _ _ hf, L.ext _ _ hc, out hf, out hc, ?_, ok, ⟨fun y z c h1 h2 => inj y z c (cm (PySem.mem_of_lookup h1)).1 (cm (PySem.mem_of_lookup h2)).1, fun y c hm => ?_, hlen⟩, fun y hy e => mem_lookup (cloFrom_has (cells := X.env.cells) (acc := []) (n := y.1) (by rw [← e]; exact hy))⟩
  · cases d with
    | false => exact hd
    | true =>
      obtain ⟨T, i, e, h⟩ := hd
      exact ⟨T, i, e, L.ext _ _ h⟩
  · obtain ⟨e1, e2⟩ := cm hm
    obtain ⟨o, u, h1, h2, h3⟩ := L.at_ y c e1
    have mN : y ∈ X.N := by
      rcases cloFrom_mem hm with hm | ⟨h1, _⟩
      · cases hm
      · exact ok.z.free _ h1 rfl
    obtain ⟨i, hi, ei⟩ := List.mem_iff_getElem.mp mN
    have hi2 : X.N[i]? = some y := by rw [List.getElem?_eq_getElem hi, ei]
    have my : y ∈ fv := by
      rcases cloFrom_mem hm with hm | ⟨h1, _⟩
      · cases hm
      · exact hv _ h1 rfl
    obtain ⟨v0, hv0⟩ := val i y my hi2 e2
    obtain ⟨u', rfl, _⟩ := h3 i v0 hi2 hv0 e2
    refine ⟨o, u', h1, h2, fun j v hj hv => ?_⟩
    obtain ⟨u2, e3, r⟩ := h3 j v hj hv e2
    cases e3
    exact r
end
end LamE
end
section
set_option maxHeartbeats 4000000
/-! E6: lists of lambdas of a def, with the names they capture -/
namespace NS
open PySem PySem.Spec PyProof.Rows L2 ZS LamX LamY LamE
abbrev MadeXF (fv : List Str) (X : Cx) (k : Nat) (H : Hp) (v : V) (t : XK → TE) : Prop := MadeF fv X.prog X.w X.K X.mg X.base X.N X.env.scope k X.env.cells (X.env.qual ++ "<lambda>") H v t
def tMsF (fv : List Str) (X : Cx) (k : Nat) (P : Addr) (ts : List (XK → TE)) : TA := fun _ H Q => TabL H P (X.env.qual ++ "<lambda>") ∧ ∀ vs H1, KpL P H H1 → TabL H1 P (X.env.qual ++ "<lambda>") → Paired (MadeXF fv X k H1) vs ts → Q vs H1
def tMLF (fv : List Str) (X : Cx) (k : Nat) (P : Addr) (ts : List (XK → TE)) : TE := fun _ H Q => TabL H P (X.env.qual ++ "<lambda>") ∧ ∀ p vs H1, KpL P H H1 → TabL H1 P (X.env.qual ++ "<lambda>") → H1 p = some (.lst vs) → Paired (MadeXF fv X k H1) vs ts → Q (.ref p) H1
section
variable {fv : List Str} {X : Cx} {k : Nat} {P : Addr}
theorem pl_nilF : PA X [] (tMsF fv X k P []) := ⟨fun pos pins s σ H Q I h => pa_nil.run pos pins s σ H Q I (h.2 [] H (KpL.refl P H) h.1 .nil)⟩
theorem pl_consF {e : Expr} {es : List Expr} {t : XK → TE} {ts : List (XK → TE)} (h1 : PE X e (tLamF fv X k P t)) (h2 : PA X es (tMsF fv X k P ts)) (hs : starEach (e :: es) X.env = (false, eval e X.env) :: starEach es X.env := by rfl) : PA X (e :: es) (tMsF fv X k P (t :: ts)) :=
  ⟨fun pos pins s σ H Q I h => (pa_cons h1 h2 hs).run pos pins s σ H Q I (show tCons (tLamF fv X k P t) (tMsF fv X k P ts) σ H Q from ⟨h.1, fun f H1 eN eT T1 m => ⟨T1, fun vs H2 z2 T2 pr => h.2 _ H2 (KpL.trans ⟨eN, eT⟩ z2) T2 (.cons (MadeF.ext m z2.e) pr)⟩⟩)⟩
theorem pl_lstF {es : List Expr} {pos : Pos} {ts : List (XK → TE)} (h : PA X es (tMsF fv X k P ts)) (hl : ts.length ≤ 100 := by simp) : PE X (.List es pos) (tMLF fv X k P ts) :=
  pe_imp (pe_lst h) fun σ H Q q => show tLst (tMsF fv X k P ts) σ H Q from ⟨q.1, fun vs H1 z1 T1 pr => ⟨by rw [pr.length, sizeLine_eq]; omega, fun p hp => q.2 p vs _ (z1.trans (KpL.new hp)) (tabL_new T1 hp) upd_same (pr.mono fun _ _ m => MadeF.ext m (KpL.new (P := P) hp).e)⟩⟩
end
/-- what was made may be called anywhere -/
theorem made_escF {fv : List Str} {X : Cx} {A : ErrA} {k : Nat} {σ : L2.St} {H0 H' H2 : Hp} {v : V} {t : XK → TE} {out : Out} (h : MadeXF fv X k H' v t) (L : Lent X σ H' H2) (up : Up H0 H') (inj : ∀ y z c, X.env.cells.lookup y = some c → X.env.cells.lookup z = some c → y = z) (hlen : σ.length = X.N.length)
    (has : ∀ y, X.env.scope.names.lookup y = some .cell → ∃ c, X.env.cells.lookup y = some c) (nfree : ∀ y, X.env.scope.names.lookup y ≠ some .free) (val : ∀ (i : Nat) (y : Str), y ∈ fv → X.N[i]? = some y → X.env.scope.names.lookup y = some .cell → ∃ v, σ[i]? = some (some v))
    (does : ∀ H3, Dk H0 H3 → Does A out t σ H3) : EscAt X.prog X.w X.K X.mg X.base A k H2 v out := by
  obtain ⟨cl, ie⟩ := MadeF.esc h L (ExtN.refl H') inj hlen has nfree val
  refine ⟨X.N, σ, cl, t, ie, fun H3 z3 => does _ ?_⟩
  have C3 := isEsc_cells (isEsc_up ie z3.k)
  exact (up.dk.trans ((up_ext L.ext).dk.trans z3.dk)).trans (dk_del C3)
def tMCF (fv : List Str) (X : Cx) (k : Nat) (P : Addr) (i : Nat) (ts2 : List (XK → TE)) : TE := fun σ H Q => ∃ p vs ts1, σ[i]? = some (some (.ref p)) ∧ H p = some (.lst vs) ∧ Paired (MadeXF fv X k H) vs ts1 ∧ vs.length + ts2.length ≤ 1000 ∧ TabL H P (X.env.qual ++ "<lambda>") ∧
  ∀ p' vs' H', KpL P H H' → TabL H' P (X.env.qual ++ "<lambda>") → H' p' = some (.lst vs') → Paired (MadeXF fv X k H') vs' (ts1 ++ ts2) → Q (.ref p') H'
theorem pe_mcatF {fv : List Str} {X : Cx} {k i : Nat} {P : Addr} {ts2 : List (XK → TE)} {e1 e2 : Expr} {pos : Pos} (h1 : PE X e1 (tVar i)) (h2 : PE X e2 (tMLF fv X k P ts2)) : PE X (.BinOp e1 .Add e2 pos) (tMCF fv X k P i ts2) :=
  pe_imp (pe_op op_cat h1 h2) fun σ H Q ⟨p, vs, ts1, hs, hp, pr, hl, hT, q⟩ => ⟨.ref p, hs, hT, fun p2 vs2 H2 z2 T2 hp2 pr2 => ⟨p, p2, vs, vs2, rfl, rfl, z2.e _ _ hp (fun _ e => by cases e), hp2, by rw [pr2.length, sizeLine_eq]; omega, fun p3 hp3 => q p3 _ _ (z2.trans (KpL.new hp3)) (tabL_new T2 hp3) upd_same (pr_app (pr.mono fun _ _ m => MadeF.ext m (z2.trans (KpL.new hp3)).e) (pr2.mono fun _ _ m => MadeF.ext m (KpL.new (P := P) hp3).e))⟩⟩
end NS
end
section
set_option maxHeartbeats 4000000
/-! RInj: a def's cells are distinct -/
namespace LamE
open PySem PySem.Spec PyProof.Rows L2 LamX LamY
/-- places below n, each with one name -/
def OneN (n : Nat) (acc : List (Str × Addr)) : Prop := (∀ p ∈ acc, p.2 < n) ∧ ∀ y z c, (y, c) ∈ acc → (z, c) ∈ acc → y = z
theorem oneN_cons {n : Nat} {acc : List (Str × Addr)} {nm : Str} (h : OneN n acc) : OneN (n + 1) ((nm, n) :: acc) := by
  have far : ∀ {y}, (y, n) ∉ acc := fun m => Nat.lt_irrefl _ (h.1 _ m)
  refine ⟨fun p m => ?_, fun y z c my mz => ?_⟩
  · rcases List.mem_cons.mp m with e | m
    · rw [e]; exact Nat.lt_succ_self n
    · exact Nat.lt_succ_of_lt (h.1 p m)
  · rcases List.mem_cons.mp my with ey | my
    · cases ey
      rcases List.mem_cons.mp mz with ez | mz
      · cases ez; rfl
      · exact (far mz).elim
    · rcases List.mem_cons.mp mz with ez | mz
      · cases ez
        exact (far my).elim
      · exact h.2 y z c my mz
theorem oneN_from {names : List (Str × NameKind)} : ∀ {n : Nat} {acc : List (Str × Addr)}, OneN n acc → ∀ y z c, (y, c) ∈ cellsFrom n names acc → (z, c) ∈ cellsFrom n names acc → y = z := by
  induction names with
  | nil => exact fun h => h.2
  | cons a r ih =>
    intro n acc h y z c my mz
    unfold cellsFrom at my mz
    obtain ⟨nm, k⟩ := a
    by_cases hk : (k == NameKind.cell) = true
    · simp only [if_pos hk] at my mz
      exact ih (oneN_cons h) y z c my mz
    · simp only [if_neg hk] at my mz
      exact ih h y z c my mz
theorem envC_inj (qual : Str) (scope : Scope) (L : Nat) (f : Addr) (cdv : Value) : ∀ (y z : Str) (c : Addr), (envOfC qual scope L f cdv).cells.lookup y = some c → (envOfC qual scope L f cdv).cells.lookup z = some c → y = z := fun y z c e1 e2 =>
  oneN_from (n := L + 1) (acc := []) (names := scope.names) ⟨fun p m => absurd m List.not_mem_nil, fun _ _ _ m => absurd m List.not_mem_nil⟩ y z c (PySem.mem_of_lookup e1) (PySem.mem_of_lookup e2)
end LamE
end
section
set_option maxHeartbeats 4000000
/-! N31: cells lent: what stands then -/
namespace NS
open PySem PySem.Spec PyProof.Rows L2 ZS LamX LamY LamE
/-- a heap without one place -/
def cutH (D : Addr) (H : Hp) : Hp := fun a => if a = D then none else H a
theorem cut_ne {D a : Addr} {H : Hp} (n : a ≠ D) : cutH D H a = H a := if_neg n
section
variable {X : Cx} {σ : L2.St} {H H2 H' : Hp} {D : Addr} {o : HO}
theorem lent_less (n : H D = none) (L : Lent X σ (upd H D o) H2) : Lent X σ H (cutH D H2) ∧ upd (cutH D H2) D o = H2 ∧ cutH D H2 D = none := by
  have nd : ∀ {b}, b ∈ cellA X.env.cells → b ≠ D := fun {b} m e => by
    have := L.fr b m
    rw [e, upd_same] at this
    cases this
  have hD : H2 D = some o := by
    rw [L.up D fun m => nd m rfl, upd_same]
  refine ⟨⟨fun b m => ?_, fun b m => ?_, fun y c e => ?_⟩, ?_, if_pos rfl⟩
  · by_cases e : b = D
    · rw [e, n]; exact if_pos rfl
    · rw [cut_ne e, L.up b m, upd_ne e]
  · have := L.fr b m
    rwa [upd_ne (nd m)] at this
  · obtain ⟨ob, u, h1, h2, h3⟩ := L.at_ y c e
    exact ⟨ob, u, by rw [cut_ne (nd (cellA_mem.mpr ⟨y, e⟩))]; exact h1, h2, h3⟩
  · funext a
    by_cases e : a = D
    · rw [e, upd_same, hD]
    · rw [upd_ne e, cut_ne e]
theorem lent_out (L : Lent X σ H H2) {b : Addr} {x : HO} (e : H b = some x) : b ∉ cellA X.env.cells := fun m => by rw [L.fr b m] at e; cases e
theorem lent_st (L : Lent X σ H H2) (z : Kp H2 H') : ∀ c ∈ cellA X.env.cells, H' c = H2 c := fun c m => by
  obtain ⟨ob, u, h1, h2⟩ := L.cells c m
  rw [z.k c _ h1 lamH_ntb, h1]
theorem lent_cells (L : Lent X σ H H2) (z : Kp H2 H') : CellsH (cellA X.env.cells) H' := fun c m => by
  rw [lent_st L z c m]
  exact L.cells c m
theorem lent_kp (L : Lent X σ H H2) (z : Kp H2 H') : Kp H (delL (cellA X.env.cells) H') := by
  refine ⟨fun b u e n => ?_, fun b ps e => ?_⟩
  · rw [del_out (lent_out L e)]
    exact z.k b u (L.ext b _ e) n
  · rw [del_out (lent_out L e)]
    exact z.t b ps (L.ext b _ e)
theorem lent_end {xs : List V} (L : Lent X σ H H2) (z : Kp H2 H') (hy : H' D = some (.lst xs)) : ∃ H3, delL (cellA X.env.cells) H' = H3 ∧ Kp H H3 ∧ H3 D = some (.lst xs) :=
  ⟨_, rfl, lent_kp L z, (del_out ((lent_cells L z).out hy (fun _ q => by cases q))).trans hy⟩
theorem outAt_dk {K : PySem.W.Frag} {y : V} {ou : Out} (h : OutAt K H y ou) (z : Dk H H') : OutAt K H' y ou := by
  cases ou <;> first
    | exact h
    | (obtain ⟨p, e, s⟩ := h; exact ⟨p, e, z.tup.sq s⟩)
end
theorem rowV_spot : ∀ o : Option Nat, rowV (spotV o)
  | none => trivial
  | some _ => trivial
theorem cmp_spot : ∀ o : Option Nat, cmpD (outD (.row (spotV o))) = true
  | none => by decide +kernel
  | some i => by
    show cmpD (.tuple [.str "row", .int (i : Nat)]) = true
    unfold cmpD
    rw [Bool.and_eq_true]
    refine ⟨?_, by simp [PyData.eqv, PyData.eqvAll]⟩
    show SeqAt.shaped (.tuple [.str "row", .int (0 : Nat)]) = true
    decide +kernel
theorem dws_intsM {K : PySem.W.Frag} {H : Hp} : ∀ (is : List Int), IsDws K H (is.map Dw.int) (is.map V.int)
  | [] => by unfold IsDws; rfl
  | i :: r => by
    unfold IsDws
    exact ⟨.int i, r.map V.int, rfl, by unfold IsDw; rfl, dws_intsM r⟩
theorem dw_rg8 {K : PySem.W.Frag} {H : Hp} {p : Addr} {o : Obj} : IsDw K (upd H p (.frz o (.tup (rgV 0 8)))) (.tup [.int 0, .int 1, .int 2, .int 3, .int 4, .int 5, .int 6, .int 7]) (.ref p) := by
  unfold IsDw
  exact ⟨p, rgV 0 8, rfl, .inl (.inr ⟨o, upd_same⟩), dws_intsM [0, 1, 2, 3, 4, 5, 6, 7]⟩
/-- a comprehension without a test, some C kept beside -/
theorem lcFL {J : It} {g : TG} {te : TE} {vs : List Nat} {σ : L2.St} {H : Hp} {D : Addr} {C Qd : Hp → Prop} {n : Nat} {Y : Nat → V → Hp → Prop} (wk : Wlk J H n Y) (hD : H D = none) (hz : n < sizeLine)
    (R : Nat → V → Hp → Prop) (st : ∀ i y H1 H2, Tup H1 H2 → R i y H1 → R i y H2)
    (el : ∀ i x H' (Q1 : V → Hp → Prop), i < n → Kp H H' → Y i x H' → (∀ y H4, Kp H' H4 → R i y H4 → Q1 y H4) →
      g x (wipe σ vs) H' fun σ2 H2 => wipe σ2 vs = wipe σ vs ∧ te σ2 H2 Q1)
    (mono : ∀ x H' (Q Q' : L2.St → Hp → Prop), (∀ s h, Q s h → Q' s h) → g x (wipe σ vs) H' Q → g x (wipe σ vs) H' Q')
    (fin : ∀ ys H', Kp H H' → H' D = some (.lst ys) → Paired (fun i y => R i y H') (List.range n) ys → C H' ∧ Qd H') :
    ∃ W : Nat → Nat → Hp → Prop, (∃ m, W 0 m (upd H D (.lst []))) ∧ ∀ i m H, W i m H →
      (J.stop i H ∧ C H ∧ Qd H) ∨ (J.go i H ∧ ∃ Nx : Hp → Prop, (∀ H', Nx H' → ∃ m', m' < m ∧ W (i + 1) m' H') ∧ ∀ x H', J.yld i H x H' → g x (wipe σ vs) H' fun σ2 H2 => wipe σ2 vs = wipe σ vs ∧
        te σ2 H2 fun y H4 => ∃ acc, H4 D = some (.lst acc) ∧ acc.length < sizeLine ∧ Nx (upd H4 D (.lst (acc ++ [y])))) := by
  obtain ⟨W, w0, s⟩ := lcF (Qd := fun H => C H ∧ Qd H) wk hD hz R st el mono fin
  refine ⟨W, w0, fun i m H w => ?_⟩
  rcases s i m H w with h | ⟨go, Nx, hN, q⟩
  · exact .inl h
  · refine .inr ⟨go, Nx, hN, fun x H' y => mono _ _ _ _ (fun s h q => ⟨q.1, ?_⟩) (q x H' y)⟩
    have h2 := q.2
    unfold tYes at h2
    have h3 : (if true = true then te s h (fun y H4 => ∃ acc, H4 D = some (.lst acc) ∧ acc.length < sizeLine ∧ Nx (upd H4 D (.lst (acc ++ [y])))) else Nx h) := h2
    rwa [if_pos rfl] at h3
/-! what the law's last houses have -/
theorem hs_is : IsH 3 [[1, 2, 0], [1, 0, 2]] := ⟨by decide, by decide, by decide, by decide, isB_all (by decide)⟩
theorem tw_is : IsH 2 [[1, 0]] := ⟨by decide, by decide, by decide, by decide, isB_all (by decide)⟩
theorem pt_is : IsH 3 [[1, 2, 0]] := ⟨by decide, by decide, by decide, by decide, isB_all (by decide)⟩
theorem ot_is : IsH 3 [[1, 0, 2]] := ⟨by decide, by decide, by decide, by decide, isB_all (by decide)⟩
theorem hs_grp : Asc ltT (Grp 3 [[1, 2, 0], [1, 0, 2]]) [[0, 1, 2], [0, 2, 1], [1, 0, 2], [1, 2, 0], [2, 0, 1], [2, 1, 0]] := grpB_asc (by decide +kernel)
theorem pt_grp : Asc ltT (Grp 3 [[1, 2, 0]]) [[0, 1, 2], [1, 2, 0], [2, 0, 1]] := grpB_asc (by decide +kernel)
theorem ot_grp : Asc ltT (Grp 3 [[1, 0, 2]]) [[0, 1, 2], [1, 0, 2]] := grpB_asc (by decide +kernel)
theorem ot_no (L M : List (List Int)) (aL : Asc ltT (Grp 3 [[1, 2, 0]]) L) (aM : Asc ltT (Grp 3 [[1, 0, 2]]) M) : ¬ Sub M L := by
  rw [Asc.uniq ltT_irr ltT_tr aL pt_grp, Asc.uniq ltT_irr ltT_tr aM ot_grp]
  exact fun h => absurd (h [1, 0, 2] (by decide)) (by decide)
theorem ot_out {L M : List (List Int)} (aL : Asc ltT (Grp 3 [[1, 2, 0]]) L) (aM : Asc ltT (Grp 3 [[1, 0, 2]]) M) : (M.all fun m => decide (m ∈ L)) = false := by
  rw [Asc.uniq ltT_irr ltT_tr aL pt_grp, Asc.uniq ltT_irr ltT_tr aM ot_grp]
  decide
theorem ot_in {L M : List (List Int)} (aL : Asc ltT (Grp 3 [[1, 2, 0], [1, 0, 2]]) L) (aM : Asc ltT (Grp 3 [[1, 0, 2]]) M) : (M.all fun m => decide (m ∈ L)) = true := by
  rw [Asc.uniq ltT_irr ltT_tr aL hs_grp, Asc.uniq ltT_irr ltT_tr aM ot_grp]
  decide
end NS
end
section
set_option maxHeartbeats 4000000
/-! LW10: law k10 -/
namespace NS
open PySem PySem.Spec PyProof.Rows L2 ZS LamX LamY LamE
abbrev nLaw : List Str := ["script", "row", "house", "odd", "some", "word", "works", "turn", "line", "spot", "great", "two", "part", "other", "work"]
theorem scLaw : FnScope nLaw ["script"] (defScope sLaw) := ⟨rfl, rfl, rfl, by decide +kernel, rfl, by decide +kernel, by decide +kernel⟩
abbrev C2H (K : PySem.W.Frag) (pT pA C : Addr) : RC2 := fun v _ H E => CBad K pT pA C v H E
abbrev W2 (C2 : RC2) : RCW := fun v u H _ E => C2 v u H E
def spLaw (K : PySem.W.Frag) (pT pA pL pC pP pM : Addr) : Sp := fun vs H Q _ => ∃ (a : Addr) (ns : List Int), vs = [.ref a] ∧ SqL K H a (ns.map V.int) ∧ GxR.TabG H pT ∧ GxR.TabG H pA ∧ H pL = some (.tbl #[]) ∧ H pC = some (.tbl #[]) ∧ H pP = some (.tbl #[]) ∧ H pM = some (.tbl #[]) ∧ ∀ H', Q (.bl true) H'
/-- all the defs that the law calls -/
structure Defs (P : Program) (w : World) (K : PySem.W.Frag) (mg : Str → Option Value) (base : Heap) (pT pA pC pP pM : Addr) (Ae : ErrA) : Prop where
  taken : Has P w K mg base "_law_taken" 1 [] (spTaken K)
  pick : Has P w K mg base "_law_pick" 2 [] (spPick K)
  lcirc : Has P w K mg base "_law_circle" 1 [] spLCircle
  ishouse : Has P w K mg base "is_house" 7 [] (spIsHouseX K pT pA)
  callsB : Has P w K mg base "_law_calls" 1 [] (spCalls P w K mg base Ae pC (CBad K pT pA (Ae.c .b)) (C2H K pT pA (Ae.c .b)))
  callsG : Has P w K mg base "_law_calls" 1 [] (spCalls P w K mg base Ae pC (CGreat K pT pA (Ae.c .m)) (CGrT K pT pA (Ae.c .m)))
  moreB : Has P w K mg base "_law_more" 1 [] (spMore P w K mg base Ae pM (CBad K pT pA (Ae.c .b)))
  partH : Has P w K mg base "_law_parted" 1 [] (spParted P w K mg base Ae pP (W2 (C2H K pT pA (Ae.c .b))) (C2H K pT pA (Ae.c .b)))
  partB : Has P w K mg base "_law_parted" 1 [] (spParted P w K mg base Ae pP (W2 (C2Bad K pT pA (Ae.c .b))) (C2Bad K pT pA (Ae.c .b)))
  partG : Has P w K mg base "_law_parted" 1 [] (spParted P w K mg base Ae pP (W2 (C2Gr K pT pA (Ae.c .m))) (C2Gr K pT pA (Ae.c .m)))
  partU : Has P w K mg base "_law_parted" 1 [] (spParted P w K mg base Ae pP (W2 (C2Un K pT pA (Ae.c .u))) (C2Un K pT pA (Ae.c .u)))
  partN : Has P w K mg base "_law_parted" 1 [] (spParted P w K mg base Ae pP (CWN K pT pA) (C2N K pT pA (Ae.c .w)))
  ismemO : HasX P w K mg base "is_member" 9 (spB2 (COdd K pT pA (Ae.c .t)))
  likesO : HasX P w K mg base "likes" 8 (spB2 (COdd K pT pA (Ae.c .t)))
  stayersO : HasX P w K mg base "stayers" 8 (spB2 (COdd K pT pA (Ae.c .t)))
  ringsO : HasX P w K mg base "rings" 9 (spB2 (COdd K pT pA (Ae.c .t)))
  madeO : HasX P w K mg base "made" 8 (spB2 (CRow K pT pA (Ae.c .r)))
  sharp : Has P w K mg base "is_sharp" 11 [] (spSharpG K pT pA)
  rank : Has P w K mg base "rank" 8 [] (spRank K pT pA)
  trans : Has P w K mg base "is_transitive" 9 [] (spTrans K pT pA)
  parts : Has P w K mg base "parts" 8 [] (spParts K pT pA)
  within : Has P w K mg base "is_within" 10 [] (spWithin K pT pA)
theorem pq_circ {X : Cx} {k : Nat} {n s j1 j2 : Nat} {p p1 p2 pos : Pos} (hC : Has X.prog X.w X.K X.mg X.base "_law_circle" 1 [] spLCircle) (hr : Room k X.A) (hk : 1 ≤ k := by decide) (hn : 1 ≤ n := by decide) (hn2 : n ≤ 1000 := by decide) (hg : Gl X "_law_circle" := by rfl)
    (h1 : starEach [.Constant (.int n) j1 p1, .Constant (.int s) j2 p2] X.env = (false, eval (.Constant (.int n) j1 p1) X.env) :: starEach [.Constant (.int s) j2 p2] X.env := by rfl)
    (h2 : starEach [.Constant (.int s) j2 p2] X.env = (false, eval (.Constant (.int s) j2 p2) X.env) :: starEach [] X.env := by rfl) (h3 : (backTo pos (starEach [.Constant (.int s) j2 p2] X.env)).any (·.1) = false := by rfl) :
    PE X (.Call (.Name "_law_circle" p) [.Constant (.int n) j1 p1, .Constant (.int s) j2 p2] [] pos) (tPt (circ n s)) :=
  pe_imp (pe_has hC hr hk (pa_cons pe_int (pa_cons pe_int pa_nil h2) h1) hg (by decide) h1 h3) fun σ H Q q => show tCall spLCircle [] E0 (tCons (tC (.int n)) (tCons (tC (.int s)) tNil)) σ H Q from ⟨n, s, rfl, hn, hn2, fun v H' z p => q v H' z p⟩
theorem law_fv {i : Nat} {y : Str} (e : nLaw[i]? = some y) (m : y ∈ (["house", "turn"] : List Str)) : i = 2 ∨ i = 7 := by
  have h : (List.range 15).all (fun i => (i == 2 || i == 7) || (match nLaw[i]? with | some y => !(decide (y ∈ (["house", "turn"] : List Str))) | none => true)) = true := by decide +kernel
  have h := List.all_eq_true.mp h i (List.mem_range.mpr (List.getElem?_eq_some_iff.mp e).1)
  rw [e] at h
  simpa [m] using h
theorem law_cl {i : Nat} {y : Str} (e : nLaw[i]? = some y) (m : (defScope sLaw).names.lookup y = some .cell) : i = 2 ∨ i = 5 ∨ i = 7 ∨ i = 8 := by
  have h : (List.range 15).all (fun i => (i == 2 || (i == 5 || (i == 7 || i == 8))) || (match nLaw[i]? with | some y => !(decide ((defScope sLaw).names.lookup y = some .cell)) | none => true)) = true := by decide +kernel
  have h := List.all_eq_true.mp h i (List.mem_range.mpr (List.getElem?_eq_some_iff.mp e).1)
  rw [e] at h
  simpa [m] using h
section
variable {P : Program} {w : World} {K : PySem.W.Frag} {mg : Str → Option Value} {base : Heap} {f fE : Addr} {fd dE : FuncData} {pT pA pL pC pP pM c0 : Addr} {Ae : ErrA}
theorem ok_law (F : FnP K "law" sLaw f fd) (B : Bl mg) (M : Defs P w K mg base pT pA pC pP pM Ae) (FE : FnP K "_law_error" sLErr fE dE) (mE : mg "_law_error" = some (.ref fE)) (okE : FnOk P w K mg base CX0 16 fE dE ["work"] (spErr P w K mg base Ae 14)) (ec : fd.code = .ref c0) (TB : LamX.TabB base mg c0 pL) (ne : [pL, pC, pP, pM].Nodup) : FnOk P w K mg base CX0 17 f fd ["script"] (spLaw K pT pA pL pC pP pM) := by
  have LE : Has P w K mg base "_law_error" 16 [] (spErr P w K mg base Ae 14) := ⟨fE, dE, ["work"], [], mE, FE.kp, FE.bindsN (fun _ _ _ _ _ _ us hl => match us, hl with | [_], _ => rfl), .nil, okE⟩
  refine ok_code F scLaw (fun vs H Q E h => ?_) (fun cdv A outer s H vs Q E hcd hr h => ⟨_, PSs.nox (
    (pss_cons (ps_set (i := 1) scLaw.nd rfl (Or.inl rfl) (pe_lst (pa_cons (pv 0) (pa_cons pe_int (pa_cons pe_int (pa_cons pe_int pa_nil))))))
    (pss_cons (ps_set (i := 2) scLaw.nd rfl (Or.inr rfl) (pq_house (pq_pcons (pq_turn (pq_cons (pq_cons (pq_cons pq_nil)))) (pq_pcons (pq_turn (pq_cons (pq_cons (pq_cons pq_nil)))) pq_pnil))))
    (pss_cons (ps_set (i := 3) scLaw.nd rfl (Or.inl rfl) (pw_lst (pw_cons (pw_tup (pw_cons pw_non (pw_cons pw_str pw_nil))) (pw_cons (pw_tup (pw_cons (pw_lstE (pw_cons pw_int (pw_cons (pw_tup (pw_cons (pw_tup (pw_cons pw_int (pw_cons pw_int pw_nil))) pw_nil)) pw_nil))) (pw_cons pw_str pw_nil))) (pw_cons (pw_tup (pw_cons (pw_tup (pw_cons pw_int pw_nil)) (pw_cons pw_str pw_nil))) pw_nil)))))
    (pss_cons (ps_set (i := 3) scLaw.nd rfl (Or.inl rfl) (pw_cat (pv 3) (pw_lst (pw_cons (pw_tup (pw_cons pw_dic (pw_cons pw_str pw_nil))) (pw_cons (pw_tup (pw_cons (pw_tup (pw_cons pw_int (pw_cons (pw_tup (pw_cons (pw_tup pw_nil) pw_nil)) pw_nil))) (pw_cons pw_str pw_nil))) (pw_cons (pw_tup (pw_cons (pw_tup (pw_cons pw_int (pw_cons (pw_tup (pw_cons (pw_tup (pw_cons pw_int pw_nil)) pw_nil)) pw_nil))) (pw_cons pw_str pw_nil))) pw_nil))))))
    (pss_cons (ps_set (i := 3) scLaw.nd rfl (Or.inl rfl) (pw_cat (pv 3) (pw_lst (pw_cons (pw_tup (pw_cons (pw_tup (pw_cons pw_bl (pw_cons (pw_tup (pw_cons (pw_tup (pw_cons pw_int pw_nil)) pw_nil)) pw_nil))) (pw_cons pw_str pw_nil))) (pw_cons (pw_tup (pw_cons (pw_tup (pw_cons pw_int (pw_cons (pw_tup pw_nil) pw_nil))) (pw_cons pw_str pw_nil))) pw_nil)))))
    (pss_cons (ps_set (i := 3) scLaw.nd rfl (Or.inl rfl) (pw_cat (pv 3) (pw_lst (pw_cons (pw_tup (pw_cons (pw_tup (pw_cons pw_int (pw_cons (pw_rep (pw_tup (pw_cons (pw_tup (pw_cons pw_int (pw_cons pw_int pw_nil))) pw_nil))) pw_nil))) (pw_cons pw_str pw_nil))) (pw_cons (pw_tup (pw_cons (pw_tup (pw_cons pw_int (pw_cons (pw_lstE (pw_cons (pw_tup (pw_cons pw_int (pw_cons pw_int pw_nil))) pw_nil)) pw_nil))) (pw_cons pw_str pw_nil))) pw_nil)))))
    (pss_cons (ps_set (i := 3) scLaw.nd rfl (Or.inl rfl) (pw_cat (pv 3) (pw_lst (pw_cons (pw_tup (pw_cons (pw_tup (pw_cons pw_int (pw_cons (pw_tup (pw_cons (pw_tup (pw_cons pw_int (pw_cons pw_int pw_nil))) pw_nil)) pw_nil))) (pw_cons pw_str pw_nil))) (pw_cons (pw_tup (pw_cons (pw_tup (pw_cons pw_int (pw_cons (pw_tup (pw_cons (pw_tup (pw_cons pw_int (pw_cons pw_int (pw_cons pw_int pw_nil)))) pw_nil)) pw_nil))) (pw_cons pw_str pw_nil))) pw_nil)))))
    (pss_cons (ps_set (i := 3) scLaw.nd rfl (Or.inl rfl) (pw_cat (pv 3) (pw_lst (pw_cons (pw_tup (pw_cons (pw_tup (pw_cons pw_int (pw_cons (pw_tup (pw_cons (pw_tup (pw_cons pw_int (pw_cons pw_bl pw_nil))) pw_nil)) pw_nil))) (pw_cons pw_str pw_nil))) (pw_cons (pw_tup (pw_cons (pw_tup (pw_cons pw_int (pw_cons (pw_tup (pw_cons (pw_tup (pw_cons pw_int (pw_cons pw_int pw_nil))) (pw_cons pw_non pw_nil))) pw_nil))) (pw_cons pw_str pw_nil))) pw_nil)))))
    (pss_cons (ps_set (i := 3) scLaw.nd rfl (Or.inl rfl) (pw_cat (pv 3) (pw_lst (pw_cons (pw_tup (pw_cons (pw_tup (pw_cons pw_int (pw_cons (pw_tup (pw_cons (pw_lstE (pw_cons pw_int (pw_cons pw_int pw_nil))) pw_nil)) pw_nil))) (pw_cons pw_str pw_nil))) (pw_cons (pw_tup (pw_cons (pw_tup (pw_cons pw_str (pw_cons (pw_tup (pw_cons (pw_tup (pw_cons pw_int (pw_cons pw_int pw_nil))) pw_nil)) pw_nil))) (pw_cons pw_str pw_nil))) (pw_cons (pw_tup (pw_cons (pw_tup (pw_cons pw_int (pw_cons (pw_tup (pw_cons (pw_tup (pw_cons pw_int (pw_cons pw_int pw_nil))) pw_nil)) pw_nil))) (pw_cons pw_str pw_nil))) pw_nil))))))
    (pss_cons (ps_asg (pe_has M.pick hr (by decide) (pa_cons (pv 1) (pa_cons (pv 3) pa_nil))) (pg_tup rfl (pgs_cons (pg_name (i := 4) scLaw.nd rfl (Or.inl rfl)) (pgs_cons (pg_name (i := 5) scLaw.nd rfl (Or.inr rfl)) pgs_nil))))
    (pss_cons (ps_mid (ps_if (PW.pt (pw_or (pt_cmpR op_isnot_bl (pe_has M.ishouse hr (by decide) (pa_cons (pv 4) pa_nil)) pe_bl (nomark _)) (pw_or1 (pt_cmpR op_isnot_bl (pe_has M.ishouse hr (by decide) (pa_cons (pv 2) pa_nil)) pe_bl (nomark _))))) pss_never pss_nil))
    (pss_cons (ps_set (i := 6) scLaw.nd rfl (Or.inl rfl) (pe_op op_cat (pe_op op_cat (pe_op op_cat (pe_has M.callsB hr (by decide) (pa_cons (pv 4) (pa_cons pe_non pa_nil))) (pe_has M.moreB hr (by decide) (pa_cons (pv 4) pa_nil))) (pe_has M.partH hr (by decide) (pa_cons (pv 4) (pa_cons pe_non pa_nil)))) (pe_has M.partB hr (by decide) (pa_cons (pv 2) (pa_cons (pv 4) pa_nil)))))
    (pss_cons (ps_mid (ps_if (pt_cmpR (op_neNil hr.units) (pe_lc (own := [("work", 14)]) (g := gName 14) (tt := tTest (tOp (rNeD K) (tCall (spErr P w K mg base Ae 14) [] E0 (tCons (tVar 14) tNil)) (tTup (tCons (tC (.str "house")) (tCons (tVar 5) tNil))))) (te := tC (.int 1)) rfl scLaw.nd (pi_list (pv 6)) (blkOk_by (N := nLaw) (sc := defScope sLaw) (by decide +kernel)) (fun _ _ _ _ _ => pg_name (i := 14) scLaw.nd rfl (Or.inl rfl)) (fun _ _ _ _ _ => pts_one (pt_cmpR (op_neD hr.units) (pe_has LE hr (by decide) (pa_cons (pv 14) pa_nil)) (pe_tup (pa_cons pe_str (pa_cons (pv 5) pa_nil))) (nomark _))) (fun _ _ _ _ _ => pe_int)) (pe_lst pa_nil) (nomark _)) pss_never pss_nil))
    (pss_cons (ps_set (i := 7) scLaw.nd rfl (Or.inr rfl) (pe_has M.pick hr (by decide) (pa_cons (pv 1) (pa_cons (pw_lst (pw_cons pw_non (pw_cons (pw_tup pw_nil) (pw_cons (pw_tup (pw_cons pw_int (pw_cons pw_int pw_nil))) (pw_cons (pw_tup (pw_cons pw_int (pw_cons pw_int (pw_cons pw_int pw_nil)))) (pw_cons (pw_tup (pw_cons pw_int (pw_cons pw_int (pw_cons pw_int pw_nil)))) (pw_cons (pw_lstE (pw_cons pw_int (pw_cons pw_int (pw_cons pw_int pw_nil)))) (pw_cons (pw_tup (pw_cons pw_int (pw_cons pw_bl (pw_cons pw_int pw_nil)))) (pw_cons (pw_tup (pw_cons pw_int (pw_cons pw_int (pw_cons pw_int (pw_cons pw_int pw_nil))))) (pw_cons pw_str pw_nil)))))))))) pa_nil))))
    (pss_cons (ps_set (i := 6) scLaw.nd rfl (Or.inl rfl) (pl_lstF (pl_consF (pe_lamFN (fv := ["house", "turn"]) (k := 14) (P := pL) (t := tR2 2 7 (COdd K pT pA (Ae.c .t))) TB (hcd.trans ec) (lamZ_by (by show lamZB nLaw (defScope sLaw) _ = true; decide +kernel)) ⟨escZ_by (by show escZB nLaw _ = true; decide +kernel), fun _ _ _ _ _ => rfl, fun A' outer' s' H' E' q f' c' cl hr' => pe_imp (pe_hasX M.ismemO hr' (by decide) (L2.takes_of (E := E') rfl rfl rfl rfl) (pa_cons (pv 2) (pa_cons (pv 7) pa_nil))) (fun _ _ _ ⟨v, u, h, h', c⟩ => ⟨v, h, u, h', v, u, rfl, c⟩)⟩ (by decide +kernel)) (pl_consF (pe_lamFD (fv := ["house", "turn"]) (k := 14) (P := pL) (t := tR2 2 7 (COdd K pT pA (Ae.c .t))) TB (hcd.trans ec) (lamZ_by (by show lamZB nLaw (defScope sLaw) _ = true; decide +kernel)) ⟨escZ_by (by show escZB nLaw _ = true; decide +kernel), ⟨"a", rfl, fun _ _ _ _ _ _ => ⟨_, rfl, fun _ => rfl⟩⟩, fun A' outer' s' H' E' q f' c' cl hr' => pe_imp (pe_hasX M.likesO hr' (by decide) (L2.takes_of (E := E') rfl rfl rfl rfl) (pa_cons (pv 2) (pa_cons (pv 7) pa_nil))) (fun _ _ _ ⟨v, u, h, h', c⟩ => ⟨v, h, u, h', v, u, rfl, c⟩)⟩ (by decide +kernel)) pl_nilF))))
    (pss_cons (ps_set (i := 6) scLaw.nd rfl (Or.inl rfl) (pe_mcatF (pv 6) (pl_lstF (pl_consF (pe_lamFD (fv := ["house", "turn"]) (k := 14) (P := pL) (t := tR2 2 7 (COdd K pT pA (Ae.c .t))) TB (hcd.trans ec) (lamZ_by (by show lamZB nLaw (defScope sLaw) _ = true; decide +kernel)) ⟨escZ_by (by show escZB nLaw _ = true; decide +kernel), ⟨"b", rfl, fun _ _ _ _ _ _ => ⟨_, rfl, fun _ => rfl⟩⟩, fun A' outer' s' H' E' q f' c' cl hr' => pe_imp (pe_hasX M.stayersO hr' (by decide) (L2.takes_of (E := E') rfl rfl rfl rfl) (pa_cons (pv 2) (pa_cons (pv 7) pa_nil))) (fun _ _ _ ⟨v, u, h, h', c⟩ => ⟨v, h, u, h', v, u, rfl, c⟩)⟩ (by decide +kernel)) (pl_consF (pe_lamFD (fv := ["house", "turn"]) (k := 14) (P := pL) (t := tR2 2 7 (COdd K pT pA (Ae.c .t))) TB (hcd.trans ec) (lamZ_by (by show lamZB nLaw (defScope sLaw) _ = true; decide +kernel)) ⟨escZ_by (by show escZB nLaw _ = true; decide +kernel), ⟨"c", rfl, fun _ _ _ _ _ _ => ⟨_, rfl, fun _ => rfl⟩⟩, fun A' outer' s' H' E' q f' c' cl hr' => pe_imp (pe_hasX M.ringsO hr' (by decide) (L2.takes_of (E := E') rfl rfl rfl rfl) (pa_cons (pv 2) (pa_cons (pv 7) pa_nil))) (fun _ _ _ ⟨v, u, h, h', c⟩ => ⟨v, h, u, h', v, u, rfl, c⟩)⟩ (by decide +kernel)) pl_nilF)))))
    (pss_cons (ps_mid (ps_if (pt_cmpR (op_neD hr.units) (pe_lcL (own := [("work", 14)]) (g := gName 14) (te := tCall (spErr P w K mg base Ae 14) [] E0 (tCons (tVar 14) tNil)) rfl scLaw.nd (fun _ => rfl) (pi_list (pv 6)) (blkOk_by (N := nLaw) (sc := defScope sLaw) (by decide +kernel)) (by unfold Plain; decide +kernel) (fun _ _ _ _ _ => pg_name (i := 14) scLaw.nd rfl (Or.inl rfl)) (fun _ _ _ _ _ => pe_has LE hr (by decide) (pa_cons (pv 14) pa_nil))) (pe_op op_rep (pe_lst (pa_cons pe_str pa_nil)) pe_int) (nomark _)) pss_never pss_nil))
    (pss_cons (ps_set (i := 3) scLaw.nd rfl (Or.inl rfl) (pw_lst (pw_cons (pw_tup (pw_cons pw_non (pw_cons pw_non pw_nil))) (pw_cons (pw_tup (pw_cons (pw_lstE (pw_cons pw_int pw_nil)) (pw_cons pw_non pw_nil))) (pw_cons (pw_tup (pw_cons (pw_tup (pw_cons pw_int pw_nil)) (pw_cons pw_int pw_nil))) (pw_cons (pw_tup (pw_cons (pw_tup (pw_cons pw_int (pw_cons pw_bl pw_nil))) (pw_cons pw_int pw_nil))) (pw_cons (pw_tup (pw_cons (pw_tup (pw_cons pw_int (pw_cons pw_int (pw_cons pw_non pw_nil)))) (pw_cons pw_int pw_nil))) (pw_cons (pw_tup (pw_cons (pw_rep (pw_tup (pw_cons pw_int pw_nil))) (pw_cons pw_non pw_nil))) pw_nil))))))))
    (pss_cons (ps_asg (pe_has M.pick hr (by decide) (pa_cons (pv 1) (pa_cons (pv 3) pa_nil))) (pg_tup rfl (pgs_cons (pg_name (i := 8) scLaw.nd rfl (Or.inr rfl)) (pgs_cons (pg_name (i := 9) scLaw.nd rfl (Or.inl rfl)) pgs_nil))))
    (pss_cons (ps_mid (ps_if (pt_cmpR (op_neD hr.units) (pe_lend (k := 16) mE FE.kp (FE.bindsN (fun _ _ _ _ _ _ us hl => match us, hl with | [_], _ => rfl)) okE hr (by decide) rfl (fun _ => rfl) (pe_lamEN (k := 14) (P := pL) (t := tR2 2 8 (CRow K pT pA (Ae.c .r))) TB (hcd.trans ec) (lamZ_by (by show lamZB nLaw (defScope sLaw) _ = true; decide +kernel)) ⟨escZ_by (by show escZB nLaw _ = true; decide +kernel), fun _ _ _ _ _ => rfl, fun A' outer' s' H' E' q f' c' cl hr' => pe_imp (pe_hasX M.madeO hr' (by decide) (L2.takes_of (E := E') rfl rfl rfl rfl) (pa_cons (pv 2) (pa_cons (pv 8) pa_nil))) (fun _ _ _ ⟨v, u, h, h', c⟩ => ⟨v, h, u, h', v, u, rfl, c⟩)⟩)) (pe_tup (pa_cons pe_str (pa_cons (pv 9) pa_nil))) (nomark _)) pss_never pss_nil))
    (pss_cons (ps_par (i := 10) (j := 11) (by rfl) scLaw.nd rfl rfl (by decide) rfl rfl (pa_cons (pq_house (pq_pcons (pq_circ M.lcirc hr) (pq_pcons (pq_turn (pq_cons (pq_cons (pq_cons (pq_cons (pq_cons (pq_cons (pq_cons (pq_cons pq_nil))))))))) pq_pnil))) (pa_cons (pq_house (pq_pcons (pq_turn (pq_cons (pq_cons pq_nil))) pq_pnil)) pa_nil)) (by rfl))
    (pss_cons (ps_mid (ps_if (pt_cmpR op_eq (pe_has M.taken hr (by decide) (pa_cons (pv 1) (pa_cons pe_int pa_nil))) pe_int (nomark _)) (pss_cons (ps_set (i := 6) scLaw.nd rfl (Or.inl rfl) (pe_op op_cat (pe_has M.callsG hr (by decide) (pa_cons (pv 10) (pa_cons (pe_tupRgP rfl rfl B.tuple (prg_1 rfl B.range pe_int)) pa_nil))) (pe_has M.partG hr (by decide) (pa_cons (pv 10) (pa_cons (pv 10) pa_nil))))) (pss_one (ps_mid (ps_if (pt_cmpR (op_neNil hr.units) (pe_lc (own := [("work", 14)]) (g := gName 14) (tt := tTest (tOp (rNeD K) (tCall (spErr P w K mg base Ae 14) [] E0 (tCons (tVar 14) tNil)) (tTup (tCons (tC (.str "many")) (tCons (tC (.int 5040)) tNil))))) (te := tC (.int 1)) rfl scLaw.nd (pi_list (pv 6)) (blkOk_by (N := nLaw) (sc := defScope sLaw) (by decide +kernel)) (fun _ _ _ _ _ => pg_name (i := 14) scLaw.nd rfl (Or.inl rfl)) (fun _ _ _ _ _ => pts_one (pt_cmpR (op_neD hr.units) (pe_has LE hr (by decide) (pa_cons (pv 14) pa_nil)) (pe_tup (pa_cons pe_str (pa_cons pe_int pa_nil))) (nomark _))) (fun _ _ _ _ _ => pe_int)) (pe_lst pa_nil) (nomark _)) pss_never pss_nil)))) pss_nil))
    (pss_cons (ps_mid (ps_if (pt_cmpR (op_neNil hr.units) (pe_lc (own := [("work", 14)]) (g := gName 14) (tt := tTest (tOp (rNeD K) (tCall (spErr P w K mg base Ae 14) [] E0 (tCons (tVar 14) tNil)) (tC (.str "unlike")))) (te := tC (.int 1)) rfl scLaw.nd (pi_list (pe_has M.partU hr (by decide) (pa_cons (pv 10) (pa_cons (pv 11) pa_nil)))) (blkOk_by (N := nLaw) (sc := defScope sLaw) (by decide +kernel)) (fun _ _ _ _ _ => pg_name (i := 14) scLaw.nd rfl (Or.inl rfl)) (fun _ _ _ _ _ => pts_one (pt_cmpR (op_neD hr.units) (pe_has LE hr (by decide) (pa_cons (pv 14) pa_nil)) pe_str (nomark _))) (fun _ _ _ _ _ => pe_int)) (pe_lst pa_nil) (nomark _)) pss_never pss_nil))
    (pss_cons (ps_asg (pe_tup (pa_cons (pq_house (pq_pcons (pq_turn (pq_cons (pq_cons (pq_cons pq_nil)))) pq_pnil)) (pa_cons (pq_house (pq_pcons (pq_turn (pq_cons (pq_cons (pq_cons pq_nil)))) pq_pnil)) pa_nil))) (pg_tup rfl (pgs_cons (pg_name (i := 12) scLaw.nd rfl (Or.inl rfl)) (pgs_cons (pg_name (i := 13) scLaw.nd rfl (Or.inl rfl)) pgs_nil))))
    (pss_cons (ps_mid (ps_if (pt_cmpR (op_neD hr.units) (pe_lc (own := [("work", 14)]) (g := gName 14) (tt := tYes) (te := tCall (spErr P w K mg base Ae 14) [] E0 (tCons (tVar 14) tNil)) rfl scLaw.nd (pi_list (pe_has M.partN hr (by decide) (pa_cons (pv 12) (pa_cons (pv 13) pa_nil)))) (blkOk_by (N := nLaw) (sc := defScope sLaw) (by decide +kernel)) (fun _ _ _ _ _ => pg_name (i := 14) scLaw.nd rfl (Or.inl rfl)) (fun _ _ _ _ _ => pts_nil) (fun _ _ _ _ _ => pe_has LE hr (by decide) (pa_cons (pv 14) pa_nil))) (pe_lst (pa_cons pe_str (pa_cons pe_str (pa_cons pe_str (pa_cons pe_str pa_nil))))) (nomark _)) pss_never pss_nil))
    (pss_cons (ps_mid (ps_if (pt_cmpR (op_neD hr.units) (pe_lst (pa_cons (pe_has M.sharp hr (by decide) (pa_cons (pv 10) pa_nil)) (pa_cons (pe_has M.rank hr (by decide) (pa_cons (pv 10) pa_nil)) (pa_cons (pe_has M.trans hr (by decide) (pa_cons (pv 10) pa_nil)) (pa_cons (pe_callB call_len_seq rfl B.len PySem.boot_len (pa_cons (pe_has M.parts hr (by decide) (pa_cons (pv 10) pa_nil)) pa_nil)) pa_nil))))) (pe_lst (pa_cons pe_bl (pa_cons pe_int (pa_cons pe_bl (pa_cons pe_int pa_nil))))) (nomark _)) pss_never pss_nil))
    (pss_one (ps_ret (pe_and (pe_cmpR op_is_bl (pe_has M.within hr (by decide) (pa_cons (pv 12) (pa_cons (pv 13) pa_nil))) pe_bl (nomark _)) (pe_one (pe_cmpR op_is_bl (pe_has M.within hr (by decide) (pa_cons (pv 2) (pa_cons (pv 13) pa_nil))) pe_bl (nomark _))))))))))))))))))))))))))))))))), ?_⟩)
  · obtain ⟨a, ns, rfl, _⟩ := h
    rfl
  · obtain ⟨sa, ns, rfl, hs, gT, gA, tL, tC, tP, tM, q⟩ := h
    refine ⟨_, rfl, ⟨(by show 4 ≤ sizeLine; decide), fun r hr0 => ?_⟩⟩
    have z1 := (Kp.refl H).new hr0 (o := .lst [.ref sa, .int 0, .int 5710, .int 0])
    have ra1 : RowAt (upd H r (.lst [.ref sa, .int 0, .int 5710, .int 0])) r sa := ⟨0, 5710, 0, upd_same, Int.le_refl _⟩
    have st1 : St10 K (upd H r (.lst [.ref sa, .int 0, .int 5710, .int 0])) r sa pT pA pL pC pP pM (lamQ "law" sLaw) := ⟨⟨ra1, ns, z1.sqL hs⟩, z1.tabG gT, z1.tabG gA, tabL_kp z1 (tabL0 tL), tabL_kp z1 (tabL0 tC), tabL_kp z1 (tabL0 tP), tabL_kp z1 (tabL0 tM)⟩
    generalize upd H r (.lst [.ref sa, .int 0, .int 5710, .int 0]) = H1 at st1 ⊢
    clear z1 ra1 hs gT gA tL tC tP tM hr0
    -- the house
    refine fun hv H2 z2 hh2 => ?_
    have st2 := st1.kp z2
    clear st1 z2
    -- the odd values
    refine fun p0 H3 v0 z3 n3 e3 i3 => ?_
    have st3 := st2.kp z3
    have hh3 := z3.house hh2
    clear st2 hh2 z3 n3
    refine ⟨p0, v0, odds0, rfl, e3, i3, by decide, fun p1 H4 v1 z4 n4 e4 i4 => ?_⟩
    have st4 := st3.kp z4
    have hh4 := z4.house hh3
    clear st3 hh3 z4 n4 e3 i3
    refine ⟨p1, v1, _, rfl, e4, i4, by decide, fun p2 H5 v2 z5 n5 e5 i5 => ?_⟩
    have st5 := st4.kp z5
    have hh5 := z5.house hh4
    clear st4 hh4 z5 n5 e4 i4
    refine ⟨p2, v2, _, rfl, e5, i5, by decide, fun p3 H6 v3 z6 n6 e6 i6 => ?_⟩
    have st6 := st5.kp z6
    have hh6 := z6.house hh5
    clear st5 hh5 z6 n6 e5 i5
    refine ⟨p3, v3, _, rfl, e6, i6, by decide, fun p4 H7 v4 z7 n7 e7 i7 => ?_⟩
    have st7 := st6.kp z7
    have hh7 := z7.house hh6
    clear st6 hh6 z7 n7 e6 i6
    refine ⟨p4, v4, _, rfl, e7, i7, by decide, fun p5 H8 v5 z8 n8 e8 i8 => ?_⟩
    have st8 := st7.kp z8
    have hh8 := z8.house hh7
    clear st7 hh7 z8 n8 e7 i7
    refine ⟨p5, v5, _, rfl, e8, i8, by decide, fun p6 H9 v6 z9 n9 e9 i9 => ?_⟩
    have st9 := st8.kp z9
    have hh9 := z9.house hh8
    have nr9 : p6 ≠ r := fun e => by
      obtain ⟨xs, ex⟩ := st8.dr.1.lst
      rw [e] at n9
      rw [ex] at n9
      cases n9
    clear st8 hh8 z9 n9 e8 i8
    -- some, word
    refine ⟨_, rfl, _, rfl, r, sa, p6, v6, rfl, st9.dr, nr9, SqL.of e9, fun e => ?_, ?_, fun x H10 z10 ra10 mx => ?_⟩
    · have := i9.len
      rw [e] at this
      cases this
    · rw [i9.len]
      decide
    obtain ⟨d, md, id⟩ := dws_mem i9 mx
    have ok := List.all_eq_true.mp odds_ok d md
    rw [Bool.and_eq_true] at ok
    have id := IsDw.kb z10 st9.dr.1 d x ok.1 id
    have st10 := st9.kb z10 ra10
    have hh10 := NS.Tup.house z10.tup hh9
    clear st9 hh9 z10 ra10 e9 i9 mx md nr9
    obtain ⟨d0, wd, rfl, fd0, cw⟩ := pair_of ok.2
    obtain ⟨a10, xv, u, rfl, s10, ix, iu⟩ := dw_pair id
    obtain rfl := dw_str iu
    refine ⟨a10, _, rfl, s10, rfl, _, _, rfl, _, _, rfl, rfl, ?_⟩
    clear ok s10 iu id
    -- is_house
    have hiH : IsH 3 [[1, 2, 0], [1, 0, 2]] := ⟨by decide, by decide, by decide, by decide, isB_all (by decide)⟩
    refine ⟨fun σ' H' => σ' = [some (.ref sa), some (.ref r), some hv, some (.ref p6), some xv, some (.str wd), none, none, none, none, none, none, none, none, none] ∧ Kp H10 H', ?c1, ?n1⟩
    case n1 =>
      refine ⟨_, rfl, xv, .str wd, rfl, dw_fault ix fd0, st10.gT, st10.gA, fun H11 z11 => ?_⟩
      refine ⟨_, _, rfl, rfl, _, rfl, ifF (A := _) (B := _) (by rfl) ?_⟩
      refine ⟨_, rfl, hv, .non, rfl, faultX_house (z11.house hh10) hiH, z11.tabG st10.gT, z11.tabG st10.gA, fun H12 z12 => ?_⟩
      refine ⟨_, _, rfl, rfl, _, rfl, ?_⟩
      exact ⟨rfl, z11.trans z12⟩
    rintro σ' H11 ⟨rfl, z11⟩
    have st11 := st10.kp z11
    have hh11 := z11.house hh10
    have ix := ix.kp z11
    clear st10 hh10 z11
    -- the calls of some
    refine ⟨_, rfl, xv, .non, .house wd, rfl, st11.tC, ref_bad ix fd0 st11.gT st11.gA, ref_bad2 ix fd0 st11.gT st11.gA, fun p1 us1 H12 z12 t12 e12 w12 => ?_⟩
    have st12 := st11.c ne z12 t12
    have u12 := KpL.up z12 t12
    have ix12 := IsDw.dk u12.dk _ _ ix
    have hh12 := NS.Tup.house u12.tup hh11
    clear st11 ix hh11 z12 t12 u12
    refine ⟨_, rfl, xv, .house wd, rfl, st12.tM, ref_bad ix12 fd0 st12.gT st12.gA, fun p2 us2 H13 z13 t13 e13 w13 => ?_⟩
    have st13 := st12.m ne z13 t13
    have u13 := KpL.up z13 t13
    have ix13 := IsDw.dk u13.dk _ _ ix12
    have hh13 := NS.Tup.house u13.tup hh12
    have e12 := u13.k _ _ e12 (fun _ q => by cases q)
    have w12 := works_up w12 u13
    clear st12 ix12 hh12 z13 t13 u13
    have l12 : us1.length = 14 := w12.length
    have l13 : us2.length = 9 := w13.length
    refine ⟨p1, p2, us1, us2, rfl, rfl, e12, e13, by rw [l12, l13, sizeLine_eq]; decide, fun p3 n3 => ?_⟩
    have z14 := (Kp.refl H13).new n3 (o := .lst (us1 ++ us2))
    have e14 : (upd H13 p3 (.lst (us1 ++ us2))) p3 = some (.lst (us1 ++ us2)) := upd_same
    have w14 : Works P w K mg base Ae (upd H13 p3 (.lst (us1 ++ us2))) (us1 ++ us2) (List.replicate 14 (.house wd) ++ List.replicate 9 (.house wd)) := pr_app (works_up w12 z14.up) (works_up w13 z14.up)
    have l14 : (us1 ++ us2).length = 23 := by rw [List.length_append, l12, l13]
    have st14 := st13.kp z14
    have ix14 := ix13.kp z14
    have hh14 := z14.house hh13
    generalize upd H13 p3 (.lst (us1 ++ us2)) = H14 at z14 e14 w14 st14 ix14 hh14 ⊢
    generalize us1 ++ us2 = us3 at e14 w14 l14 ⊢
    clear st13 ix13 hh13 z14 e12 e13 w12 w13 l12 l13 n3
    refine ⟨_, rfl, xv, .non, .house wd, .house wd, rfl, st14.tP, refW_of (ref_bad2 ix14 fd0 st14.gT st14.gA), ref_bad2 ix14 fd0 st14.gT st14.gA, fun p4 us4 H15 z15 t15 e15 w15 => ?_⟩
    have st15 := st14.p ne z15 t15
    have u15 := KpL.up z15 t15
    have ix15 := IsDw.dk u15.dk _ _ ix14
    have hh15 := NS.Tup.house u15.tup hh14
    have e14 := u15.k _ _ e14 (fun _ q => by cases q)
    have w14 := works_up w14 u15
    clear st14 ix14 hh14 z15 t15 u15
    have l15 : us4.length = 4 := w15.length
    refine ⟨p3, p4, us3, us4, rfl, rfl, e14, e15, by rw [l14, l15, sizeLine_eq]; decide, fun p5 n5 => ?_⟩
    have z16 := (Kp.refl H15).new n5 (o := .lst (us3 ++ us4))
    have e16 : (upd H15 p5 (.lst (us3 ++ us4))) p5 = some (.lst (us3 ++ us4)) := upd_same
    have w16 := pr_app (works_up w14 z16.up) (works_up w15 z16.up)
    have l16 : (us3 ++ us4).length = 27 := by rw [List.length_append, l14, l15]
    have st16 := st15.kp z16
    have ix16 := ix15.kp z16
    have hh16 := z16.house hh15
    generalize upd H15 p5 (.lst (us3 ++ us4)) = H16 at z16 e16 w16 st16 ix16 hh16 ⊢
    generalize us3 ++ us4 = us5 at e16 w16 l16 ⊢
    clear st15 ix15 hh15 z16 e14 e15 w14 w15 l14 l15 n5
    have hg16 : HG K pT pA H16 hv 3 [[1, 2, 0], [1, 0, 2]] := ⟨hh16, hiH, st16.gT, st16.gA⟩
    refine ⟨_, rfl, _, rfl, hv, xv, .house wd, .house wd, rfl, st16.tP, refW_of (ref_badP hg16 ix16 fd0), ref_badP hg16 ix16 fd0, fun p6' us6 H17 z17 t17 e17 w17 => ?_⟩
    have st17 := st16.p ne z17 t17
    have u17 := KpL.up z17 t17
    have hh17 := NS.Tup.house u17.tup hh16
    have e16 := u17.k _ _ e16 (fun _ q => by cases q)
    have w16 := works_up w16 u17
    clear st16 ix16 hh16 hg16 z17 t17 u17
    have l17 : us6.length = 4 := w17.length
    refine ⟨p5, p6', us5, us6, rfl, rfl, e16, e17, by rw [l16, l17, sizeLine_eq]; decide, fun p7 n7 => ?_⟩
    have z18 := (Kp.refl H17).new n7 (o := .lst (us5 ++ us6))
    have e18 : (upd H17 p7 (.lst (us5 ++ us6))) p7 = some (.lst (us5 ++ us6)) := upd_same
    have w18 := pr_app (works_up w16 z18.up) (works_up w17 z18.up)
    have l18 : (us5 ++ us6).length = 31 := by rw [List.length_append, l16, l17]
    have st18 := st17.kp z18
    have hh18 := z18.house hh17
    generalize upd H17 p7 (.lst (us5 ++ us6)) = H18 at z18 e18 w18 st18 hh18 ⊢
    generalize us5 ++ us6 = us7 at e18 w18 l18 ⊢
    clear st17 hh17 z18 e16 e17 w16 w17 l16 l17 n7
    show gName 6 (V.ref p7) _ _ _
    -- all say so
    refine ⟨fun σ' H' => σ' = [some (.ref sa), some (.ref r), some hv, some (.ref p6), some xv, some (.str wd), some (.ref p7), none, none, none, none, none, none, none, none] ∧ Kp H18 H', ?c2, ?n2⟩
    case n2 =>
      refine ⟨_, rfl, p7, rfl, ⟨_, SqL.of e18⟩, fun D hD => ?_⟩
      refine lcNoneL (SqL.of e18) hD (by rw [l18, sizeLine_eq]; decide) (fun x hx H19 Q1 Q0 z19 q0 => ?_) (fun H19 z19 hD19 => ?_)
      · obtain ⟨o, ho, eo⟩ := works_in w18 z19.up hx
        have eo2 : o = .house wd := by
          simp only [List.mem_append, List.mem_replicate, List.mem_cons, List.not_mem_nil, or_false] at ho
          rcases ho with ((⟨_, h⟩ | ⟨_, h⟩) | h | h | h | h) | h | h | h | h <;> exact h
        subst eo2
        refine ⟨rfl, _, rfl, x, .house wd, rfl, eo, fun y H20 z20 oy => ⟨_, rfl, (by show 2 ≤ sizeLine; decide), fun p21 n21 => ?_⟩⟩
        have z21 := (Kp.refl H20).new n21 (o := .tup [.str "house", .str wd])
        exact out_ne (o := .house wd) (outAt_kp oy z21) trivial (.tup (SqT.of upd_same) (.cons (.str _) (.cons (.str _) .nil))) cw ⟨_, rfl, q0 _ (z20.trans z21)⟩
      · refine ⟨(by show 0 ≤ sizeLine; decide), fun p20 n20 => ⟨D, p20, [], rfl, rfl, SqL.of ?_, SqL.of upd_same, ?_⟩⟩
        · rw [upd_ne fun e => by rw [← e, hD19] at n20; cases n20]
          exact hD19
        exact ⟨_, rfl, ifF (A := _) (B := _) rfl ⟨rfl, z19.new n20⟩⟩
    rintro σ' H19 ⟨rfl, z19⟩
    have st19 := st18.kp z19
    have hh19 := z19.house hh18
    clear st18 hh18 z19 e18 w18 l18 cw fd0
    -- an odd turn
    refine ⟨_, rfl, fun p20 H20 v20 z20 n20 e20 i20 => ?_⟩
    have st20 := st19.kp z20
    have hh20 := z20.house hh19
    have nr20 : p20 ≠ r := fun e => by
      obtain ⟨xs, ex⟩ := st19.dr.1.lst
      rw [e] at n20
      rw [ex] at n20
      cases n20
    clear st19 hh19 z20 n20
    refine ⟨r, sa, p20, v20, rfl, st20.dr, nr20, SqL.of e20, fun e => ?_, ?_, fun tv H21 z21 ra21 mx => ?_⟩
    · have := i20.len
      rw [e] at this
      cases this
    · rw [i20.len]
      decide
    obtain ⟨dt, mdt, idt⟩ := dws_mem i20 mx
    have okt := List.all_eq_true.mp oddT_ok dt mdt
    rw [Bool.and_eq_true] at okt
    have it21 := IsDw.kb z21 st20.dr.1 dt tv okt.1 idt
    have nt : turnD 3 dt = false := by
      have := okt.2
      rwa [Bool.not_eq_true'] at this
    have st21 := st20.kb z21 ra21
    have hh21 := NS.Tup.house z21.tup hh20
    clear st20 hh20 z21 ra21 e20 i20 mx mdt okt idt nr20
    -- four calls
    refine ⟨st21.tL, fun p22 vs22 H22 z22 t22 e22 m22 => ?_⟩
    have st22 := st21.l ne z22 t22
    have u22 := KpL.up z22 t22
    have it22 := IsDw.dk u22.dk _ _ it21
    have hh22 := NS.Tup.house u22.tup hh21
    clear st21 it21 hh21 z22 u22
    have l22 : vs22.length = 2 := m22.length
    refine ⟨p22, vs22, _, rfl, e22, m22, by rw [l22]; simp, t22, fun p23 vs23 H23 z23 t23 e23 m23 => ?_⟩
    have st23 := st22.l ne z23 t23
    have u23 := KpL.up z23 t23
    have it23 := IsDw.dk u23.dk _ _ it22
    have hh23 := NS.Tup.house u23.tup hh22
    clear st22 it22 hh22 z23 u23 t22 t23 e22 m22 l22
    have l23 : vs23.length = 4 := m23.length
    show gName 6 (V.ref p23) _ _ _
    -- all of them say "turn"
    refine ⟨fun σ' H' => σ' = [some (.ref sa), some (.ref r), some hv, some (.ref p6), some xv, some (.str wd), some (.ref p23), some tv, none, none, none, none, none, none, none] ∧ Kp H23 H', ?c3, ?n3⟩
    case n3 =>
      refine ⟨_, rfl, p23, rfl, ⟨_, SqL.of e23⟩, fun D H24 nD L => ?_⟩
      obtain ⟨L0, eU, nD0⟩ := lent_less nD L
      generalize cutH D H24 = H0 at L0 eU nD0
      subst eU
      have hg23 : HG K pT pA H23 hv 3 [[1, 2, 0], [1, 0, 2]] := ⟨hh23, hiH, st23.gT, st23.gA⟩
      refine lcFL (Wlk.lst (K := K) (SqL.of (L0.ext _ _ e23))) nD0 (by rw [l23, sizeLine_eq]; decide) (fun _ y _ => y = .str "turn") (fun _ _ _ _ _ e => e) (fun i x H25 Q1 hi z25 hx q1 => ?_) (fun x H' Q Q' => mono_name x _ H' Q Q') (fun ys H25 z25 hy hp => ⟨fun c m => ?_, ?_⟩)
      · obtain ⟨t, ht, mt⟩ := pr_get m23 hx
        have et : t = tR2 2 7 (COdd K pT pA (Ae.c .t)) := by
          have mm := List.mem_of_getElem? ht
          simp only [List.mem_append, List.mem_cons, List.not_mem_nil, or_false] at mm
          rcases mm with (h | h) | h | h <;> exact h
        subst et
        have es : EscAt P w K mg base Ae 14 H25 x .turn := EscAt.up (made_escF mt L0 (Up.refl H23) (envC_inj _ _ _ _ _) rfl (fun y e => cell_has e) (fun y e => absurd rfl (scLaw.nofree _ (PySem.mem_of_lookup e))) (fun i y my ei _ => by
          rcases law_fv ei my with e | e <;> subst e <;> exact ⟨_, rfl⟩) (fun H3 z3 => does2 (ref_odd hg23 it23 nt (by decide)) rfl rfl z3)) z25.up
        exact ⟨rfl, _, rfl, x, .turn, rfl, es, fun y H26 z26 oy => q1 y H26 z26 oy⟩
      · rw [lent_st L0 z25 c m, upd_ne fun e => ?_]
        obtain ⟨ob, u, h1, _⟩ := L0.cells c m
        rw [e, nD0] at h1
        cases h1
      · rw [l23] at hp
        have ey : ys = [.str "turn", .str "turn", .str "turn", .str "turn"] := paired_map (f := fun _ => V.str "turn") (fun _ _ e => e) hp
        subst ey
        obtain ⟨H26, eH, z26, hD⟩ := lent_end L0 z25 hy
        rw [eH]
        refine ⟨(by show 1 ≤ sizeLine; decide), fun p27 n27 => ⟨p27, 4, _, rfl, rfl, upd_same, by decide, by decide, (by show 4 ≤ sizeLine; decide), fun p28 n28 => ?_⟩⟩
        have z27 := z26.new n27 (o := .lst [.str "turn"])
        have z28 := z27.new n28 (o := .lst (List.replicate (4 : Int).toNat [V.str "turn"]).flatten)
        have hD28 : upd (upd H26 p27 (.lst [.str "turn"])) p28 (.lst (List.replicate (4 : Int).toNat [V.str "turn"]).flatten) D = some (.lst [.str "turn", .str "turn", .str "turn", .str "turn"]) := by
          have d27 : upd H26 p27 (.lst [.str "turn"]) D = some (.lst [.str "turn", .str "turn", .str "turn", .str "turn"]) := by
            rw [upd_ne (ne_of_none hD n27)]; exact hD
          rw [upd_ne (ne_of_none d27 n28)]; exact d27
        refine ne_same (d := .list [.str "turn", .str "turn", .str "turn", .str "turn"]) (.lst (SqL.of hD28) (.cons (.str _) (.cons (.str _) (.cons (.str _) (.cons (.str _) .nil))))) (.lst (SqL.of upd_same) (.cons (.str _) (.cons (.str _) (.cons (.str _) (.cons (.str _) .nil))))) (by decide +kernel) ?_
        exact ⟨_, rfl, ifF (A := _) (B := _) rfl ⟨rfl, z28⟩⟩
    rintro σ' H24 ⟨rfl, z24⟩
    have st24 := st23.kp z24
    have hh24 := z24.house hh23
    clear st23 hh23 z24 m23 e23 l23 it23 nt
    -- an odd row
    refine fun p25 H25 v25 z25 n25 e25 i25 => ?_
    have st25 := st24.kp z25
    have hh25 := z25.house hh24
    have nr25 : p25 ≠ r := fun e => by
      obtain ⟨xs, ex⟩ := st24.dr.1.lst
      rw [e] at n25
      rw [ex] at n25
      cases n25
    clear st24 hh24 z25 n25
    refine ⟨_, rfl, _, rfl, r, sa, p25, v25, rfl, st25.dr, nr25, SqL.of e25, fun e => ?_, ?_, fun x H26 z26 ra26 mx => ?_⟩
    · have := i25.len
      rw [e] at this
      cases this
    · rw [i25.len]
      decide
    obtain ⟨dr, mdr, idr⟩ := dws_mem i25 mx
    have okr := List.all_eq_true.mp oddR_ok dr mdr
    rw [Bool.and_eq_true] at okr
    have ir26 := IsDw.kb z26 st25.dr.1 dr x okr.1 idr
    have st26 := st25.kb z26 ra26
    have hh26 := NS.Tup.house z26.tup hh25
    clear st25 hh25 z26 ra26 e25 i25 mx mdr idr nr25
    obtain ⟨dl, so, rfl, rd⟩ := row_of okr.2
    obtain ⟨a26, lv, u26, rfl, s26, il, iu⟩ := dw_pair ir26
    obtain rfl := dw_spot iu
    refine ⟨a26, _, rfl, s26, rfl, _, _, rfl, _, _, rfl, rfl, ?_⟩
    clear okr s26 ir26 iu
    refine ⟨fun σ' H' => σ' = [some (.ref sa), some (.ref r), some hv, some (.ref p25), some xv, some (.str wd), some (.ref p23), some tv, some lv, some (spotV so), none, none, none, none, none] ∧ St10 K H' r sa pT pA pL pC pP pM (lamQ "law" sLaw) ∧ Up H26 H', ?c4, ?n4⟩
    case n4 =>
      have hg26 : HG K pT pA H26 hv 3 [[1, 2, 0], [1, 0, 2]] := ⟨hh26, hiH, st26.gT, st26.gA⟩
      refine ⟨st26.tL, fun fl H27 eN eT T1 mf H28 L => ?_⟩
      have st27 := st26.l ne ⟨eN, eT⟩ T1
      have u27 : Up H26 H27 := KpL.up ⟨eN, eT⟩ T1
      refine ⟨.ref fl, .row (spotV so), rfl, made_esc mf L u27 (envC_inj _ _ _ _ _) rfl (fun y e => cell_has e) (fun y e => absurd rfl (scLaw.nofree _ (PySem.mem_of_lookup e))) (fun i y ei my => by
          rcases law_cl ei my with e | e | e | e <;> subst e <;> exact ⟨_, rfl⟩) (fun H3 z3 => does2 (ref_row hg26 il rd) rfl rfl z3), fun y H29 z29 oy => ⟨lent_st L z29, ?_⟩⟩
      have z30 := lent_kp L z29
      have oy2 := outAt_dk oy (dk_del (lent_cells L z29))
      refine ⟨_, rfl, (by show 2 ≤ sizeLine; decide), fun p31 n31 => ?_⟩
      have z31 := z30.new n31 (o := .tup [.str "row", spotV so])
      refine out_ne (o := .row (spotV so)) (outAt_kp oy2 ((Kp.refl _).new n31)) (rowV_spot so) (.tup (SqT.of upd_same) (.cons (.str _) (.cons (dpV (rowV_spot so)) .nil))) (cmp_spot so) ?_
      exact ⟨_, rfl, ifF (A := _) (B := _) rfl ⟨rfl, st27.kp z31, u27.trans z31.up⟩⟩
    rintro σ' H27 ⟨rfl, st27, u27⟩
    have hh27 := NS.Tup.house u27.tup hh26
    clear st26 hh26 u27 il rd
    -- a great house, a small one
    refine fun gv H28 z28 hg28 => ?_
    refine fun tw H29 z29 ht29 => ⟨gv, tw, rfl, ?_⟩
    have st29 := st27.kp (z28.trans z29)
    have hh29 := (z28.trans z29).house hh27
    have hg29 := z29.house hg28
    clear st27 hh27 hg28 z28 z29
    -- too many
    refine ⟨fun σ' H' => ∃ w6, σ' = [some (.ref sa), some (.ref r), some hv, some (.ref p25), some xv, some (.str wd), w6, some tv, some lv, some (spotV so), some gv, some tw, none, none, none] ∧ St10 K H' r sa pT pA pL pC pP pM (lamQ "law" sLaw) ∧ HouseAt K H' hv 3 [[1, 2, 0], [1, 0, 2]] ∧ HouseAt K H' gv 8 gr8 ∧ HouseAt K H' tw 2 [[1, 0]], ?c5, ?n5⟩
    case n5 =>
      refine ⟨_, rfl, r, sa, 12, rfl, st29.dr, by decide, by decide, fun v H30 z30 ra30 v0 v12 => ?_⟩
      have st30 := st29.kb z30 ra30
      have hh30 := NS.Tup.house z30.tup hh29
      have hg30 := NS.Tup.house z30.tup hg29
      have ht30 := NS.Tup.house z30.tup ht29
      clear st29 hh29 hg29 ht29 z30 ra30
      refine ⟨rfl, _, rfl, ?_⟩
      by_cases e0 : v = 0
      · refine ifT (A := _) (B := _) (decide_eq_true (by rw [e0])) ?_
        refine ⟨_, rfl, 8, rfl, RgOk.of_le (by decide) (by decide) (by decide) (by decide), fun q31 o31 n31 oe31 => ?_⟩
        have z31 := (Kp.refl H30).new n31 (o := .frz o31 (.tup (rgV 0 8)))
        have st31 := st30.kp z31
        have hh31 := z31.house hh30
        have hg31 := z31.house hg30
        have ht31 := z31.house ht30
        have hG31 : HG K pT pA _ gv 8 gr8 := ⟨hg31, gr8_house, st31.gT, st31.gA⟩
        clear st30 hh30 hg30 ht30
        refine ⟨gv, .ref q31, .many, rfl, st31.tC, ref_great hG31, ref_grt hG31 dw_rg8 (by decide +kernel), fun p1 us1 H32 z32 t32 e32 w32 => ?_⟩
        have st32 := st31.c ne z32 t32
        have u32 := KpL.up z32 t32
        have hh32 := NS.Tup.house u32.tup hh31
        have hg32 := NS.Tup.house u32.tup hg31
        have ht32 := NS.Tup.house u32.tup ht31
        have hG32 : HG K pT pA _ gv 8 gr8 := ⟨hg32, gr8_house, st32.gT, st32.gA⟩
        clear st31 hh31 hg31 ht31 hG31 z31 z32 t32 u32
        refine ⟨_, rfl, _, rfl, gv, gv, .many, .many, rfl, st32.tP, refW_of (ref_grP hG32 hG32), ref_grP hG32 hG32, fun p2 us2 H33 z33 t33 e33 w33 => ?_⟩
        have st33 := st32.p ne z33 t33
        have u33 := KpL.up z33 t33
        have hh33 := NS.Tup.house u33.tup hh32
        have hg33 := NS.Tup.house u33.tup hg32
        have ht33 := NS.Tup.house u33.tup ht32
        have e32 := u33.k _ _ e32 (fun _ q => by cases q)
        have w32 := works_up w32 u33
        clear st32 hh32 hg32 ht32 hG32 z33 t33 u33
        have l32 : us1.length = 14 := w32.length
        have l33 : us2.length = 4 := w33.length
        refine ⟨p1, p2, us1, us2, rfl, rfl, e32, e33, by rw [l32, l33, sizeLine_eq]; decide, fun p34 n34 => ?_⟩
        have z34 := (Kp.refl H33).new n34 (o := .lst (us1 ++ us2))
        have e34 : (upd H33 p34 (.lst (us1 ++ us2))) p34 = some (.lst (us1 ++ us2)) := upd_same
        have w34 : Works P w K mg base Ae (upd H33 p34 (.lst (us1 ++ us2))) (us1 ++ us2) (List.replicate 14 .many ++ [.many, .many, .many, .many]) := pr_app (works_up w32 z34.up) (works_up w33 z34.up)
        have l34 : (us1 ++ us2).length = 18 := by rw [List.length_append, l32, l33]
        have st34 := st33.kp z34
        have hh34 := z34.house hh33
        have hg34 := z34.house hg33
        have ht34 := z34.house ht33
        generalize upd H33 p34 (.lst (us1 ++ us2)) = H34 at z34 e34 w34 st34 hh34 hg34 ht34 ⊢
        generalize us1 ++ us2 = us3 at e34 w34 l34 ⊢
        clear st33 hh33 hg33 ht33 z34 e32 e33 w32 w33 l32 l33 n34
        show gName 6 (V.ref p34) _ _ _
        refine ⟨fun σ' H' => σ' = [some (.ref sa), some (.ref r), some hv, some (.ref p25), some xv, some (.str wd), some (.ref p34), some tv, some lv, some (spotV so), some gv, some tw, none, none, none] ∧ Kp H34 H', ?c6, ?n6⟩
        case n6 =>
          refine ⟨_, rfl, p34, rfl, ⟨_, SqL.of e34⟩, fun D hD => ?_⟩
          refine lcNoneL (SqL.of e34) hD (by rw [l34, sizeLine_eq]; decide) (fun x hx H35 Q1 Q0 z35 q0 => ?_) (fun H35 z35 hD35 => ?_)
          · obtain ⟨o, ho, eo⟩ := works_in w34 z35.up hx
            have eo2 : o = .many := by
              simp only [List.mem_append, List.mem_replicate, List.mem_cons, List.not_mem_nil, or_false] at ho
              rcases ho with ⟨_, h⟩ | h | h | h | h <;> exact h
            subst eo2
            refine ⟨rfl, _, rfl, x, .many, rfl, eo, fun y H36 z36 oy => ⟨(by show 2 ≤ sizeLine; decide), fun p37 n37 => ?_⟩⟩
            have z37 := (Kp.refl H36).new n37 (o := .tup [.str "many", .int 5040])
            exact out_ne (o := .many) (outAt_kp oy z37) trivial (.tup (SqT.of upd_same) (.cons (.str _) (.cons (.int _) .nil))) (by decide +kernel) ⟨_, rfl, q0 _ (z36.trans z37)⟩
          · refine ⟨(by show 0 ≤ sizeLine; decide), fun p36 n36 => ⟨D, p36, [], rfl, rfl, SqL.of ?_, SqL.of upd_same, ?_⟩⟩
            · rw [upd_ne fun e => by rw [← e, hD35] at n36; cases n36]
              exact hD35
            exact ⟨_, rfl, ifF (A := _) (B := _) rfl ⟨rfl, z35.new n36⟩⟩
        rintro σ' H35 ⟨rfl, z35⟩
        exact ⟨_, rfl, st34.kp z35, z35.house hh34, z35.house hg34, z35.house ht34⟩
      · refine ifF (A := _) (B := _) (decide_eq_false fun e => by cases e; exact e0 rfl) ?_
        exact ⟨_, rfl, st30, hh30, hg30, ht30⟩
    rintro σ' H30 ⟨w6, rfl, st30, hh30, hg30, ht30⟩
    clear st29 hh29 hg29 ht29
    -- unlike
    refine ⟨fun σ' H' => σ' = [some (.ref sa), some (.ref r), some hv, some (.ref p25), some xv, some (.str wd), w6, some tv, some lv, some (spotV so), some gv, some tw, none, none, none] ∧ St10 K H' r sa pT pA pL pC pP pM (lamQ "law" sLaw) ∧ HouseAt K H' hv 3 [[1, 2, 0], [1, 0, 2]] ∧ HouseAt K H' gv 8 gr8, ?c7, ?n7⟩
    case n7 =>
      have hG30 : HG K pT pA _ gv 8 gr8 := ⟨hg30, gr8_house, st30.gT, st30.gA⟩
      have hT30 : HG K pT pA _ tw 2 [[1, 0]] := ⟨ht30, tw_is, st30.gT, st30.gA⟩
      refine ⟨_, rfl, _, rfl, gv, tw, .unlike, .unlike, rfl, st30.tP, refW_of (ref_un hG30 hT30 (by decide)), ref_un hG30 hT30 (by decide), fun p31 us1 H31 z31 t31 e31 w31 => ?_⟩
      have st31 := st30.p ne z31 t31
      have u31 := KpL.up z31 t31
      have hh31 := NS.Tup.house u31.tup hh30
      have hg31 := NS.Tup.house u31.tup hg30
      clear st30 hh30 hg30 ht30 hG30 hT30 z31 t31 u31
      have l31 : us1.length = 4 := w31.length
      refine ⟨p31, rfl, ⟨_, SqL.of e31⟩, fun D hD => ?_⟩
      refine lcNoneL (SqL.of e31) hD (by rw [l31, sizeLine_eq]; decide) (fun x hx H35 Q1 Q0 z35 q0 => ?_) (fun H35 z35 hD35 => ?_)
      · obtain ⟨o, ho, eo⟩ := works_in w31 z35.up hx
        have eo2 : o = .unlike := by
          simp only [List.mem_cons, List.not_mem_nil, or_false] at ho
          rcases ho with h | h | h | h <;> exact h
        subst eo2
        refine ⟨rfl, _, rfl, x, .unlike, rfl, eo, fun y H36 z36 oy => ?_⟩
        dsimp only [tC]
        refine out_ne (o := .unlike) oy trivial (.str _) (by decide +kernel) ?_
        exact ⟨_, rfl, q0 _ z36⟩
      · refine ⟨(by show 0 ≤ sizeLine; decide), fun p36 n36 => ⟨D, p36, [], rfl, rfl, SqL.of ?_, SqL.of upd_same, ?_⟩⟩
        · rw [upd_ne fun e => by rw [← e, hD35] at n36; cases n36]
          exact hD35
        have z36 := z35.new n36 (o := .lst [])
        exact ⟨_, rfl, ifF (A := _) (B := _) rfl ⟨rfl, st31.kp z36, z36.house hh31, z36.house hg31⟩⟩
    rintro σ' H32 ⟨rfl, st32, hh32, hg32⟩
    clear st30 hh30 hg30 ht30
    -- a part, another
    refine fun pv1 H33 z33 hp33 => fun ov H34 z34 ho34 => ⟨(by show 2 ≤ sizeLine; decide), fun p35 n35 => ?_⟩
    have z35 := (Kp.refl H34).new n35 (o := .tup [pv1, ov])
    refine ⟨p35, _, rfl, SqT.of upd_same, rfl, _, _, rfl, _, _, rfl, rfl, ?_⟩
    have st35 := st32.kp ((z33.trans z34).trans z35)
    have hh35 := ((z33.trans z34).trans z35).house hh32
    have hg35 := ((z33.trans z34).trans z35).house hg32
    have hp35 := (z34.trans z35).house hp33
    have ho35 := z35.house ho34
    generalize upd H34 p35 (.tup [pv1, ov]) = H35 at st35 hh35 hg35 hp35 ho35 ⊢
    clear st32 hh32 hg32 hp33 ho34 z33 z34 z35 n35
    refine ⟨fun σ' H' => σ' = [some (.ref sa), some (.ref r), some hv, some (.ref p25), some xv, some (.str wd), w6, some tv, some lv, some (spotV so), some gv, some tw, some pv1, some ov, none] ∧ GxR.TabG H' pT ∧ GxR.TabG H' pA ∧ HouseAt K H' hv 3 [[1, 2, 0], [1, 0, 2]] ∧ HouseAt K H' gv 8 gr8 ∧ HouseAt K H' pv1 3 [[1, 2, 0]] ∧ HouseAt K H' ov 3 [[1, 0, 2]], ?c8, ?n8⟩
    case n8 =>
      obtain ⟨U1, r1⟩ := small_room (n := 3) (by decide) pt_is.is
      obtain ⟨U2, r2⟩ := small_room (n := 3) (by decide) ot_is.is
      have hP35 : HW K pT pA _ pv1 3 [[1, 2, 0]] U1 := ⟨hp35, pt_is, st35.gT, st35.gA, r1⟩
      have hO35 : HW K pT pA _ ov 3 [[1, 0, 2]] U2 := ⟨ho35, ot_is, st35.gT, st35.gA, r2⟩
      refine ⟨_, rfl, _, rfl, pv1, ov, .ok, .within, rfl, st35.tP, refW_not hP35 hO35, ref_not hP35 hO35 ot_no, fun p36 us1 H36 z36 t36 e36 w36 => ?_⟩
      have st36 := st35.p ne z36 t36
      have u36 := KpL.up z36 t36
      have hh36 := NS.Tup.house u36.tup hh35
      have hg36 := NS.Tup.house u36.tup hg35
      have hp36 := NS.Tup.house u36.tup hp35
      have ho36 := NS.Tup.house u36.tup ho35
      clear st35 hh35 hg35 hp35 ho35 hP35 hO35 z36 t36 u36
      have l36 : us1.length = 4 := w36.length
      refine ⟨p36, rfl, ⟨_, SqL.of e36⟩, fun D hD => ?_⟩
      refine lcF (Wlk.lst (K := K) (SqL.of e36)) hD (by rw [l36, sizeLine_eq]; decide) (fun i y _ => y = if i = 0 then V.str "" else V.str "within") (fun _ _ _ _ _ e => e) (fun i x H37 Q1 hi z37 hx q1 => ?_) (fun x H' Q Q' => mono_name x _ H' Q Q') (fun ys H37 z37 hy hp => ?_)
      · obtain ⟨o, ho, eo⟩ := pr_get w36 hx
        refine ⟨rfl, _, rfl, x, o, rfl, eo.up z37.up, fun y H38 z38 oy => q1 y H38 z38 ?_⟩
        match i, ho, oy with
        | 0, ho, oy => cases ho; exact oy
        | 1, ho, oy => cases ho; exact oy
        | 2, ho, oy => cases ho; exact oy
        | 3, ho, oy => cases ho; exact oy
        | i + 4, ho, oy => cases ho
      · rw [l36] at hp
        have ey : ys = [.str "", .str "within", .str "within", .str "within"] := paired_map (f := fun i => if i = 0 then V.str "" else V.str "within") (fun _ _ e => e) hp
        subst ey
        refine ⟨(by show 4 ≤ sizeLine; decide), fun p38 n38 => ?_⟩
        have z38 := z37.new n38 (o := .lst [.str "", .str "within", .str "within", .str "within"])
        have hD38 : upd H37 p38 (.lst [.str "", .str "within", .str "within", .str "within"]) D = some (.lst [.str "", .str "within", .str "within", .str "within"]) := by
          rw [upd_ne (ne_of_none hy n38)]; exact hy
        refine ne_same (d := .list [.str "", .str "within", .str "within", .str "within"]) (.lst (SqL.of hD38) (.cons (.str _) (.cons (.str _) (.cons (.str _) (.cons (.str _) .nil))))) (.lst (SqL.of upd_same) (.cons (.str _) (.cons (.str _) (.cons (.str _) (.cons (.str _) .nil))))) (by decide +kernel) ?_
        exact ⟨_, rfl, ifF (A := _) (B := _) rfl ⟨rfl, z38.tabG st36.gT, z38.tabG st36.gA, z38.house hh36, z38.house hg36, z38.house hp36, z38.house ho36⟩⟩
    rintro σ' H36 ⟨rfl, gT36, gA36, hh36, hg36, hp36, ho36⟩
    clear st35 hh35 hg35 hp35 ho35
    -- the great house's own answers
    refine ⟨fun σ' H' => σ' = [some (.ref sa), some (.ref r), some hv, some (.ref p25), some xv, some (.str wd), w6, some tv, some lv, some (spotV so), some gv, some tw, some pv1, some ov, none] ∧ Kp H36 H', ?c9, ?n9⟩
    case n9 =>
      refine ⟨_, rfl, gv, 8, gr8, rfl, hg36, gr8_house, gT36, gA36, gr8_whl, fun b1 H37 LL z37 nd me hb => ?_⟩
      obtain rfl : b1 = false := great_not (.inr ⟨gr8_whl, LL, nd, me, hb⟩)
      clear nd me hb LL
      refine ⟨_, rfl, gv, 8, gr8, rfl, z37.house hg36, gr8_house, z37.tabG gT36, z37.tabG gA36, fun H38 LL z38 nd me => ?_⟩
      rw [gr8_rank nd me]
      clear nd me LL
      have z38 := z37.trans z38
      refine ⟨_, rfl, gv, 8, gr8, rfl, z38.house hg36, gr8_house, z38.tabG gT36, z38.tabG gA36, fun H39 LL z39 as => ?_⟩
      rw [gr8_whl.2 LL as]
      clear as LL
      have z39 := z38.trans z39
      refine ⟨_, rfl, gv, 8, gr8, rfl, z39.house hg36, gr8_house, z39.tabG gT36, z39.tabG gA36, fun pr H40 LL z40 te as lm => ?_⟩
      have z40 := z39.trans z40
      obtain ⟨pp, oo, vs, rfl, hpp, odn, prd⟩ := te
      refine ⟨pp, vs, rfl, .inr (.inl (.inr ⟨oo, hpp⟩)), ?_⟩
      rw [prd.length, gr8_whl.2 LL as]
      refine ⟨(by show 4 ≤ sizeLine; decide), fun p41 n41 => ⟨(by show 4 ≤ sizeLine; decide), fun p42 n42 => ?_⟩⟩
      have z42 := (z40.new n41).new n42 (o := .lst [.bl false, .int 2, .bl true, .int 1])
      have e41 : upd H40 p41 (.lst [.bl false, .int 2, .bl true, .int 1]) p41 = some (.lst [.bl false, .int 2, .bl true, .int 1]) := upd_same
      have e42 : upd (upd H40 p41 (.lst [.bl false, .int 2, .bl true, .int 1])) p42 (.lst [.bl false, .int 2, .bl true, .int 1]) p41 = some (.lst [.bl false, .int 2, .bl true, .int 1]) := by
        rw [upd_ne (ne_of_none e41 n42)]; exact e41
      refine ne_same (d := .list [.bool false, .int 2, .bool true, .int 1]) (.lst (SqL.of e42) (.cons (.bl _) (.cons (.int _) (.cons (.bl _) (.cons (.int _) .nil))))) (.lst (SqL.of upd_same) (.cons (.bl _) (.cons (.int _) (.cons (.bl _) (.cons (.int _) .nil))))) (by decide +kernel) ?_
      exact ⟨_, rfl, ifF (A := _) (B := _) rfl ⟨rfl, z42⟩⟩
    rintro σ' H37 ⟨rfl, z37⟩
    obtain ⟨U1, r1⟩ := small_room (n := 3) (by decide) pt_is.is
    obtain ⟨U2, r2⟩ := small_room (n := 3) (by decide) ot_is.is
    obtain ⟨U3, r3⟩ := small_room (n := 3) (by decide) hs_is.is
    refine ⟨_, rfl, _, rfl, pv1, ov, 3, _, U1, _, U2, rfl, ⟨z37.house hp36, pt_is, z37.tabG gT36, z37.tabG gA36, r1⟩, ⟨z37.house ho36, ot_is, z37.tabG gT36, z37.tabG gA36, r2⟩, fun H38 L M z38 aL aM => ?_⟩
    rw [ot_out aL aM]
    have z38 := z37.trans z38
    refine ⟨_, _, rfl, rfl, _, rfl, ?_⟩
    refine ifT (A := _) (B := _) (by decide) ?_
    refine ⟨_, rfl, _, rfl, hv, ov, 3, _, U3, _, U2, rfl, ⟨z38.house hh36, hs_is, z38.tabG gT36, z38.tabG gA36, r3⟩, ⟨z38.house ho36, ot_is, z38.tabG gT36, z38.tabG gA36, r2⟩, fun H39 L' M' z39 aL' aM' => ?_⟩
    rw [ot_in aL' aM']
    exact ⟨_, _, rfl, rfl, q H39⟩
end
end NS
end
section
set_option maxHeartbeats 4000000
/-! N14: seats -/
namespace NS
open PySem PySem.Spec PyProof.Rows L2 ZS
abbrev seatF (tv rw wv : V) : List (Str × V) := [("_turns", tv), ("_row", rw), ("_where", wv)]
section
variable {P : Program} {w : World} {K : PySem.W.Frag} {mg : Str → Option Value} {base : Heap} {f : Addr} {fd : FuncData} {pT pA C CB : Addr}
end
/-- seats of n halls with these turns: the line done, the hall of each -/
structure SeatsAt (K : PySem.W.Frag) (H : Hp) (a C rw : Addr) (n : Nat) (ts : List (List Int)) (line t : List Int) : Prop where
  ex : ∃ dx tv wv, H a = some (.ins C dx (seatF tv (.ref rw) wv)) ∧ PTS K H tv ts ∧ PT H wv t
  row : H rw = some (.lst (line.map V.int))
  it : IsT n t
  its : ∀ u ∈ ts, IsT n u
  n8 : n ≤ 8
/-- all but the seats and their row is kept -/
structure KpS (a rw : Addr) (H H' : Hp) : Prop where
  k : ∀ b o, H b = some o → (∀ ps, o ≠ .tbl ps) → b ≠ a → b ≠ rw → H' b = some o
  t : ∀ b ps, H b = some (.tbl ps) → ∃ ps' : Array Value, H' b = some (.tbl ps') ∧ TabUp ps ps'
section
variable {P : Program} {w : World} {K : PySem.W.Frag} {mg : Str → Option Value} {base : Heap} {f : Addr} {fd : FuncData} {C CN : Addr}
end
section
variable {P : Program} {w : World} {K : PySem.W.Frag} {mg : Str → Option Value} {base : Heap} {f : Addr} {fd : FuncData} {C CS : Addr}
end
section
variable {P : Program} {w : World} {K : PySem.W.Frag} {mg : Str → Option Value} {base : Heap} {f : Addr} {fd : FuncData} {C : Addr}
end
end NS
end
section
set_option maxHeartbeats 4000000
/-! N15: methods that may raise, a class made where it may raise; what the law keeps -/
namespace NS
open PySem PySem.Spec PyProof.Rows L2 ZS
section
variable {X : Cx} {CX : CXT} {k : Nat} {f C : Addr} {fd : FuncData} {ps : List Str} {sp : Sp} {E : L2.St → XK} {x m : Str} {p pos apos : Pos} {e o : Expr} {es : List Expr} {ta : TE} {t : TA}
end
section
variable {P : Program} {w : World} {K : PySem.W.Frag} {mg : Str → Option Value} {base : Heap} {k : Nat} {f : Addr} {fd : FuncData} {ps : List Str} {sp : Sp}
end
section
variable {X : Cx} {k j : Nat} {C : Addr} {m x : Str} {sp : Sp} {W : WX} {p pos apos : Pos} {e o : Expr} {es : List Expr} {ta : TE} {t : TA}
end
/-! ### what the law keeps -/
inductive Trk (n : Nat) (ts : List (List Int)) : List Int → List (List Int) → List Int → Prop
  | nil : Trk n ts [] [idt n] (idt n)
  | snoc {l : List Int} {ms : List (List Int)} {t : List Int} {i : Nat} {u : List Int} : Trk n ts l ms t → ts[i]? = some u → Trk n ts (l ++ [(i : Int)]) (ms ++ [comp t u]) (comp t u)
section
variable {n : Nat} {ts : List (List Int)} {l : List Int} {ms : List (List Int)} {t : List Int}
theorem Trk.len (h : Trk n ts l ms t) : ms.length = l.length + 1 := by
  induction h with
  | nil => rfl
  | snoc _ _ ih => rw [List.length_append, List.length_append, ih]; rfl
theorem Trk.last (h : Trk n ts l ms t) : ms.getLast? = some t := by
  cases h with
  | nil => rfl
  | snoc => simp
theorem Trk.is (h : Trk n ts l ms t) (its : ∀ u ∈ ts, IsT n u) : IsT n t := by
  induction h with
  | nil => exact idt_isT n
  | snoc _ hu ih => exact ih.comp (its _ (List.mem_of_getElem? hu))
theorem Trk.low (h : Trk n ts l ms t) : ∀ x ∈ l, 0 ≤ x ∧ x < (ts.length : Int) := by
  induction h with
  | nil => intro x hx; cases hx
  | @snoc l ms t i u _ hu ih =>
    intro x hx
    rcases List.mem_append.mp hx with hx | hx
    · exact ih x hx
    · have := (List.getElem?_eq_some_iff.mp hu).1
      rw [List.mem_singleton.mp hx]
      omega
theorem Trk.back {i : Nat} {u : List Int} (h : Trk n ts (l ++ [(i : Int)]) ms t) (its : ∀ u ∈ ts, IsT n u) (hu : ts[i]? = some u) : Trk n ts l ms.dropLast (comp t (inv u)) := by
  generalize e : l ++ [(i : Int)] = l' at h
  cases h with
  | nil => exact absurd e (by simp)
  | @snoc l0 ms0 t0 i0 u0 h0 hu0 =>
    obtain ⟨rfl, e2⟩ := List.append_inj' e rfl
    have e3 : (i : Int) = (i0 : Int) := List.head_eq_of_cons_eq e2
    have e4 : i = i0 := by omega
    subst e4
    rw [hu] at hu0
    cases hu0
    rw [List.dropLast_concat, comp_assoc (h0.is its) (its _ (List.mem_of_getElem? hu)), comp_inv (its _ (List.mem_of_getElem? hu)), comp_idt (h0.is its)]
    exact h0
end
section
variable {K : PySem.W.Frag} {H H' : Hp} {a rw C r sa pT pA ma : Addr} {n : Nat} {ts ms : List (List Int)} {line t : List Int} {v lv : V}
theorem SeatsAt.kp (h : SeatsAt K H a C rw n ts line t) (z : Kp H H') : SeatsAt K H' a C rw n ts line t := by
  obtain ⟨⟨dx, tv, wv, ha, hp, pw⟩, hrw, it, its, n8⟩ := h
  exact ⟨⟨dx, tv, wv, z.k _ _ ha (fun _ q => by cases q), z.pts hp, z.pt pw⟩, z.lst hrw, it, its, n8⟩
theorem SeatsAt.kpb (h : SeatsAt K H a C rw n ts line t) (z : KpB r H H') (ne : rw ≠ r) : SeatsAt K H' a C rw n ts line t := by
  obtain ⟨⟨dx, tv, wv, ha, hp, pw⟩, hrw, it, its, n8⟩ := h
  exact ⟨⟨dx, tv, wv, z.k _ _ ha (fun _ q => by cases q) (fun _ q => by cases q), NS.Tup.pts z.tup hp, NS.Tup.pt z.tup pw⟩, z.lst hrw ne, it, its, n8⟩
/-- the row of draws, the house, the seats, the law's own line and list -/
structure St8 (K : PySem.W.Frag) (H : Hp) (r sa : Addr) (v : V) (n : Nat) (ts : List (List Int)) (pT pA a C rw ma : Addr) (lv : V) (line : List Int) (ms : List (List Int)) (t : List Int) : Prop where
  sta : Sta K H r sa v n ts pT pA
  se : SeatsAt K H a C rw n ts line t
  hlv : TI K H lv line
  hma : ∃ us, H ma = some (.lst us) ∧ Paired (PT H) us ms
  trk : Trk n ts line ms t
  n1 : rw ≠ r
  n2 : sa ≠ rw ∨ ∃ ns : List Int, ∀ H, SqL K H sa (ns.map V.int)
  n3 : ma ≠ rw
  n4 : ma ≠ r
theorem St8.kp (h : St8 K H r sa v n ts pT pA a C rw ma lv line ms t) (z : Kp H H') : St8 K H' r sa v n ts pT pA a C rw ma lv line ms t := by
  obtain ⟨us, h1, h2⟩ := h.hma
  exact ⟨h.sta.kp z, h.se.kp z, z.ti h.hlv, ⟨us, z.lst h1, h2.mono fun _ _ q => z.pt q⟩, h.trk, h.n1, h.n2, h.n3, h.n4⟩
theorem St8.kpb (h : St8 K H r sa v n ts pT pA a C rw ma lv line ms t) (z : KpB r H H') (ra : RowAt H' r sa) : St8 K H' r sa v n ts pT pA a C rw ma lv line ms t := by
  obtain ⟨us, h1, h2⟩ := h.hma
  exact ⟨h.sta.kpb z ra, h.se.kpb z h.n1, z.tup.ti h.hlv, ⟨us, z.lst h1 h.n4, h2.mono fun _ _ q => NS.Tup.pt z.tup q⟩, h.trk, h.n1, h.n2, h.n3, h.n4⟩
theorem KpS.tup (z : KpS a rw H H') (ha : ∃ dx fs, H a = some (.ins C dx fs)) (hr : ∃ xs, H rw = some (.lst xs)) : Tup H H' := by
  obtain ⟨dx, fs, ha⟩ := ha
  obtain ⟨xs, hr⟩ := hr
  exact ⟨fun c ys e => z.k c _ e (fun _ q => by cases q) (fun q => by rw [q, ha] at e; cases e) (fun q => by rw [q, hr] at e; cases e),
    fun c o u e => z.k c _ e (fun _ q => by cases q) (fun q => by rw [q, ha] at e; cases e) (fun q => by rw [q, hr] at e; cases e)⟩
/-- what a step of the seats leaves of the rest -/
theorem St8.step (h : St8 K H r sa v n ts pT pA a C rw ma lv line ms t) (z : KpS a rw H H') : Sta K H' r sa v n ts pT pA ∧ TI K H' lv line ∧ ∃ us, H' ma = some (.lst us) ∧ Paired (PT H') us ms := by
  obtain ⟨us, h1, h2⟩ := h.hma
  obtain ⟨⟨dx, tv, wv, ha, _, _⟩, hrw, _⟩ := h.se
  have tz := z.tup ⟨_, _, ha⟩ ⟨_, hrw⟩
  have tab : ∀ {P : Addr}, GxR.TabG H P → GxR.TabG H' P := fun {P} g => by
    obtain ⟨ps, hP, hT⟩ := g
    obtain ⟨ps', h', u⟩ := z.t P ps hP
    exact ⟨ps', h', u.1 hT⟩
  have lst : ∀ {b : Addr} {xs : List V}, H b = some (.lst xs) → b ≠ rw → H' b = some (.lst xs) := fun {b xs} e ne => z.k b _ e (fun _ q => by cases q) (fun q => by rw [q, ha] at e; cases e) ne
  obtain ⟨⟨⟨i, sd, rest, hrow, hrest⟩, ns, hns⟩, hv, gT, gA⟩ := h.sta
  have dr : ∃ ns : List Int, SqL K H' sa (ns.map V.int) := by
    rcases h.n2 with ne | ⟨ns, e⟩
    · refine ⟨ns, ?_⟩
      rcases hns with (e | ⟨o, e⟩) | e
      · exact .inl (.inl (lst e ne))
      · exact .inl (.inr ⟨o, z.k _ _ e (fun _ q => by cases q) (fun q => by rw [q, ha] at e; cases e) (fun q => by rw [q, hrw] at e; cases e)⟩)
      · exact .inr e
    · exact ⟨ns, e H'⟩
  exact ⟨⟨⟨⟨i, sd, rest, lst hrow h.n1.symm, hrest⟩, dr⟩, NS.Tup.house tz hv, tab gT, tab gA⟩, tz.ti h.hlv, us, lst h1 h.n3, h2.mono fun _ _ q => NS.Tup.pt tz q⟩
end
end NS
end
section
set_option maxHeartbeats 4000000
/-! X4: what the head tells, properties' getters among it -/
namespace NS
open PySem PySem.Spec PyProof.Rows L2 ZS
section
variable {P : Program} {w : World} {K : PySem.W.Frag} {mg : Str → Option Value} {base : Heap} {pT pA C CB CN CS f1 f2 f3 f4 f5 p5 f6 p6 : Addr} {fd1 fd2 fd3 fd4 fd5 fd6 : FuncData}
theorem errF_of {fI : Addr} {fd : FuncData} (g : mg "BadHouse" = some (.ref CB)) (o : oexB K CB = true) (m : PySem.W.exmOne K (.ref CB) (.ref CB) = some true) (M : Meth K CB "__init__" fI) (no : NoAttr K CB "part") (F : FunD K "__init__" "BadHouse.__init__" (defArgs sBadInit) (defBody sBadInit) (defScope sBadInit) [] [] fI fd) : ErrF P w K mg base "BadHouse" "part" CB := by
  have O := oexB_ok o
  exact ⟨g, O, m, fI, fd, ["self", "part"], M.at_, beq_iff_eq.mp M.fn, F.bindsN (fun _ _ _ _ _ _ us hl => match us, hl with | [_, _], _ => rfl), ok_badinit F O no⟩
end
end NS
end
section
set_option maxHeartbeats 4000000
/-! X7: what the head tells of the error classes; the law's lists of calls from what their defs keep -/
namespace NS
open PySem PySem.Spec PyProof.Rows L2 ZS LamX LamY LamE NSExc
theorem excB_ok {K : PySem.W.Frag} {D : Addr} (h : excB K D = true) : L2.ExcC K D := by
  unfold excB at h
  simp only [Bool.and_eq_true, decide_eq_true_iff] at h
  obtain ⟨⟨h1, h2⟩, ⟨h3, h4⟩, ⟨h5, h6⟩, h7, h8⟩ := h
  exact ⟨h1, h2, h3, h4, h5, h6, h7, h8⟩
theorem e6s_all (i : E6) : i ∈ e6s := by cases i <;> decide
theorem errD_of {K : PySem.W.Frag} {mg : Str → Option Value} (h : exD K = true) (g : ∀ i : E6, mg i.nm = some (.ref ((aeK K).c i))) (ge : mg "TurnError" = some (.ref (aeK K).e)) (ve : mg "ValueError" = none) : ErrD K mg (aeK K) := by
  unfold exD at h
  simp only [Bool.and_eq_true, List.all_eq_true] at h
  obtain ⟨h1, ⟨h2, h3, h4, h5⟩, h6, h7, h8⟩ := h
  exact ⟨g, ge, ve, fun i => excB_ok (h1 i (e6s_all i)).1, fun i => of_decide_eq_true (h1 i (e6s_all i)).2.1, fun i j => of_decide_eq_true ((h1 i (e6s_all i)).2.2 j (e6s_all j)), of_decide_eq_true h2, xfB_ok h3, xfB_ok h4, xfB_ok h5, of_decide_eq_true h6, of_decide_eq_true h7, of_decide_eq_true h8⟩
theorem CBad.kp {K : PySem.W.Frag} {pT pA C : Addr} (v : V) (H H' : Hp) (E : XK) (z : Kp H H') (h : CBad K pT pA C v H E) : CBad K pT pA C v H' E := by
  obtain ⟨wd, hF, gT, gA, q⟩ := h
  exact ⟨wd, hF.kp z, z.tabG gT, z.tabG gA, q.kp z⟩
section
variable {P : Program} {w : World} {K : PySem.W.Frag} {mg : Str → Option Value} {base : Heap} {C : RC} {C2 : RC2} {f f1 f2 f3 f4 f5 f6 f7 f8 f9 fa fb fc : Addr} {fd d1 d2 d3 d4 d5 d6 d7 d8 d9 da db dc : FuncData}
/-- members and check_whole tell what the rest does -/
theorem calls_of (B : Bl mg) (kp : ∀ v H H' E, Kp H H' → C v H E → C v H' E) (hM : HasX P w K mg base "members" 8 (spR1 C)) (hW : HasX P w K mg base "check_whole" 10 (spCW C)) (hI : HasX P w K mg base "is_member" 9 (spB2 C2))
    (F1 : FnP K "order" sOrder f1 d1) (m1 : mg "order" = some (.ref f1)) (F2 : FnP K "table" sTable f2 d2) (m2 : mg "table" = some (.ref f2)) (F3 : FnP K "roamers" sRoamers f3 d3) (m3 : mg "roamers" = some (.ref f3)) (F4 : FnP K "count_roamers" sCountR f4 d4) (m4 : mg "count_roamers" = some (.ref f4)) (F5 : FnP K "least_roamer" sLeast f5 d5) (m5 : mg "least_roamer" = some (.ref f5)) (F6 : FnP K "plain_roamers" sPlain f6 d6) (m6 : mg "plain_roamers" = some (.ref f6))
    (F7 : FnP K "spare" sSpare f7 d7) (m7 : mg "spare" = some (.ref f7)) (F8 : FnP K "has_fewest" sFewest f8 d8) (m8 : mg "has_fewest" = some (.ref f8)) (F9 : FnP K "surplus" sSurplus f9 d9) (m9 : mg "surplus" = some (.ref f9)) (Fa : FnP K "is_single" sSingle fa da) (ma : mg "is_single" = some (.ref fa)) (Fb : FnP K "core" sCore fb db) (mb : mg "core" = some (.ref fb)) (Fc : FnP K "core_is_group" sCoreG fc dc) (mc : mg "core_is_group" = some (.ref fc)) : CallsD P w K mg base C C2 := by
  have hT := has_tableR F2 m2 hM
  have hR := has_roamersR F3 m3 B hM
  have hS := has_spareR F7 m7 kp hW hT
  have hG := has_singleR Fa ma B kp hW hT
  have hC := has_coreR Fb mb hG
  exact ⟨hM, has_orderR F1 m1 B hM, hI, hT, hR, has_countrR F4 m4 B hR, has_leastR F5 m5 hR, has_plainR F6 m6 B hR, hS, has_fewestR F8 m8 hS, has_surplusR F9 m9 kp hW hT, hG, hC, has_coregR Fc mc hC⟩
/-- check_house tells what the rest does -/
theorem more_of (B : Bl mg) (hC : HasX P w K mg base "check_house" 7 (spR1 C)) (hP : HasX P w K mg base "parts" 8 (spR1 C)) (hT : HasX P w K mg base "is_transitive" 9 (spR1 C)) (hW : HasX P w K mg base "check_whole" 10 (spR1 C))
    (F1 : FnP K "rank" sRank f1 d1) (m1 : mg "rank" = some (.ref f1)) (F2 : FnP K "likes" sLikes f2 d2) (m2 : mg "likes" = some (.ref f2)) (F3 : FnP K "stayers" sStayers f3 d3) (m3 : mg "stayers" = some (.ref f3)) (F4 : FnP K "rings" sRings f4 d4) (m4 : mg "rings" = some (.ref f4)) (F5 : FnP K "made" sMade f5 d5) (m5 : mg "made" = some (.ref f5)) (F6 : FnP K "is_sharp" sSharp f6 d6) (m6 : mg "is_sharp" = some (.ref f6)) (F7 : FnP K "write_house" sWriteHouse f7 d7) (m7 : mg "write_house" = some (.ref f7)) : MoreD P w K mg base C :=
  ⟨hP, hT, has_rankR F1 m1 hC, has_likesR F2 m2 hC, has_stayersR F3 m3 hC, has_ringsR F4 m4 hC, has_madeR F5 m5 hC, has_sharpR F6 m6 hW, has_wrhouseR F7 m7 hC⟩
/-- the great house leads each hall to each -/
theorem cw_great {pT pA CM : Addr} (h : Has P w K mg base "check_whole" 10 [] (fun vs H Q _ => ∃ (v : V) (n : Nat) (ts : List (List Int)), vs = [v] ∧ HouseAt K H v n ts ∧ IsH n ts ∧ GxR.TabG H pT ∧ GxR.TabG H pA ∧ Whl n ts ∧ ∀ H', Kp H H' → Q .non H')) : HasX P w K mg base "check_whole" 10 (spCW (CGreat K pT pA CM)) :=
  (has_toX h).imp fun vs H Q E ⟨v, e, ⟨hg, _⟩, q⟩ => ⟨v, 8, gr8, e, hg.1, hg.2.1, hg.2.2.1, hg.2.2.2, gr8_whl, q⟩
theorem has_lcalls {A : ErrA} {PL c0 : Addr} (F : FnP K "_law_calls" sLCalls f fd) (m : mg "_law_calls" = some (.ref f)) (ec : fd.code = .ref c0) (TB : LamX.TabB base mg c0 PL) (M : CallsD P w K mg base C C2) : Has P w K mg base "_law_calls" 1 [] (spCalls P w K mg base A PL C C2) :=
  ⟨f, fd, ["bad", "turn"], [], m, F.kp, F.bindsN (fun _ _ _ _ _ _ us hl => match us, hl with | [_, _], _ => rfl), .nil, ok_lcalls F ec TB M⟩
theorem has_lparted {A : ErrA} {CW : RCW} {PL c0 : Addr} (F : FnP K "_law_parted" sLParted f fd) (m : mg "_law_parted" = some (.ref f)) (ec : fd.code = .ref c0) (TB : LamX.TabB base mg c0 PL) (M : PartedD P w K mg base CW C2) : Has P w K mg base "_law_parted" 1 [] (spParted P w K mg base A PL CW C2) :=
  ⟨f, fd, ["bad", "part"], [], m, F.kp, F.bindsN (fun _ _ _ _ _ _ us hl => match us, hl with | [_, _], _ => rfl), .nil, ok_lparted F ec TB M⟩
theorem has_lmore {A : ErrA} {PL c0 : Addr} (F : FnP K "_law_more" sLMore f fd) (m : mg "_law_more" = some (.ref f)) (ec : fd.code = .ref c0) (TB : LamX.TabB base mg c0 PL) (M : MoreD P w K mg base C) : Has P w K mg base "_law_more" 1 [] (spMore P w K mg base A PL C) :=
  ⟨f, fd, ["bad"], [], m, F.kp, F.bindsN (fun _ _ _ _ _ _ us hl => match us, hl with | [_], _ => rfl), .nil, ok_lmore F ec TB M⟩
end
end NS
end
section
set_option maxHeartbeats 4000000
/-! HE: all the defs from the head's facts -/
namespace NS
open PySem PySem.Spec PyProof.Rows L2 ZS
section
variable {P : Program} {w : World} {K : PySem.W.Frag} {mg : Str → Option Value} {h base : Heap} {x : Str} {st : Stmt} {f : Addr} {fd : FuncData}
theorem code_ref (F : FnP K x st (He.ga K x) fd) : fd.code = .ref (He.codeOf K (x, none)) := by
  obtain ⟨oc, od, dV, kV, doc, pm, an, cdv, ct, osl, rfl, lk, hcd, _, _⟩ := F.ex
  obtain ⟨c, rfl⟩ := He.codeIn_ref hcd
  have e := He.codeOf_eq (p := (x, none)) (c := c) lk rfl
  rw [e]
theorem fnAt (c : He.SaysD fa fn K) (i : Nat) (e : fn[i]? = some (dd x st [])) : ∃ fd, FnP K x st (He.ga K x) fd := c.def_ i e
theorem tabG0 {H : Hp} {p : Addr} (e : H p = some (.tbl #[])) : GxR.TabG H p := ⟨#[], e, trivial⟩
theorem reached_binds (F : FunD K "reached" "reached" (defArgs sReached) (defBody sReached) (defScope sReached) [.non] [] f fd) : (∃ d, Vals [] d ∧ Binds K fd ["start", "turns", "lead", "most"] d) ∧ ∃ d, Vals [.non] d ∧ Binds K fd ["start", "turns", "lead", "most"] d := by
  obtain ⟨d4, v4, b4⟩ := FunD.binds1 (ps := ["start", "turns", "lead", "most"]) F 4 1 (by simp) rfl (fun T kV doc pm an cdv ct us its h1 h2 => match us, its, h1, h2 with | [_, _, _, _], [_], _, _ => ⟨_, rfl, rfl⟩)
  obtain ⟨d3, v3, b3⟩ := FunD.binds1 (ps := ["start", "turns", "lead", "most"]) F 3 0 (by simp) rfl (fun T kV doc pm an cdv ct us its h1 h2 => match us, its, h1, h2 with | [_, _, _], [_], _, _ => ⟨_, rfl, rfl⟩)
  exact ⟨⟨d4, v4, b4⟩, d3, v3, b3⟩
theorem reachedM_has {S : Addr → Option Sp} (F : FunD K "reached" "reached" (defArgs sReached) (defBody sReached) (defScope sReached) [.non] [] f fd) (m : mg "reached" = some (.ref f)) (B : Bl mg) (A : ∀ f sp, S f = some sp → Held P w K mg base 2 f sp) :
    Has P w K mg base "reached" 3 [] (spReachedM K P w S) := by
  obtain ⟨⟨d4, v4, b4⟩, _⟩ := reached_binds F
  exact ⟨f, fd, _, d4, m, F.kp, b4, v4, ok_reachedM (P := P) (w := w) (mg := mg) (base := base) F B A⟩
theorem reached_has {S : Addr → Option Sp} (F : FunD K "reached" "reached" (defArgs sReached) (defBody sReached) (defScope sReached) [.non] [] f fd) (m : mg "reached" = some (.ref f)) (B : Bl mg) (A : ∀ f sp, S f = some sp → Held P w K mg base 2 f sp) :
    Has P w K mg base "reached" 3 [] (spReached K P w S) ∧ Has P w K mg base "reached" 3 [.non] (spReached K P w S) := by
  have ok := ok_reached (P := P) (w := w) (mg := mg) (base := base) F B A
  obtain ⟨⟨d4, v4, b4⟩, d3, v3, b3⟩ := reached_binds F
  exact ⟨⟨f, fd, _, d4, m, F.kp, b4, v4, ok⟩, ⟨f, fd, _, d3, m, F.kp, b3, v3, ok⟩⟩
theorem reachedL_has {S : Addr → Option Sp} (F : FunD K "reached" "reached" (defArgs sReached) (defBody sReached) (defScope sReached) [.non] [] f fd) (m : mg "reached" = some (.ref f)) (B : Bl mg) (A : ∀ f sp, S f = some sp → Held P w K mg base 2 f sp) :
    Has P w K mg base "reached" 3 [] (spReachedL K P w S) := by
  obtain ⟨⟨d4, v4, b4⟩, _⟩ := reached_binds F
  exact ⟨f, fd, _, d4, m, F.kp, b4, v4, ok_reachedL (P := P) (w := w) (mg := mg) (base := base) F B A⟩
theorem bl_of (X : K.In h) (G : h.Ns mainGlobals mg) (c : He.SaysD fa fn K) : Bl mg :=
  ⟨He.free_ok X G (c.fact 61 (f := .free "tuple") rfl), He.free_ok X G (c.fact 62 (f := .free "list") rfl), He.free_ok X G (c.fact 63 (f := .free "len") rfl), He.free_ok X G (c.fact 64 (f := .free "range") rfl), He.free_ok X G (c.fact 65 (f := .free "isinstance") rfl), He.free_ok X G (c.fact 66 (f := .free "set") rfl), He.free_ok X G (c.fact 67 (f := .free "sorted") rfl), He.free_ok X G (c.fact 68 (f := .free "all") rfl), He.free_ok X G (c.fact 69 (f := .free "sum") rfl), He.free_ok X G (c.fact 70 (f := .free "enumerate") rfl), He.free_ok X G (c.fact 71 (f := .free "int") rfl), He.free_ok X G (c.fact 72 (f := .free "bool") rfl), He.free_ok X G (c.fact 73 (f := .free "str") rfl), He.free_ok X G (c.fact 74 (f := .free "any") rfl), He.free_ok X G (c.fact 75 (f := .free "min") rfl)⟩
/-- the only lead that is asked for -/
def S1 (a : Addr) (sp : Sp) : Addr → Option Sp := fun b => if b = a then some sp else none
theorem s1_self {a : Addr} {sp : Sp} : S1 a sp a = some sp := if_pos rfl
theorem s1_held {a : Addr} {sp : Sp} {k : Nat} (h : Held P w K mg base k a sp) : ∀ f sp', S1 a sp f = some sp' → Held P w K mg base k f sp' := fun f sp' e => by
  unfold S1 at e
  split at e
  · rename_i q
    cases e
    rw [q]
    exact h
  · cases e
theorem Held.up {f : Addr} {sp : Sp} {j k : Nat} (hk : j ≤ k) (h : Has P w K mg base x j [] sp) (e : mg x = some (.ref f)) : Held P w K mg base k f sp := by
  obtain ⟨fd, ps, h5, h2, h3⟩ := h.held e
  exact ⟨fd, ps, h5.mono hk, h2, h3⟩
abbrev pTA (K : PySem.W.Frag) : Addr := (He.cT K ("is_turn", none)).2
abbrev pAA (K : PySem.W.Frag) : Addr := (He.cT K ("are_turns", none)).2
abbrev pLA (K : PySem.W.Frag) : Addr := (He.cT K ("law", none)).2
abbrev pCA (K : PySem.W.Frag) : Addr := (He.cT K ("_law_calls", none)).2
abbrev pPA (K : PySem.W.Frag) : Addr := (He.cT K ("_law_parted", none)).2
abbrev pMA (K : PySem.W.Frag) : Addr := (He.cT K ("_law_more", none)).2
theorem law_all (X : K.In h) (G : h.Ns mainGlobals mg) (c : He.SaysD fa fn K) {base : Heap} {fd : FuncData} (FLaw : FnP K "law" sLaw (He.ga K "law") fd) (XB : exB K = true) (T_is_turn : GxR.TabB base mg (He.codeOf K ("is_turn", none)) (pTA K)) (T_are_turns : GxR.TabB base mg (He.codeOf K ("are_turns", none)) (pAA K)) (T_law : LamX.TabB base mg (He.codeOf K ("law", none)) (pLA K)) (T__law_calls : LamX.TabB base mg (He.codeOf K ("_law_calls", none)) (pCA K)) (T__law_parted : LamX.TabB base mg (He.codeOf K ("_law_parted", none)) (pPA K)) (T__law_more : LamX.TabB base mg (He.codeOf K ("_law_more", none)) (pMA K)) :
    FnOk P w K mg base CX0 17 (He.ga K "law") fd ["script"] (spLaw K (pTA K) (pAA K) (pLA K) (pCA K) (pPA K) (pMA K)) := by
  have B := bl_of X G c
  have g : ∀ {x : Str} (i : Nat), fa[i]? = some (.glo x) → mg x = some (.ref (He.ga K x)) := fun i e => He.glo_ok X G (c.fact i e)
  obtain ⟨t_MOST_HALLS, m_MOST_HALLS⟩ := He.int_ok X G (c.fact 76 (f := .int "MOST_HALLS" 8) rfl)
  have mi_MOST_HALLS : ∃ t, mg "MOST_HALLS" = some (.int 8 t) := ⟨_, m_MOST_HALLS⟩
  obtain ⟨t_MOST_TURNS, m_MOST_TURNS⟩ := He.int_ok X G (c.fact 77 (f := .int "MOST_TURNS" 6) rfl)
  have mi_MOST_TURNS : ∃ t, mg "MOST_TURNS" = some (.int 6 t) := ⟨_, m_MOST_TURNS⟩
  obtain ⟨t_LONGEST_ROW, m_LONGEST_ROW⟩ := He.int_ok X G (c.fact 78 (f := .int "LONGEST_ROW" 100) rfl)
  have mi_LONGEST_ROW : ∃ t, mg "LONGEST_ROW" = some (.int 100 t) := ⟨_, m_LONGEST_ROW⟩
  obtain ⟨t_MOST_MEMBERS, m_MOST_MEMBERS⟩ := He.int_ok X G (c.fact 79 (f := .int "MOST_MEMBERS" 5040) rfl)
  have mi_MOST_MEMBERS : ∃ t, mg "MOST_MEMBERS" = some (.int 5040 t) := ⟨_, m_MOST_MEMBERS⟩
  have e_BadTurn : ExcC K mg "BadTurn" (He.ga K "BadTurn") := by
    obtain ⟨x1, x2, x3, x4⟩ := He.exc_ok (c.fact 81 (f := .exc "BadTurn") rfl)
    exact ⟨g 80 rfl, x1, x2, x3, x4, of_decide_eq_true (c.fact 82 (f := .exm "BadTurn" "BadTurn" true) rfl)⟩
  have e_NotWithin : ExcC K mg "NotWithin" (He.ga K "NotWithin") := by
    obtain ⟨x1, x2, x3, x4⟩ := He.exc_ok (c.fact 84 (f := .exc "NotWithin") rfl)
    exact ⟨g 83 rfl, x1, x2, x3, x4, of_decide_eq_true (c.fact 85 (f := .exm "NotWithin" "NotWithin" true) rfl)⟩
  have e_Unlike : ExcC K mg "Unlike" (He.ga K "Unlike") := by
    obtain ⟨x1, x2, x3, x4⟩ := He.exc_ok (c.fact 87 (f := .exc "Unlike") rfl)
    exact ⟨g 86 rfl, x1, x2, x3, x4, of_decide_eq_true (c.fact 88 (f := .exm "Unlike" "Unlike" true) rfl)⟩
  unfold exB at XB
  simp only [Bool.and_eq_true, decide_eq_true_iff] at XB
  obtain ⟨⟨⟨⟨xo_BadHouse, xo_BadRow⟩, xo_TooMany⟩, XD⟩, ne⟩ := XB
  have g_BadHouse : mg "BadHouse" = some (.ref (He.ga K "BadHouse")) := g 89 rfl
  have x_BadHouse : PySem.W.exmOne K (.ref (He.ga K "BadHouse")) (.ref (He.ga K "BadHouse")) = some true := He.exm_ok (c.fact 92 (f := .exm "BadHouse" "BadHouse" true) rfl)
  obtain ⟨_, F⟩ := c.def_ 61 (d := md "BadHouse" "__init__" "BadHouse.__init__" sBadInit) rfl
  have f_BadHouse := errF_of (P := P) (w := w) (mg := mg) (base := base) g_BadHouse xo_BadHouse x_BadHouse (He.meth_ok (c.fact 90 (f := .meth "BadHouse" "__init__") rfl)) (He.noat_ok (c.fact 91 (f := .noat "BadHouse" "part") rfl)) F
  clear F
  have g_BadRow : mg "BadRow" = some (.ref (He.ga K "BadRow")) := g 93 rfl
  have x_BadRow : PySem.W.exmOne K (.ref (He.ga K "BadRow")) (.ref (He.ga K "BadRow")) = some true := He.exm_ok (c.fact 96 (f := .exm "BadRow" "BadRow" true) rfl)
  obtain ⟨_, F⟩ := c.def_ 62 (d := md "BadRow" "__init__" "BadRow.__init__" sRowInit) rfl
  have f_BadRow := errR_of (P := P) (w := w) (mg := mg) (base := base) g_BadRow xo_BadRow x_BadRow (He.meth_ok (c.fact 94 (f := .meth "BadRow" "__init__") rfl)) (He.noat_ok (c.fact 95 (f := .noat "BadRow" "index") rfl)) F
  clear F
  have g_TooMany : mg "TooMany" = some (.ref (He.ga K "TooMany")) := g 97 rfl
  have x_TooMany : PySem.W.exmOne K (.ref (He.ga K "TooMany")) (.ref (He.ga K "TooMany")) = some true := He.exm_ok (c.fact 100 (f := .exm "TooMany" "TooMany" true) rfl)
  obtain ⟨_, F⟩ := c.def_ 63 (d := md "TooMany" "__init__" "TooMany.__init__" sManyInit) rfl
  have f_TooMany := errM_of (P := P) (w := w) (mg := mg) (base := base) g_TooMany xo_TooMany x_TooMany (He.meth_ok (c.fact 98 (f := .meth "TooMany" "__init__") rfl)) (He.noat_ok (c.fact 99 (f := .noat "TooMany" "most") rfl)) F
  clear F
  have m_is_number : mg "is_number" = some (.ref (He.ga K "is_number")) := g 0 rfl
  obtain ⟨_, F_is_number⟩ := fnAt c 0 (x := "is_number") (st := sNumber) rfl
  have m_is_turn : mg "is_turn" = some (.ref (He.ga K "is_turn")) := g 1 rfl
  obtain ⟨_, F_is_turn⟩ := fnAt c 1 (x := "is_turn") (st := sIsTurn) rfl
  have m_are_turns : mg "are_turns" = some (.ref (He.ga K "are_turns")) := g 2 rfl
  obtain ⟨_, F_are_turns⟩ := fnAt c 2 (x := "are_turns") (st := sAreTurns) rfl
  have m_house_fault : mg "house_fault" = some (.ref (He.ga K "house_fault")) := g 3 rfl
  obtain ⟨_, F_house_fault⟩ := fnAt c 3 (x := "house_fault") (st := sFault) rfl
  have m_check_house : mg "check_house" = some (.ref (He.ga K "check_house")) := g 4 rfl
  obtain ⟨_, F_check_house⟩ := fnAt c 4 (x := "check_house") (st := sCheckHouse) rfl
  have m_check_turn : mg "check_turn" = some (.ref (He.ga K "check_turn")) := g 5 rfl
  obtain ⟨_, F_check_turn⟩ := fnAt c 5 (x := "check_turn") (st := sCheckTurn) rfl
  have m_check_row : mg "check_row" = some (.ref (He.ga K "check_row")) := g 6 rfl
  obtain ⟨_, F_check_row⟩ := fnAt c 6 (x := "check_row") (st := sCheckRow) rfl
  have m_still : mg "still" = some (.ref (He.ga K "still")) := g 7 rfl
  obtain ⟨_, F_still⟩ := fnAt c 7 (x := "still") (st := sStill) rfl
  have m_then : mg "then" = some (.ref (He.ga K "then")) := g 8 rfl
  obtain ⟨_, F_then⟩ := fnAt c 8 (x := "then") (st := sThen) rfl
  have m_undone : mg "undone" = some (.ref (He.ga K "undone")) := g 9 rfl
  obtain ⟨_, F_undone⟩ := fnAt c 9 (x := "undone") (st := sUndone) rfl
  have m_hall_led : mg "hall_led" = some (.ref (He.ga K "hall_led")) := g 10 rfl
  obtain ⟨_, F_hall_led⟩ := fnAt c 10 (x := "hall_led") (st := sHall) rfl
  have m_pair_led : mg "pair_led" = some (.ref (He.ga K "pair_led")) := g 11 rfl
  obtain ⟨_, F_pair_led⟩ := fnAt c 11 (x := "pair_led") (st := sPair) rfl
  have m_like : mg "like" = some (.ref (He.ga K "like")) := g 12 rfl
  obtain ⟨_, F_like⟩ := fnAt c 12 (x := "like") (st := sLike) rfl
  have m_reached : mg "reached" = some (.ref (He.ga K "reached")) := g 13 rfl
  obtain ⟨_, FR⟩ := c.def_ 13 (d := dd "reached" sReached [.non]) rfl
  have m_is_house : mg "is_house" = some (.ref (He.ga K "is_house")) := g 14 rfl
  obtain ⟨_, F_is_house⟩ := fnAt c 14 (x := "is_house") (st := sIsHouse) rfl
  have m_made : mg "made" = some (.ref (He.ga K "made")) := g 15 rfl
  obtain ⟨_, F_made⟩ := fnAt c 15 (x := "made") (st := sMade) rfl
  have m_members : mg "members" = some (.ref (He.ga K "members")) := g 16 rfl
  obtain ⟨_, F_members⟩ := fnAt c 16 (x := "members") (st := sMembers) rfl
  have m_order : mg "order" = some (.ref (He.ga K "order")) := g 17 rfl
  obtain ⟨_, F_order⟩ := fnAt c 17 (x := "order") (st := sOrder) rfl
  have m_is_member : mg "is_member" = some (.ref (He.ga K "is_member")) := g 18 rfl
  obtain ⟨_, F_is_member⟩ := fnAt c 18 (x := "is_member") (st := sIsMember) rfl
  have m_parts : mg "parts" = some (.ref (He.ga K "parts")) := g 19 rfl
  obtain ⟨_, F_parts⟩ := fnAt c 19 (x := "parts") (st := sParts) rfl
  have m_is_transitive : mg "is_transitive" = some (.ref (He.ga K "is_transitive")) := g 20 rfl
  obtain ⟨_, F_is_transitive⟩ := fnAt c 20 (x := "is_transitive") (st := sTrans) rfl
  have m_rank : mg "rank" = some (.ref (He.ga K "rank")) := g 21 rfl
  obtain ⟨_, F_rank⟩ := fnAt c 21 (x := "rank") (st := sRank) rfl
  have m_likes : mg "likes" = some (.ref (He.ga K "likes")) := g 22 rfl
  obtain ⟨_, F_likes⟩ := fnAt c 22 (x := "likes") (st := sLikes) rfl
  have m_both_groups : mg "both_groups" = some (.ref (He.ga K "both_groups")) := g 23 rfl
  obtain ⟨_, F_both_groups⟩ := fnAt c 23 (x := "both_groups") (st := sBoth) rfl
  have m_lies_within : mg "lies_within" = some (.ref (He.ga K "lies_within")) := g 24 rfl
  obtain ⟨_, F_lies_within⟩ := fnAt c 24 (x := "lies_within") (st := sLies) rfl
  have m_part_groups : mg "part_groups" = some (.ref (He.ga K "part_groups")) := g 25 rfl
  obtain ⟨_, F_part_groups⟩ := fnAt c 25 (x := "part_groups") (st := sPartG) rfl
  have m_covered_turns : mg "covered_turns" = some (.ref (He.ga K "covered_turns")) := g 26 rfl
  obtain ⟨_, F_covered_turns⟩ := fnAt c 26 (x := "covered_turns") (st := sCovT) rfl
  have m_uncovered_turns : mg "uncovered_turns" = some (.ref (He.ga K "uncovered_turns")) := g 27 rfl
  obtain ⟨_, F_uncovered_turns⟩ := fnAt c 27 (x := "uncovered_turns") (st := sUncT) rfl
  have m_is_within : mg "is_within" = some (.ref (He.ga K "is_within")) := g 28 rfl
  obtain ⟨_, F_is_within⟩ := fnAt c 28 (x := "is_within") (st := sWithin) rfl
  have m_count_covered : mg "count_covered" = some (.ref (He.ga K "count_covered")) := g 29 rfl
  obtain ⟨_, F_count_covered⟩ := fnAt c 29 (x := "count_covered") (st := sCountC) rfl
  have m_uncovered : mg "uncovered" = some (.ref (He.ga K "uncovered")) := g 30 rfl
  obtain ⟨_, F_uncovered⟩ := fnAt c 30 (x := "uncovered") (st := sUnc) rfl
  have m_shows_uncovered : mg "shows_uncovered" = some (.ref (He.ga K "shows_uncovered")) := g 31 rfl
  obtain ⟨_, F_shows_uncovered⟩ := fnAt c 31 (x := "shows_uncovered") (st := sShowsU) rfl
  have m_halls_kept : mg "halls_kept" = some (.ref (He.ga K "halls_kept")) := g 32 rfl
  obtain ⟨_, F_halls_kept⟩ := fnAt c 32 (x := "halls_kept") (st := sKept) rfl
  have m_stayers : mg "stayers" = some (.ref (He.ga K "stayers")) := g 33 rfl
  obtain ⟨_, F_stayers⟩ := fnAt c 33 (x := "stayers") (st := sStayers) rfl
  have m_rings : mg "rings" = some (.ref (He.ga K "rings")) := g 34 rfl
  obtain ⟨_, F_rings⟩ := fnAt c 34 (x := "rings") (st := sRings) rfl
  have m_table : mg "table" = some (.ref (He.ga K "table")) := g 35 rfl
  obtain ⟨_, F_table⟩ := fnAt c 35 (x := "table") (st := sTable) rfl
  have m_check_whole : mg "check_whole" = some (.ref (He.ga K "check_whole")) := g 36 rfl
  obtain ⟨_, F_check_whole⟩ := fnAt c 36 (x := "check_whole") (st := sChkWhole) rfl
  have m_is_power : mg "is_power" = some (.ref (He.ga K "is_power")) := g 37 rfl
  obtain ⟨_, F_is_power⟩ := fnAt c 37 (x := "is_power") (st := sIsPower) rfl
  have m_are_powers : mg "are_powers" = some (.ref (He.ga K "are_powers")) := g 38 rfl
  obtain ⟨_, F_are_powers⟩ := fnAt c 38 (x := "are_powers") (st := sArePowers) rfl
  have m_is_plain : mg "is_plain" = some (.ref (He.ga K "is_plain")) := g 39 rfl
  obtain ⟨_, F_is_plain⟩ := fnAt c 39 (x := "is_plain") (st := sIsPlain) rfl
  have m_roamers : mg "roamers" = some (.ref (He.ga K "roamers")) := g 40 rfl
  obtain ⟨_, F_roamers⟩ := fnAt c 40 (x := "roamers") (st := sRoamers) rfl
  have m_plain_roamers : mg "plain_roamers" = some (.ref (He.ga K "plain_roamers")) := g 41 rfl
  obtain ⟨_, F_plain_roamers⟩ := fnAt c 41 (x := "plain_roamers") (st := sPlain) rfl
  have m_count_roamers : mg "count_roamers" = some (.ref (He.ga K "count_roamers")) := g 42 rfl
  obtain ⟨_, F_count_roamers⟩ := fnAt c 42 (x := "count_roamers") (st := sCountR) rfl
  have m_least_roamer : mg "least_roamer" = some (.ref (He.ga K "least_roamer")) := g 43 rfl
  obtain ⟨_, F_least_roamer⟩ := fnAt c 43 (x := "least_roamer") (st := sLeast) rfl
  have m_spare : mg "spare" = some (.ref (He.ga K "spare")) := g 44 rfl
  obtain ⟨_, F_spare⟩ := fnAt c 44 (x := "spare") (st := sSpare) rfl
  have m_has_fewest : mg "has_fewest" = some (.ref (He.ga K "has_fewest")) := g 45 rfl
  obtain ⟨_, F_has_fewest⟩ := fnAt c 45 (x := "has_fewest") (st := sFewest) rfl
  have m_is_sharp : mg "is_sharp" = some (.ref (He.ga K "is_sharp")) := g 46 rfl
  obtain ⟨_, F_is_sharp⟩ := fnAt c 46 (x := "is_sharp") (st := sSharp) rfl
  have m_surplus : mg "surplus" = some (.ref (He.ga K "surplus")) := g 47 rfl
  obtain ⟨_, F_surplus⟩ := fnAt c 47 (x := "surplus") (st := sSurplus) rfl
  have m_is_single : mg "is_single" = some (.ref (He.ga K "is_single")) := g 48 rfl
  obtain ⟨_, F_is_single⟩ := fnAt c 48 (x := "is_single") (st := sSingle) rfl
  have m_core : mg "core" = some (.ref (He.ga K "core")) := g 49 rfl
  obtain ⟨_, F_core⟩ := fnAt c 49 (x := "core") (st := sCore) rfl
  have m_core_is_group : mg "core_is_group" = some (.ref (He.ga K "core_is_group")) := g 50 rfl
  obtain ⟨_, F_core_is_group⟩ := fnAt c 50 (x := "core_is_group") (st := sCoreG) rfl
  have m_write_turn : mg "write_turn" = some (.ref (He.ga K "write_turn")) := g 51 rfl
  obtain ⟨_, F_write_turn⟩ := fnAt c 51 (x := "write_turn") (st := sWriteTurn) rfl
  have m_write_house : mg "write_house" = some (.ref (He.ga K "write_house")) := g 52 rfl
  obtain ⟨_, F_write_house⟩ := fnAt c 52 (x := "write_house") (st := sWriteHouse) rfl
  have m__law_taken : mg "_law_taken" = some (.ref (He.ga K "_law_taken")) := g 53 rfl
  obtain ⟨_, F__law_taken⟩ := fnAt c 53 (x := "_law_taken") (st := sTaken) rfl
  have m__law_pick : mg "_law_pick" = some (.ref (He.ga K "_law_pick")) := g 54 rfl
  obtain ⟨_, F__law_pick⟩ := fnAt c 54 (x := "_law_pick") (st := sPick) rfl
  have m__law_circle : mg "_law_circle" = some (.ref (He.ga K "_law_circle")) := g 55 rfl
  obtain ⟨_, F__law_circle⟩ := fnAt c 55 (x := "_law_circle") (st := sLCircle) rfl
  have m__law_error : mg "_law_error" = some (.ref (He.ga K "_law_error")) := g 56 rfl
  obtain ⟨_, F__law_error⟩ := fnAt c 56 (x := "_law_error") (st := sLErr) rfl
  have m__law_calls : mg "_law_calls" = some (.ref (He.ga K "_law_calls")) := g 57 rfl
  obtain ⟨_, F__law_calls⟩ := fnAt c 57 (x := "_law_calls") (st := sLCalls) rfl
  have m__law_parted : mg "_law_parted" = some (.ref (He.ga K "_law_parted")) := g 58 rfl
  obtain ⟨_, F__law_parted⟩ := fnAt c 58 (x := "_law_parted") (st := sLParted) rfl
  have m__law_more : mg "_law_more" = some (.ref (He.ga K "_law_more")) := g 59 rfl
  obtain ⟨_, F__law_more⟩ := fnAt c 59 (x := "_law_more") (st := sLMore) rfl
  have h_num := has_numX (P := P) (w := w) (mg := mg) (base := base) F_is_number m_is_number B
  have h_turn := has_turnX (P := P) (w := w) (mg := mg) (base := base) F_is_turn m_is_turn B h_num (code_ref F_is_turn) T_is_turn
  have h_turns := has_turnsX (P := P) (w := w) (mg := mg) (base := base) F_are_turns m_are_turns B mi_MOST_TURNS h_turn (code_ref F_are_turns) T_are_turns
  have h_fault := has_faultX (P := P) (w := w) (mg := mg) (base := base) F_house_fault m_house_fault B mi_MOST_HALLS h_num h_turns
  have hx_ch := has_chkhouseX (P := P) (w := w) (mg := mg) (base := base) F_check_house m_check_house f_BadHouse h_fault
  have h_ch := chk_of hx_ch
  have hb_ch := chk_bad hx_ch
  have hx_ct := has_chkturnX (P := P) (w := w) (mg := mg) (base := base) F_check_turn m_check_turn e_BadTurn h_turn
  have hx_cr := has_chkrowX (P := P) (w := w) (mg := mg) (base := base) F_check_row m_check_row B mi_LONGEST_ROW f_BadRow h_num
  have h_still := has_still (P := P) (w := w) (mg := mg) (base := base) F_still m_still B
  have h_then := has_then (P := P) (w := w) (mg := mg) (base := base) F_then m_then B
  have h_hall_led := has_hall (P := P) (w := w) (mg := mg) (base := base) F_hall_led m_hall_led
  have h_pair_led := has_pair (P := P) (w := w) (mg := mg) (base := base) F_pair_led m_pair_led
  have r_then := reached_has (P := P) (w := w) (mg := mg) (base := base) (S := S1 (He.ga K "then") (spThen K)) FR m_reached B (s1_held (Held.up (k := 2) (by decide) h_then m_then))
  have rL_then := reachedL_has (P := P) (w := w) (mg := mg) (base := base) (S := S1 (He.ga K "then") (spThen K)) FR m_reached B (s1_held (Held.up (k := 2) (by decide) h_then m_then))
  have r_hall_led := reached_has (P := P) (w := w) (mg := mg) (base := base) (S := S1 (He.ga K "hall_led") (spHall K)) FR m_reached B (s1_held (Held.up (k := 2) (by decide) h_hall_led m_hall_led))
  have r_pair_led := reached_has (P := P) (w := w) (mg := mg) (base := base) (S := S1 (He.ga K "pair_led") (spPair K)) FR m_reached B (s1_held (Held.up (k := 2) (by decide) h_pair_led m_pair_led))
  have h_ishouse := has_ishouseX (P := P) (w := w) (mg := mg) (base := base) F_is_house m_is_house h_fault
  have h_members := has_members (P := P) (w := w) (mg := mg) (base := base) F_members m_members B mi_MOST_MEMBERS m_then s1_self h_ch h_still (r_then).1
  have hb_members := has_membersR (P := P) (w := w) (mg := mg) (base := base) F_members m_members hb_ch
  have hg_members := has_membersG (P := P) (w := w) (mg := mg) (base := base) F_members m_members B mi_MOST_MEMBERS m_then s1_self f_TooMany h_ch h_still rL_then
  have hb_im : HasX P w K mg base "is_member" 9 (spB2 (C2H K (pTA K) (pAA K) (He.ga K "BadHouse"))) := has_ismemberR (P := P) (w := w) (mg := mg) (base := base) F_is_member m_is_member hb_ch
  have hg_im := has_ismemberG (P := P) (w := w) (mg := mg) (base := base) F_is_member m_is_member h_ch hx_ct hg_members
  have h_parts := has_parts (P := P) (w := w) (mg := mg) (base := base) F_parts m_parts B m_hall_led s1_self h_ch (r_hall_led).2
  have hb_parts := has_partsR (P := P) (w := w) (mg := mg) (base := base) F_parts m_parts hb_ch
  have h_trans := has_trans (P := P) (w := w) (mg := mg) (base := base) F_is_transitive m_is_transitive B h_parts
  have hb_trans := has_transR (P := P) (w := w) (mg := mg) (base := base) F_is_transitive m_is_transitive B hb_parts
  have h_cw := has_chkwholeG (P := P) (w := w) (mg := mg) (base := base) F_check_whole m_check_whole h_trans
  have hb_cw := has_chkwholeR (P := P) (w := w) (mg := mg) (base := base) F_check_whole m_check_whole hb_trans
  have h_rank := has_rank (P := P) (w := w) (mg := mg) (base := base) F_rank m_rank B m_pair_led s1_self h_ch (r_pair_led).2
  have h_sharp := has_sharpG (P := P) (w := w) (mg := mg) (base := base) F_is_sharp m_is_sharp B m_then s1_self h_cw h_rank h_still rL_then
  have CLB := calls_of (P := P) (w := w) (mg := mg) (base := base) B CBad.kp hb_members (spR1_CW hb_cw) hb_im F_order m_order F_table m_table F_roamers m_roamers F_count_roamers m_count_roamers F_least_roamer m_least_roamer F_plain_roamers m_plain_roamers F_spare m_spare F_has_fewest m_has_fewest F_surplus m_surplus F_is_single m_is_single F_core m_core F_core_is_group m_core_is_group
  have CLG := calls_of (P := P) (w := w) (mg := mg) (base := base) B CGreat.kp hg_members (cw_great h_cw) hg_im F_order m_order F_table m_table F_roamers m_roamers F_count_roamers m_count_roamers F_least_roamer m_least_roamer F_plain_roamers m_plain_roamers F_spare m_spare F_has_fewest m_has_fewest F_surplus m_surplus F_is_single m_is_single F_core m_core F_core_is_group m_core_is_group
  have MOB := more_of (P := P) (w := w) (mg := mg) (base := base) B hb_ch hb_parts hb_trans hb_cw F_rank m_rank F_likes m_likes F_stayers m_stayers F_rings m_rings F_made m_made F_is_sharp m_is_sharp F_write_house m_write_house
  have hh_both : HasX P w K mg base "both_groups" 9 (spB2 (C2H K (pTA K) (pAA K) (He.ga K "BadHouse"))) := has_bothR (P := P) (w := w) (mg := mg) (base := base) F_both_groups m_both_groups hb_ch
  have hB_both := has_bothB (P := P) (w := w) (mg := mg) (base := base) F_both_groups m_both_groups hx_ch
  have hG_both := has_bothG (P := P) (w := w) (mg := mg) (base := base) F_both_groups m_both_groups h_ch hg_members
  have hU_both := has_bothU (P := P) (w := w) (mg := mg) (base := base) F_both_groups m_both_groups e_Unlike h_ch
  have h_both := has_both (P := P) (w := w) (mg := mg) (base := base) F_both_groups m_both_groups h_ch h_members
  have h_lies := has_lies (P := P) (w := w) (mg := mg) (base := base) F_lies_within m_lies_within B
  have h_within := has_within (P := P) (w := w) (mg := mg) (base := base) F_is_within m_is_within h_both h_lies
  have h_pg := has_partG (P := P) (w := w) (mg := mg) (base := base) F_part_groups m_part_groups e_NotWithin h_both h_lies
  have PH := parted_of (P := P) (w := w) (mg := mg) (base := base) B F_is_within m_is_within F_part_groups m_part_groups F_uncovered_turns m_uncovered_turns F_count_covered m_count_covered F_uncovered m_uncovered F_shows_uncovered m_shows_uncovered hh_both
  have PB := parted_of (P := P) (w := w) (mg := mg) (base := base) B F_is_within m_is_within F_part_groups m_part_groups F_uncovered_turns m_uncovered_turns F_count_covered m_count_covered F_uncovered m_uncovered F_shows_uncovered m_shows_uncovered hB_both
  have PG := parted_of (P := P) (w := w) (mg := mg) (base := base) B F_is_within m_is_within F_part_groups m_part_groups F_uncovered_turns m_uncovered_turns F_count_covered m_count_covered F_uncovered m_uncovered F_shows_uncovered m_shows_uncovered hG_both
  have PU := parted_of (P := P) (w := w) (mg := mg) (base := base) B F_is_within m_is_within F_part_groups m_part_groups F_uncovered_turns m_uncovered_turns F_count_covered m_count_covered F_uncovered m_uncovered F_shows_uncovered m_shows_uncovered hU_both
  have PN := parted_not (P := P) (w := w) (mg := mg) (base := base) B F_uncovered_turns m_uncovered_turns F_count_covered m_count_covered F_uncovered m_uncovered F_shows_uncovered m_shows_uncovered h_within h_pg
  have h_taken := has_taken (P := P) (w := w) (mg := mg) (base := base) F__law_taken m__law_taken B
  have h_pick := has_pick (P := P) (w := w) (mg := mg) (base := base) F__law_pick m__law_pick B h_taken
  have h_circle := has_lcircle (P := P) (w := w) (mg := mg) (base := base) F__law_circle m__law_circle B
  have D := errD_of XD (fun i => by cases i <;> first | exact g_BadHouse | exact g_BadRow | exact g_TooMany | exact e_BadTurn.g | exact e_NotWithin.g | exact e_Unlike.g) (g 101 rfl) (He.free_ok X G (c.fact 102 (f := .free "ValueError") rfl))
  have okE := ok_lerr (P := P) (w := w) (mg := mg) (base := base) (k := 14) F__law_error B D
  have LCB := has_lcalls (A := aeK K) (P := P) (w := w) (mg := mg) (base := base) F__law_calls m__law_calls (code_ref F__law_calls) T__law_calls CLB
  have LCG := has_lcalls (A := aeK K) (P := P) (w := w) (mg := mg) (base := base) F__law_calls m__law_calls (code_ref F__law_calls) T__law_calls CLG
  have LMB := has_lmore (A := aeK K) (P := P) (w := w) (mg := mg) (base := base) F__law_more m__law_more (code_ref F__law_more) T__law_more MOB
  have LPH := has_lparted (A := aeK K) (P := P) (w := w) (mg := mg) (base := base) F__law_parted m__law_parted (code_ref F__law_parted) T__law_parted PH
  have LPB := has_lparted (A := aeK K) (P := P) (w := w) (mg := mg) (base := base) F__law_parted m__law_parted (code_ref F__law_parted) T__law_parted PB
  have LPG := has_lparted (A := aeK K) (P := P) (w := w) (mg := mg) (base := base) F__law_parted m__law_parted (code_ref F__law_parted) T__law_parted PG
  have LPU := has_lparted (A := aeK K) (P := P) (w := w) (mg := mg) (base := base) F__law_parted m__law_parted (code_ref F__law_parted) T__law_parted PU
  have LPN := has_lparted (A := aeK K) (P := P) (w := w) (mg := mg) (base := base) F__law_parted m__law_parted (code_ref F__law_parted) T__law_parted PN
  have ho_im := has_ismemberO (P := P) (w := w) (mg := mg) (base := base) F_is_member m_is_member h_ch hx_ct
  have ho_likes := has_likesO (P := P) (w := w) (mg := mg) (base := base) F_likes m_likes h_ch hx_ct
  have ho_stayers := has_stayersO (P := P) (w := w) (mg := mg) (base := base) F_stayers m_stayers h_ch hx_ct
  have ho_rings := has_ringsO (P := P) (w := w) (mg := mg) (base := base) F_rings m_rings h_ch hx_ct
  have ho_made := has_madeO (P := P) (w := w) (mg := mg) (base := base) F_made m_made B h_ch hx_cr
  exact ok_law FLaw B ⟨h_taken, h_pick, h_circle, h_ishouse, LCB, LCG, LMB, LPH, LPB, LPG, LPU, LPN, ho_im, ho_likes, ho_stayers, ho_rings, ho_made, h_sharp, h_rank, h_trans, h_parts, h_within⟩ F__law_error m__law_error okE (code_ref FLaw) T_law ne
end
end NS
open PySem PySem.W PySem.Calls PyProof.Rows
theorem PySem.Challenge.cw_nobodystays_k10_all_refused_holds : PySem.Challenge.rw_nobodystays_k10_all_refused.Holds := by
  w_on; o_law
  refine HandSHeadRun.head_any (r := OpenLaw.row PySem.Challenge.rw_nobodystays_k10_all_refused) (q := view (OpenLaw.row PySem.Challenge.rw_nobodystays_k10_all_refused).prog [83]) (H := NS.hk) (ob := NS.ob) (M := 4000) (loose := NS.names) (d := HandSHeadRun.topDef (OpenLaw.row PySem.Challenge.rw_nobodystays_k10_all_refused).prog 83) (kwd := []) NS.ob_eq
    (by kernel_rfl) (fun s => by kernel_rfl) NS.run (by kernel_rfl) (by kernel_rfl) (by kernel_rfl) (by rfl) (by first | assumption | decide +kernel) (by decide +kernel) ⟨rfl, rfl, rfl, rfl, rfl, by decide +kernel⟩ ?hw ?hc
  case hw => w_witness2
  case hc =>
    refine LamX.walk_ofTsE (l := PySem.Challenge.rw_nobodystays_k10_all_refused) (n := 63) (k := 17) (x := "script") (CX := fun _ => L2.CX0) rfl (by decide) (by kernel_rfl) ⟨rfl, by decide, by decide⟩ ?F (fun _ _ _ _ _ z => z)
    intro w mg fa h Y G hmg0
    obtain ⟨K, KX, c⟩ := Y
    have hmg : mg ("law" : PySem.Str) = some (.ref fa) := by
      have e : (HandSHeadRun.topDef (OpenLaw.row PySem.Challenge.rw_nobodystays_k10_all_refused).prog 83).name = ("law" : PySem.Str) := by kernel_rfl
      rw [← e]
      exact hmg0
    have e := hmg.symm.trans (He.glo_ok KX G (c.t.d.fact 60 (f := .glo "law") rfl))
    cases e
    refine ⟨K, KX, ?_⟩
    obtain ⟨fd, FX⟩ := NS.fnAt c.t.d 60 (x := "law") (st := NS.sLaw) rfl
    have b := L2.FunD.bindsA (ps := ["script"]) FX fun _ _ _ _ _ _ us hl => match us, hl with | [_], _ => rfl
    refine ⟨fd, NS.tf.map (He.cT K), NS.spLaw K (NS.pTA K) (NS.pAA K) (NS.pLA K) (NS.pCA K) (NS.pPA K) (NS.pMA K), fun p hp => ?_, fun p hp => ?_, fun p hp => ?_, fun s v => b s [v] rfl, fun H a ns hl hb hT hS => ⟨a, ns, rfl, hS, NS.tabG0 (hT (He.cT K ("is_turn", none)) (List.mem_map.mpr ⟨_, List.mem_cons_self, rfl⟩)), NS.tabG0 (hT (He.cT K ("are_turns", none)) (List.mem_map.mpr ⟨_, List.mem_cons_of_mem _ List.mem_cons_self, rfl⟩)), hT (He.cT K ("law", none)) (List.mem_map.mpr ⟨_, List.mem_cons_of_mem _ (List.mem_cons_of_mem _ (List.mem_cons_self)), rfl⟩), hT (He.cT K ("_law_calls", none)) (List.mem_map.mpr ⟨_, List.mem_cons_of_mem _ (List.mem_cons_of_mem _ (List.mem_cons_of_mem _ (List.mem_cons_self))), rfl⟩), hT (He.cT K ("_law_parted", none)) (List.mem_map.mpr ⟨_, List.mem_cons_of_mem _ (List.mem_cons_of_mem _ (List.mem_cons_of_mem _ (List.mem_cons_of_mem _ (List.mem_cons_self)))), rfl⟩), hT (He.cT K ("_law_more", none)) (List.mem_map.mpr ⟨_, List.mem_cons_of_mem _ (List.mem_cons_of_mem _ (List.mem_cons_of_mem _ (List.mem_cons_of_mem _ (List.mem_cons_of_mem _ (List.mem_cons_self))))), rfl⟩), fun _ => rfl⟩, fun base KB GB TB => ?_⟩
    · obtain ⟨d, hd, rfl⟩ := List.mem_map.mp hp
      exact c.empty d hd
    · obtain ⟨d, hd, rfl⟩ := List.mem_map.mp hp
      exact c.out d hd
    · obtain ⟨d, hd, rfl⟩ := List.mem_map.mp hp
      exact PySem.W.codeHd_of_K KX (c.hd d hd)
    · have z1 := TB (He.cT K ("is_turn", none)) (List.mem_map.mpr ⟨_, List.mem_cons_self, rfl⟩)
      have z2 := TB (He.cT K ("are_turns", none)) (List.mem_map.mpr ⟨_, List.mem_cons_of_mem _ List.mem_cons_self, rfl⟩)
      have z3 := TB (He.cT K ("law", none)) (List.mem_map.mpr ⟨_, List.mem_cons_of_mem _ (List.mem_cons_of_mem _ (List.mem_cons_self)), rfl⟩)
      have z4 := TB (He.cT K ("_law_calls", none)) (List.mem_map.mpr ⟨_, List.mem_cons_of_mem _ (List.mem_cons_of_mem _ (List.mem_cons_of_mem _ (List.mem_cons_self))), rfl⟩)
      have z5 := TB (He.cT K ("_law_parted", none)) (List.mem_map.mpr ⟨_, List.mem_cons_of_mem _ (List.mem_cons_of_mem _ (List.mem_cons_of_mem _ (List.mem_cons_of_mem _ (List.mem_cons_self)))), rfl⟩)
      have z6 := TB (He.cT K ("_law_more", none)) (List.mem_map.mpr ⟨_, List.mem_cons_of_mem _ (List.mem_cons_of_mem _ (List.mem_cons_of_mem _ (List.mem_cons_of_mem _ (List.mem_cons_of_mem _ (List.mem_cons_self))))), rfl⟩)
      exact NS.law_all KX G c.t.d FX c.more ⟨z1.code, z1.bm, z1.gP⟩ ⟨z2.code, z2.bm, z2.gP⟩ z3 z4 z5 z6
end
