import PyProof.Rows.All
import Wide.All
import OpenK.AllK
import Wide.FinOn
import HandS.ForMost
import HandS.AnyAll
import HandS.GenList
import PyProof.ConsumeS
import PyProof.Rows.SeqGen
import HandS.TupSets
import KE.KeyNested
import HandS.SortInts
import KE.KSortTupAny
import HandS.Strs
import HandS.SetBool
import HandS.Comp
import HandS.SetFor
import PyProof.Draws
import PyProof.EnumMake
import HandS.Iter
import HandS.Deep
import HandS.CallLocal
import HandS.Defaults
import HandS.TupAny
import HandS.Conv
import HandS.IsInst
import HandS.ForExc
import HandS.Star
import HandS.ExcInit
import HandS.HeadHook1
import HandS.More
import HandS.HeadHook3
import HandS.Codes
import HandS.ReplaceList
import PyProof.StrOps2
import KE.GoesEnumKw
import KE.KDictDisplayH
import KE.KDictKeyed
import KE.KDictWalk
import KE.KDictCopyH
import PyProof.Rows.TupTab
import PyProof.NeKinds
import PyProof.EqAt
import PyProof.WalksMore
import PyProof.Rows.SumAny
import HandS.List
import HandS.FStr
import HandS.ReplaceLit
import PyProof.StrReplace2
import HandS.Exc
import HandS.TryMany
import HandS.ExcField
import HandS.Property
import HandS.HeadNt
import HandS.HeadHook2
import HandS.HeadHook4
import HandS.Head0
import HandS.Head1
import HandS.Head2
import HandS.HeadEnd
import HandS.HeadWalk
import PySem.Challenge.RW_nobodystays_k09_whole_texts
set_option Elab.async false
set_option linter.all false
set_option maxRecDepth 100000
namespace ZS
end ZS
section
namespace NS
open PySem PySem.Spec PyProof.Rows L2
abbrev PR : Program := PySem.Challenge.pw_nobodystays_k09_whole_texts
def top (i : Nat) : Stmt := PR.main.body.getD i (.Pass ⟨0, 0, 0, 0⟩)
abbrev sNumber : Stmt := top 8
abbrev sIsTurn : Stmt := top 9
abbrev sAreTurns : Stmt := top 10
abbrev sFault : Stmt := top 11
abbrev sCheckHouse : Stmt := top 12
def oexB (K : PySem.W.Frag) (C : Addr) : Bool := (match K.lookup C with
  | some ⟨.type "type", _, .cls cd, sl⟩ => (match cd.mro, sl.toList with
    | .ref C' :: bm, [_, _, _, _, some (.builtin n), _] => C' == C && n == "ValueError.__new__" && !cd.hasDel && cd.hasDict && PySem.HandSPX.refsVE bm
    | _, _ => false)
  | _ => false) && decide (PySem.W.findIn K (.ref C) "__setattr__" = some (some (.builtin "object.__setattr__"))) && decide (PySem.W.subIn K (.ref C) (.type "BaseException") = some true) && decide (PySem.W.typeIn K (.ref C) = some (.type "type")) && PySem.W.keepIn K (.ref C)
/-- a part of a class's text -/
def clsIt : Stmt → Nat → Stmt
  | .ClassDef _ _ _ body .., i => body.getD i (.Pass ⟨0, 0, 0, 0⟩)
  | _, _ => .Pass ⟨0, 0, 0, 0⟩
abbrev sLineInit : Stmt := clsIt (top 4) 0
def valSB : List DictEntry → List Int → Bool
  | [], [] => true
  | e :: es, k :: ks => (match e.val with | .int j _ => decide (j = k) | _ => false) && valSB es ks
  | _, _ => false
def dicSB (K : PySem.W.Frag) (x : Str) (vs : List Int) : Bool := match K.lookup (He.ga K x) with
  | some ⟨_, _, .dict es _, _⟩ => valSB es.toList vs
  | _ => false
abbrev sTaken : Stmt := top 25
abbrev sPick : Stmt := top 26
abbrev sLTurn : Stmt := top 28
abbrev sAlike : Stmt := top 27
abbrev sWordsOf : Stmt := top 17
abbrev sSecond : Stmt := top 18
abbrev sChkEnd : Stmt := top 19
abbrev sReadHalls : Stmt := top 20
abbrev sReadTurn : Stmt := top 21
abbrev sReadLines : Stmt := top 22
abbrev sReadHouse : Stmt := top 23
abbrev sWriteTurn : Stmt := top 15
abbrev sWriteHouse : Stmt := top 16
abbrev sLLoose : Stmt := top 29
abbrev sLTold : Stmt := top 30
abbrev sLRefused : Stmt := top 31
abbrev sLaw : Stmt := top 32
def md (x m qual : Str) (st : Stmt) : He.DefD := ⟨(x, some m), m, qual, defArgs st, defBody st, defScope st, [], []⟩
abbrev frZ (n : Nat) (g : Addr → Option Obj) : PySem.W.Frag := He.frT g (cStatics :: He.asD g n)
def obsZ (n : Nat) (fa : List He.Fa) (fn : List He.DefD) (ts : List He.Tab) (tf : List He.Defn) (ex : PySem.W.Frag → Bool) (g : Addr → Option Obj) : He.AlX := (He.obsT fa fn ts (frZ n g), ex (frZ n g) && He.tabsB g tf (frZ n g))
theorem saysZ_of {n : Nat} {fa : List He.Fa} {fn : List He.DefD} {ts : List He.Tab} {tf : List He.Defn} {ex : PySem.W.Frag → Bool} {w : World} {h : Heap} (e : obsZ n fa fn ts tf ex h.get? = He.valX fn ts w) : He.SaysX fa fn ts tf ex w h (frZ n h.get?) := by
  have e1 := congrArg Prod.fst e
  have e2 : (ex (frZ n h.get?) && He.tabsB h.get? tf (frZ n h.get?)) = true := congrArg Prod.snd e
  obtain ⟨h1, h2⟩ := He.ba e2
  have all : ∀ p ∈ tf, ∃ o, h.get? (He.cT (frZ n h.get?) p).2 = some o ∧ He.emptyTab o = true ∧ PySem.W.codeHdIn (frZ n h.get?) (He.cT (frZ n h.get?) p).1 (He.cT (frZ n h.get?) p).2 = true := fun p hp => by
    obtain ⟨h3, h4⟩ := He.ba (List.all_eq_true.mp h2 p hp)
    split at h4
    · rename_i o q
      exact ⟨o, q, h4, h3⟩
    · cases h4
  exact ⟨e1, h1, fun p hp => let ⟨o, _, _, c⟩ := all p hp; c, fun p hp => let ⟨o, q, t, _⟩ := all p hp; He.frT_none q t, fun p hp => let ⟨o, q, t, _⟩ := all p hp; by rw [q, He.emptyTab_eq t]⟩
def hookZ (n : Nat) (fa : List He.Fa) (fn : List He.DefD) (ts : List He.Tab) (tf : List He.Defn) (ex : PySem.W.Frag → Bool) : PySem.W.Hook where
  α := He.AlX
  obs := fun s => obsZ n fa fn ts tf ex s.heap.get?
  val := fun w => He.valX fn ts w
  says := fun w h => ∃ K : PySem.W.Frag, K.In h ∧ He.SaysX fa fn ts tf ex w h K
  of := fun _ _ e => ⟨_, He.frT_in, saysZ_of e⟩
  keeps := fun _ _ _ ⟨K, hK, c⟩ k => ⟨K, PySem.W.Frag.In.keeps hK k, ⟨c.t, c.more, c.hd, c.out, fun p hp => k _ _ (c.empty p hp)⟩⟩
theorem obsZ_eq {n : Nat} {fa : List He.Fa} {fn : List He.DefD} {ts : List He.Tab} {tf : List He.Defn} {ex : PySem.W.Frag → Bool} {g : Addr → Option Obj} {s : Shared} (h : ∀ a, g a = s.heap.get? a) : obsZ n fa fn ts tf ex g = (hookZ n fa fn ts tf ex).obs s := by
  rw [show g = s.heap.get? from funext h] <;> rfl
def shareB (K : PySem.W.Frag) : Bool := He.eqO (PySem.W.nsIn K cStatics sharingNotToldKey) (some none)
end NS
end
section
set_option maxHeartbeats 0
/-! HD: the head -/
namespace NS
open PySem PySem.Spec PyProof.Rows L2 ZS
def dd (x : Str) (st : Stmt) (df : List He.Dv) : He.DefD := ⟨(x, none), x, x, defArgs st, defBody st, defScope st, df, []⟩
def fn : List He.DefD := [dd "is_number" sNumber [], dd "is_turn" sIsTurn [], dd "are_turns" sAreTurns [], dd "house_fault" sFault [], dd "check_house" sCheckHouse [], dd "write_turn" sWriteTurn [], dd "write_house" sWriteHouse [], dd "words_of" sWordsOf [], dd "second_word" sSecond [], dd "check_end" sChkEnd [], dd "read_halls" sReadHalls [], dd "read_turn" sReadTurn [], dd "read_lines" sReadLines [], dd "read_house" sReadHouse [], dd "_law_taken" sTaken [], dd "_law_pick" sPick [], dd "_law_alike" sAlike [], dd "_law_turn" sLTurn [], dd "_law_loose" sLLoose [], dd "_law_told" sLTold [], dd "_law_refused" sLRefused [], dd "law" sLaw [], md "BadLine" "__init__" "BadLine.__init__" sLineInit]
def fa1 : List He.Fa := [.glo "is_number", .glo "is_turn", .glo "are_turns", .glo "house_fault", .glo "check_house", .glo "write_turn", .glo "write_house", .glo "words_of", .glo "second_word", .glo "check_end", .glo "read_halls", .glo "read_turn", .glo "read_lines", .glo "read_house", .glo "_law_taken", .glo "_law_pick", .glo "_law_alike", .glo "_law_turn", .glo "_law_loose", .glo "_law_told", .glo "_law_refused", .glo "law"]
def fa2 : List He.Fa := [.free "tuple", .free "list", .free "len", .free "range", .free "isinstance", .free "set", .free "sorted", .free "all", .free "sum", .free "enumerate", .free "int", .free "bool", .free "str", .free "any", .free "min", .int "MOST_HALLS" 8, .int "MOST_TURNS" 6]
def fa3 : List He.Fa := [.glo "BadText", .exc "BadText", .exm "BadText" "BadText" true]
def fa4 : List He.Fa := [.glo "BadLine", .meth "BadLine" "__init__", .noat "BadLine" "line", .noat "BadLine" "word", .exm "BadLine" "BadLine" true, .exm "BadText" "BadLine" false, .glo "FIGURES"]
def fa : List He.Fa := fa1 ++ fa2 ++ fa3 ++ fa4
def tf : List He.Defn := [("is_turn", none), ("are_turns", none)]
def exB (K : PySem.W.Frag) : Bool := dicSB K "FIGURES" [0, 1, 2, 3, 4, 5, 6, 7, 8] && oexB K (He.ga K "BadLine") && xfB K (He.ga K "BadLine") && shareB K
def names1 : List PySem.Str := ["TurnError", "BadHouse", "BadText", "BadLine", "MOST_HALLS", "MOST_TURNS", "FIGURES", "is_number", "is_turn", "are_turns", "house_fault", "check_house", "write_turn", "write_house", "words_of", "second_word", "check_end", "read_halls", "read_turn", "read_lines"]
def names2 : List PySem.Str := ["read_house", "_law_taken", "_law_pick", "_law_alike", "_law_turn", "_law_loose", "_law_told", "_law_refused"]
def names : List PySem.Str := names1 ++ names2
def ts : List He.Tab := [(fun K => He.ga K "FIGURES", ["0", "1", "2", "3", "4", "5", "6", "7", "8"])]
abbrev RR : PySem.W.OpenRow := PySem.W.OpenLaw.row PySem.Challenge.rw_nobodystays_k09_whole_texts
abbrev hk : PySem.W.Hook := hookZ 5 fa fn ts tf exB
def ob (s : PySem.W.SharedT) : He.AlX := obsZ 5 fa fn ts tf exB (HandSHeadRun.getT s)
theorem ob_eq (s : PySem.W.SharedT) : ob s = hk.obs s.abs := obsZ_eq (HandSHeadRun.getT_eq s)
theorem run_split {p : World → Prop} (h : ∀ (w : World) (b : Bool), p { w with params := { w.params with followText := fun s => if s = "special-get-raises" then b else w.params.followText s } }) (w : World) : p w := by
  have e : { w with params := { w.params with followText := fun s => if s = "special-get-raises" then w.params.followText "special-get-raises" else w.params.followText s } } = w := by
    obtain ⟨d, P⟩ := w
    cases P
    simp only
    congr 2
    funext s
    split
    · rename_i h
      rw [h]
    · rfl
  have := h w (w.params.followText "special-get-raises")
  rwa [e] at this
def wB (w : World) (b : Bool) : World := { w with params := { w.params with followText := fun s => if s = "special-get-raises" then b else w.params.followText s } }
theorem run0 (w : World) : HandSHeadRun.RunEq RR (PySem.W.view RR.prog [32]) hk ob 16000 names (wB w false) := by
  intro os
  kernel_rfl
theorem run1 (w : World) : HandSHeadRun.RunEq RR (PySem.W.view RR.prog [32]) hk ob 16000 names (wB w true) := by
  intro os
  kernel_rfl
theorem run (w : World) : HandSHeadRun.RunEq RR (PySem.W.view RR.prog [32]) hk ob 16000 names w := by
  refine run_split (p := fun w => HandSHeadRun.RunEq RR (PySem.W.view RR.prog [32]) hk ob 16000 names w) (fun w b => ?_) w
  cases b
  · exact run0 w
  · exact run1 w
end NS
end
section
set_option maxHeartbeats 4000000
/-! GAll: all(test for x in a tuple), the test any expression of the frame (calls of own defs within) -/
namespace GA
open PySem PySem.Spec PyProof.Rows L2 GenW
/-- a generator expression's frame, as a context -/
def gx (X : Cx) (N : List Str) (env : Env) (A : Around) (s : Shared) (H : Hp) (ex : List Addr) : Cx :=
  { prog := X.prog, w := X.w, K := X.K, mg := X.mg, base := X.base, A := A, N := N, s_0 := s, H_0 := H, env := env,
    outer := X.stack, stack := env :: X.stack, ex := ex, fn := fun _ => false, calm := true, pn := [], xe := fun _ _ => False }
structure Wk (s s' : Shared) : Prop where
  os : s'.os = s.os
  bare : AllBare s'.gens
  heap : s'.heap = s.heap
theorem Wk.inv {X : Cx} {pins : List (Addr × Obj)} {σ : L2.St} {H : Hp} {s s' : Shared} (k : Wk s s') (I : Inv X pins σ H s) : Inv X pins σ H s' :=
  I.call' (ch := []) k.os (by rw [k.heap]; exact Un.refl) (by rw [k.heap]; exact I.hok) k.bare (fun b z => absurd z (by simp))
section
variable {X : Cx} {pins : List (Addr × Obj)} {it : Addr} {vs : List (Option V)} {fp : List Addr} {tn : Nat → Heap → Prop} {W : Nat → Hp → Prop} {Qf : Hp → Prop} {pb : Nat → Bool} {n0 : Nat} {ag : Addr} {g : Nat}
def Top (X : Cx) (pins : List (Addr × Obj)) (it : Addr) (vs : List (Option V)) (fp : List Addr) (tn : Nat → Heap → Prop) (W : Nat → Hp → Prop) (i : Nat) (s : Shared) : Prop :=
  ∃ y H, Inv X pins (some (.ref it) :: y :: vs) H s ∧ tn i s.heap ∧ (∀ b ∈ fp, FpOk X pins H b) ∧ W i H
def Here (X : Cx) (pins : List (Addr × Obj)) (it : Addr) (vs : List (Option V)) (R : Hp → Prop) (s : Shared) : Prop :=
  ∃ y H, Inv X pins (some (.ref it) :: y :: vs) H s ∧ R H
/-- handed out: the truth of the test; it goes on only behind a true one -/
def Yp (X : Cx) (pins : List (Addr × Obj)) (it : Addr) (vs : List (Option V)) (Qf : Hp → Prop) (pb : Nat → Bool) (n0 : Nat) : Protocol := fun m _ v s kap =>
  ∃ i, (m + i = n0 ∧ i < n0) ∧ v = .bool (pb i) ∧ Here X pins it vs (fun H => pb i = false → Qf H) s ∧ (pb i = true → ∀ s', Wk s s' → kap (.send .none) s')
abbrev Rp (X : Cx) (pins : List (Addr × Obj)) (it : Addr) (vs : List (Option V)) (W : Nat → Hp → Prop) (n0 : Nat) : GenEnd := fun n _ r s₁ => r = .ok .next ∧ (n = 1 ∧ Here X pins it vs (W n0) s₁)
theorem Top.wake {i : Nat} {s s' : Shared} (k : Wk s s') (h : Top X pins it vs fp tn W i s) : Top X pins it vs fp tn W i s' := by
  obtain ⟨y, H, I, t, f, w⟩ := h
  exact ⟨y, H, k.inv I, by rw [k.heap]; exact t, f, w⟩
/-- the generator's own loop -/
theorem seg_loop {A : Around} {elt iter : Expr} {x : Str} {px pos : Pos} {scope : Scope} {xs : List V} {a : Addr} {te : TE}
    (hA : A.over (.compLoop (.GeneratorExp elt [⟨.Name x px, iter, [], 0⟩] scope pos) 0 (.ref it) .none X.env) [] = X.A) (hc : X.calm = true) (hco : X.env.scope.isCoroutine = false) (hxe : X.xe = fun _ _ => False)
    (T : Turn X.prog X.w X.K (.Name x px) (Itt X.K a) fp it tn) (hg : PG X (.Name x px) (gName 1)) (hel : PE X elt te) (hl : xs.length = n0)
    (hxs : ∀ i H, W i H → SqT X.K H a xs)
    (step : ∀ i v H, xs[i]? = some v → W i H → te (some (.ref it) :: some v :: vs) H fun b H3 => b = .bl (pb i) ∧ (pb i = true → W (i + 1) H3) ∧ (pb i = false → Qf H3)) :
    ∀ (k i : Nat) (s₀ s : Shared), n0 - i = k → i ≤ n0 → Top X pins it vs fp tn W i s →
      Seg (model X.prog X.w) A (Rp X pins it vs W n0) (Yp X pins it vs Qf pb n0) (k + 1) s₀ (.compLoop (.GeneratorExp elt [⟨.Name x px, iter, [], 0⟩] scope pos) 0 (.ref it) .none X.env)
        ((model X.prog X.w).den (.compLoop (.GeneratorExp elt [⟨.Name x px, iter, [], 0⟩] scope pos) 0 (.ref it) .none X.env)) [] s := by
  intro k
  induction k with
  | zero =>
    intro i s₀ s hk hi ⟨y, H, I, t, f, w⟩
    have ei : i = n0 := by omega
    subst ei
    show Seg _ A _ _ _ s₀ _ ((compTurn (.GeneratorExp elt [⟨.Name x px, iter, [], 0⟩] scope pos) 0 (.ref it) .none X.env).onRaise (leaving X.env)) [] s
    rw [compTurn_gen, Sem.onRaise_eq_wrap]
    refine seg_bind_wrap (wpAny_standAt (seg_bind_wrap ?_))
    rw [hA]
    refine thn (T.done X rfl rfl rfl hc i pins s _ H _ I f t ⟨xs, hxs _ _ w, by omega⟩) fun r s1 ⟨hr, I1⟩ => ?_
    subst hr
    exact seg_end (.ok .next) ⟨rfl, rfl, y, H, I1, w⟩
  | succ k ih =>
    intro i s₀ s hk hi ⟨y, H, I, t, f, w⟩
    have hlt : i < xs.length := by omega
    obtain ⟨v, hv⟩ : ∃ v, xs[i]? = some v := ⟨xs[i], List.getElem?_eq_getElem hlt⟩
    show Seg _ A _ _ _ s₀ _ ((compTurn (.GeneratorExp elt [⟨.Name x px, iter, [], 0⟩] scope pos) 0 (.ref it) .none X.env).onRaise (leaving X.env)) [] s
    rw [compTurn_gen, Sem.onRaise_eq_wrap]
    refine seg_bind_wrap (wpAny_standAt (seg_bind_wrap ?_))
    rw [hA]
    refine thn (T.item X rfl rfl rfl hc i pins s _ H _ I f t ⟨xs, v, hxs _ _ w, hv⟩) fun r s1 ⟨u, hr, h1⟩ => ?_
    subst hr
    refine seg_bind_wrap ?_
    rw [hA]
    refine thn h1 fun _ s2 ⟨x2, H2, I2, r2, y2, t2, f2⟩ => ?_
    obtain ⟨eH, ex⟩ := y2
    subst eH
    have ev : x2 = v := Option.some.inj ((ex xs (hxs _ _ w)).symm.trans hv)
    subst ev
    have J2 := I2.pinned f (T.obj _ _ t2)
    refine seg_bind_wrap ?_
    rw [hA]
    refine wpAny_mono (hg.run _ s2 _ _ x2 u (fun σ' H' => σ' = some (.ref it) :: some x2 :: vs ∧ H' = H2) J2 r2 ⟨rfl, rfl⟩) (fun _ s3 h3 => ?_) fun e s3 z => (by rw [hxe] at z; exact z.elim)
    obtain ⟨σ3, H3, I3, e3, eH3⟩ := h3
    subst e3 eH3
    simp only [List.forIn_nil]
    refine seg_bind_wrap (wpAny_pure ?_)
    simp only [if_true]
    have hy : ∀ z, yieldOut X.env z = yieldValue z := fun z => by unfold yieldOut; simp only [hco, Bool.false_eq_true, if_false]
    simp only [hy]
    rw [Sem.bind_eq_wrap', Sem.bind_eq_wrap', Sem.wrap_wrap, Sem.wrap_wrap]
    refine seg_wrap ?_
    rw [hA]
    refine wpAny_mono (hel.run _ s3 _ _ _ I3 (step i x2 H3 hv w)) (fun z s4 h4 => ?_) fun e s4 z => (by rw [hxe] at z; exact z.elim)
    obtain ⟨b, H4, I4, r4, eb, q1, q2⟩ := h4
    subst eb
    have ez : z = Value.bool (pb i) := r4
    subst ez
    have t4 : tn (i + 1) s4.heap := T.keep _ _ _ t2 fun b hb o e => (I4.pin (b, o) (List.mem_append_right _ (List.mem_append_right _ (mem_pinsAt hb e)))).1
    have f4 : ∀ b ∈ fp, FpOk X pins H4 b := fun b hb => by
      obtain ⟨o, e, d⟩ := T.obj _ _ t2 b hb
      exact ⟨(I4.pin (b, o) (List.mem_append_right _ (List.mem_append_right _ (mem_pinsAt hb e)))).2.1, (f b hb).2⟩
    refine seg_at (seg_yield rfl rfl rfl ⟨i, ⟨by omega, by omega⟩, rfl, ⟨some x2, H4, I4.unpinned, q2⟩, fun hp s'' hw => ?_⟩)
    exact seg_again rfl (ih (i + 1) s'' s'' (by omega) (by omega) (Top.wake hw ⟨some x2, H4, I4.unpinned, t4, f4, q1 hp⟩))
theorem seg_begin {A : Around} {elt iter : Expr} {x : Str} {px pos : Pos} {scope : Scope} {xs : List V} {a : Addr} {te : TE}
    (hA : A.over (.compLoop (.GeneratorExp elt [⟨.Name x px, iter, [], 0⟩] scope pos) 0 (.ref it) .none X.env) [] = X.A) (hc : X.calm = true) (hco : X.env.scope.isCoroutine = false) (hxe : X.xe = fun _ _ => False)
    (T : Turn X.prog X.w X.K (.Name x px) (Itt X.K a) fp it tn) (hg : PG X (.Name x px) (gName 1)) (hel : PE X elt te) (hl : xs.length = n0)
    (hxs : ∀ i H, W i H → SqT X.K H a xs)
    (step : ∀ i v H, xs[i]? = some v → W i H → te (some (.ref it) :: some v :: vs) H fun b H3 => b = .bl (pb i) ∧ (pb i = true → W (i + 1) H3) ∧ (pb i = false → Qf H3))
    (s₀ s : Shared) (h : Top X pins it vs fp tn W 0 s) :
      Seg (model X.prog X.w) A (Rp X pins it vs W n0) (Yp X pins it vs Qf pb n0) (n0 + 1) s₀ (.compStart (.GeneratorExp elt [⟨.Name x px, iter, [], 0⟩] scope pos) 0 (.ref it) .none X.env)
        ((model X.prog X.w).den (.compStart (.GeneratorExp elt [⟨.Name x px, iter, [], 0⟩] scope pos) 0 (.ref it) .none X.env)) [] s := by
  have loop := seg_loop (A := A) (elt := elt) (iter := iter) (px := px) (scope := scope) (pos := pos) hA hc hco hxe T hg hel hl hxs step n0 0 s₀ s (Nat.sub_zero _) (Nat.zero_le _) h
  obtain ⟨y, H, I, t, f, w⟩ := h
  show Seg _ A _ _ _ s₀ _ ((compStart (.GeneratorExp elt [⟨.Name x px, iter, [], 0⟩] scope pos) 0 (.ref it) .none X.env).onRaise (leaving X.env)) [] s
  unfold compStart
  rw [Sem.onRaise_eq_wrap]
  show Seg _ A _ _ _ s₀ _ ((ask >>= _).wrap _ _ _ _) [] s
  refine seg_bind_wrap (wpAny_askSetting ?_)
  split
  · exact seg_again rfl loop
  · refine seg_bind_wrap (wpAny_rule ?_)
    show Seg _ A _ _ _ s₀ _ ((standAt iter.pos >>= _).wrap _ _ _ _) [] s
    exact seg_bind_wrap (wpAny_standAt (seg_bind_wrap (T.self _ 0 s _ _ t (seg_again rfl loop))))
/-- what the consumer knows between two turns -/
def Con (X : Cx) (pins : List (Addr × Obj)) (it : Addr) (vs : List (Option V)) (W : Nat → Hp → Prop) (Qf : Hp → Prop) (pb : Nat → Bool) (n0 : Nat) (ag : Addr) (g : Nat) (A : Around) (i : Nat) (s : Shared) : Prop :=
  s.heap.IsGen ag g ∧ s.heap.NoLimit ∧ AllBare s.gens ∧ ∃ gs, s.gens[g]? = some gs ∧ ∀ s', Wk s s' → gs.Goes (model X.prog X.w) A (Rp X pins it vs W n0) (Yp X pins it vs Qf pb n0) (n0 - i + 1) (.send .none) s'
theorem all_loop {prog : Program} {w : World} (ep : X.prog = prog) (ew : X.w = w) {A : Around} {R : Result → Shared → Prop} (hh : A.handled = none) (hd : A.depth < recursionLimit) (hpin : ∀ s, (∃ σ H, Inv X pins σ H s) → s.heap.IsGen ag g)
    (hT : ∀ s s', Here X pins it vs (W n0) s → s'.os = s.os → AllBare s'.gens → (∀ b o, s.heap.get? b = some o → s'.heap.get? b = some o) → R (.ok (.ret (.bool true))) s')
    (hF : ∀ s s', Here X pins it vs Qf s → Wk s s' → R (.ok (.ret (.bool false))) s') :
    ∀ (k i : Nat) (s : Shared), n0 - i = k → i ≤ n0 → Con X pins it vs W Qf pb n0 ag g A.in1.in1 i s → codeAny (model prog w) A (.builtin "all.loop" ⟨[.ref ag], []⟩) R s := by
  subst ep ew
  intro k
  induction k with
  | zero =>
    intro i s hk hi ⟨hg, hl, hb, gs, hgs, hgo⟩
    refine codeAny_builtin F.entry_all_loop ?_
    rw [Around.under_plainId F.plain_all_loop _]
    show wpAny _ A.in1 (pyNext (.ref ag) >>= _) _ _ s
    have go0 := hgo (s.setGen g .running) ⟨rfl, allBare_setGen hb rfl, rfl⟩
    rw [hk] at go0
    refine wpAny_bind (wpAny_pyNext_genexpQ (A := A.in1) (P := fun n _ s₁ => n = 1 ∧ Here X pins it vs (W n0) s₁) hh hl hd hg hgs go0 (fun v s₁ gs' hbare hv => ?_) (fun s₁ hp h' hk' => ?_))
    · obtain ⟨j, e, _⟩ := hv
      omega
    · obtain ⟨_, hp⟩ := hp
      refine wpAny_bind (wpAny_rule (wpAny_pure ?_))
      obtain ⟨y, H, I, _⟩ := id hp
      exact hT s₁ _ hp rfl (allBare_setGen I.bare rfl) hk'
  | succ k ih =>
    intro i s hk hi ⟨hg, hl, hb, gs, hgs, hgo⟩
    have hgl : g < s.gens.size := (Array.getElem?_eq_some_iff.mp hgs).1
    refine codeAny_builtin F.entry_all_loop ?_
    rw [Around.under_plainId F.plain_all_loop _]
    show wpAny _ A.in1 (pyNext (.ref ag) >>= _) _ _ s
    have go0 := hgo (s.setGen g .running) ⟨rfl, allBare_setGen hb rfl, rfl⟩
    rw [hk] at go0
    refine wpAny_bind (wpAny_gsz (n := g + 1) hgl (wpAny_pyNext_genexpQ (A := A.in1) (P := fun n _ s₁ => n = 1 ∧ Here X pins it vs (W n0) s₁) hh hl hd hg hgs go0 (fun v s₁ gs' hbare hv hsz => ?_) (fun s₁ hp h' hk' => ?_)))
    · obtain ⟨j, e, ev, hH, hgo'⟩ := hv
      have ej : j = i := by omega
      subst ej
      subst ev
      obtain ⟨y, H, I, q⟩ := hH
      have hsz1 : g < s₁.gens.size := by
        have z : g + 1 ≤ (s₁.setGen g gs').gens.size := hsz
        rw [setGen_size] at z
        omega
      refine wpAny_bind (wpAny_holding (wpAny_truthy_bool ?_))
      refine wpAny_bind (wpAny_letGo ?_)
      cases hb' : pb j with
      | true =>
        simp only [if_true]
        refine wpAny_pure ⟨plainId_quiet F.plain_all_loop _, ih (j + 1) _ (by omega) (by omega) ?_⟩
        refine ⟨show s₁.heap.IsGen ag g from hpin s₁ ⟨_, _, I⟩, show s₁.heap.NoLimit from I.nolimit, allBare_setGen I.bare hbare, gs', setGen_at hsz1, fun s' hw => ?_⟩
        have ek : n0 - (j + 1) + 1 = k + 1 := by omega
        rw [ek]
        exact hgo' hb' s' ⟨hw.os, hw.bare, hw.heap⟩
      | false =>
        simp only [Bool.false_eq_true, if_false]
        refine wpAny_bind (wpAny_rule (wpAny_pure ?_))
        exact hF s₁ _ ⟨y, H, I, q hb'⟩ ⟨rfl, allBare_setGen I.bare hbare, rfl⟩
    · intro _
      have z := hp.1
      omega
end
end GA
namespace GA
open PySem PySem.Spec PyProof.Rows L2 GenW
section
variable {env : Env} {scope : Scope} {x : Str}
theorem clo_at (S : GxR.GenS env scope x) {y : Str} {c : Addr} (h : (cloFrom env.cells scope.names []).lookup y = some c) : env.cells.lookup y = some c := by
  rcases cloFrom_mem (PySem.mem_of_lookup h) with z | ⟨h1, h2⟩
  · cases z
  · obtain ⟨c', e⟩ := S.free _ h1 rfl
    rw [h2, e]
    rfl
theorem clo_has (S : GxR.GenS env scope x) {y : Str} (h : scope.names.lookup y = some .free) : ∃ c, (cloFrom env.cells scope.names []).lookup y = some c ∧ env.cells.lookup y = some c := by
  obtain ⟨c, e⟩ := mem_lookup (cloFrom_has (cells := env.cells) (acc := []) (PySem.mem_of_lookup h))
  exact ⟨c, e, clo_at S e⟩
end
/-- the table at P has at most one place more, of the line gl -/
def Grew (P : Addr) (gl : Nat) (H H' : Hp) : Prop := GxR.Tabbed P H H' ∧ ∀ ps, H P = some (.tbl ps) → ∃ more : Array Value, H' P = some (.tbl (ps ++ more)) ∧ (more = #[] ∨ ∃ (col : Nat) (c : Value), more = #[rawInt gl, rawInt col, c])
/-- all(test for x in e), e a tuple xs; W: what holds ahead of the i-th test; fr: the captured names' slots -/
def tAllG (K : PySem.W.Frag) (P : Addr) (gl : Nat) (fr : List Nat) (te elr : TE) : TE := fun σ H Q => te σ H fun v H1 => ∃ (a : Addr) (xs : List V), v = .ref a ∧ SqT K H1 a xs ∧ GxR.TabG H1 P ∧ ∃ (pb : Nat → Bool) (W : Nat → Hp → Prop),
  (∀ H2, Grew P gl H1 H2 → W 0 H2) ∧ (∀ i H2, W i H2 → SqT K H2 a xs) ∧
  (∀ i v H2 it, xs[i]? = some v → W i H2 → elr (some (.ref it) :: some v :: fr.map fun j => σ.getD j none) H2 fun b H3 => b = .bl (pb i) ∧ (pb i = true → W (i + 1) H3) ∧ (pb i = false → Q (.bl false) H3)) ∧
  ∀ H2, W xs.length H2 → Q (.bl true) H2
section
variable {X : Cx}
theorem inv_gen {pins : List (Addr × Obj)} {σ : L2.St} {H : Hp} {s : Shared} {scope : Scope} {x : Str} {code : Value} {A : Around} {it : Addr} {fr : List (Str × Nat)} {h' : Heap} {G : Array GenState} {tk : Nat}
    (S : GxR.GenS X.env scope x) (I : Inv X pins σ H s) (hA : A.handled = none) (hfr : A.frames = some (genEnv scope (cloFrom X.env.cells scope.names []) s.heap.objs.size code builtinsNs X.env :: X.stack))
    (hit : it < s.heap.objs.size) (hitB : X.base.objs.size ≤ it) (hitS : it ∉ frs X.stack) (hitC : ∀ y c, X.env.cells.lookup y = some c → c ≠ it)
    (hN : ∀ p ∈ fr, X.N[p.2]? = some p.1 ∧ scope.names.lookup p.1 = some .free ∧ (X.env.kindOf p.1 = some .cell ∨ X.env.kindOf p.1 = some .free))
    (hn : h'.Ns s.heap.objs.size fun y => if y = ".0" then some (.ref it) else none) (hk : ∀ b o, s.heap.get? b = some o → h'.get? b = some o) (hG : AllBare G) :
    Inv (gx X (".0" :: x :: fr.map (·.1)) (genEnv scope (cloFrom X.env.cells scope.names []) s.heap.objs.size code builtinsNs X.env) A s H [it]) [] (some (.ref it) :: none :: fr.map fun p => σ.getD p.2 none) H { s with heap := h', gens := G, toks := tk } := by
  have e0 := I.env0
  have cellOf : ∀ {y c}, (cloFrom X.env.cells scope.names []).lookup y = some c → X.env.cells.lookup y = some c := fun h => clo_at S h
  refine ⟨⟨I.ok.mod, S.kind, I.ok.glob, rfl, Nat.le_refl _, fun y z c h1 h2 => I.ok.inj y z c (cellOf h1) (cellOf h2), fun y hy => ?_, fun y c z => absurd z (by simp [gx]), fun _ => hA, hfr, .inr ⟨rfl, rfl⟩, fun b hb => ?_, e0.bs, e0.bsz, fun b o e hb => ?_, fun b hb => ?_, e0.funs, e0.frf⟩,
    rfl, hG, Un.kept hk, ⟨_, hn, fun i y v h1 h2 h3 => ?_⟩, fun y c h => ?_, I.hok.fresh (Nat.le_refl _), fun y c h => I.freeC y c (cellOf h), fun p hp => absurd (show p ∈ ([] : List (Addr × Obj)) from hp) (by simp), I.hok.kept hk, ?_⟩
  · rcases hy with hy | hy
    · exact absurd rfl (S.cell _ (PySem.mem_of_lookup hy))
    · obtain ⟨c, e, _⟩ := clo_has S hy
      exact ⟨c, e⟩
  · obtain rfl : b = it := by simpa [gx] using hb
    exact ⟨Nat.ne_of_lt hit, fun y c e => hitC y c (cellOf e)⟩
  · obtain rfl : b = it := by simpa [gx] using hb
    exact absurd (Nat.lt_of_lt_of_le (Heap.lt_size e) hitB) (Nat.lt_irrefl _)
  · obtain rfl : b = it := by simpa [gx] using hb
    exact hitS
  · match i, h1, h2 with
    | 0, h1, h2 =>
      have ey : ".0" = y := Option.some.inj h1
      have ev : V.ref it = v := Option.some.inj (Option.some.inj h2)
      subst ey ev
      exact ⟨.ref it, rfl, .inl ⟨S.dot, by simp⟩⟩
    | 1, h1, h2 => exact absurd (show (none : Option V) = some v from Option.some.inj h2) (fun z => nomatch z)
    | j + 2, h1, h2 =>
      have h1' : (fr.map (·.1))[j]? = some y := h1
      have h2' : (fr.map fun p => σ.getD p.2 none)[j]? = some (some v) := h2
      rw [List.getElem?_map] at h1' h2'
      cases q : fr[j]? with
      | none => rw [q] at h1'; cases h1'
      | some p =>
        rw [q] at h1' h2'
        have ey : p.1 = y := Option.some.inj h1'
        have ev : σ.getD p.2 none = some v := Option.some.inj h2'
        obtain ⟨a1, a2, a3⟩ := hN p (List.mem_of_getElem? q)
        subst ey
        have ev' : σ[p.2]? = some (some v) := by
          rw [List.getD_eq_getElem?_getD] at ev
          cases z : σ[p.2]? with
          | none => rw [z] at ev; cases ev
          | some w => rw [z] at ev; exact congrArg some ev
        obtain ⟨m, _, hl⟩ := I.loc
        obtain ⟨u, ru, lk⟩ := hl p.2 p.1 v a1 ev' (by
          rcases a3 with z | z
          · exact .inr (.inl z)
          · exact .inr (.inr z))
        obtain ⟨c, ec, ec'⟩ := clo_has S a2
        rcases lk with ⟨z, _⟩ | ⟨_, c', e1, e2⟩
        · rcases a3 with w | w
          · rw [w] at z; cases z
          · rw [w] at z; cases z
        · rw [ec'] at e1
          cases e1
          obtain ⟨o, ho, hd⟩ := e2
          exact ⟨u, ru, .inr ⟨.inr a2, c, ec, o, hk _ _ ho, hd⟩⟩
  · obtain ⟨v, o, ho, hd⟩ := I.cell y c (cellOf h)
    exact ⟨v, o, hk _ _ ho, hd⟩
  · simp [gx]
end
end GA
namespace GA
open PySem PySem.Spec PyProof.Rows L2 GenW
section
variable {X : Cx}
theorem gen_around {A : Around} {elt iter : Expr} {x : Str} {px pos : Pos} {scope : Scope} {env : Env} {it : Addr} {st : List Env} (hf : A.frames = some st) :
    (A.over (.compLoop (.GeneratorExp elt [⟨.Name x px, iter, [], 0⟩] scope pos) 0 (.ref it) .none env) []).frames = some (env :: st) := by
  show pushEnvs [env] (pushEnvs [] A.frames) = _
  rw [hf]
  rfl
theorem gen_room {k : Nat} {A : Around} {elt iter : Expr} {x : Str} {px pos : Pos} {scope : Scope} {env : Env} {it : Addr} (r : Room (k + 1) A) :
    Room k (A.in1.in1.over (.compLoop (.GeneratorExp elt [⟨.Name x px, iter, [], 0⟩] scope pos) 0 (.ref it) .none env) []) := by
  have h1 := r.dp
  have h2 := r.un
  refine ⟨r.hd, ?_, ?_⟩
  · show A.depth + 0 + 1 + 3 * k + 5 < _
    omega
  · show A.units + 1 + 1 + 0 + 3 + 16 * k + 200 < _
    omega
theorem pe_allG {c P : Addr} {elt iter : Expr} {x : Str} {px p pos gpos : Pos} {scope : Scope} {te elr : TE} {k : Nat} (fr : List (Str × Nat))
    (hr : Room (k + 1) X.A) (hcalm : X.calm = true) (hg : Gl X "all") (hm : X.mg "all" = none) (TB : GxR.TabB X.base X.mg c P) (hcode : X.env.code = .ref c) (S : GxR.GenS X.env scope x) (hnd : ((".0" : Str) :: x :: fr.map (·.1)).Nodup)
    (hN : ∀ p ∈ fr, X.N[p.2]? = some p.1 ∧ scope.names.lookup p.1 = some .free ∧ (X.env.kindOf p.1 = some .cell ∨ X.env.kindOf p.1 = some .free))
    (hi : PE X iter te)
    (hel : ∀ (C : Addr) (code : Value) (A : Around) (s : Shared) (H : Hp) (ex : List Addr), Room k A →
      PE (gx X (".0" :: x :: fr.map (·.1)) (genEnv scope (cloFrom X.env.cells scope.names []) C code builtinsNs X.env) A s H ex) elt elr)
    (hs : ∀ v, genFold iter X.env v = pure v := by intro _; rfl)
    (he : starEach [.GeneratorExp elt [⟨.Name x px, iter, [], 0⟩] scope gpos] X.env = (false, eval (.GeneratorExp elt [⟨.Name x px, iter, [], 0⟩] scope gpos) X.env) :: starEach [] X.env := by rfl) :
    PE X (.Call (.Name "all" p) [.GeneratorExp elt [⟨.Name x px, iter, [], 0⟩] scope gpos] [] pos) (tAllG X.K P gpos.line (fr.map (·.2)) te elr) := by
  refine ⟨fun pins s σ H Q I h => wpAny_Call_Name_kw (ld_blt I hg hm boot_all (PyProof.Rows.callWith_builtin1 ?_ he (by rfl)))⟩
  rw [he]
  have hdp := hr.dp
  show wpAny (model X.prog X.w) X.A (spliced ((false, eval (.GeneratorExp elt [⟨.Name x px, iter, [], 0⟩] scope gpos) X.env) :: backTo pos (starEach [] X.env))) _ _ s
  refine Calls.spliced_cons (wpAny_GeneratorExp_make S.co (closure_ok S.free) S.cell S.dot S.kind (by omega) ?_ hs)
  refine thn (hi.run pins s σ H _ I h) fun xv s1 ⟨v, H1, I1, r1, q1⟩ => ?_
  obtain ⟨a, xs, rfl, hT, ⟨ps, hP, ht⟩, pb, W, w0, wT, step, fin⟩ := q1
  obtain rfl : xv = Value.ref a := r1
  obtain ⟨its, rv, pT, hz⟩ := I1.tuple hT
  refine wpAny_pyIter_tuple (show s1.heap.IsTuple a its.toArray from pT) ⟨I1.nolimit.push _, ?_⟩
  generalize ho : ({ cls := .type "tuple_iterator", data := .fields #[.ref a, .int 0 0] } : Obj) = o
  have hpush : ∀ b u, s1.heap.get? b = some u → (s1.heap.push o).get? b = some u := fun b u e => Heap.get?_push_of_some _ e
  have hsz2 : (s1.heap.push o).objs.size = s1.heap.objs.size + 1 := Heap.size_push ..
  have hit2 : (s1.heap.push o).IsTupleIter s1.heap.objs.size a 0 := by
    subst ho
    exact ⟨_, Heap.get?_push_size _ rfl, rfl, rfl⟩
  have fpo := I1.fpOk (b := s1.heap.objs.size) (Nat.le_refl _) (I1.hok.fresh (Nat.le_refl _))
  have hPs : s1.heap.get? P = some { cls := .none, data := .fields ps } := I1.hok P _ hP
  have hPlt : P < s1.heap.objs.size := Heap.lt_size hPs
  have hP2 := hpush P _ hPs
  have cd : PySem.W.CodeHd (s1.heap.push o) c P := TB.code.keeps fun b u e => hpush b u (I1.bk b u e)
  have main : ∀ (code : Value) (h3 : Heap) (tk : Nat) (more : Array Value), Heap.ExtBut P (s1.heap.push o) h3 → (s1.heap.push o).objs.size ≤ h3.objs.size → h3.get? P = some { cls := .none, data := .fields (ps ++ more) } → TriplesOk (ps ++ more).toList → (more = #[] ∨ ∃ (col : Nat) (c : Value), more = #[rawInt gpos.line, rawInt col, c]) →
      wpAny (model X.prog X.w) X.A (builtinsFor X.env.globals X.env.builtins) (fun bi s₄ =>
        ∀ h', h'.Ns s₄.heap.objs.size (fun y => if y = ".0" then some (.ref s1.heap.objs.size) else none) → Heap.SameBut s₄.heap.objs.size (s₄.heap.push { cls := .type "frame", data := .dict #[] }) h' →
          wpAny (model X.prog X.w) X.A (spliced (backTo pos (starEach [] X.env))) (fun us s' => wpAny (model X.prog X.w) X.A (call (.builtin "all") (.ref h'.objs.size :: us)) (EP X pins σ Q) X.xe s') X.xe { s₄ with
            gens := s₄.gens.push (.fresh (.compStart (.GeneratorExp elt [⟨.Name x px, iter, [], 0⟩] scope gpos) 0 (.ref s1.heap.objs.size) .none (genEnv scope (cloFrom X.env.cells scope.names []) s₄.heap.objs.size code bi X.env))),
            toks := s₄.toks + 1 + 1 + 1,
            heap := h'.push { cls := .type "generator", data := .fields #[.int s₄.gens.size 0, .str "<genexpr>" (s₄.toks + 1), .str (X.env.qual ++ "<genexpr>") (s₄.toks + 1 + 1)] } }) X.xe { s1 with heap := h3, toks := tk } := by
    intro code h3 tk more hx hge hP3 ht3 hmo
    have kb : ∀ b u, b ≠ P → s1.heap.get? b = some u → h3.get? b = some u := fun b u hb e => hx b u hb (hpush b u e)
    have I3 : Inv X pins σ (upd H1 P (.tbl (ps ++ more))) { s1 with heap := h3, gens := s1.gens, drawn := s1.drawn, toks := tk } :=
      GxR.inv_tab I1 hP kb hP3 I1.bare
    obtain ⟨bm, ob, e1, e2, e3, e4, e5, e6, e7, e8⟩ := TB.bm
    refine wpAny_builtinsFor (m := X.mg) (by rw [I1.ok.glob]; exact I3.mod.glob.keeps I3.bk) e1 e2 (I3.bk _ _ e5) e6 e7 e8 ?_
    intro h' hn hsb
    have lt1 : s1.heap.objs.size < h3.objs.size := by omega
    have hsz' : h'.objs.size = h3.objs.size + 1 := by rw [hsb.1, Heap.size_push]
    have k' : ∀ b u, h3.get? b = some u → h'.get? b = some u := fun b u e => hsb.extBut b u (Nat.ne_of_lt (Heap.lt_size e)) (Heap.get?_push_of_some _ e)
    generalize hgo : ({ cls := .type "generator", data := .fields #[.int s1.gens.size 0, .str "<genexpr>" (tk + 1), .str (X.env.qual ++ "<genexpr>") (tk + 1 + 1)] } : Obj) = go
    have k5 : ∀ b u, h3.get? b = some u → (h'.push go).get? b = some u := fun b u e => Heap.get?_push_of_some _ (k' b u e)
    have hgo5 : (h'.push go).get? h'.objs.size = some go := by subst hgo; exact Heap.get?_push_size _ rfl
    have gend : ∀ v, go.data ≠ .cell v := fun v z => by subst hgo; cases z
    have isg : ∀ h : Heap, h.get? h'.objs.size = some go → h.IsGen h'.objs.size s1.gens.size := fun h e => by
      subst hgo
      exact ⟨_, _, _, e, rfl, rfl, rfl⟩
    -- the iterator is none of what stands
    have itS : s1.heap.objs.size ∉ frs X.stack := fun hb => by
      obtain ⟨_, u, hu, _⟩ := I1.env0.funs.mem hb
      exact absurd (Heap.lt_size hu) (Nat.lt_irrefl _)
    obtain ⟨f0, f1, f2, f3, f4, f5⟩ := fpo
    obtain ⟨Ag, hAg⟩ : ∃ Ag, Ag = X.A.in1.in1.over (.compLoop (.GeneratorExp elt [⟨.Name x px, iter, [], 0⟩] scope gpos) 0 (.ref s1.heap.objs.size) .none (genEnv scope (cloFrom X.env.cells scope.names []) h3.objs.size code builtinsNs X.env)) [] := ⟨_, rfl⟩
    have rg : Room k Ag := by rw [hAg]; exact gen_room hr
    have frg : Ag.frames = some (genEnv scope (cloFrom X.env.cells scope.names []) h3.objs.size code builtinsNs X.env :: X.stack) := by
      rw [hAg]
      exact gen_around (A := X.A.in1.in1) I1.ok.frames
    have J0 := inv_gen (x := x) (fr := fr) (code := code) (A := Ag) (it := s1.heap.objs.size) (h' := h'.push go) (G := s1.gens.push (.fresh (.compStart (.GeneratorExp elt [⟨.Name x px, iter, [], 0⟩] scope gpos) 0 (.ref s1.heap.objs.size) .none (genEnv scope (cloFrom X.env.cells scope.names []) h3.objs.size code builtinsNs X.env)))) (tk := tk + 1 + 1 + 1) S I3 rg.hd frg lt1 (Nat.le_trans I1.ok.bsz I1.sz) itS f4 hN (hn.push go) k5 (I1.bare.push rfl)
    generalize hXg : gx X (".0" :: x :: fr.map (·.1)) (genEnv scope (cloFrom X.env.cells scope.names []) h3.objs.size code builtinsNs X.env) Ag { s1 with heap := h3, gens := s1.gens, drawn := s1.drawn, toks := tk } (upd H1 P (.tbl (ps ++ more))) [s1.heap.objs.size] = Xg at J0
    have J : Inv Xg [(h'.objs.size, go)] (some (.ref s1.heap.objs.size) :: none :: fr.map fun p => σ.getD p.2 none) (upd H1 P (.tbl (ps ++ more))) { s1 with heap := h'.push go, gens := s1.gens.push (.fresh (.compStart (.GeneratorExp elt [⟨.Name x px, iter, [], 0⟩] scope gpos) 0 (.ref s1.heap.objs.size) .none (genEnv scope (cloFrom X.env.cells scope.names []) h3.objs.size code builtinsNs X.env))), toks := tk + 1 + 1 + 1 } := by
      refine J0.pins_of fun q hq => ?_
      rw [List.mem_singleton.mp hq]
      refine ⟨hgo5, I3.hok.fresh (by show h3.objs.size ≤ h'.objs.size; omega), ?_, fun hb => ?_, gend⟩
      · subst hXg
        show h'.objs.size ≠ h3.objs.size
        omega
      · subst hXg
        obtain ⟨_, u, hu, _⟩ := I3.env0.funs.mem hb
        have z : h'.objs.size < h3.objs.size := Heap.lt_size hu
        omega
    have back : ∀ (b : Bool) (R : Hp → Prop) (s9 s' : Shared), (∀ H9, R H9 → Q (.bl b) H9) → Here Xg [(h'.objs.size, go)] s1.heap.objs.size (fr.map fun p => σ.getD p.2 none) R s9 → s'.os = s9.os → AllBare s'.gens → (∀ b o, s9.heap.get? b = some o → s'.heap.get? b = some o) → EP X pins σ Q (.bool b) s' := by
      intro b R s9 s' hR hH hos hb hk
      obtain ⟨y, H9, I9, q9⟩ := hH
      have hbase := I9.base
      have hos9 := I9.os
      have hok9 := I9.hok
      subst hXg
      refine ⟨.bl b, H9, I3.call' (ch := [s1.heap.objs.size]) (hos.trans hos9) ((show Un (frs X.stack) [s1.heap.objs.size] (upd H1 P (.tbl (ps ++ more))) H9 h3 s9.heap from hbase).trans (Un.kept hk)) (HOk.kept (show HOk X.prog X.w H9 s9.heap from hok9) hk) hb fun d hd => ?_, rfl, hR H9 q9⟩
      rw [List.mem_singleton.mp hd]
      exact ⟨f3, f1, f4, f5⟩
    refine Calls.spliced_nil (call_function_tree F.kind_all F.plain_all F.entry_all (F.args_all1 _) ?_)
    unfold Builtin.«all»
    refine wpAny_bind (m := oneArg "all" _) (wpAny_pure (wpAny_bind (wpAny_pyIter_gen (isg _ hgo5) (wpAny_pure ⟨plainId_quiet F.plain_all_loop _, ?_⟩))))
    have T : Turn X.prog X.w X.K (.Name x px) (Itt X.K a) [s1.heap.objs.size] s1.heap.objs.size (fun i h => h.IsTupleIter s1.heap.objs.size a i) := turn_tuple a _
    refine all_loop (X := Xg) (by subst hXg; rfl) (by subst hXg; rfl) (pins := [(h'.objs.size, go)]) (it := s1.heap.objs.size) (vs := fr.map fun p => σ.getD p.2 none) (W := W) (Qf := fun H9 => Q (.bl false) H9) (pb := pb) (n0 := xs.length) (ag := h'.objs.size) (g := s1.gens.size) hr.hd hr.depth (fun s9 h9 => ?_) (fun s9 s' h9 h1 h2 h3' => ?_) (fun s9 s' h9 hw => ?_) xs.length 0 _ (Nat.sub_zero _) (Nat.zero_le _) ?_
    · obtain ⟨σ9, H9, I9⟩ := h9
      exact isg _ (I9.pin (h'.objs.size, go) (List.mem_append_right _ (List.mem_singleton.mpr rfl))).1
    · exact back true _ s9 s' (fun H9 q => fin H9 q) h9 h1 h2 h3'
    · exact back false _ s9 s' (fun H9 q => q) h9 hw.os hw.bare fun b u e => by rw [hw.heap]; exact e
    · refine ⟨isg _ hgo5, J.nolimit, J.bare, _, Array.getElem?_push_size .., fun s' hw => ⟨rfl, ?_⟩⟩
      have hTop : Top Xg [(h'.objs.size, go)] s1.heap.objs.size (fr.map fun p => σ.getD p.2 none) [s1.heap.objs.size] (fun i h => h.IsTupleIter s1.heap.objs.size a i) W 0 s' := by
        refine Top.wake hw ⟨none, _, J, ?_, fun b hb => ?_, w0 _ ⟨⟨⟨ps ++ more, upd_same, ht3⟩, fun b hb => upd_ne hb⟩, fun qs e => by rw [hP] at e; cases e; exact ⟨more, upd_same, hmo⟩⟩⟩
        · exact (hit2.at fun u e => k5 _ u (hx _ u (Nat.ne_of_gt hPlt) e))
        · obtain rfl : b = s1.heap.objs.size := List.mem_singleton.mp hb
          subst hXg
          refine ⟨by rw [upd_ne (Nat.ne_of_gt hPlt)]; exact f0, Nat.ne_of_lt lt1, itS, .inl (List.mem_singleton.mpr rfl), fun y c e => f4 y c (clo_at S e), fun q hq => ?_⟩
          rw [List.mem_singleton.mp hq]
          show h'.objs.size ≠ s1.heap.objs.size
          omega
      have hel' := hel h3.objs.size code Ag { s1 with heap := h3, gens := s1.gens, drawn := s1.drawn, toks := tk } (upd H1 P (.tbl (ps ++ more))) [s1.heap.objs.size] rg
      rw [hXg] at hel'
      have hgn : PG Xg (.Name x px) (gName 1) := by
        subst hXg
        exact pg_name hnd rfl (.inl S.loc) (.inr S.loc)
      have e1 : Xg.prog = X.prog := by subst hXg; rfl
      have e2 : Xg.w = X.w := by subst hXg; rfl
      have e3' : Xg.K = X.K := by subst hXg; rfl
      have e4' : Xg.env = genEnv scope (cloFrom X.env.cells scope.names []) h3.objs.size code builtinsNs X.env := by subst hXg; rfl
      have e5' : Xg.A = Ag := by subst hXg; rfl
      have e6' : Xg.calm = true := by subst hXg; rfl
      have e7' : Xg.xe = fun _ _ => False := by subst hXg; rfl
      have hB := seg_begin (X := Xg) (pins := [(h'.objs.size, go)]) (it := s1.heap.objs.size) (vs := fr.map fun p => σ.getD p.2 none) (fp := [s1.heap.objs.size]) (tn := fun i h => h.IsTupleIter s1.heap.objs.size a i) (W := W) (Qf := fun H9 => Q (.bl false) H9) (pb := pb) (n0 := xs.length)
        (A := X.A.in1.in1) (elt := elt) (iter := iter) (x := x) (px := px) (pos := gpos) (scope := scope) (xs := xs) (a := a) (te := elr)
        (by rw [e4', e5', hAg]) e6' (by rw [e4']; exact S.co) e7' (by rw [e1, e2, e3']; exact T) hgn hel' rfl (fun i H9 w => by rw [e3']; exact wT i H9 w) (fun i v H9 hv w => by
          have z := step i v H9 s1.heap.objs.size hv w
          rw [List.map_map] at z
          exact z) s' s' hTop
      rw [e4'] at hB
      rw [Nat.sub_zero]
      exact hB
  cases hf : codeAmong gpos ps.toList with
  | none =>
    refine wpAny_genexprCodeX hcode (cd.code hP2 ht) (cd.tab hP2) hf fun c' h' tk hx hge hlt hco' _ htab' _ => ?_
    obtain ⟨o1, vs, f1, tf, fl, tg, inF, tx, tt, op, _, _, _, _, _, _, _, _, _, htr, _⟩ := hco'
    exact main _ h' tk _ hx (Nat.le_trans hge (Nat.le_of_lt hlt)) htab'.2 htr (.inr ⟨_, _, rfl⟩)
  | some cv =>
    refine wpAny_genexprCode_hit hcode (cd.code hP2 ht) hf ?_
    exact main cv (s1.heap.push o) s1.toks #[] (Heap.ExtBut.refl _ _) (Nat.le_refl _) (by simpa using hP2) (by simpa using ht) (.inl rfl)
end
end GA
end
section
set_option maxHeartbeats 4000000
/-! sets of tuples of ints, of any size that a program of ours reaches: the table's round -/
namespace ZS
open PySem PySem.Spec PyProof.Rows L2
/-! ### i -> 5 i + 1 by powers of two -/
def seq5 : Nat → Nat
  | 0 => 0
  | n + 1 => seq5 n * 5 + 1
theorem seq5_add (m : Nat) : ∀ n, seq5 (n + m) = 5 ^ n * seq5 m + seq5 n
  | 0 => by rw [Nat.zero_add, Nat.pow_zero, Nat.one_mul]; rfl
  | n + 1 => by
    have h := seq5_add m n
    have e : n + 1 + m = (n + m) + 1 := by omega
    rw [e]
    show seq5 (n + m) * 5 + 1 = 5 ^ (n + 1) * seq5 m + (seq5 n * 5 + 1)
    have e2 : 5 ^ (n + 1) * seq5 m = 5 ^ n * seq5 m * 5 := by
      rw [Nat.pow_succ, Nat.mul_right_comm]
    omega
theorem pow5 : ∀ n, ∃ r, 5 ^ n = 4 * r + 1
  | 0 => ⟨0, rfl⟩
  | n + 1 => by
    obtain ⟨r, h⟩ := pow5 n
    exact ⟨5 * r + 1, by rw [Nat.pow_succ]; omega⟩
theorem odd_mul (a b : Nat) : (2 * a + 1) * (2 * b + 1) = 2 * (2 * (a * b) + a + b) + 1 := by
  have h1 : (2 * a + 1) * (2 * b + 1) = 2 * a * (2 * b) + 2 * a + (2 * b) + 1 := by
    rw [Nat.add_mul, Nat.mul_add, Nat.one_mul, Nat.mul_one]
    omega
  have h2 : 2 * a * (2 * b) = 4 * (a * b) := by
    rw [Nat.mul_mul_mul_comm]
  omega
/-- the 2^e-th is 2^e times an odd number -/
theorem seq5_pow : ∀ e, ∃ q, seq5 (2 ^ e) = 2 ^ e * (2 * q + 1)
  | 0 => ⟨0, rfl⟩
  | e + 1 => by
    obtain ⟨q, h⟩ := seq5_pow e
    obtain ⟨r, hr⟩ := pow5 (2 ^ e)
    have e1 : 2 ^ (e + 1) = 2 ^ e + 2 ^ e := by rw [Nat.pow_succ]; omega
    refine ⟨2 * (r * q) + r + q, ?_⟩
    rw [e1, seq5_add, h, hr]
    have h1 : (4 * r + 1) * (2 ^ e * (2 * q + 1)) + 2 ^ e * (2 * q + 1) = 2 ^ e * (((4 * r + 1) + 1) * (2 * q + 1)) := by
      generalize 4 * r + 1 = A
      generalize 2 * q + 1 = B
      rw [Nat.mul_left_comm, ← Nat.mul_add, Nat.add_mul, Nat.one_mul]
    rw [h1]
    have h2 : ((4 * r + 1) + 1) * (2 * q + 1) = 2 * ((2 * r + 1) * (2 * q + 1)) := by
      rw [← Nat.mul_assoc]
      congr 1
      omega
    rw [h2, odd_mul, ← Nat.two_mul, Nat.mul_assoc, Nat.mul_left_comm]
theorem seq5_all : ∀ e j, ∃ b, b < 2 ^ e ∧ seq5 b % 2 ^ e = j % 2 ^ e
  | 0, j => ⟨0, by decide, by rw [Nat.pow_zero, Nat.mod_one, Nat.mod_one]⟩
  | e + 1, j => by
    obtain ⟨b, hb, h⟩ := seq5_all e j
    have e1 : 2 ^ (e + 1) = 2 * 2 ^ e := by rw [Nat.pow_succ]; omega
    have hp : 0 < 2 ^ e := Nat.pow_pos (by decide)
    by_cases c : seq5 b % 2 ^ (e + 1) = j % 2 ^ (e + 1)
    · exact ⟨b, by omega, c⟩
    · refine ⟨b + 2 ^ e, by omega, ?_⟩
      obtain ⟨q, hq⟩ := seq5_pow e
      obtain ⟨r, hr⟩ := pow5 b
      have h5 : 5 ^ b = 2 * (2 * r) + 1 := by omega
      rw [seq5_add, hq, h5]
      have h1 : (2 * (2 * r) + 1) * (2 ^ e * (2 * q + 1)) = 2 ^ e * (2 * (2 * (2 * r * q) + 2 * r + q) + 1) := by
        rw [Nat.mul_left_comm, odd_mul]
      rw [h1]
      generalize 2 * (2 * r * q) + 2 * r + q = t
      have h2 : 2 ^ e * (2 * t + 1) + seq5 b = (2 ^ e + seq5 b) + 2 * 2 ^ e * t := by
        rw [Nat.mul_add, Nat.mul_one, Nat.mul_left_comm, Nat.mul_assoc]
        omega
      rw [h2, e1, Nat.add_mul_mod_self_left]
      rw [e1] at c
      -- both by 2 * 2 ^ e
      generalize 2 ^ e = M at hp h c
      generalize seq5 b = u at h c
      have d1 := Nat.div_add_mod u (2 * M)
      have d2 := Nat.div_add_mod j (2 * M)
      have l1 := Nat.mod_lt u (show 0 < 2 * M by omega)
      have l2 := Nat.mod_lt j (show 0 < 2 * M by omega)
      have m1 : u % (2 * M) % M = u % M := Nat.mod_mul_left_mod u 2 M
      have m2 : j % (2 * M) % M = j % M := Nat.mod_mul_left_mod j 2 M
      have m3 : (M + u) % (2 * M) = (M + u % (2 * M)) % (2 * M) := by rw [Nat.add_mod_mod]
      rw [m3]
      generalize u % (2 * M) = x at c l1 m1
      generalize j % (2 * M) = y at c l2 m2
      have hxy : x % M = y % M := by rw [m1, m2, h]
      have modM : ∀ z, z < 2 * M → z % M = if z < M then z else z - M := fun z hz => by
        split
        · exact Nat.mod_eq_of_lt (by assumption)
        · rw [Nat.mod_eq_sub_mod (by omega), Nat.mod_eq_of_lt (by omega)]
      rw [modM x l1, modM y l2] at hxy
      by_cases hx : x < M
      · rw [if_pos hx] at hxy
        by_cases hy : y < M
        · rw [if_pos hy] at hxy; exact absurd hxy c
        · rw [if_neg hy] at hxy
          rw [Nat.mod_eq_of_lt (by omega)]
          omega
      · rw [if_neg hx] at hxy
        by_cases hy : y < M
        · rw [if_pos hy] at hxy
          rw [Nat.mod_eq_sub_mod (by omega), Nat.mod_eq_of_lt (by omega)]
          omega
        · rw [if_neg hy] at hxy
          exact absurd (by omega) c
theorem lcgN_seq (m : Nat) : ∀ k, lcgN m k = seq5 k % (m + 1)
  | 0 => (Nat.zero_mod _).symm
  | k + 1 => by
    show (lcgN m k * 5 + 1) % (m + 1) = (seq5 k * 5 + 1) % (m + 1)
    rw [lcgN_seq m k, Nat.add_mod, Nat.mod_mul_mod, ← Nat.add_mod]
/-- the masks that come: one less than a power of two -/
def Msk (m : Nat) : Prop := ∃ e, 3 ≤ e ∧ e ≤ 16 ∧ m + 1 = 2 ^ e
theorem Msk.bd {m : Nat} (h : Msk m) : 7 ≤ m ∧ m < 65536 := by
  obtain ⟨e, h1, h2, h3⟩ := h
  have a : 2 ^ 3 ≤ 2 ^ e := Nat.pow_le_pow_right (by decide) h1
  have b : 2 ^ e ≤ 2 ^ 16 := Nat.pow_le_pow_right (by decide) h2
  omega
theorem Msk.odd {m : Nat} (h : Msk m) : m % 2 = 1 := by
  obtain ⟨e, h1, h2, h3⟩ := h
  obtain ⟨d, rfl⟩ : ∃ d, e = d + 1 := ⟨e - 1, by omega⟩
  rw [Nat.pow_succ] at h3
  omega
theorem round_all {m : Nat} (hm : Msk m) {i j : Nat} (hi : i ≤ m) (hj : j ≤ m) : ∃ k, k ≤ m ∧ lcgI m i k = j := by
  obtain ⟨e, _, _, he⟩ := hm
  have pe : ∀ n, lcgN m (2 ^ e + n) = lcgN m n := fun n => by
    obtain ⟨q, hq⟩ := seq5_pow e
    rw [lcgN_seq, lcgN_seq, he, Nat.add_comm, seq5_add, hq, Nat.mul_left_comm, Nat.add_comm, Nat.add_mul_mod_self_left]
  obtain ⟨a, ha, ea⟩ := seq5_all e i
  obtain ⟨b, hb, eb⟩ := seq5_all e j
  have ea' : lcgN m a = i := by rw [lcgN_seq, he, ea]; exact Nat.mod_eq_of_lt (by omega)
  have eb' : lcgN m b = j := by rw [lcgN_seq, he, eb]; exact Nat.mod_eq_of_lt (by omega)
  rw [← ea']
  by_cases c : a ≤ b
  · refine ⟨b - a, by omega, ?_⟩
    rw [lcgN_add, show a + (b - a) = b by omega, eb']
  · refine ⟨2 ^ e + b - a, by omega, ?_⟩
    rw [lcgN_add, show a + (2 ^ e + b - a) = 2 ^ e + b by omega, pe, eb']
/-- within a round no slot comes twice -/
theorem round_dif {m : Nat} (hm : Msk m) {i : Nat} (hi : i ≤ m) : ((List.range (m + 1)).map (lcgI m i)).Nodup := by
  have h := perm_range (m + 1) ((List.range (m + 1)).map (lcgI m i)) (by simp) fun j hj => by
    obtain ⟨k, hk, e⟩ := round_all hm hi (Nat.le_of_lt_succ hj)
    exact List.mem_map.mpr ⟨k, List.mem_range.mpr (Nat.lt_succ_of_le hk), e⟩
  exact h.nodup_iff.mpr List.nodup_range
/-- among the first runs one begins at a slot that is not in a short list -/
theorem run_out {m : Nat} (hm : Msk m) (h : Int) (D : List Nat) (hD : D.length ≤ m) : ∃ n, n ≤ D.length + 12 ∧ runI m (SetTable.bits h) n ∉ D := by
  have dif := round_dif hm (runI_le m (SetTable.bits h) 12)
  have sub : ((List.range (D.length + 1)).map (lcgI m (runI m (SetTable.bits h) 12))).Nodup := by
    refine List.Sublist.nodup (List.Sublist.map _ ?_) dif
    exact List.range_sublist.mpr (by omega)
  refine Classical.byContradiction fun no => ?_
  have all : ∀ z ∈ (List.range (D.length + 1)).map (lcgI m (runI m (SetTable.bits h) 12)), z ∈ D := fun z hz => by
    obtain ⟨k, hk, e⟩ := List.mem_map.mp hz
    have hk' := List.mem_range.mp hk
    refine Classical.byContradiction fun w => no ⟨12 + k, by omega, ?_⟩
    rw [runI_tail (bits_lt h), e]
    exact w
  have := nat_nodup_len _ D sub all
  rw [List.length_map, List.length_range] at this
  omega
/-- every slot is the start of one of the first runs -/
theorem run_to {m : Nat} (hm : Msk m) (h : Int) {j : Nat} (hj : j ≤ m) : ∃ n, n ≤ m + 12 ∧ runI m (SetTable.bits h) n = j := by
  obtain ⟨k, hk, e⟩ := round_all hm (runI_le m (SetTable.bits h) 12) hj
  refine ⟨12 + k, by omega, ?_⟩
  rw [runI_tail (bits_lt h), e]
theorem way_out {m : Nat} (hm : Msk m) (h : Int) (D : List Nat) (hD : D.length ≤ m) : ∃ k, k ≤ 10 * (D.length + 12) ∧ way m h k ∉ D := by
  obtain ⟨n, hn, e⟩ := run_out hm h D hD
  obtain ⟨k, hk, e2⟩ := run_nth m (SetTable.bits h) n
  refine ⟨k, by omega, ?_⟩
  show (nth m (runAt m (SetTable.bits h % (m + 1)) (SetTable.bits h)) k).j ∉ D
  rw [e2]
  exact e
theorem way_in {m : Nat} (h : Int) (k : Nat) : way m h k ≤ m := by
  have h0 : SetTable.bits h % (m + 1) ≤ m := Nat.le_of_lt_succ (Nat.mod_lt _ (Nat.succ_pos _))
  obtain ⟨r1, r2, _⟩ := runEnd_bd h0
  have q := nth_in k (runAt m (SetTable.bits h % (m + 1)) (SetTable.bits h)) (m := m) (by
    show SetTable.bits h % (m + 1) + (SetTable.runEnd m (SetTable.bits h % (m + 1)) - SetTable.bits h % (m + 1)) ≤ m
    omega)
  exact Nat.le_trans (Nat.le_add_right _ _) q
end ZS
end
section
set_option maxHeartbeats 4000000
namespace ZS
open PySem PySem.Spec PyProof.Rows L2
/-- a table without dummies in which each hash's own way leads to its slot over full slots -/
structure Tab (t : SetTable) (hs : List Int) : Prop where
  up : Ris t.place.toList
  nod : t.dummies = #[]
  len : t.place.size = hs.length
  msk : Msk t.mask
  low : ∀ z ∈ t.place.toList, z ≤ t.mask
  found : ∀ (i : Nat) (h : Int) (j : Nat), hs[i]? = some h → t.place.toList[i]? = some j → ∃ k, way t.mask h k = j ∧ ∀ n, n < k → way t.mask h n ∈ t.place.toList
section
variable {t : SetTable} {hs : List Int}
theorem Tab.gap (T : Tab t hs) (room : hs.length ≤ t.mask) (h : Int) : ∃ N, N ≤ 10 * (hs.length + 12) ∧ way t.mask h N ∉ t.place.toList ∧ ∀ n, n < N → way t.mask h n ∈ t.place.toList := by
  have full : t.place.toList.length = hs.length := by rw [Array.length_toList]; exact T.len
  obtain ⟨k, hk, free⟩ := way_out T.msk h t.place.toList (by omega)
  obtain ⟨N, a, b, c⟩ := st_least (p := fun n => way t.mask h n ∉ t.place.toList) k free
  exact ⟨N, by omega, b, fun n hn => Classical.byContradiction fun z => c n hn z⟩
theorem Tab.ahead (T : Tab t hs) {h : Int} {N i j : Nat} (hN : way t.mask h N ∉ t.place.toList) (hi : hs[i]? = some h) (hj : t.place.toList[i]? = some j) : ∃ n, n < N ∧ way t.mask h n = j := by
  obtain ⟨k, ek, full⟩ := T.found i h j hi hj
  refine ⟨k, Nat.lt_of_not_le fun z => ?_, ek⟩
  rcases Nat.lt_or_eq_of_le z with z | z
  · exact hN (full N z)
  · rw [z, ek] at hN
    exact hN (List.mem_of_getElem? hj)
/-- a new hash is put into the first gap of its way -/
structure Put (t : SetTable) (hs : List Int) (h : Int) (j p : Nat) : Prop where
  at_ : (t.put j).2 = p
  le : p ≤ hs.length
  tab : Tab (t.put j).1 (hs.take p ++ h :: hs.drop p)
  mask : (t.put j).1.mask = t.mask
  led : (t.put j).1.led = t.led
  plain : (t.put j).1.plain = t.plain
  fill : (t.put j).1.fill = hs.length + 1
theorem Tab.put (T : Tab t hs) {h : Int} {N : Nat} (hN : way t.mask h N ∉ t.place.toList) (full : ∀ n, n < N → way t.mask h n ∈ t.place.toList) :
    Put t hs h (way t.mask h N) (SetTable.below t.place (way t.mask h N)) := by
  have hle := way_in (m := t.mask) h N
  generalize hj : way t.mask h N = j at hN hle ⊢
  obtain ⟨cut, _, _⟩ := below_cut T.up j
  have hnew : t.place[SetTable.below t.place j]? ≠ some j := fun e => hN (List.mem_of_getElem? (by rw [Array.getElem?_toList]; exact e))
  have hP := put_place t j
  have h2 : (t.put j).2 = SetTable.below t.place j := rfl
  have up' := ris_insert T.up hnew
  have nod' := put_dm T.nod j
  have len := T.len
  have hlist : t.place.toList.length = hs.length := by rw [Array.length_toList]; exact len
  generalize SetTable.below t.place j = p at cut hP up' h2 ⊢
  have hp : p ≤ hs.length := by omega
  have hp' : p ≤ t.place.toList.length := by omega
  have hcount : (t.put j).1.place.size = hs.length + 1 := by
    have := len_ins t.place.toList hp' j
    rw [← hP, Array.length_toList] at this
    omega
  have more : ∀ z, z ∈ t.place.toList → z ∈ (t.put j).1.place.toList := fun z hz => by rw [hP]; exact mem_ins.2 (.inr hz)
  have lift : ∀ {h' : Int} {j' : Nat}, (∃ k, way t.mask h' k = j' ∧ ∀ n, n < k → way t.mask h' n ∈ t.place.toList) → ∃ k, way t.mask h' k = j' ∧ ∀ n, n < k → way t.mask h' n ∈ (t.put j).1.place.toList :=
    fun ⟨k, a, b⟩ => ⟨k, a, fun n hn => more _ (b n hn)⟩
  refine ⟨?_, hp, ⟨by rw [hP]; rw [SetTable.toList_insertAt] at up'; exact up', nod', ?_, T.msk, fun z hz => ?_, fun i h' j' a b => ?_⟩, rfl, rfl, rfl, ?_⟩
  · exact h2
  · rw [len_ins hs hp h]; exact hcount
  · rw [hP] at hz
    rcases mem_ins.1 hz with e | e
    · rw [e]; exact hle
    · exact T.low z e
  · rw [tins_get hs hp] at a
    rw [hP, tins_get _ hp'] at b
    show ∃ k, way t.mask h' k = j' ∧ ∀ n, n < k → way t.mask h' n ∈ (t.put j).1.place.toList
    by_cases c : i < p
    · rw [if_pos c] at a b
      exact lift (T.found i h' j' a b)
    · rw [if_neg c] at a b
      by_cases d : i = p
      · rw [if_pos d] at a b
        obtain rfl : h = h' := Option.some.inj a
        obtain rfl : j = j' := Option.some.inj b
        exact lift ⟨N, hj, full⟩
      · rw [if_neg d] at a b
        exact lift (T.found (i - 1) h' j' a b)
  · show (t.put j).1.place.size + (t.put j).1.dummies.size = _
    rw [hcount, nod']
    rfl
end
/-! ### all laid anew -/
theorem spot {m : Nat} (hm : Msk m) (owner : Array (Option Nat)) (h : Int) {j : Nat} (hj : j ≤ m) (hf : oAt owner j = none) :
    ∃ N, SetTable.layClean.free m owner (SetTable.turns m) (SetTable.bits h % (m + 1)) (SetTable.bits h) = some (way m h N) ∧ oAt owner (way m h N) = none ∧ ∀ n, n < N → oAt owner (way m h n) ≠ none := by
  obtain ⟨n, hn, en⟩ := run_to hm h hj
  have at_ : way m h (off m (SetTable.bits h % (m + 1)) (SetTable.bits h) n) = j := by
    show (nth m (runAt m (SetTable.bits h % (m + 1)) (SetTable.bits h)) _).j = j
    rw [nth_off, itL_run, ← en]
    rfl
  obtain ⟨N, a, b, c⟩ := st_least (p := fun n => oAt owner (way m h n) = none) _ (show oAt owner (way m h (off m (SetTable.bits h % (m + 1)) (SetTable.bits h) n)) = none by rw [at_]; exact hf)
  have ht : SetTable.turns m = m + 15 := rfl
  refine ⟨N, free_spec m owner (SetTable.turns m) n _ _ N (by omega) a (fun k hk => ?_) ?_, b, c⟩
  · have z := c k hk
    exact Option.isNone_eq_false_iff.mpr (Option.ne_none_iff_isSome.mp z)
  · exact Option.isNone_iff_eq_none.mpr b
theorem own_next {m : Nat} (hm : Msk m) {done : List Int} {owner : Array (Option Nat)} (W : Own m done owner) (room : done.length ≤ m) (h : Int) :
    ∃ j, SetTable.layClean.free m owner (SetTable.turns m) (SetTable.bits h % (m + 1)) (SetTable.bits h) = some j ∧ Own m (done ++ [h]) (owner.setIfInBounds j (some done.length)) := by
  obtain ⟨ps, lps, hps⟩ := W.ps
  obtain ⟨f, hf, nf⟩ := st_missing ps (m + 1) (by omega)
  have empty : oAt owner f = none := Classical.byContradiction fun z => nf (hps f (Nat.le_of_lt_succ hf) z)
  obtain ⟨N, fnd, isn, full⟩ := spot hm owner h (Nat.le_of_lt_succ hf) empty
  have hw := way_in (m := m) h N
  generalize hj : way m h N = j at fnd isn hw
  have inb : j < owner.size := by have := W.sz; omega
  have here := oAt_set_self (some done.length) inb
  have there : ∀ i, i ≠ j → oAt (owner.setIfInBounds j (some done.length)) i = oAt owner i := fun i hi => oAt_set_ne _ hi
  have stay : ∀ i, oAt owner i ≠ none → oAt (owner.setIfInBounds j (some done.length)) i ≠ none := fun i hi => by
    by_cases c : i = j
    · rw [c, here]; exact Option.some_ne_none _
    · rw [there i c]; exact hi
  have llen : (done ++ [h]).length = done.length + 1 := by simp
  refine ⟨j, fnd, ?_⟩
  constructor
  · rw [Array.size_setIfInBounds]; exact W.sz
  · intro i k hi e
    by_cases c : i = j
    · rw [c, here] at e
      obtain rfl : done.length = k := Option.some.inj e
      exact ⟨h, N, by simp, by rw [hj, c], fun n hn => stay _ (full n hn)⟩
    · rw [there i c] at e
      obtain ⟨h', K, a1, a2, a3⟩ := W.at_ i k hi e
      have hk : k < done.length := (List.getElem?_eq_some_iff.mp a1).1
      exact ⟨h', K, by rw [List.getElem?_append_left hk]; exact a1, a2, fun n hn => stay _ (a3 n hn)⟩
  · intro k hk
    rw [llen] at hk
    by_cases c : k = done.length
    · exact ⟨j, hw, by rw [c]; exact here⟩
    · obtain ⟨i, hi, e⟩ := W.all k (by omega)
      refine ⟨i, hi, ?_⟩
      rw [there i fun z => by rw [z, isn] at e; cases e]
      exact e
  · refine ⟨j :: ps, by rw [llen, List.length_cons, lps], fun i hi e => ?_⟩
    by_cases c : i = j
    · rw [c]; exact List.mem_cons_self
    · rw [there i c] at e
      exact List.mem_cons_of_mem _ (hps i hi e)
theorem own_all {m : Nat} (hm : Msk m) : ∀ (rest done : List Int) (owner : Array (Option Nat)), Own m done owner → done.length + rest.length ≤ m →
    ∃ o, rest.foldl (stepF m) (some (owner, done.length)) = some (o, (done ++ rest).length) ∧ Own m (done ++ rest) o
  | [], done, owner, W, _ => ⟨owner, by simp, by rw [List.append_nil]; exact W⟩
  | h :: rest, done, owner, W, hl => by
    rw [List.length_cons] at hl
    obtain ⟨j, e, V⟩ := own_next hm W (by omega) h
    obtain ⟨o, f, U⟩ := own_all hm rest (done ++ [h]) _ V (by simp; omega)
    have ea : done ++ [h] ++ rest = done ++ h :: rest := by simp
    have el : (done ++ [h]).length = done.length + 1 := by simp
    rw [ea] at f U
    rw [el] at f
    refine ⟨o, ?_, U⟩
    rw [List.foldl_cons, stepF_some e]
    exact f
theorem laid_own {m : Nat} (hm : Msk m) {hs : Array Int} (room : hs.size ≤ m) : ∃ o, SetTable.layClean m hs = some o ∧ Own m hs.toList o := by
  obtain ⟨o, f, W⟩ := own_all hm hs.toList [] _ (Own.init m) (by simpa using room)
  refine ⟨o, ?_, W⟩
  have f2 : hs.toList.foldl (stepF m) (some (Array.replicate (m + 1) none, 0)) = some (o, hs.toList.length) := f
  rw [layClean_eq, f2]
  rfl
/-- the table anew: all hashes, in another order -/
theorem anew (t : SetTable) {hs : Array Int} {wanted M : Nat} (hw : SetTable.sizeAbove wanted - 1 = M) (hM : Msk M) (room : hs.size ≤ M) :
    ∃ t' order, t.relaid hs wanted = some (t', order) ∧ order.toList.Perm (List.range hs.size) ∧ Tab t' (order.toList.map fun i => hs.getD i 0) ∧ t'.mask = M ∧ t'.led = t.led ∧ t'.plain = t.plain := by
  obtain ⟨o, e, W⟩ := laid_own hM room
  have hr : t.relaid hs wanted = some (tabOf t M o, ((liveOf M o).map (·.2)).toArray) := by
    rw [relaid_eq, hw, e]
    rfl
  obtain ⟨up, low⟩ := ris_live (fun j => o.getD j none) (List.range (M + 1)) List.pairwise_lt_range
  have up1 : Ris ((liveOf M o).map (·.1)) := up
  have low1 : ∀ z ∈ (liveOf M o).map (·.1), z ∈ List.range (M + 1) := low
  have count : (liveOf M o).length = hs.size := by
    obtain ⟨ps, p1, p2⟩ := W.ps
    have nd1 : ((liveOf M o).map (·.1)).Nodup := (List.Pairwise.imp (fun z => Nat.ne_of_lt z) (show List.Pairwise (· < ·) ((liveOf M o).map (·.1)) from up1))
    have le1 := nat_nodup_len ((liveOf M o).map (·.1)) ps nd1 fun z hz => by
      obtain ⟨⟨y, k⟩, hq, rfl⟩ := List.mem_map.mp hz
      obtain ⟨b1, b2⟩ := (mem_live W.sz).1 hq
      exact p2 y b1 (by rw [b2]; exact Option.some_ne_none _)
    have le2 := nat_nodup_len (List.range hs.size) ((liveOf M o).map (·.2)) List.nodup_range fun k hk => by
      obtain ⟨j, b1, b2⟩ := W.all k (by simpa using hk)
      exact List.mem_map.mpr ⟨(j, k), (mem_live W.sz).2 ⟨b1, b2⟩, rfl⟩
    have : hs.toList.length = hs.size := rfl
    rw [List.length_map] at le1 le2
    rw [List.length_range] at le2
    omega
  refine ⟨_, _, hr, ?_, ⟨up1, rfl, ?_, hM, fun z hz => ?_, fun i h j a b => ?_⟩, rfl, rfl, rfl⟩
  · refine perm_range hs.size _ (by simpa using count) fun k hk => ?_
    obtain ⟨j, b1, b2⟩ := W.all k (by simpa using hk)
    exact List.mem_map.mpr ⟨(j, k), (mem_live W.sz).2 ⟨b1, b2⟩, rfl⟩
  · show ((liveOf M o).map (·.1)).toArray.size = _
    simp
  · exact Nat.le_of_lt_succ (List.mem_range.mp (low1 z hz))
  · have a' : (((liveOf M o).map (·.2)).map fun i => hs.getD i 0)[i]? = some h := a
    have b' : ((liveOf M o).map (·.1))[i]? = some j := b
    rw [List.getElem?_map, List.getElem?_map] at a'
    rw [List.getElem?_map] at b'
    cases hq : (liveOf M o)[i]? with
    | none => rw [hq] at b'; cases b'
    | some q =>
      obtain ⟨y, k⟩ := q
      rw [hq] at a' b'
      obtain rfl : y = j := Option.some.inj b'
      have eh : hs.getD k 0 = h := Option.some.inj a'
      obtain ⟨b1, b2⟩ := (mem_live W.sz).1 (List.mem_of_getElem? hq)
      obtain ⟨h0, K, a1, a2, a3⟩ := W.at_ y k b1 b2
      have e0 : h0 = h := by
        rw [← eh, Array.getD_eq_getD_getElem?, ← Array.getElem?_toList, a1]
        rfl
      subst e0
      refine ⟨K, a2, fun n hn => ?_⟩
      show way M h0 n ∈ (liveOf M o).map (·.1)
      obtain ⟨k2, z⟩ := Option.ne_none_iff_exists'.mp (a3 n hn)
      exact List.mem_map.mpr ⟨(way M h0 n, k2), (mem_live W.sz).2 ⟨way_in h0 n, z⟩, rfl⟩
end ZS
end
section
set_option maxHeartbeats 4000000
namespace ZS
open PySem PySem.Spec PyProof.Rows L2
/-- what a set may hold at addresses: keys whose search tells nothing -/
structure ZK (P : Program) (w : World) (K : Type) [DecidableEq K] where
  is : Heap → K → Addr → Prop
  hash : K → Int
  toks : K → Nat
  room : Around → Prop
  inj : ∀ {h : Heap} {a : Addr} {x y : K}, is h x a → is h y a → x = y
  keep : ∀ {h h' : Heap} {k : K} {b : Addr}, is h k b → (∀ c o vs n, h.get? c = some o → o.data = .seq vs n → h'.get? c = some o) → is h' k b
  ask : ∀ {A : Around} {E : Value → Shared → Prop} {s : Shared} {k : K} {a : Addr} {Q : Int → Shared → Prop}, room A → is s.heap k a → Q (hash k) { s with toks := s.toks + toks k } → wpAny (model P w) A (pyHash (.ref a)) Q E s
  eqB : ∀ {A : Around} {E : Value → Shared → Prop} {s : Shared} {x y : K} {a b : Addr} {Q : Bool → Shared → Prop}, room A → is s.heap x a → is s.heap y b → Q (decide (x = y)) s → wpAny (model P w) A (eqBool (.ref a) (.ref b)) Q E s
  quiet : ∀ {A : Around} {E : Value → Shared → Prop} {s : Shared} {k : K} {a : Addr} {Q : Bool → Shared → Prop}, is s.heap k a → Q true s → wpAny (model P w) A (eqIsQuiet 8 (.ref a)) Q E s
  noCls : ∀ {A : Around} {E : Value → Shared → Prop} {s : Shared} {k : K} {a : Addr} {Q : Bool → Shared → Prop}, is s.heap k a → Q false s → wpAny (model P w) A (ofAClassStatement 8 (.ref a)) Q E s
  byV : ∀ {A : Around} {E : Value → Shared → Prop} {s : Shared} {k : K} {a : Addr} {Q : Bool → Shared → Prop}, is s.heap k a → Q true s → wpAny (model P w) A (hashByValue 8 (.ref a)) Q E s
/-! ### tuples of ints, and of such -/
mutual
def nums : NestedKey → Bool
  | .none => false
  | .num _ => true
  | .text _ => false
  | .tup ks => numsAll ks
def numsAll : List NestedKey → Bool
  | [] => true
  | k :: ks => nums k && numsAll ks
end
section
variable {P : Program} {w : World}
mutual
theorem cls_key : ∀ (k : NestedKey) (v : Value) (n : Nat) (s : Shared), NestedIs s.heap k v → k.depth ≤ n → ∀ (A : Around) (E : Value → Shared → Prop) (Q : Bool → Shared → Prop), Q false s → wpAny (model P w) A (ofAClassStatement n v) Q E s
  | k, v, n, s, h, hd, A, E, Q, q => by
    cases h with
    | none => cases n <;> exact wpAny_pure q
    | bool _ => cases n <;> exact wpAny_pure q
    | int _ _ => cases n <;> exact wpAny_pure q
    | text _ _ => cases n <;> exact wpAny_pure q
    | @tup a o vs m ks ho hc hdt hall =>
      have hdk : NestedKey.depthAll ks + 1 ≤ n := by rw [NestedKey.depth] at hd; exact hd
      obtain ⟨n', rfl⟩ : ∃ n', n = n' + 1 := ⟨n - 1, by omega⟩
      unfold ofAClassStatement
      refine wpAny_bind (wpAny_typeOf (T := "tuple") ⟨o, ho, hc⟩ ?_)
      dsimp only
      simp only [show (("tuple" : String) == "tuple") = true from by decide, if_true, Bool.not_true, Bool.false_eq_true, if_false]
      try refine wpAny_bind (wpAny_pure ?_)
      try simp only [Bool.not_true, Bool.false_eq_true, if_false]
      show wpAny _ _ (seqItems? (.ref a) >>= _) _ _ s
      refine wpAny_bind (wpAny_seqItems ho hdt ?_)
      dsimp only
      refine wpAny_bind ?_
      show wpAny _ _ (forIn vs _ _) _ _ s
      rw [← Array.forIn_toList]
      refine wpAny_forIn_list _ (fun rest r s' => r.1 = none ∧ s' = s ∧ ∀ v ∈ rest, v ∈ vs.toList) _ ?_ ?_ _ _ ⟨rfl, rfl, fun _ z => z⟩
      · rintro v rest r s' ⟨hr, rfl, hm⟩
        refine wpAny_bind (cls_keys ks vs.toList n' s' hall (by omega) v (hm v List.mem_cons_self) _ _ _ ?_)
        simp only [Bool.false_eq_true, if_false]
        exact wpAny_pure ⟨rfl, rfl, fun u hu => hm u (List.mem_cons_of_mem _ hu)⟩
      · rintro ⟨r1, r2⟩ s' ⟨hr, rfl, _⟩
        simp only at hr
        subst hr
        exact wpAny_pure q
theorem cls_keys : ∀ (ks : List NestedKey) (vs : List Value) (n : Nat) (s : Shared), NestedAll s.heap ks vs → NestedKey.depthAll ks ≤ n → ∀ v ∈ vs, ∀ (A : Around) (E : Value → Shared → Prop) (Q : Bool → Shared → Prop), Q false s → wpAny (model P w) A (ofAClassStatement n v) Q E s
  | [], [], _, _, _, _, _, hv => by cases hv
  | k :: ks, v :: vs, n, s, h, hd, u, hu => by
    rw [NestedKey.depthAll] at hd
    cases h with
    | cons h1 h2 =>
      intro A E Q q
      rcases List.mem_cons.mp hu with e | e
      · rw [e]; exact cls_key k v n s h1 (by omega) A E Q q
      · exact cls_keys ks vs n s h2 (by omega) u e A E Q q
end
mutual
theorem byv_key : ∀ (k : NestedKey) (v : Value) (n : Nat) (s : Shared), NestedIs s.heap k v → k.depth ≤ n → nums k = true → ∀ (A : Around) (E : Value → Shared → Prop) (Q : Bool → Shared → Prop), Q true s → wpAny (model P w) A (hashByValue n v) Q E s
  | k, v, n, s, h, hd, hn, A, E, Q, q => by
    cases h with
    | none => exact absurd hn (by decide)
    | bool _ => cases n <;> exact wpAny_pure q
    | int _ _ => cases n <;> exact wpAny_pure q
    | text _ _ => exact absurd hn (by simp [nums])
    | @tup a o vs m ks ho hc hdt hall =>
      have hdk : NestedKey.depthAll ks + 1 ≤ n := by rw [NestedKey.depth] at hd; exact hd
      obtain ⟨n', rfl⟩ : ∃ n', n = n' + 1 := ⟨n - 1, by omega⟩
      rw [nums] at hn
      unfold hashByValue
      refine wpAny_bind (wpAny_specialOf (T := "tuple") ⟨o, ho, hc⟩ F.slot_tuple_hash.lookup ?_)
      show wpAny _ _ (seqItems? (.ref a) >>= _) _ _ s
      refine wpAny_bind (wpAny_seqItems ho hdt (wpAny_bind ?_))
      show wpAny _ _ (forIn vs _ _) _ _ s
      rw [← Array.forIn_toList]
      refine wpAny_forIn_list _ (fun rest r s' => r.1 = none ∧ s' = s ∧ ∀ v ∈ rest, v ∈ vs.toList) _ ?_ ?_ _ _ ⟨rfl, rfl, fun _ z => z⟩
      · rintro v rest r s' ⟨hr, rfl, hm⟩
        refine wpAny_bind (byv_keys ks vs.toList n' s' hall (by omega) hn v (hm v List.mem_cons_self) _ _ _ ?_)
        simp only [Bool.not_true, Bool.false_eq_true, if_false]
        exact wpAny_pure ⟨rfl, rfl, fun u hu => hm u (List.mem_cons_of_mem _ hu)⟩
      · rintro ⟨r1, r2⟩ s' ⟨hr, rfl, _⟩
        simp only at hr
        subst hr
        exact wpAny_pure q
theorem byv_keys : ∀ (ks : List NestedKey) (vs : List Value) (n : Nat) (s : Shared), NestedAll s.heap ks vs → NestedKey.depthAll ks ≤ n → numsAll ks = true → ∀ v ∈ vs, ∀ (A : Around) (E : Value → Shared → Prop) (Q : Bool → Shared → Prop), Q true s → wpAny (model P w) A (hashByValue n v) Q E s
  | [], [], _, _, _, _, _, _, hv => by cases hv
  | k :: ks, v :: vs, n, s, h, hd, hn, u, hu => by
    rw [NestedKey.depthAll] at hd
    rw [numsAll, Bool.and_eq_true] at hn
    cases h with
    | cons h1 h2 =>
      intro A E Q q
      rcases List.mem_cons.mp hu with e | e
      · rw [e]; exact byv_key k v n s h1 (by omega) hn.1 A E Q q
      · exact byv_keys ks vs n s h2 (by omega) hn.2 u e A E Q q
end
/-- the kind -/
def zk (P : Program) (w : World) : ZK P w NestedKey where
  is := fun h k a => NestedIs h k (.ref a) ∧ k.depth ≤ 8 ∧ nums k = true
  hash := fun k => k.hash w
  toks := fun k => k.draws
  room := fun A => A.units + 8 < cLine
  inj := fun hx hy => NestedIs.inj _ _ _ hx.1 hy.1
  keep := fun hx k => ⟨NestedIs.at k _ _ hx.1, hx.2⟩
  ask := fun hr hx q => pyHash_key _ _ _ _ _ hx.1 (Nat.lt_of_le_of_lt (Nat.add_le_add_left hx.2.1 _) hr) q
  eqB := fun hr hx hy q => (nestedKind P w).eqBool hr ⟨hx.1, hx.2.1⟩ ⟨hy.1, hy.2.1⟩ q
  quiet := fun hx q => (nestedKind P w).quiet ⟨hx.1, hx.2.1⟩ q
  noCls := fun hx q => cls_key _ _ 8 _ hx.1 hx.2.1 _ _ _ q
  byV := fun hx q => byv_key _ _ 8 _ hx.1 hx.2.1 hx.2.2 _ _ _ q
end
end ZS
end
section
set_option maxHeartbeats 4000000
namespace ZS
open PySem PySem.Spec PyProof.Rows L2
def zBound : Nat := 9000
def zrows {P : Program} {w : World} {K : Type} [DecidableEq K] (Z : ZK P w K) (L : List (Addr × K)) : List (Int × Value) := L.map fun p => (Z.hash p.2, Value.ref p.1)
/-- a set of such keys: its rows in the table's order -/
structure SetZ {P : Program} {w : World} {K : Type} [DecidableEq K] (Z : ZK P w K) (h : Heap) (a : Addr) (L : List (Addr × K)) (es : Array (Int × Value)) (ep : Nat) (t : SetTable) : Prop where
  obj : ∃ o, h.get? a = some o ∧ o.ExactSet ∧ o.data = .set es ep t
  row : es.toList = zrows Z L
  tab : Tab t (L.map fun p => Z.hash p.2)
  dif : (L.map (·.2)).Nodup
  tup : ∀ p ∈ L, Z.is h p.2 p.1
  pln : t.plain = true
  led : w.params.followText "set-order" = true ∨ t.led = true
  room : L.length * 5 < t.mask * 3
  few : L.length < zBound
section
variable {P : Program} {w : World} {K : Type} [DecidableEq K] {Z : ZK P w K} {A : Around} {E : Value → Shared → Prop} {s : Shared} {a : Addr} {L : List (Addr × K)} {es : Array (Int × Value)} {ep : Nat} {t : SetTable}
theorem zseen (Z : ZK P w K) {k : K} {b : Addr} {Q : Bool → Shared → Prop} (hk : Z.is s.heap k b) {ys : List Value} (hy : ∀ y ∈ ys, ∃ k' c, y = Value.ref c ∧ Z.is s.heap k' c) (h : Q false s) :
    wpAny (model P w) A (searchCouldBeSeen (.ref b) ys) Q E s := by
  unfold searchCouldBeSeen
  refine wpAny_bind (wpAny_forIn_list _ (fun rest r s' => r.1 = none ∧ s' = s ∧ ∀ y ∈ rest, ∃ k' c, y = Value.ref c ∧ Z.is s.heap k' c) _ ?_ ?_ _ _ ⟨rfl, rfl, hy⟩)
  · rintro v rest r s' ⟨hr, rfl, hall⟩
    obtain ⟨k', c, rfl, hc⟩ := hall v List.mem_cons_self
    have left := fun u hu => hall u (List.mem_cons_of_mem _ hu)
    dsimp only
    by_cases hv : (b == c || (carriedByValue (.ref b) && carriedByValue (.ref c))) = true
    · refine wp_if_pos hv ?_
      exact wpAny_pure ⟨rfl, rfl, left⟩
    · refine wp_if_neg hv (wpAny_bind (Z.quiet hk ?_))
      simp only [Bool.not_true, Bool.false_eq_true, if_false]
      refine wpAny_bind (Z.quiet hc ?_)
      simp only [Bool.not_true, Bool.false_eq_true, if_false]
      refine wpAny_bind (Z.noCls hk ?_)
      simp only [Bool.false_eq_true, if_false]
      refine wpAny_bind (Z.noCls hc ?_)
      simp only [Bool.false_eq_true, if_false]
      exact wpAny_pure ⟨rfl, rfl, left⟩
  · rintro ⟨r1, r2⟩ s' ⟨hr, rfl, _⟩
    simp only at hr
    subst hr
    exact wpAny_pure h
theorem zsame {h h' : Heap} {k : K} {a b : Addr} {o : Obj} {es : Array (Int × Value)} {ep : Nat} {t : SetTable} (hb : Z.is h k b) (ho : h.get? a = some o) (hd : o.data = .set es ep t) (hs : Heap.SameBut a h h') : Z.is h' k b :=
  Z.keep hb fun c oc vs n hc hdc => by
    have hne : c ≠ a := fun z => by
      rw [z, ho] at hc
      cases hc
      rw [hd] at hdc
      cases hdc
    exact (hs.2 c hne).trans hc
theorem zrows_len {es : Array (Int × Value)} (h : es.toList = zrows Z L) : es.size = L.length := by
  rw [← Array.length_toList, h]
  exact List.length_map _
theorem SetZ.size (R : SetZ Z s.heap a L es ep t) : es.size = L.length := zrows_len R.row
theorem fits_of {n : Nat} (h1 : t.place.size = n) (h2 : t.dummies = #[]) (h3 : n ≤ t.mask) : t.fits n = true := by
  unfold SetTable.fits SetTable.fill
  rw [h2, h1]
  simp [h3]
theorem SetZ.fits (R : SetZ Z s.heap a L es ep t) : t.fits es.size = true := by
  have h1 := R.tab.len
  have h2 := R.room
  rw [List.length_map] at h1
  exact fits_of (by rw [h1, R.size]) R.tab.nod (by rw [R.size]; omega)
theorem SetZ.entry (R : SetZ Z s.heap a L es ep t) {i : Nat} {p : Addr × K} (h : L[i]? = some p) : es[i]? = some (Z.hash p.2, Value.ref p.1) := by
  rw [← Array.getElem?_toList, R.row]
  show (L.map _)[i]? = _
  rw [List.getElem?_map, h]
  rfl
theorem SetZ.steady (R : SetZ Z s.heap a L es ep t) : ¬ t.gaveWay = true := by
  unfold SetTable.gaveWay
  rw [R.tab.msk.odd]
  decide
theorem nth_dummy (m : Nat) : ∀ (n : Nat) (p : SetTable.Probe), p.dummy = none → (nth m p n).dummy = none
  | 0, _, h => h
  | n + 1, p, h => nth_dummy m n (adv m p) (by unfold adv; split <;> exact h)
/-- from the c-th step on -/
theorem hunt (R : SetZ Z s.heap a L es ep t) {x : Addr} {k : K} (hx : Z.is s.heap k x) (hu : Z.room A) {add : Bool} {N : Nat} (hN : N < 10 * SetTable.turns t.mask)
    (gap : way t.mask (Z.hash k) N ∉ t.place.toList) (full : ∀ n, n < N → way t.mask (Z.hash k) n ∈ t.place.toList) {Q : SetFound → Shared → Prop}
    (yes : k ∈ L.map (·.2) → ∀ r : Option Nat, r.isSome = !add → Q (.there r) s) (no : k ∉ L.map (·.2) → Q (.free (way t.mask (Z.hash k) N) false) s) :
    ∀ (f c : Nat) (stand : Option SetTable.Probe), stand.getD (t.probeStart (Z.hash k)) = nth t.mask (runAt t.mask (SetTable.bits (Z.hash k) % (t.mask + 1)) (SetTable.bits (Z.hash k))) c → c ≤ N → N - c < f →
      (∀ (i : Nat) p, L[i]? = some p → p.2 = k → ∃ d, c ≤ d ∧ d < N ∧ t.place.toList[i]? = some (way t.mask (Z.hash k) d)) →
      wpAny (model P w) A (setSearchFrom a (.ref x) (Z.hash k) add f stand) Q E s
  | 0, c, stand, _, _, hf, _ => absurd hf (Nat.not_lt_zero _)
  | f + 1, c, stand, hst, hc, hf, left => by
    obtain ⟨o, ho, hex, hd⟩ := R.obj
    generalize hp0 : runAt t.mask (SetTable.bits (Z.hash k) % (t.mask + 1)) (SetTable.bits (Z.hash k)) = p0 at hst
    have wayE : ∀ n, way t.mask (Z.hash k) n = (nth t.mask p0 n).j := fun n => by rw [← hp0]
    have later : ∀ q, nth t.mask (nth t.mask p0 c) q = nth t.mask p0 (c + q) := fun q => (nth_add t.mask c p0 q).symm
    have wayL : ∀ q, (nth t.mask (nth t.mask p0 c) q).j = way t.mask (Z.hash k) (c + q) := fun q => by rw [later, wayE]
    have nd : (nth t.mask p0 c).dummy = none := nth_dummy _ c p0 (by rw [← hp0]; rfl)
    have eN : c + (N - c) = N := by omega
    have spec := go_spec t R.tab.up R.tab.nod (fun i => (es[i]?.map (fun e : Int × Value => e.1)).getD 0) (Z.hash k) (10 * SetTable.turns t.mask) (N - c) _ nd (by omega) (fun q hq => by rw [wayL]; exact full _ (by omega)) (by rw [wayL, eN]; exact gap)
    have hashAt : ∀ (i : Nat) p, L[i]? = some p → (es[i]?.map (fun e : Int × Value => e.1)).getD 0 = Z.hash p.2 := fun i p hp => by rw [R.entry hp]; rfl
    have skip : ∀ {q : Nat} (hno : ∀ k' i', k' < q → t.place.toList[i']? = some (nth t.mask (nth t.mask p0 c) k').j → (fun i => (es[i]?.map (fun e : Int × Value => e.1)).getD 0) i' ≠ Z.hash k) {i : Nat} {p : Addr × K} {d : Nat},
        L[i]? = some p → p.2 = k → c ≤ d → t.place.toList[i]? = some (way t.mask (Z.hash k) d) → c + q ≤ d := fun {q} hno {i p d} hi hk hcd hpl => by
      rcases Nat.lt_or_ge d (c + q) with z | z
      · refine absurd ?_ (hno (d - c) i (by omega) (by rw [wayL, show c + (d - c) = d by omega]; exact hpl))
        show (es[i]?.map (fun e : Int × Value => e.1)).getD 0 = _
        rw [hashAt i p hi, hk]
      · exact z
    rw [setSearchFrom_succ]
    refine wpAny_bind (wpAny_setState_of ho hd R.fits ?_)
    dsimp only
    refine wp_if_neg R.steady ?_
    try refine wpAny_bind (wpAny_pure ?_)
    have probeE : t.probe (fun i => (es[i]?.map (fun e : Int × Value => e.1)).getD 0) (Z.hash k) (stand.getD (t.probeStart (Z.hash k))) = SetTable.probe.go t (fun i => (es[i]?.map (fun e : Int × Value => e.1)).getD 0) (Z.hash k) (10 * SetTable.turns t.mask) (nth t.mask p0 c) := by rw [hst]; rfl
    rw [probeE]
    rcases spec with ⟨q, i, hq, hi, hh, hno, hpr⟩ | ⟨hno, hpr⟩
    · rw [hpr]
      dsimp only
      rw [wayL] at hi ⊢
      have hil : i < L.length := by
        have h1 := (List.getElem?_eq_some_iff.mp hi).1
        have h2 := R.tab.len
        rw [List.length_map] at h2
        rw [Array.length_toList] at h1
        omega
      obtain ⟨p, hp⟩ : ∃ p, L[i]? = some p := ⟨L[i], List.getElem?_eq_getElem hil⟩
      have hmem : p ∈ L := List.mem_of_getElem? hp
      have hsl : t.slot (way t.mask (Z.hash k) (c + q)) = .live i := slot_live R.tab.up hi
      have rest : wpAny (model P w) A (searchRest a (.ref x) (Z.hash k) add f es t (way t.mask (Z.hash k) (c + q)) i (nth t.mask (nth t.mask p0 c) (q + 1))) Q E s := by
        unfold searchRest
        rw [R.entry hp]
        dsimp only
        refine wpAny_bind (wpAny_holding (Z.eqB hu (R.tup p hmem) hx ?_))
        refine wpAny_bind (wpAny_setState_of ho hd R.fits ?_)
        dsimp only
        have tail : p.2 ≠ k ∨ add = false → wpAny (model P w) A (do
            let some same := t.sameMemory t.moves t.mask | unsupported "set.changed-during-lookup:is-the-new-block-at-the-old-address"
            let still ← match (if same then t.slot (way t.mask (Z.hash k) (c + q)) else .empty) with
              | .live i' => match es[i']? with
                | some (_, y') => do pure (if ← isSame y' (.ref p.1) then some i' else none)
                | none => pure none
              | _ => pure none
            match still with
            | none => rule "set.search.anew"; setSearchFrom a (.ref x) (Z.hash k) add f none
            | some i' => if decide (p.2 = k) then return .there (some i') else setSearchFrom a (.ref x) (Z.hash k) add f (some (nth t.mask (nth t.mask p0 c) (q + 1)))) Q E s := fun hor => by
          rw [sameMem]
          dsimp only
          simp only [if_true, hsl, R.entry hp]
          refine wpAny_bind (wpAny_isSame_ref_self (wpAny_bind (wpAny_pure ?_)))
          simp only [if_true]
          by_cases hk : p.2 = k
          · refine wp_if_pos (by simp [hk]) (wpAny_pure (yes (List.mem_map.mpr ⟨p, hmem, hk⟩) _ ?_))
            rcases hor with z | z
            · exact absurd hk z
            · rw [z]; rfl
          · refine wp_if_neg (by simp [hk]) ?_
            refine hunt R hx hu hN gap full yes no f (c + (q + 1)) _ (by show nth t.mask (nth t.mask p0 c) (q + 1) = _; rw [later, hp0]) (by omega) (by omega) fun i0 p1 h1 hk1 => ?_
            obtain ⟨d, d1, d2, d3⟩ := left i0 p1 h1 hk1
            have d4 := skip hno h1 hk1 d1 d3
            refine ⟨d, ?_, d2, d3⟩
            rcases Nat.lt_or_eq_of_le d4 with z | z
            · omega
            · exfalso
              rw [← z] at d3
              have s0 := slot_live R.tab.up d3
              rw [hsl] at s0
              injection s0 with s0
              rw [← s0, hp] at h1
              exact hk ((congrArg Prod.snd (Option.some.inj h1)).trans hk1)
        cases hadd : add with
        | true =>
          by_cases hk : p.2 = k
          · refine wp_if_pos (by simp [hk]) (wpAny_pure (yes (List.mem_map.mpr ⟨p, hmem, hk⟩) none (by rw [hadd]; rfl)))
          · refine wp_if_neg (by simp [hk]) ?_
            try refine wpAny_bind (wpAny_pure ?_)
            have z := tail (.inl hk)
            rw [hadd] at z
            exact z
        | false =>
          refine wp_if_neg (by simp) ?_
          try refine wpAny_bind (wpAny_pure ?_)
          have z := tail (.inr hadd)
          rw [hadd] at z
          exact z
      by_cases hl : t.led = true
      · refine wp_if_neg (by simp [hl]) ?_
        try refine wpAny_bind (wpAny_pure ?_)
        exact rest
      · refine wp_if_pos (by simp [hl]) (wpAny_bind (zseen Z hx (fun y hy => ?_) ?_))
        · obtain ⟨e, he, ee⟩ := List.mem_map.mp hy
          have he1 : e ∈ es.toList := by
            have : e ∈ es ∧ e.1 = Z.hash k := by simpa using he
            simpa using this.1
          rw [R.row] at he1
          obtain ⟨p2, hp2, e2⟩ := List.mem_map.mp he1
          exact ⟨p2.2, p2.1, by rw [← ee, ← e2], R.tup p2 hp2⟩
        · refine wp_if_neg (by decide) ?_
          try refine wpAny_bind (wpAny_pure ?_)
          exact rest
    · rw [hpr]
      dsimp only
      rw [wayL, eN]
      refine wpAny_pure (no fun hm => ?_)
      obtain ⟨p1, h1, hk1⟩ := List.mem_map.mp hm
      obtain ⟨i0, hi0⟩ := List.mem_iff_getElem?.mp h1
      obtain ⟨d, d1, d2, d3⟩ := left i0 p1 hi0 hk1
      have d4 := skip hno hi0 hk1 d1 d3
      omega
theorem search (R : SetZ Z s.heap a L es ep t) {x : Addr} {k : K} (hx : Z.is s.heap k x) (hu : Z.room A) {add : Bool} {Q : SetFound → Shared → Prop}
    (yes : k ∈ L.map (·.2) → ∀ r : Option Nat, r.isSome = !add → Q (.there r) s)
    (no : ∀ N, k ∉ L.map (·.2) → way t.mask (Z.hash k) N ∉ t.place.toList → (∀ n, n < N → way t.mask (Z.hash k) n ∈ t.place.toList) → Q (.free (way t.mask (Z.hash k) N) false) s) :
    wpAny (model P w) A (setSearch a (.ref x) (Z.hash k) add) Q E s := by
  have room := R.room
  have few := R.few
  have hz : zBound = 9000 := rfl
  obtain ⟨N, hN, gap, full⟩ := R.tab.gap (by rw [List.length_map]; omega) (Z.hash k)
  rw [List.length_map] at hN
  have ht : SetTable.turns t.mask = t.mask + 15 := rfl
  unfold setSearch
  refine hunt R hx hu (by omega) gap full yes (fun hm => no N hm gap full) 100000 0 none rfl (Nat.zero_le _) (by omega) fun i p hp hk => ?_
  have hi : (L.map fun p => Z.hash p.2)[i]? = some (Z.hash k) := by rw [List.getElem?_map, hp, ← hk]; rfl
  have hil : i < t.place.toList.length := by
    have h1 := (List.getElem?_eq_some_iff.mp hp).1
    have h2 := R.tab.len
    rw [List.length_map] at h2
    rw [Array.length_toList]
    omega
  obtain ⟨n, hn, e⟩ := R.tab.ahead gap hi (List.getElem?_eq_getElem hil)
  exact ⟨n, Nat.zero_le _, hn, by rw [e]; exact List.getElem?_eq_getElem hil⟩
end
end ZS
end
section
set_option maxHeartbeats 4000000
namespace ZS
open PySem PySem.Spec PyProof.Rows L2
section
variable {P : Program} {w : World} {K : Type} [DecidableEq K] {Z : ZK P w K} {A : Around} {E : Value → Shared → Prop} {s : Shared} {a : Addr} {L : List (Addr × K)} {es : Array (Int × Value)} {ep : Nat} {t : SetTable}
end
end ZS
end
section
set_option maxHeartbeats 4000000
namespace ZS
open PySem PySem.Spec PyProof.Rows L2
/-- the tuples' order -/
def lexI : List Int → List Int → Bool
  | _, [] => false
  | [], _ :: _ => true
  | x :: r, y :: t => if x = y then lexI r t else decide (x < y)
section
variable {prog : Program} {w : World} {A : Around} {s : Shared}
end
end ZS
end
section
set_option maxHeartbeats 4000000
namespace ZS
open PySem PySem.Spec PyProof.Rows L2
abbrev NK := NestedKey
abbrev tk (k : List Int) : NK := .tup (k.map .num)
abbrev ttk (kk : List (List Int)) : NK := .tup (kk.map tk)
/-- v is a tuple of the ints k -/
def TI (K : PySem.W.Frag) (H : Hp) (v : V) (k : List Int) : Prop := ∃ a, v = .ref a ∧ SqT K H a (k.map V.int)
/-- v is a tuple of tuples of ints -/
def TTI (K : PySem.W.Frag) (H : Hp) (v : V) (kk : List (List Int)) : Prop := ∃ a xs, v = .ref a ∧ SqT K H a xs ∧ Paired (TI K H) xs kk
/-- at b stands the key k -/
def ElK (K : PySem.W.Frag) (H : Hp) (b : Addr) (k : NK) : Prop := (∃ ns, k = tk ns ∧ TI K H (.ref b) ns) ∨ (∃ kk, k = ttk kk ∧ TTI K H (.ref b) kk)
/-- tuples and what is locked stay -/
structure Tup (H H' : Hp) : Prop where
  t : ∀ b xs, H b = some (.tup xs) → H' b = some (.tup xs)
  f : ∀ b o u, H b = some (.frz o u) → H' b = some (.frz o u)
theorem Tup.refl (H : Hp) : Tup H H := ⟨fun _ _ h => h, fun _ _ _ h => h⟩
theorem Tup.trans {H H1 H2 : Hp} (a : Tup H H1) (b : Tup H1 H2) : Tup H H2 := ⟨fun c xs h => b.t c xs (a.t c xs h), fun c o u h => b.f c o u (a.f c o u h)⟩
theorem Tup.new {H : Hp} {p : Addr} {o : HO} (h : H p = none) : Tup H (upd H p o) :=
  ⟨fun b xs e => by rw [upd_ne (ne_of_none e h)]; exact e, fun b x u e => by rw [upd_ne (ne_of_none e h)]; exact e⟩
theorem Tup.put {H : Hp} {p : Addr} {o : HO} (h : Mut (H p)) : Tup H (upd H p o) := by
  refine ⟨fun b xs e => ?_, fun b x u e => ?_⟩
  · rw [upd_ne fun z => by rw [z] at e; rw [e] at h; exact h]; exact e
  · rw [upd_ne fun z => by rw [z] at e; rw [e] at h; exact h]; exact e
theorem Tup.same {H H' : Hp} (h : Same H H') : Tup H H' := ⟨fun _ _ e => h _ _ e, fun _ _ _ e => h _ _ e⟩
section
variable {K : PySem.W.Frag} {H H' : Hp}
theorem Tup.sq (z : Tup H H') {a : Addr} {xs : List V} (h : SqT K H a xs) : SqT K H' a xs := by
  rcases h with (h | ⟨o, h⟩) | h
  · exact .inl (.inl (z.t _ _ h))
  · exact .inl (.inr ⟨o, z.f _ _ _ h⟩)
  · exact .inr h
theorem Tup.ti (z : Tup H H') {v : V} {k : List Int} (h : TI K H v k) : TI K H' v k := let ⟨a, e, s⟩ := h; ⟨a, e, z.sq s⟩
theorem Tup.tti (z : Tup H H') {v : V} {kk : List (List Int)} (h : TTI K H v kk) : TTI K H' v kk := let ⟨a, xs, e, s, p⟩ := h; ⟨a, xs, e, z.sq s, Paired.mapP p fun _ _ q => z.ti q⟩
theorem Tup.el (z : Tup H H') {b : Addr} {k : NK} (h : ElK K H b k) : ElK K H' b k := by
  rcases h with ⟨ns, e, q⟩ | ⟨kk, e, q⟩
  · exact .inl ⟨ns, e, z.ti q⟩
  · exact .inr ⟨kk, e, z.tti q⟩
end
section
variable {P : Program} {w : World}
theorem depth_ints : ∀ k : List Int, NestedKey.depthAll (k.map .num) = 0
  | [] => rfl
  | n :: k => by
    show max (NestedKey.depth (.num n)) (NestedKey.depthAll (k.map .num)) = 0
    rw [depth_ints k]
    rfl
theorem depth_tk (k : List Int) : (tk k).depth = 1 := by
  show NestedKey.depthAll (k.map .num) + 1 = 1
  rw [depth_ints]
end
section
variable {X : Cx} {pins : List (Addr × Obj)} {σ : L2.St} {H : Hp} {s : Shared}
end
/-! ### as a tracked thing -/
structure SetZ0 (P : Program) (w : World) (h : Heap) (a : Addr) (L : List (Addr × NK)) : Prop where
  ex : ∃ (es : Array (Int × Value)) (ep : Nat) (t : SetTable), (∃ o, h.get? a = some o ∧ o.ExactSet ∧ o.data = .set es ep t) ∧ es.toList = zrows (zk P w) L ∧ Tab t (L.map fun p => (zk P w).hash p.2) ∧ (L.map (·.2)).Nodup ∧ t.plain = true ∧
    (w.params.followText "set-order" = true ∨ t.led = true) ∧ L.length * 5 < t.mask * 3 ∧ L.length < zBound
def ZSet (P : Program) (w : World) (a : Addr) (L : List (Addr × NK)) : HO := .ext fun h => SetZ0 P w h a L
section
variable {P : Program} {w : World} {h h' : Heap} {a : Addr} {L : List (Addr × NK)} {es : Array (Int × Value)} {ep : Nat} {t : SetTable}
theorem SetZ.low (R : SetZ (zk P w) h a L es ep t) : SetZ0 P w h a L := ⟨es, ep, t, R.obj, R.row, R.tab, R.dif, R.pln, R.led, R.room, R.few⟩
theorem SetZ0.full (R : SetZ0 P w h a L) (ht : ∀ p ∈ L, (zk P w).is h p.2 p.1) : ∃ es ep t, SetZ (zk P w) h a L es ep t := by
  obtain ⟨es, ep, t, h1, h2, h3, h4, h5, h6, h7, h8⟩ := R.ex
  exact ⟨es, ep, t, h1, h2, h3, h4, ht, h5, h6, h7, h8⟩
theorem SetZ0.laid (R : SetZ0 P w h a L) (H : Hp) : ObjOk P w H h a (ZSet P w a L) := by
  have ⟨es, ep, t, ⟨o, ho, _⟩, _⟩ := R.ex
  refine ⟨R, ⟨o, ho⟩, fun h1 h2 p k => ?_⟩
  have ⟨es', ep', t', ⟨o', ho', r'⟩, q'⟩ := SetZ0.ex p
  exact ⟨es', ep', t', ⟨o', k o' ho', r'⟩, q'⟩
theorem SetZ0.nil (w : World) (ho : h.get? a = some { cls := .type "set", dict := none, data := .set #[] 0 (.fresh 0 0 (!w.params.followText "set-order")) }) : SetZ0 P w h a [] := by
  refine ⟨#[], 0, _, ⟨_, ho, ⟨rfl, rfl, rfl⟩, rfl⟩, rfl, ⟨List.Pairwise.nil, rfl, rfl, ⟨3, by decide, by decide, rfl⟩, fun z hz => (by cases hz), fun i h j hi => (by simp at hi)⟩, List.nodup_nil, rfl, ?_, (by show 0 * 5 < 7 * 3; decide), (by show 0 < 9000; decide)⟩
  show _ ∨ (!w.params.followText "set-order") = true
  cases w.params.followText "set-order"
  · exact .inr rfl
  · exact .inl rfl
end
section
variable {X : Cx} {pins : List (Addr × Obj)} {σ : L2.St} {H : Hp} {s : Shared} {a b : Addr} {k : NK} {L : List (Addr × NK)}
/-- x.add(k) of such a set -/
def rZAdd (K : PySem.W.Frag) (P : Program) (w : World) : V → List V → Hp → VK → Prop := fun x xs H Q => ∃ (a b : Addr) (k : NK) (L : List (Addr × NK)), x = .ref a ∧ xs = [.ref b] ∧ H a = some (ZSet P w a L) ∧ (∀ p ∈ L, ElK K H p.1 p.2) ∧ ElK K H b k ∧ L.length + 1 < zBound ∧
  ∀ L', (k ∈ L.map (·.2) → L' = L) → (k ∉ L.map (·.2) → L'.Perm ((b, k) :: L)) → Q .non (upd H a (ZSet P w a L'))
variable {o e : Expr} {es : List Expr} {to : TE} {t : TA} {apos cpos : Pos}
/-- k in x, k not in x -/
def rZIn (K : PySem.W.Frag) (P : Program) (w : World) (neg : Bool) : V → V → Hp → VK → Prop := fun x y H Q => ∃ (a b : Addr) (k : NK) (L : List (Addr × NK)), x = .ref b ∧ y = .ref a ∧ H a = some (ZSet P w a L) ∧ (∀ p ∈ L, ElK K H p.1 p.2) ∧ ElK K H b k ∧
  Q (.bl (if neg then !decide (k ∈ L.map (·.2)) else decide (k ∈ L.map (·.2)))) H
end
end ZS
end
section
set_option maxHeartbeats 4000000
namespace ZS
open PySem PySem.Spec PyProof.Rows L2
abbrev setO0 (w : World) : Obj := { cls := .type "set", dict := none, data := .set #[] 0 (.fresh 0 0 (!w.params.followText "set-order")) }
section
variable {P : Program} {w : World} {A : Around} {E : Value → Shared → Prop} {s : Shared}
end
section
variable {X : Cx} {pins : List (Addr × Obj)} {σ : L2.St} {H : Hp} {s : Shared}
/-- len of such a set -/
def rZLen (K : PySem.W.Frag) (P : Program) (w : World) : List V → Hp → VK → Prop := fun vs H Q => ∃ (a : Addr) (L : List (Addr × NK)), vs = [.ref a] ∧ H a = some (ZSet P w a L) ∧ Q (.int L.length) H
/-- sorted of a set of tuples of ints, none of them empty -/
def rZSort (K : PySem.W.Frag) (P : Program) (w : World) : List V → Hp → VK → Prop := fun vs H Q => ∃ (a : Addr) (L : List (Addr × List Int)), vs = [.ref a] ∧ H a = some (ZSet P w a (L.map fun p => (p.1, tk p.2))) ∧ (∀ p ∈ L, TI K H (.ref p.1) p.2 ∧ p.2 ≠ []) ∧ L.length < scanBound ∧
  ∀ (L' : List (Addr × List Int)) (p : Addr), L'.Perm L → L'.Pairwise (fun q r => lexI q.2 r.2 = true) → H p = none → Q (.ref p) (upd H p (.lst (L'.map fun q => V.ref q.1)))
theorem tk_inj {a b : List Int} (h : tk a = tk b) : a = b := by
  have e : a.map NestedKey.num = b.map NestedKey.num := by injection h
  exact List.map_inj_right (fun x y e => by injection e) |>.mp e
end
end ZS
end
section
set_option maxHeartbeats 4000000
namespace ZS
open PySem PySem.Spec PyProof.Rows L2 PpSet
section
variable {X : Cx}
end
end ZS
end
section
set_option maxHeartbeats 4000000
namespace ZS
open PySem PySem.Spec PyProof.Rows L2 PpSet
section
variable {P : Program} {w : World} {A : Around} {E : Value → Shared → Prop} {s : Shared}
/-- set(l), l a list: the loop over the new set is what the caller knows -/
theorem set_of_list {l : Addr} {items : Array Value} {Rz : Shared → Prop} {Q : Value → Shared → Prop} (hl : s.heap.IsList l items)
    (loop : codeAny (model P w) A.in1.in1 (.builtin "set.update.loop" ⟨[.ref s.heap.objs.size, .ref (s.heap.push (setO0 w)).objs.size], []⟩) (fun r s' => r = .ok (.ret .none) ∧ Rz s')
      { s with heap := (s.heap.push (setO0 w)).push { cls := .type "list_iterator", data := .fields #[.ref l, .int 0 0] } })
    (h : ∀ s', Rz s' → Q (.ref s.heap.objs.size) s') : wpAny (model P w) A (call (.type "set") [.ref l]) Q E s := by
  obtain ⟨cl0, tl0, hmro⟩ := F.called_set.mro
  have hm1 := F.called_set.made
  have hs1 := F.called_set.sub
  refine wpAny_call (codeAny_of_tree ?_)
  show wpAny _ _ (callAny (.type "set") _) _ _ _
  refine wpAny_pure ⟨Code.quiet_builtin _ (by decide +kernel), codeAny_builtin F.entry_type_call ?_⟩
  rw [Around.under_plain (weight_type_call_type "set" [.ref l] []) rfl]
  have hn1 := F.called_set.notType
  have hn2 := F.called_set.canCreate
  have hn3 := F.typeCall_set_1 (.ref l)
  repeat (any_goals (first | assumption | wp_step))
  refine codeAny_mono (code_set_led1 (.ref l) (E := E) (Q₁ := fun z s₁ => z = .ref s.heap.objs.size ∧ s₁ = { s with heap := s.heap.push (setO0 w) }) ⟨rfl, rfl⟩) fun r s₁ hr => ?_
  match r, hr with
  | .error e, hr => exact hr
  | .ok (.ret z), hr =>
    obtain ⟨rfl, rfl⟩ := hr
    have hS : (s.heap.push (setO0 w)).get? s.heap.objs.size = some (setO0 w) := Heap.get?_push_size _ rfl
    have hT : Shared.TypeIs { s with heap := s.heap.push (setO0 w) } (.ref s.heap.objs.size) "set" := ⟨_, hS, rfl⟩
    have hi1 := F.called_set.init.lookup
    have hi2 := F.called_set.init.bind (.ref s.heap.objs.size)
    repeat (any_goals (first | assumption | wp_step))
    refine codeAny_mono (codeAny_call_builtin (R := wants (fun z s₂ => z = .none ∧ Rz s₂) E) F.called_set.init.plain F.entry_set_init (check_set_init_1 hT ?_)) fun r₂ s₂ hr₂ => ?_
    · obtain ⟨⟨ocls, odict, odata, oslots⟩, hol, hcl, nl, hdl⟩ := hl
      simp only at hcl hdl
      subst hcl
      subst hdl
      have hol' : (s.heap.push (setO0 w)).get? l = some { cls := .type "list", dict := odict, data := .seq items nl, slots := oslots } := Heap.get?_push_of_some _ hol
      have k1 := F.sub_list_set
      have k2 := F.sub_list_frozenset
      have k3 : (Value.type "list" == Value.type "dict") = false := by decide
      unfold Builtin.«set.__init__» noKeywords Builtin.Frozenset.updateFrom
      generalize hPI : pyIter = PI
      wp_walk
      subst hPI
      refine wpAny_pyIter_list ⟨_, hol', rfl, nl, rfl⟩ (wpAny_bind (wpAny_runValue (codeAny_mono loop fun r s' hr => ?_)))
      obtain ⟨rfl, hz⟩ := hr
      show wpAny _ _ _ _ _ _
      refine wpAny_pure ?_
      show wpAny _ _ (ret Value.none) _ _ _
      exact wpAny_pure ⟨rfl, hz⟩
    · match r₂, hr₂ with
      | .error e, hr₂ => exact hr₂
      | .ok (.ret z), hr₂ =>
        obtain ⟨rfl, hz⟩ := hr₂
        repeat (any_goals (first | assumption | wp_step))
        exact h _ hz
      | .ok .next, hr₂ => exact hr₂.elim
      | .ok .brk, hr₂ => exact hr₂.elim
      | .ok .cont, hr₂ => exact hr₂.elim
  | .ok .next, hr => exact hr.elim
  | .ok .brk, hr => exact hr.elim
  | .ok .cont, hr => exact hr.elim
end
/-- what came from the first i items -/
structure Came (ks : List (Addr × NK)) (i : Nat) (L : List (Addr × NK)) : Prop where
  from_ : ∀ p ∈ L, p ∈ ks.take i
  in_ : ∀ p ∈ ks.take i, p.2 ∈ L.map (·.2)
  few : L.length ≤ i
theorem Came.none (ks : List (Addr × NK)) : Came ks 0 [] := ⟨fun p h => (by cases h), fun p h => (by simp at h), Nat.le_refl _⟩
theorem Came.next {ks L L' : List (Addr × NK)} {i : Nat} {x : Addr × NK} (g : Came ks i L) (h : ks[i]? = some x) (c1 : x.2 ∈ L.map (·.2) → L' = L) (c2 : x.2 ∉ L.map (·.2) → L'.Perm (x :: L)) : Came ks (i + 1) L' := by
  have e : ks.take (i + 1) = ks.take i ++ [x] := by rw [List.take_add_one, h]; rfl
  by_cases c : x.2 ∈ L.map (·.2)
  · rw [c1 c]
    refine ⟨fun p hp => by rw [e]; exact List.mem_append_left _ (g.from_ p hp), fun p hp => ?_, Nat.le_succ_of_le g.few⟩
    rw [e] at hp
    rcases List.mem_append.mp hp with z | z
    · exact g.in_ p z
    · rw [List.mem_singleton.mp z]; exact c
  · have pm := c2 c
    refine ⟨fun p hp => ?_, fun p hp => ?_, by rw [pm.length_eq, List.length_cons]; exact Nat.succ_le_succ g.few⟩
    · rw [e]
      rcases List.mem_cons.mp (pm.mem_iff.mp hp) with z | z
      · rw [z]; exact List.mem_append_right _ (List.mem_singleton.mpr rfl)
      · exact List.mem_append_left _ (g.from_ p z)
    · rw [(pm.map (·.2)).mem_iff, List.map_cons]
      rw [e] at hp
      rcases List.mem_append.mp hp with z | z
      · exact List.mem_cons_of_mem _ (g.in_ p z)
      · rw [List.mem_singleton.mp z]; exact List.mem_cons_self
section
variable {X : Cx} {pins : List (Addr × Obj)} {σ : L2.St} {H : Hp}
/-- set(xs), xs a list or a tuple of ints -/
def rISetOf (K : PySem.W.Frag) (w : World) : List V → Hp → VK → Prop := fun xs H Q => ∃ (l : Addr) (ns : List Int), xs = [V.ref l] ∧ (SqL K H l (ns.map V.int) ∨ SqT K H l (ns.map V.int)) ∧ ns.length + 1 < scanBound ∧
  ∀ a n, H a = none → n ≤ ns.length → Q (.ref a) (upd H a (SetO w a (fun j => decide (j ∈ ns)) n))
theorem cr_isetOf (hc : X.calm = true) : CallR X (.type "set") (rISetOf X.K X.w) := by
  intro pins s σ H xs us Q I r h
  obtain ⟨l, ns, rfl, hl, few, q⟩ := h
  rw [Vals.ref1 r]
  have hn : H s.heap.objs.size = none := I.hok.fresh (Nat.le_refl _)
  rcases hl with hl | hl
  · obtain ⟨its, rv, pl, hz⟩ := I.list hl
    have ii := rv.ints
    have hsz : its.toArray.size = ns.length := by rw [List.size_toArray, ← rv.length, List.length_map]
    have hob := pl.isList
    have k1 : ∀ b u, s.heap.get? b = some u → (s.heap.push (setO0 X.w)).get? b = some u := fun b u e => Heap.get?_push_of_some _ e
    have szS : (s.heap.push (setO0 X.w)).objs.size = s.heap.objs.size + 1 := Heap.size_push ..
    have hlt : l < s.heap.objs.size := by obtain ⟨o, e, _⟩ := id hob; exact Heap.lt_size e
    have hneI : l ≠ (s.heap.push (setO0 X.w)).objs.size := by rw [szS]; exact Nat.ne_of_lt (Nat.lt_succ_of_lt hlt)
    have hl1 : (s.heap.push (setO0 X.w)).IsList l its.toArray := by obtain ⟨o, e, r⟩ := id hob; exact ⟨o, k1 _ _ e, r⟩
    have hval : ∀ (i : Nat) (v : Value), its.toArray[i]? = some v → ∃ k t, ns[i]? = some k ∧ v = .int k t := fun i v hv => by
      have hi : i < ns.length := by rw [← hsz]; exact (Array.getElem?_eq_some_iff.mp hv).1
      obtain ⟨u, hu, ru⟩ := rv.get (i := i) (x := .int ns[i]) (by rw [List.getElem?_map, List.getElem?_eq_getElem hi]; rfl)
      have hv' : its[i]? = some v := by simpa using hv
      rw [hu] at hv'
      cases hv'
      obtain ⟨t, e⟩ := ru
      exact ⟨_, t, List.getElem?_eq_getElem hi, e⟩
    refine set_of_list hob (Rz := fun s' => ∃ c, c ≤ ns.length ∧ Moved (s.heap.objs.size :: [(s.heap.push (setO0 X.w)).objs.size]) (fun a b => b = a) { s with heap := (s.heap.push (setO0 X.w)).push { cls := .type "list_iterator", data := .fields #[.ref l, .int 0 0] } } s' ∧ SetR X.w s'.heap s.heap.objs.size (fun j => decide (j ∈ ns)) c) ?_ fun s' hz' => ?_
    · have W := (Walks.list (prog := X.prog) (w := X.w) (A := X.A.in1.in1.in1) (show X.A.in1.in1.in1.handled = none from I.ok.hd hc) _ l hneI its.toArray).toS
      refine set_update_ints (A := X.A.in1.in1) W s.heap.objs.size (by rw [szS]; simp only [List.mem_cons, List.mem_singleton, List.not_mem_nil, or_false, not_or]; exact ⟨Nat.ne_of_lt (Nat.lt_succ_self _), Nat.ne_of_gt hlt⟩) ns hsz few hval ns.length 0 _ (by omega) (Nat.zero_le _) ⟨⟨_, Heap.get?_push_size _ rfl, rfl, rfl⟩, hl1.push _⟩
        ⟨0, Nat.le_refl _, setR_new_at (Heap.get?_push_of_some _ (Heap.get?_push_size _ rfl))⟩ fun s' c hm hc' hS => ⟨rfl, c, by omega, hm, hS⟩
    · obtain ⟨c, hc', hm, hS⟩ := hz'
      have kk : ∀ b u, s.heap.get? b = some u → s'.heap.get? b = some u := fun b u e => by
        have hb := Heap.lt_size e
        refine hm.heap b u (by rw [szS]; simp only [List.mem_cons, List.mem_singleton, List.not_mem_nil, or_false, not_or]; exact ⟨Nat.ne_of_lt hb, Nat.ne_of_lt (Nat.lt_succ_of_lt hb)⟩) (Heap.get?_push_of_some _ (k1 b u e))
      refine ⟨.ref _, upd H s.heap.objs.size (SetO X.w s.heap.objs.size (fun j => decide (j ∈ ns)) c), ?_, rfl, q _ c hn hc'⟩
      exact I.call' (ch := []) hm.os (Un.laid kk (Nat.le_refl _) hn) (I.hok.laid kk (Nat.le_refl _) (setO_new hS)) (by rw [hm.gens]; exact I.bare) (fun _ z => nomatch z)
  · obtain ⟨its, rv, pl, hz⟩ := I.tuple hl
    refine call_set_tupI ns (I.ok.hd hc) (show s.heap.IsTuple l its.toArray from pl) (by simpa using rv.ints) few fun h' tk c hS hc' kk => ?_
    exact ⟨.ref _, upd H s.heap.objs.size (SetO X.w s.heap.objs.size (fun j => decide (j ∈ ns)) c), I.laid kk (Nat.le_refl _) (setO_new hS), rfl, q _ c hn hc'⟩
end
end ZS
end
section
set_option maxHeartbeats 4000000
namespace ZS
open PySem PySem.Spec PyProof.Rows L2
/-! ### enumerate(tuple) -/
section
variable {prog : Program} {w : World} {A : Around} {E : Value → Shared → Prop} {s : Shared}
theorem tup_next {it l : Addr} {i : Nat} {items : Array Value} {x : Value} {Q : Value → Shared → Prop} (hit : s.heap.IsTupleIter it l i) (hl : s.heap.IsTuple l items) (hx : items[i]? = some x)
    (hQ : ∀ h', h'.IsTupleIter it l (i + 1) → Heap.SameBut it s.heap h' → Q x { s with heap := h' }) : wpAny (model prog w) A (Builtin.SmallTypes.nextOf (.ref it)) Q E s := by
  obtain ⟨o, ho, hc, hd⟩ := id hit
  obtain ⟨ol, hol, _, nl, hdl⟩ := hl
  unfold Builtin.SmallTypes.nextOf
  refine wpAny_bind (wpAny_callSpecial?_slot (name := Str.ofString "__next__") ⟨o, ho, hc⟩ F.slot_tuple_iterator_next (wpAny_call_entry F.slot_tuple_iterator_next ⟨o, ho, hc⟩ F.entry_tuple_iterator_next ?_ (F.args_tuple_iterator_next_1 _)))
  show wpAny _ _ (field (.ref it) 0 >>= _) _ _ s
  refine wpAny_bind (wpAny_field ho hd (x := .ref l) rfl ?_)
  show wpAny _ _ (if (Value.ref l == Value.none) = true then _ else _) _ _ s
  rw [if_neg (show ¬ ((Value.ref l == Value.none) = true) from Bool.false_ne_true)]
  show wpAny _ _ (field (.ref it) 1 >>= _) _ _ s
  refine wpAny_bind (wpAny_field ho hd (x := .int i 0) rfl ?_)
  show wpAny _ _ (seqItems? (.ref l) >>= _) _ _ s
  refine wpAny_bind (wpAny_seqItems hol hdl ?_)
  simp only [Int.toNat_natCast, hx]
  refine wpAny_bind (wpAny_setField ho hd (by simp) (wpAny_pure ⟨x, rfl, wpAny_pure (hQ _ ⟨_, Heap.get?_update_self _ ho (Obj.isFreed_of_fields (Obj.data_mapFields hd _)), (Obj.cls_mapFields ..).trans hc, ?_⟩ (Heap.SameBut.update ..))⟩))
  rw [Obj.data_mapFields hd]
  simp [rawInt]
theorem tup_last {it l : Addr} {i : Nat} {items : Array Value} {Q : Value → Shared → Prop} (hh : A.handled = none) (hit : s.heap.IsTupleIter it l i) (hl : s.heap.IsTuple l items) (hx : items[i]? = none)
    (hE : ∀ h' e, Heap.ExtBut it s.heap h' → (∃ o, h'.get? e = some o ∧ o.cls = .type "StopIteration") → E (.ref e) { s with heap := h' }) : wpAny (model prog w) A (Builtin.SmallTypes.nextOf (.ref it)) Q E s := by
  obtain ⟨o, ho, hc, hd⟩ := id hit
  obtain ⟨ol, hol, _, nl, hdl⟩ := hl
  unfold Builtin.SmallTypes.nextOf
  refine wpAny_bind (wpAny_callSpecial?_slot (name := Str.ofString "__next__") ⟨o, ho, hc⟩ F.slot_tuple_iterator_next (wpAny_call_entry F.slot_tuple_iterator_next ⟨o, ho, hc⟩ F.entry_tuple_iterator_next ?_ (F.args_tuple_iterator_next_1 _)))
  show wpAny _ _ (field (.ref it) 0 >>= _) _ _ s
  refine wpAny_bind (wpAny_field ho hd (x := .ref l) rfl ?_)
  show wpAny _ _ (if (Value.ref l == Value.none) = true then _ else _) _ _ s
  rw [if_neg (show ¬ ((Value.ref l == Value.none) = true) from Bool.false_ne_true)]
  show wpAny _ _ (field (.ref it) 1 >>= _) _ _ s
  refine wpAny_bind (wpAny_field ho hd (x := .int i 0) rfl ?_)
  show wpAny _ _ (seqItems? (.ref l) >>= _) _ _ s
  refine wpAny_bind (wpAny_seqItems hol hdl ?_)
  simp only [Int.toNat_natCast, hx]
  refine wpAny_bind (wpAny_rule (wpAny_bind (wpAny_setField ho hd (by simp) ?_)))
  show wpAny _ _ (newExc (.type "StopIteration") [] >>= _) _ _ _
  refine wpAny_bind ?_
  simp only [newExc, newTuple]
  refine wpAny_bind (wpAny_newObj_type ?_ (by size_fits))
  refine wpAny_bind (m := firstArgMember _ _) (wpAny_of_eq (a := Value.none) (by first | rfl | (simp only [firstArgMember]; rfl)) ?_)
  refine wpAny_newObj_type ?_ (by size_fits)
  simp only [raiseNew]
  refine wpAny_bind (wpAny_handled ?_)
  first | rw [show A.in1.handled = none from hh] | rw [hh]
  refine wpAny_bind (wpAny_pure (wpAny_throw (hE _ _ (((Heap.SameBut.update ..).extBut.push _).push _) ⟨_, Heap.get?_push_size _ rfl, rfl⟩)))
theorem Draws.tup (hh : A.handled = none) (it l : Addr) (hne : l ≠ it) (items : Array Value) : Draws prog w A it [it, l] items.size (fun i v => items[i]? = some v) (fun i h => h.IsTupleIter it l i ∧ h.IsTuple l items) where
  live := fun _ _ st => let ⟨o, ho, _⟩ := st.1; ⟨o, ho⟩
  frame := fun _ _ _ st hk => ⟨st.1.at fun o e => hk it (by simp) o e, let ⟨o, e, r⟩ := st.2; ⟨o, hk l (by simp) o e, r⟩⟩
  item := fun i s Q E hi st hQ => tup_next st.1 st.2 (x := items[i]) (by simp [hi]) fun h' hit' hs' => hQ _ h' s.toks (by simp [hi]) ⟨hit', let ⟨o, e, r⟩ := st.2; ⟨o, hs'.extBut l o hne e, r⟩⟩ hs'
  done := fun s Q E st hE => tup_last hh st.1 st.2 (by simp) hE
end
end ZS
end
section
set_option maxHeartbeats 4000000
namespace ZS
open PySem PySem.Spec PyProof.Rows L2
section
variable {X : Cx} {pins : List (Addr × Obj)} {σ : L2.St} {H : Hp} {s : Shared}
end
end ZS
end
section
set_option maxHeartbeats 4000000
/-! D0: the program's defs as they stand; what a call leaves -/
namespace NS
open PySem PySem.Spec PyProof.Rows L2 ZS
abbrev FnP (K : PySem.W.Frag) (x : Str) (st : Stmt) (f : Addr) (fd : FuncData) : Prop := FunD K x x (defArgs st) (defBody st) (defScope st) [] [] f fd
/-- the built-in names that the program reads are no globals -/
structure Bl (mg : Str → Option Value) : Prop where
  tuple : mg "tuple" = none
  list : mg "list" = none
  len : mg "len" = none
  range : mg "range" = none
  isinstance : mg "isinstance" = none
  set : mg "set" = none
  sorted : mg "sorted" = none
  all : mg "all" = none
  sum : mg "sum" = none
  enumerate : mg "enumerate" = none
  int : mg "int" = none
  bool : mg "bool" = none
  str : mg "str" = none
  any : mg "any" = none
  min : mg "min" = none
/-- a code table has grown: the places of the lines behind 150 are as they were -/
def TabUp (ps ps' : Array Value) : Prop := (TriplesOk ps.toList → TriplesOk ps'.toList) ∧ (TriplesOk ps.toList → ∀ p : Pos, 150 < p.line → codeAmong p ps'.toList = codeAmong p ps.toList)
theorem TabUp.refl (ps : Array Value) : TabUp ps ps := ⟨id, fun _ _ _ => rfl⟩
theorem TabUp.trans {a b c : Array Value} (h : TabUp a b) (h' : TabUp b c) : TabUp a c := ⟨fun z => h'.1 (h.1 z), fun z p hp => (h'.2 (h.1 z) p hp).trans (h.2 z p hp)⟩
theorem among_else {p : Pos} {gl col : Nat} {c : Value} (hp : gl ≠ p.line) : ∀ l : List Value, TriplesOk l → codeAmong p (l ++ [rawInt gl, rawInt col, c]) = codeAmong p l := by
  intro l h
  fun_induction TriplesOk l with
  | case1 =>
    simp only [List.nil_append, rawInt, codeAmong]
    rw [if_neg (by simp; omega)]
  | case2 a t b u x rest ih =>
    simp only [List.cons_append, codeAmong]
    split
    · rfl
    · exact ih h
  | case3 l h1 h2 => exact h.elim
theorem TabUp.grew {gl : Nat} (hg : gl ≤ 150) {ps more : Array Value} (ht : TriplesOk (ps ++ more).toList) (h : more = #[] ∨ ∃ (col : Nat) (c : Value), more = #[rawInt gl, rawInt col, c]) : TabUp ps (ps ++ more) := by
  refine ⟨fun _ => ht, fun z p hp => ?_⟩
  rcases h with rfl | ⟨col, c, rfl⟩
  · simp
  · rw [show (ps ++ #[rawInt gl, rawInt col, c]).toList = ps.toList ++ [rawInt gl, rawInt col, c] by simp]
    exact among_else (by omega) _ z
/-- what stood still stands, tables grow -/
structure Kp (H H' : Hp) : Prop where
  k : ∀ b o, H b = some o → (∀ ps, o ≠ .tbl ps) → H' b = some o
  t : ∀ b ps, H b = some (.tbl ps) → ∃ ps' : Array Value, H' b = some (.tbl ps') ∧ TabUp ps ps'
theorem Kp.refl (H : Hp) : Kp H H := ⟨fun _ _ h _ => h, fun _ ps h => ⟨ps, h, .refl ps⟩⟩
theorem Kp.trans {H H1 H2 : Hp} (a : Kp H H1) (b : Kp H1 H2) : Kp H H2 := ⟨fun c o h n => b.k c o (a.k c o h n) n, fun c ps h => by
  obtain ⟨p1, h1, t1⟩ := a.t c ps h
  obtain ⟨p2, h2, t2⟩ := b.t c p1 h1
  exact ⟨p2, h2, t1.trans t2⟩⟩
theorem Kp.same {H H' : Hp} (h : Same H H') : Kp H H' := ⟨fun _ _ e _ => h _ _ e, fun _ ps e => ⟨ps, h _ _ e, .refl ps⟩⟩
theorem Kp.none {H H' : Hp} (z : Kp H H') {p : Addr} (h : H' p = none) : H p = none := by
  cases e : H p with
  | none => rfl
  | some o =>
    by_cases q : ∃ ps, o = .tbl ps
    · obtain ⟨ps, rfl⟩ := q
      obtain ⟨ps', h', _⟩ := z.t p ps e
      rw [h] at h'
      cases h'
    · have := z.k p o e (fun ps w => q ⟨ps, w⟩)
      rw [h] at this
      cases this
theorem Kp.put {H0 H : Hp} (z : Kp H0 H) {p : Addr} (n : H0 p = Option.none) {o : HO} : Kp H0 (upd H p o) := by
  have ne : ∀ b u, H0 b = some u → b ≠ p := fun b u e q => by rw [q, n] at e; cases e
  exact ⟨fun b u e q => by rw [upd_ne (ne b u e)]; exact z.k b u e q, fun b ps e => by rw [upd_ne (ne b _ e)]; exact z.t b ps e⟩
theorem Kp.new {H0 H : Hp} (z : Kp H0 H) {p : Addr} (n : H p = Option.none) {o : HO} : Kp H0 (upd H p o) := z.put (z.none n)
theorem Kp.tab {H H' : Hp} {P : Addr} (g : GxR.TabG H P) {gl : Nat} (hg : gl ≤ 150) (z : GA.Grew P gl H H') : Kp H H' := by
  obtain ⟨ps, hP, hT⟩ := g
  obtain ⟨⟨⟨ps', hP', hT'⟩, ho⟩, hm⟩ := z
  obtain ⟨more, hP2, hmo⟩ := hm ps hP
  rw [hP'] at hP2
  cases hP2
  refine ⟨fun b u e q => ?_, fun b qs e => ?_⟩
  · have nb : b ≠ P := fun w => by rw [w, hP] at e; exact q ps (Option.some.inj e).symm
    rw [ho b nb]
    exact e
  · by_cases nb : b = P
    · subst nb
      rw [hP] at e
      cases e
      exact ⟨_, hP', .grew hg hT' hmo⟩
    · exact ⟨qs, by rw [ho b nb]; exact e, .refl qs⟩
theorem Kp.tabG {H H' : Hp} (z : Kp H H') {P : Addr} (g : GxR.TabG H P) : GxR.TabG H' P := by
  obtain ⟨ps, hP, hT⟩ := g
  obtain ⟨ps', h', t⟩ := z.t P ps hP
  exact ⟨ps', h', t.1 hT⟩
theorem Kp.tup {H H' : Hp} (z : Kp H H') : Tup H H' := ⟨fun c xs h => z.k c _ h (fun _ q => by cases q), fun c o u h => z.k c _ h (fun _ q => by cases q)⟩
theorem Kp.lst {H H' : Hp} (z : Kp H H') {a : Addr} {xs : List V} (h : H a = some (.lst xs)) : H' a = some (.lst xs) := z.k a _ h (fun _ q => by cases q)
theorem Kp.sqT {K : PySem.W.Frag} {H H' : Hp} (z : Kp H H') {a : Addr} {xs : List V} (h : SqT K H a xs) : SqT K H' a xs := z.tup.sq h
theorem Kp.sqL {K : PySem.W.Frag} {H H' : Hp} (z : Kp H H') {a : Addr} {xs : List V} (h : SqL K H a xs) : SqL K H' a xs := by
  rcases h with (h | ⟨o, h⟩) | h
  · exact .inl (.inl (z.lst h))
  · exact .inl (.inr ⟨o, z.k _ _ h (fun _ q => by cases q)⟩)
  · exact .inr h
theorem Kp.ti {K : PySem.W.Frag} {H H' : Hp} (z : Kp H H') {v : V} {k : List Int} (h : TI K H v k) : TI K H' v k := z.tup.ti h
theorem Kp.tti {K : PySem.W.Frag} {H H' : Hp} (z : Kp H H') {v : V} {k : List (List Int)} (h : TTI K H v k) : TTI K H' v k := z.tup.tti h
/-- a def at the module's name x keeps a promise: dvs the defaults that fill up -/
structure Has (P : Program) (w : World) (K : PySem.W.Frag) (mg : Str → Option Value) (base : Heap) (x : Str) (k : Nat) (dvs : List V) (sp : Sp) : Prop where
  ex : ∃ (f : Addr) (fd : FuncData) (ps : List Str) (ds : List Value), mg x = some (.ref f) ∧ PySem.W.keepIn K (.ref f) = true ∧ Binds K fd ps ds ∧ Vals dvs ds ∧ FnOk P w K mg base CX0 k f fd ps sp
section
variable {X : Cx} {k j : Nat} {sp : Sp} {dvs : List V} {x : Str} {p pos : Pos} {e : Expr} {es : List Expr} {t : TA}
theorem pe_has (h : Has X.prog X.w X.K X.mg X.base x j dvs sp) (hr : Room k X.A) (hk : j ≤ k) (ha : PA X (e :: es) t) (hg : Gl X x := by rfl)
    (hdb : (x == ("__debug__" : Str)) = false := by decide) (he : starEach (e :: es) X.env = (false, eval e X.env) :: starEach es X.env := by rfl) (hpl : (backTo pos (starEach es X.env)).any (·.1) = false := by rfl) :
    PE X (.Call (.Name x p) (e :: es) [] pos) (tCall sp dvs E0 t) := by
  obtain ⟨f, fd, ps, ds, h1, h2, h3, h4, h5⟩ := h.ex
  exact pe_call h5 (hr.mono hk) hg h1 h2 h3 h4 pass0 ha hdb he hpl
theorem pe_has0 (h : Has X.prog X.w X.K X.mg X.base x j dvs sp) (hr : Room k X.A) (hk : j ≤ k) (hg : Gl X x := by rfl)
    (hdb : (x == ("__debug__" : Str)) = false := by decide) :
    PE X (.Call (.Name x p) [] [] pos) (tCall sp dvs E0 tNil) := by
  obtain ⟨f, fd, ps, ds, h1, h2, h3, h4, h5⟩ := h.ex
  exact pe_call0 h5 (hr.mono hk) hg h1 h2 h3 h4 pass0 hdb
end
section
variable {P : Program} {w : World} {K : PySem.W.Frag} {mg : Str → Option Value} {base : Heap} {x : Str} {k : Nat} {sp : Sp}
theorem Has.held {f : Addr} (h : Has P w K mg base x k [] sp) (e : mg x = some (.ref f)) : Held P w K mg base k f sp := by
  obtain ⟨g, fd, ps, ds, h1, h2, h3, h4, h5⟩ := h.ex
  cases h4
  rw [e] at h1
  cases h1
  exact ⟨fd, ps, h5, h2, h3⟩
theorem Has.imp {sp' : Sp} {dvs : List V} (h : Has P w K mg base x k dvs sp) (q : ∀ vs H Q E, sp' vs H Q E → sp vs H Q E) : Has P w K mg base x k dvs sp' := by
  obtain ⟨g, fd, ps, ds, h1, h2, h3, h4, h5⟩ := h.ex
  exact ⟨g, fd, ps, ds, h1, h2, h3, h4, h5.imp q⟩
/-- the rule for a def; cdv is the def's own code -/
theorem ok_code {qual : Str} {params : Arguments} {body : List Stmt} {scope : Scope} {dvs : List V} {kws : List (Str × V)} {f : Addr} {fd : FuncData} {CX : CXT} {N ps : List Str} (F : FunD K x qual params body scope dvs kws f fd) (S : FnScope N ps scope) (len : ∀ vs H Q E, sp vs H Q E → vs.length = ps.length)
    (hbody : ∀ (cdv : Value) (A : Around) (outer : List Env) (s : Shared) (H : Hp) (vs : List V) (Q : VK) (E : XK), cdv = fd.code → Room k (A.deeper (envOfC qual scope s.heap.objs.size f cdv)) → sp vs H Q E →
      ∃ t, PSs (cxOf CX P w K mg base N qual scope f cdv A outer s H E) body t ∧ t { nx := fun _ H' => Q .non H', rt := Q } (start N vs) H) : FnOk P w K mg base CX (k + 1) f fd ps sp := by
  obtain ⟨oc, od, dV, kV, doc, pm, an, cdv, ct, osl, rfl, lk, hcd, _, _⟩ := F.ex
  exact fn_of lk hcd S len fun A outer s H vs Q E hr hsp => hbody cdv A outer s H vs Q E rfl hr hsp
end
end NS
end
section
/-! P1: turns as lists of whole numbers -/
namespace NS
/-- the second turn behind the first -/
def comp (a b : List Int) : List Int := a.map fun x => b.getD x.toNat 0
def idt (n : Nat) : List Int := (List.range n).map fun (i : Nat) => (i : Int)
def inv (a : List Int) : List Int := (List.range a.length).map fun (i : Nat) => ((a.idxOf (i : Int) : Nat) : Int)
/-- the items are places below n -/
def Low (n : Nat) (a : List Int) : Prop := ∀ x ∈ a, 0 ≤ x ∧ x < n
structure IsT (n : Nat) (a : List Int) : Prop where
  len : a.length = n
  low : Low n a
  nd : a.Nodup
/-- the hall to which hall i is led -/
def at' (a : List Int) (i : Nat) : Nat := (a.getD i 0).toNat
theorem getD_of {α : Type} {l : List α} {i : Nat} {x d : α} (h : l[i]? = some x) : l.getD i d = x := by rw [List.getD_eq_getElem?_getD, h]; rfl
theorem map_some {α β : Type} {f : α → β} {l : List α} {i : Nat} {y : β} (h : (l.map f)[i]? = some y) : ∃ x, l[i]? = some x ∧ y = f x := by
  rw [List.getElem?_map] at h
  cases e : l[i]? with
  | none => rw [e] at h; cases h
  | some x => rw [e] at h; exact ⟨x, rfl, (Option.some.inj h).symm⟩
theorem map_range_getD {α : Type} (xs : List α) (d : α) : (List.range xs.length).map (fun i => xs.getD i d) = xs := by
  refine List.ext_getElem (by simp) fun i h1 h2 => ?_
  simp [List.getD_eq_getElem?_getD, List.getElem?_eq_getElem h2]
/-- two lists with the same items at all places -/
theorem ext_at {α : Type} {d : α} {a b : List α} (hl : a.length = b.length) (h : ∀ i, i < a.length → a.getD i d = b.getD i d) : a = b := by
  rw [← map_range_getD a d, ← map_range_getD b d, hl]
  exact List.map_congr_left fun i hi => h i (by rw [hl]; exact List.mem_range.mp hi)
theorem erase_len {α : Type} [BEq α] [LawfulBEq α] {x : α} {b : List α} (h : x ∈ b) : (b.erase x).length + 1 = b.length := by
  have := List.length_erase_of_mem h
  have := List.length_pos_of_mem h
  omega
theorem nd_le {α : Type} [BEq α] [LawfulBEq α] : ∀ {a b : List α}, a.Nodup → (∀ x ∈ a, x ∈ b) → a.length ≤ b.length
  | [], _, _, _ => Nat.zero_le _
  | x :: a, b, nd, sub => by
    obtain ⟨h1, h2⟩ := List.nodup_cons.mp nd
    have hx := sub x (List.mem_cons_self ..)
    have := nd_le (a := a) (b := b.erase x) h2 fun y hy => (List.mem_erase_of_ne (fun e => h1 (by rw [← e]; exact hy))).mpr (sub y (List.mem_cons_of_mem _ hy))
    have := erase_len hx
    simp only [List.length_cons]
    omega
/-- as many different items as there may be: all of them -/
theorem nd_all {α : Type} [BEq α] [LawfulBEq α] {a b : List α} (nd : a.Nodup) (sub : ∀ x ∈ a, x ∈ b) (hl : b.length ≤ a.length) : ∀ x ∈ b, x ∈ a := fun x hx => by
  by_cases h : x ∈ a
  · exact h
  · have := nd_le (a := x :: a) (b := b) (List.nodup_cons.mpr ⟨h, nd⟩) fun y hy => by
      rcases List.mem_cons.mp hy with e | e
      · rw [e]; exact hx
      · exact sub y e
    simp only [List.length_cons] at this
    omega
theorem nodup_map {α β : Type} {f : α → β} : ∀ {l : List α}, l.Nodup → (∀ x ∈ l, ∀ y ∈ l, f x = f y → x = y) → (l.map f).Nodup
  | [], _, _ => List.nodup_nil
  | a :: l, nd, inj => by
    obtain ⟨h1, h2⟩ := List.nodup_cons.mp nd
    rw [List.map_cons, List.nodup_cons]
    refine ⟨fun hm => ?_, nodup_map h2 fun x hx y hy => inj x (List.mem_cons_of_mem _ hx) y (List.mem_cons_of_mem _ hy)⟩
    obtain ⟨y, hy, e⟩ := List.mem_map.mp hm
    have := inj y (List.mem_cons_of_mem _ hy) a (List.mem_cons_self ..) e
    rw [this] at hy
    exact h1 hy
theorem idt_len (n : Nat) : (idt n).length = n := by unfold idt; simp
theorem idt_at {n i : Nat} (h : i < n) : (idt n).getD i 0 = (i : Int) := by
  refine getD_of ?_
  unfold idt
  rw [List.getElem?_map, List.getElem?_range h]
  rfl
theorem mem_idt {n : Nat} {x : Int} : x ∈ idt n ↔ 0 ≤ x ∧ x < n := by
  unfold idt
  rw [List.mem_map]
  constructor
  · rintro ⟨i, hi, rfl⟩
    have := List.mem_range.mp hi
    omega
  · rintro ⟨h0, h1⟩
    exact ⟨x.toNat, List.mem_range.mpr (by omega), by omega⟩
theorem idt_isT (n : Nat) : IsT n (idt n) := ⟨idt_len n, fun x hx => mem_idt.mp hx, nodup_map List.nodup_range fun x _ y _ e => by omega⟩
theorem comp_len (a b : List Int) : (comp a b).length = a.length := List.length_map ..
theorem inv_len (a : List Int) : (inv a).length = a.length := by unfold inv; simp
theorem comp_at {a b : List Int} {i : Nat} {k : Int} (h : a[i]? = some k) : (comp a b).getD i 0 = b.getD k.toNat 0 := by
  refine getD_of ?_
  unfold comp
  rw [List.getElem?_map, h]
  rfl
theorem inv_at {a : List Int} {i : Nat} (h : i < a.length) : (inv a).getD i 0 = ((a.idxOf (i : Int) : Nat) : Int) := by
  refine getD_of ?_
  unfold inv
  rw [List.getElem?_map, List.getElem?_range h]
  rfl
theorem get_some {α : Type} {l : List α} {i : Nat} (h : i < l.length) (d : α) : l[i]? = some (l.getD i d) := by
  rw [List.getD_eq_getElem?_getD, List.getElem?_eq_getElem h]
  rfl
theorem mem_getD {α : Type} {l : List α} {i : Nat} (h : i < l.length) (d : α) : l.getD i d ∈ l := List.mem_of_getElem? (get_some h d)
theorem comp_getD {a : List Int} (b : List Int) {i : Nat} (h : i < a.length) : (comp a b).getD i 0 = b.getD (at' a i) 0 := comp_at (get_some h 0)
section
variable {n : Nat} {a b c : List Int}
theorem IsT.getD (h : IsT n a) {i : Nat} (hi : i < n) : a.getD i 0 = (at' a i : Int) ∧ at' a i < n := by
  have := h.low _ (mem_getD (l := a) (i := i) (by rw [h.len]; exact hi) 0)
  unfold at'
  omega
theorem IsT.lt (h : IsT n a) {i : Nat} (hi : i < n) : at' a i < n := (h.getD hi).2
theorem IsT.mem (h : IsT n a) {i : Nat} (hi : i < n) : (i : Int) ∈ a :=
  nd_all (b := idt n) h.nd (fun x hx => mem_idt.mpr (h.low x hx)) (by rw [idt_len, h.len]; exact Nat.le_refl _) _ (mem_idt.mpr (by omega))
theorem IsT.ext (ha : IsT n a) (hb : IsT n b) (h : ∀ i, i < n → at' a i = at' b i) : a = b :=
  ext_at (d := 0) (by rw [ha.len, hb.len]) fun i hi => by
    have hi' : i < n := by rw [← ha.len]; exact hi
    rw [(ha.getD hi').1, (hb.getD hi').1, h i hi']
theorem IsT.inj (h : IsT n a) {i j : Nat} (hi : i < n) (hj : j < n) (e : at' a i = at' a j) : i = j := by
  have e' : a.getD i 0 = a.getD j 0 := by rw [(h.getD hi).1, (h.getD hj).1, e]
  have hi' : i < a.length := by rw [h.len]; exact hi
  have hj' : j < a.length := by rw [h.len]; exact hj
  have e2 : a[i] = a[j] := by
    have e3 := e'
    rw [List.getD_eq_getElem?_getD, List.getD_eq_getElem?_getD, List.getElem?_eq_getElem hi', List.getElem?_eq_getElem hj'] at e3
    exact e3
  have pw := List.pairwise_iff_getElem.mp h.nd
  rcases Nat.lt_trichotomy i j with q | q | q
  · exact absurd e2 (pw i j hi' hj' q)
  · exact q
  · exact absurd e2.symm (pw j i hj' hi' q)
theorem at_idt {i : Nat} (h : i < n) : at' (idt n) i = i := by unfold at'; rw [idt_at h]; rfl
theorem at_comp (h : IsT n a) (b : List Int) {i : Nat} (hi : i < n) : at' (comp a b) i = at' b (at' a i) := by
  unfold at'
  rw [comp_getD b (by rw [h.len]; exact hi)]
  rfl
theorem isT_of (hl : a.length = n) (f : Nat → Nat) (hf : ∀ i, i < n → a.getD i 0 = (f i : Int)) (lt : ∀ i, i < n → f i < n) (inj : ∀ i, i < n → ∀ j, j < n → f i = f j → i = j) : IsT n a := by
  have e : a = (List.range n).map fun i => (f i : Int) := by
    refine ext_at (d := 0) (by simp [hl]) fun i hi => ?_
    rw [hl] at hi
    rw [hf i hi]
    refine (getD_of ?_).symm
    rw [List.getElem?_map, List.getElem?_range hi]
    rfl
  refine ⟨hl, fun x hx => ?_, ?_⟩
  · rw [e] at hx
    obtain ⟨i, hi, rfl⟩ := List.mem_map.mp hx
    have := lt i (List.mem_range.mp hi)
    omega
  · rw [e]
    exact nodup_map List.nodup_range fun x hx y hy q => inj x (List.mem_range.mp hx) y (List.mem_range.mp hy) (by omega)
theorem IsT.comp (ha : IsT n a) (hb : IsT n b) : IsT n (comp a b) :=
  isT_of (by rw [comp_len, ha.len]) (fun i => at' b (at' a i)) (fun i hi => by rw [comp_getD b (by rw [ha.len]; exact hi), (hb.getD (ha.lt hi)).1]) (fun i hi => hb.lt (ha.lt hi))
    fun i hi j hj e => ha.inj hi hj (hb.inj (ha.lt hi) (ha.lt hj) e)
theorem idx_of (ha : IsT n a) {i : Nat} (hi : i < n) : a.idxOf (i : Int) < n ∧ at' a (a.idxOf (i : Int)) = i := by
  have hm := ha.mem hi
  have hlt : a.idxOf (i : Int) < a.length := List.idxOf_lt_length_of_mem hm
  refine ⟨by rw [← ha.len]; exact hlt, ?_⟩
  unfold at'
  have e : a.getD (a.idxOf (i : Int)) 0 = (i : Int) := by
    refine getD_of ?_
    rw [List.getElem?_eq_getElem hlt, List.getElem_idxOf]
  rw [e]
  rfl
theorem at_inv (ha : IsT n a) {i : Nat} (hi : i < n) : at' (inv a) i = a.idxOf (i : Int) := by
  unfold at'
  rw [inv_at (by rw [ha.len]; exact hi)]
  rfl
theorem IsT.inv (ha : IsT n a) : IsT n (inv a) :=
  isT_of (by rw [inv_len, ha.len]) (fun i => a.idxOf (i : Int)) (fun i hi => inv_at (by rw [ha.len]; exact hi)) (fun i hi => (idx_of ha hi).1)
    fun i hi j hj e => by rw [← (idx_of ha hi).2, ← (idx_of ha hj).2, e]
theorem inv_comp (ha : IsT n a) : NS.comp (NS.inv a) a = idt n :=
  (ha.inv.comp ha).ext (idt_isT n) fun i hi => by rw [at_comp ha.inv a hi, at_inv ha hi, at_idt hi]; exact (idx_of ha hi).2
theorem comp_inv (ha : IsT n a) : NS.comp a (NS.inv a) = idt n :=
  (ha.comp ha.inv).ext (idt_isT n) fun i hi => by
    rw [at_comp ha _ hi, at_inv ha (ha.lt hi), at_idt hi]
    exact ha.inj (idx_of ha (ha.lt hi)).1 hi (idx_of ha (ha.lt hi)).2
theorem comp_assoc (ha : IsT n a) (hb : IsT n b) (c : List Int) : NS.comp (NS.comp a b) c = NS.comp a (NS.comp b c) :=
  ext_at (d := 0) (by simp only [comp_len]) fun i hi => by
    rw [comp_len, comp_len, ha.len] at hi
    rw [comp_getD c (by rw [comp_len, ha.len]; exact hi), at_comp ha b hi, comp_getD _ (by rw [ha.len]; exact hi), comp_getD c (by rw [hb.len]; exact ha.lt hi)]
theorem idt_comp (ha : IsT n a) : NS.comp (idt n) a = a := ((idt_isT n).comp ha).ext ha fun i hi => by rw [at_comp (idt_isT n) a hi, at_idt hi]
theorem comp_idt (ha : IsT n a) : NS.comp a (idt n) = a := (ha.comp (idt_isT n)).ext ha fun i hi => by rw [at_comp ha _ hi, at_idt (ha.lt hi)]
end
end NS
end
section
set_option maxHeartbeats 4000000
/-! D1: comprehensions whose items stay -/
namespace NS
open PySem PySem.Spec PyProof.Rows L2 ZS
theorem filter_succ (pb : Nat → Bool) (i : Nat) : (List.range (i + 1)).filter pb = (List.range i).filter pb ++ (if pb i = true then [i] else []) := by
  rw [List.range_succ, List.filter_append]
  congr 1
  cases e : pb i <;> simp [List.filter, e]
theorem filter_le (pb : Nat → Bool) (i : Nat) : ((List.range i).filter pb).length ≤ i := by
  have := List.length_filter_le pb (List.range i)
  simpa using this
/-- a walk that yields Y i at turn i, n in all, as long as what stood stands -/
structure Wlk (J : It) (H : Hp) (n : Nat) (Y : Nat → V → Hp → Prop) : Prop where
  go : ∀ i H', Kp H H' → i < n → J.go i H'
  stop : ∀ H', Kp H H' → J.stop n H'
  yld : ∀ i H1 x H2, Kp H H1 → i < n → J.yld i H1 x H2 → Kp H1 H2 ∧ Y i x H2
theorem Wlk.tup {K : PySem.W.Frag} {H : Hp} {a : Addr} {xs : List V} (h : SqT K H a xs) : Wlk (Itt K a) H xs.length (fun i x _ => xs[i]? = some x) where
  go := fun i H' z hi => ⟨xs, xs[i], z.sqT h, by simp [hi]⟩
  stop := fun H' z => ⟨xs, z.sqT h, Nat.le_refl _⟩
  yld := fun i H1 x H2 z hi y => by
    obtain ⟨e, y⟩ := y
    subst e
    exact ⟨Kp.refl _, y xs (z.sqT h)⟩
theorem Wlk.lst {K : PySem.W.Frag} {H : Hp} {a : Addr} {xs : List V} (h : SqL K H a xs) : Wlk (Itl K a) H xs.length (fun i x _ => xs[i]? = some x) where
  go := fun i H' z hi => ⟨xs, xs[i], z.sqL h, by simp [hi]⟩
  stop := fun H' z => ⟨xs, z.sqL h, Nat.le_refl _⟩
  yld := fun i H1 x H2 z hi y => by
    obtain ⟨e, y⟩ := y
    subst e
    exact ⟨Kp.refl _, y xs (z.sqL h)⟩
theorem Wlk.rng {H : Hp} (lo : Int) (n : Nat) : Wlk (Itr lo n) H n (fun i x _ => x = .int (lo + i)) where
  go := fun i H' z hi => hi
  stop := fun H' z => Nat.le_refl _
  yld := fun i H1 x H2 z hi y => by
    obtain ⟨e, y⟩ := y
    subst e
    exact ⟨Kp.refl _, y⟩
theorem lcG {J : It} {g : TG} {tt : TT} {te : TE} {vs : List Nat} {σ : L2.St} {H : Hp} {D : Addr} {Qd : Hp → Prop} {n : Nat} {Y : Nat → V → Hp → Prop} (wk : Wlk J H n Y) (hD : H D = none) (hz : n < sizeLine)
    (pb : Nat → Bool) (R : Nat → V → Hp → Prop) (st : ∀ i y H1 H2, Tup H1 H2 → R i y H1 → R i y H2)
    (el : ∀ i x H' (Q1 : V → Hp → Prop) (Q0 : Hp → Prop), i < n → Kp H H' → Y i x H' → (∀ y H4, pb i = true → Kp H' H4 → R i y H4 → Q1 y H4) → (∀ H3, pb i = false → Kp H' H3 → Q0 H3) →
      g x (wipe σ vs) H' fun σ2 H2 => wipe σ2 vs = wipe σ vs ∧ tt σ2 H2 fun b H3 => if b = true then te σ2 H3 Q1 else Q0 H3)
    (fin : ∀ ys H', Kp H H' → H' D = some (.lst ys) → Paired (fun i y => R i y H') ((List.range n).filter pb) ys → Qd H') :
    ∃ W : Nat → Nat → Hp → Prop, (∃ m, W 0 m (upd H D (.lst []))) ∧ ∀ i m H, W i m H →
      (J.stop i H ∧ Qd H) ∨ (J.go i H ∧ ∃ Nx : Hp → Prop, (∀ H', Nx H' → ∃ m', m' < m ∧ W (i + 1) m' H') ∧ ∀ x H', J.yld i H x H' → g x (wipe σ vs) H' fun σ2 H2 => wipe σ2 vs = wipe σ vs ∧ tt σ2 H2 fun b H3 =>
        if b = true then te σ2 H3 fun y H4 => ∃ acc, H4 D = some (.lst acc) ∧ acc.length < sizeLine ∧ Nx (upd H4 D (.lst (acc ++ [y]))) else Nx H3) := by
  refine ⟨fun i m H' => m = n - i ∧ i ≤ n ∧ Kp H H' ∧ ∃ ys, H' D = some (.lst ys) ∧ Paired (fun i y => R i y H') ((List.range i).filter pb) ys, ⟨n, by simp, Nat.zero_le _, (Kp.refl H).new hD, [], upd_same, .nil⟩, ?_⟩
  rintro i m H1 ⟨rfl, hi, z, ys, hy, hp⟩
  by_cases hlt : i < n
  · refine .inr ⟨wk.go i H1 z hlt, fun H' => Kp H H' ∧ ∃ ys, H' D = some (.lst ys) ∧ Paired (fun i y => R i y H') ((List.range (i + 1)).filter pb) ys, fun H' ⟨p1, p2⟩ => ⟨n - (i + 1), by omega, rfl, hlt, p1, p2⟩, fun x H' y => ?_⟩
    obtain ⟨zy, yy⟩ := wk.yld i H1 x H' z hlt y
    have hl : ys.length < sizeLine := by
      have := filter_le pb i
      rw [hp.length] at this
      omega
    refine el i x H' _ _ hlt (z.trans zy) yy (fun v H4 hb z4 r4 => ?_) (fun H3 hb z3 => ?_)
    · have z14 := zy.trans z4
      have hD4 := z14.lst hy
      refine ⟨ys, hD4, hl, (z.trans z14).put hD, _, upd_same, ?_⟩
      have tz : Tup H4 (upd H4 D (.lst (ys ++ [v]))) := Tup.put (by rw [hD4]; trivial)
      rw [filter_succ, if_pos hb]
      exact Paired.snoc (hp.mono (fun a b q => st _ _ _ _ (z14.tup.trans tz) q)) (st _ _ _ _ tz r4)
    · have z13 := zy.trans z3
      refine ⟨z.trans z13, ys, z13.lst hy, ?_⟩
      rw [filter_succ, if_neg (by rw [hb]; exact Bool.false_ne_true), List.append_nil]
      exact hp.mono (fun a b q => st _ _ _ _ z13.tup q)
  · have e : i = n := by omega
    subst e
    exact .inl ⟨wk.stop H1 z, fin ys H1 z hy hp⟩
/-- no test -/
theorem lcF {J : It} {g : TG} {te : TE} {vs : List Nat} {σ : L2.St} {H : Hp} {D : Addr} {Qd : Hp → Prop} {n : Nat} {Y : Nat → V → Hp → Prop} (wk : Wlk J H n Y) (hD : H D = none) (hz : n < sizeLine)
    (R : Nat → V → Hp → Prop) (st : ∀ i y H1 H2, Tup H1 H2 → R i y H1 → R i y H2)
    (el : ∀ i x H' (Q1 : V → Hp → Prop), i < n → Kp H H' → Y i x H' → (∀ y H4, Kp H' H4 → R i y H4 → Q1 y H4) →
      g x (wipe σ vs) H' fun σ2 H2 => wipe σ2 vs = wipe σ vs ∧ te σ2 H2 Q1)
    (mono : ∀ x H' (Q Q' : L2.St → Hp → Prop), (∀ s h, Q s h → Q' s h) → g x (wipe σ vs) H' Q → g x (wipe σ vs) H' Q')
    (fin : ∀ ys H', Kp H H' → H' D = some (.lst ys) → Paired (fun i y => R i y H') (List.range n) ys → Qd H') :
    ∃ W : Nat → Nat → Hp → Prop, (∃ m, W 0 m (upd H D (.lst []))) ∧ ∀ i m H, W i m H →
      (J.stop i H ∧ Qd H) ∨ (J.go i H ∧ ∃ Nx : Hp → Prop, (∀ H', Nx H' → ∃ m', m' < m ∧ W (i + 1) m' H') ∧ ∀ x H', J.yld i H x H' → g x (wipe σ vs) H' fun σ2 H2 => wipe σ2 vs = wipe σ vs ∧ tYes σ2 H2 fun b H3 =>
        if b = true then te σ2 H3 fun y H4 => ∃ acc, H4 D = some (.lst acc) ∧ acc.length < sizeLine ∧ Nx (upd H4 D (.lst (acc ++ [y]))) else Nx H3) :=
  lcG wk hD hz (fun _ => true) R st (fun i x H' Q1 Q0 hi z y q1 _ => mono x H' _ _ (fun s h q => ⟨q.1, iteT (B := Q0 h) q.2⟩) (el i x H' Q1 hi z y fun y H4 z4 r4 => q1 y H4 rfl z4 r4)) fun ys H' z hy hp => fin ys H' z hy (by
    have e : (List.range n).filter (fun _ => true) = List.range n := List.filter_eq_self.mpr fun _ _ => rfl
    rwa [e] at hp)
/-- for, over a walk -/
theorem forG {J : It} {g : TG} {tb : TS} {D : Ends} {σ : L2.St} {H0 H : Hp} {n : Nat} {Y : Nat → V → Hp → Prop} (wk : Wlk J H0 n Y) (Pv : Nat → L2.St → Hp → Prop) (h0 : Pv 0 σ H) (kp : ∀ i σ H', i ≤ n → Pv i σ H' → Kp H0 H')
    (hs : ∀ i x σ H1 H2, i < n → Pv i σ H1 → Kp H1 H2 → Y i x H2 → g x σ H2 fun σ2 H3 => tb { D with nx := Pv (i + 1), ct := Pv (i + 1), bk := D.nx } σ2 H3) (hd : ∀ σ H', Pv n σ H' → D.nx σ H') :
    ∃ W : Nat → Nat → L2.St → Hp → Prop, (∃ m, W 0 m σ H) ∧ ∀ i m σ H, W i m σ H →
      (J.stop i H ∧ D.nx σ H) ∨ (J.go i H ∧ ∃ N : L2.St → Hp → Prop, (∀ σ' H', N σ' H' → ∃ m', m' < m ∧ W (i + 1) m' σ' H') ∧ ∀ x H', J.yld i H x H' → g x σ H' fun σ2 H2 => tb { D with nx := N, ct := N, bk := D.nx } σ2 H2) := by
  refine ⟨fun i m σ H => m = n - i ∧ i ≤ n ∧ Pv i σ H, ⟨n, by simp, Nat.zero_le _, h0⟩, ?_⟩
  rintro i m σ H ⟨rfl, hi, p⟩
  have z := kp i σ H hi p
  by_cases hlt : i < n
  · refine .inr ⟨wk.go i H z hlt, Pv (i + 1), fun σ' H' p' => ⟨n - (i + 1), by omega, rfl, hlt, p'⟩, fun x H' y => ?_⟩
    obtain ⟨zy, yy⟩ := wk.yld i H x H' z hlt y
    exact hs i x σ H H' hlt p zy yy
  · have e : i = n := by omega
    subst e
    exact .inl ⟨wk.stop H z, hd σ H p⟩
theorem pr_get {α β : Type} {F : α → β → Prop} : ∀ {xs : List α} {ys : List β}, Paired F xs ys → ∀ {i : Nat} {x : α}, xs[i]? = some x → ∃ y, ys[i]? = some y ∧ F x y
  | _, _, .nil, i, x, e => by simp at e
  | _, _, .cons p t, 0, x, e => by
    cases e
    exact ⟨_, rfl, p⟩
  | _, _, .cons p t, i + 1, x, e => pr_get t (i := i) (x := x) e
theorem mono_name {i : Nat} (x : V) (σ : L2.St) (H' : Hp) (Q Q' : L2.St → Hp → Prop) (h : ∀ s h, Q s h → Q' s h) (q : gName i x σ H' Q) : gName i x σ H' Q' := h _ _ q
theorem paired_map {α β : Type} {F : α → β → Prop} {f : α → β} (h : ∀ a b, F a b → b = f a) : ∀ {l : List α} {m : List β}, Paired F l m → m = l.map f
  | _, _, .nil => rfl
  | _, _, .cons p t => by rw [List.map_cons, h _ _ p, paired_map h t]
theorem ifF {c : Bool} {A B : Prop} (h : c = false) (b : B) : if c = true then A else B := by rw [h, if_neg Bool.false_ne_true]; exact b
theorem ifT {c : Bool} {A B : Prop} (h : c = true) (a : A) : if c = true then A else B := by rw [if_pos h]; exact a
end NS
end
section
set_option maxHeartbeats 4000000
/-! T0: new tuples that have no dict of their own; t.index -/
namespace NS
open PySem PySem.Spec PyProof.Rows L2 ZS
/-- v is a tuple of the ints k, made plainly -/
def PT (H : Hp) (v : V) (k : List Int) : Prop := ∃ a o, v = .ref a ∧ H a = some (.frz o (.tup (k.map V.int))) ∧ o.dict = none
theorem PT.ti {K : PySem.W.Frag} {H : Hp} {v : V} {k : List Int} (h : PT H v k) : TI K H v k := let ⟨a, o, e, x, _⟩ := h; ⟨a, e, .inl (.inr ⟨o, x⟩)⟩
theorem Kp.pt {H H' : Hp} (z : Kp H H') {v : V} {k : List Int} (h : PT H v k) : PT H' v k := let ⟨a, o, e, x, d⟩ := h; ⟨a, o, e, z.k _ _ x (fun _ q => by cases q), d⟩
theorem Tup.pt {H H' : Hp} (z : Tup H H') {v : V} {k : List Int} (h : PT H v k) : PT H' v k := let ⟨a, o, e, x, d⟩ := h; ⟨a, o, e, z.f _ _ _ x, d⟩
theorem PT.of {H : Hp} {a : Addr} {o : Obj} {k : List Int} (h : H a = some (.frz o (.tup (k.map V.int)))) (d : o.dict = none) : PT H (.ref a) k := ⟨a, o, rfl, h, d⟩
section
variable {X : Cx}
theorem Inv.newT {pins : List (Addr × Obj)} {σ : L2.St} {H : Hp} {s : Shared} {t' : Nat} {xs : List V} {its : List Value} (I : Inv X pins σ H s) (hz : xs.length ≤ sizeLine) (r : Vals xs its) :
    Inv X pins σ (upd H s.heap.objs.size (.frz { cls := .type "tuple", data := .seq its.toArray } (.tup xs))) { s with heap := s.heap.push { cls := .type "tuple", data := .seq its.toArray }, toks := t' } :=
  I.laid (fun b o e => Heap.get?_push_of_some _ e) (Nat.le_refl _) ⟨Heap.get?_push_size _ rfl, hz, its, r, IsTup.new _ _⟩
/-- tuple(xs), xs a list -/
theorem cr_tupP : CallR X (.type "tuple") (fun xs H Q => ∃ p ys, xs = [.ref p] ∧ SqL X.K H p ys ∧ ∀ l o, H l = none → o.dict = none → Q (.ref l) (upd H l (.frz o (.tup ys)))) := by
  intro pins s σ H xs us Q I r h
  obtain ⟨p, ys, rfl, hq, q⟩ := h
  obtain ⟨u, rfl, rx⟩ := vals1 r
  cases rx
  obtain ⟨its, r', pl, hz⟩ := I.list hq
  have hlen := r'.length
  refine call_tuple_list pl.isList (fun h' kp => ?_) (by simp only [List.size_toArray] <;> omega)
  have I1 : Inv X pins σ H { s with heap := h' } := I.kept (t' := s.toks) kp
  exact ⟨.ref h'.objs.size, _, NS.Inv.newT (s := { s with heap := h' }) (t' := s.toks) I1 hz r', rfl, q _ _ (I1.hok.fresh (Nat.le_refl _)) rfl⟩
/-- (a, b) -/
def tTupP (t : TA) : TE := fun σ H Q => t σ H fun xs H1 => xs.length ≤ sizeLine ∧ ∀ p o, H1 p = none → o.dict = none → Q (.ref p) (upd H1 p (.frz o (.tup xs)))
theorem pe_tupP {x1} {es : List Expr} {t : TA} {pos : Pos} (h : PA X es t) : PE X (.Tuple es x1 pos) (tTupP t) := by
  refine ⟨fun pins s σ H Q I hq => ?_⟩
  refine wpAny_Tuple_spliced (thn (h.run pos pins s σ H _ I hq) fun us s1 ⟨xs, H1, I1, r, z, q⟩ => ⟨by rw [← r.length]; exact z, ?_⟩)
  have hf : H1 s1.heap.objs.size = none := I1.hok.fresh (Nat.le_refl _)
  exact ⟨.ref s1.heap.objs.size, _, NS.Inv.newT (t' := s1.toks) I1 z r, rfl, q _ _ hf rfl⟩
/-- t + u, u not empty -/
def rCatP (K : PySem.W.Frag) : R2 := fun x y H Q => ∃ a b xs ys, x = .ref a ∧ y = .ref b ∧ SqT K H a xs ∧ SqT K H b ys ∧ xs.length + ys.length ≤ sizeLine ∧ ys ≠ [] ∧
  (xs = [] → Q (.ref b) H) ∧ (xs ≠ [] → ∀ p o, H p = none → o.dict = none → Q (.ref p) (upd H p (.frz o (.tup (xs ++ ys)))))
theorem op_catP : OpR X (binaryOp .Add) (rCatP X.K) := by
  intro pins s σ H x y v u Q I rx ry h
  obtain ⟨a, b, xs, ys, rfl, rfl, ha, hb, hz, hy, q0, q2⟩ := h
  by_cases hx : xs = []
  · subst hx
    exact op_catA pins s σ H _ _ v u Q I rx ry ⟨a, b, [], ys, rfl, rfl, ha, hb, hz, fun _ => q0 rfl, fun z => absurd rfl z, fun z => absurd rfl z⟩
  · cases rx
    cases ry
    obtain ⟨its, r1, p1, _⟩ := I.tuple ha
    obtain ⟨its2, r2, p2, _⟩ := I.tuple hb
    refine HT.cat_tup p1 p2 (fun z => hx (r1.nil_iff.mp z)) (fun z => absurd (r2.nil_iff.mp z) hy) (fun z => ?_) (by rw [← r1.length, ← r2.length]; exact hz)
    exact ⟨.ref s.heap.objs.size, _, NS.Inv.newT (t' := s.toks) I (by rw [List.length_append]; exact hz) (r1.append r2), rfl, q2 hx _ _ (I.hok.fresh (Nat.le_refl _)) rfl⟩
variable {o e : Expr} {es : List Expr} {to : TE} {t : TA} {apos cpos : Pos}
/-- len of a set of ints -/
def rSLen (w : World) : List V → Hp → VK → Prop := fun vs H Q => ∃ (a : Addr) (S : Int → Bool) (n : Nat) (ns : List Int), vs = [.ref a] ∧ H a = some (SetO w a S n) ∧ ns.Nodup ∧ (∀ k, S k = true ↔ k ∈ ns) ∧ Q (.int ns.length) H
theorem cr_slen : CallR X (.builtin "len") (rSLen X.w) := by
  intro pins s σ H vs us Q I r h
  obtain ⟨a, S, n, ns, rfl, ha, nd, mem, q⟩ := h
  rw [Vals.ref1 r]
  obtain ⟨ob, es, ep, t, ho, hex, hd, _, nd2, m2, hb, hf, hn, _⟩ := setO_get I ha
  have e : (es.toList.map L2.keyOf).length = ns.length := Nat.le_antisymm (nd_le nd2 fun x hx => (mem x).mp ((m2 x).mpr hx)) (nd_le nd fun x hx => (m2 x).mp ((mem x).mpr hx))
  rw [List.length_map, Array.length_toList] at e
  have hz : scanBound = 4096 := rfl
  exact call_len_set ho hex hd hf (by omega) ⟨.int ns.length, H, I.tok _, ⟨_, by rw [e]⟩, q⟩
theorem tyx_T {K : PySem.W.Frag} {H : Hp} {a : Addr} {xs : List V} (h : SqT K H a xs) : TyX K H (.ref a) (.type "tuple") := by
  rcases h with (h | ⟨o, h⟩) | ⟨o, _, _, h1, h2, _⟩
  · exact .base (.tup h)
  · exact .fTuple h
  · exact .kTuple h1 h2
end
end NS
end
section
set_option maxHeartbeats 4000000
/-! G1: still, then, undone, hall_led, pair_led, like -/
namespace NS
open PySem PySem.Spec PyProof.Rows L2 ZS
theorem big : (1000000 : Nat) < sizeLine := by rw [sizeLine_eq]; decide
theorem TI.of {K : PySem.W.Frag} {H : Hp} {a : Addr} {k : List Int} (h : H a = some (.tup (k.map V.int))) : TI K H (.ref a) k := ⟨a, rfl, SqT.of h⟩
theorem rgV_idt (n : Nat) : rgV 0 n = (idt n).map V.int := by
  unfold rgV idt
  rw [List.map_map]
  have e : ((n : Int) - 0).toNat = n := by omega
  rw [e]
  refine List.map_congr_left fun i _ => ?_
  show V.int (0 + (i : Int)) = V.int (i : Int)
  rw [Int.zero_add]
section
variable {P : Program} {w : World} {K : PySem.W.Frag} {mg : Str → Option Value} {base : Heap} {f : Addr} {fd : FuncData}
end
end NS
end
section
set_option maxHeartbeats 4000000
/-! C1: checks, where all is as it should be -/
namespace NS
open PySem PySem.Spec PyProof.Rows L2 ZS
theorem scNumber : FnScope ["value", "least", "most"] ["value", "least", "most"] (defScope sNumber) := ⟨rfl, rfl, rfl, by decide +kernel, rfl, by decide +kernel, by decide +kernel⟩
theorem scIsTurn : FnScope ["halls", "value"] ["halls", "value"] (defScope sIsTurn) := ⟨rfl, rfl, rfl, by decide +kernel, rfl, by decide +kernel, by decide +kernel⟩
theorem scAreTurns : FnScope ["halls", "value"] ["halls", "value"] (defScope sAreTurns) := ⟨rfl, rfl, rfl, by decide +kernel, rfl, by decide +kernel, by decide +kernel⟩
theorem scFault : FnScope ["value", "halls", "turns"] ["value"] (defScope sFault) := ⟨rfl, rfl, rfl, by decide +kernel, rfl, by decide +kernel, by decide +kernel⟩
theorem scCheckHouse : FnScope ["house", "fault"] ["house"] (defScope sCheckHouse) := ⟨rfl, rfl, rfl, by decide +kernel, rfl, by decide +kernel, by decide +kernel⟩
/-- v is a tuple of plain tuples -/
def PTS (K : PySem.W.Frag) (H : Hp) (v : V) (ts : List (List Int)) : Prop := ∃ b xs, v = .ref b ∧ SqT K H b xs ∧ Paired (PT H) xs ts
/-- v is a house of n halls and these turns -/
def HouseAt (K : PySem.W.Frag) (H : Hp) (v : V) (n : Nat) (ts : List (List Int)) : Prop := ∃ a tv, v = .ref a ∧ SqT K H a [.int n, tv] ∧ PTS K H tv ts
structure IsH (n : Nat) (ts : List (List Int)) : Prop where
  n1 : 1 ≤ n
  n8 : n ≤ 8
  t1 : 1 ≤ ts.length
  t6 : ts.length ≤ 6
  is : ∀ t ∈ ts, IsT n t
theorem Kp.pts {K : PySem.W.Frag} {H H' : Hp} (z : Kp H H') {v : V} {ts : List (List Int)} (h : PTS K H v ts) : PTS K H' v ts := let ⟨b, xs, e, s, p⟩ := h; ⟨b, xs, e, z.sqT s, p.mono fun _ _ q => z.pt q⟩
theorem Kp.house {K : PySem.W.Frag} {H H' : Hp} (z : Kp H H') {v : V} {n : Nat} {ts : List (List Int)} (h : HouseAt K H v n ts) : HouseAt K H' v n ts := let ⟨a, tv, e, s, p⟩ := h; ⟨a, tv, e, z.sqT s, z.pts p⟩
theorem free1 {names : List (Str × NameKind)} {cells : List (Str × Addr)} {x : Str} {c : Addr} (h : (names.all fun y => decide (y.2 = .free → y.1 = x)) = true) (hc : cells.lookup x = some c) : ∀ y ∈ names, y.2 = .free → ∃ c, cells.lookup y.1 = some c := fun y hy e => by
  have := of_decide_eq_true (List.all_eq_true.mp h y hy) e
  exact ⟨c, by rw [this]; exact hc⟩
theorem cap1 {N : List Str} {names : List (Str × NameKind)} {kd : Str → Option NameKind} {x : Str} {i : Nat} (h1 : N[i]? = some x) (h2 : names.lookup x = some .free) (h3 : kd x = some .cell ∨ kd x = some .free) :
    ∀ p ∈ [(x, i)], N[p.2]? = some p.1 ∧ names.lookup p.1 = some .free ∧ (kd p.1 = some .cell ∨ kd p.1 = some .free) := fun p hp => by
  rw [List.mem_singleton.mp hp]
  exact ⟨h1, h2, h3⟩
def spHouse (K : PySem.W.Frag) (P P2 : Addr) : Sp := fun vs H Q _ => ∃ (v : V) (n : Nat) (ts : List (List Int)), vs = [v] ∧ HouseAt K H v n ts ∧ IsH n ts ∧ GxR.TabG H P ∧ GxR.TabG H P2 ∧ ∀ H', Kp H H' → Q .non H'
section
variable {P : Program} {w : World} {K : PySem.W.Frag} {mg : Str → Option Value} {base : Heap} {f : Addr} {fd : FuncData}
theorem has_checkhouse (F : FnP K "check_house" sCheckHouse f fd) (m : mg "check_house" = some (.ref f)) {pT PA : Addr} (hN : Has P w K mg base "house_fault" 6 [] (spHouse K pT PA)) :
    Has P w K mg base "check_house" 7 [] (spHouse K pT PA) := by
  refine ⟨f, fd, ["house"], [], m, F.kp, F.bindsN (fun _ _ _ _ _ _ us hl => match us, hl with | [_], _ => rfl), .nil, ?_⟩
  refine F.ok scCheckHouse (fun vs H Q E h => ?_) (fun cdv A outer s H vs Q E hr h => ⟨_, PSs.nox (pss_cons (ps_set (i := 1) scCheckHouse.nd rfl (Or.inl rfl) (pe_has hN hr (by decide) (pa_cons (pv 0) pa_nil)))
    (pss_one (ps_if (pt_cmp (pc_notN (pv 1))) (pss_one ps_never) pss_nil))), ?_⟩)
  · obtain ⟨v, n, ts, rfl, _⟩ := h
    rfl
  · obtain ⟨v, n, ts, rfl, hv, hi, gT, gA, q⟩ := h
    exact ⟨_, rfl, v, n, ts, rfl, hv, hi, gT, gA, fun H' z => ⟨_, rfl, _, rfl, ifF (A := _) (B := _) (by decide +kernel) (q H' z)⟩⟩
end
end NS
end
section
set_option maxHeartbeats 4000000
/-! X0: defs that may raise -/
namespace NS
open PySem PySem.Spec PyProof.Rows L2 ZS
/-- a def that may raise -/
structure HasX (P : Program) (w : World) (K : PySem.W.Frag) (mg : Str → Option Value) (base : Heap) (x : Str) (k : Nat) (sp : Sp) : Prop where
  ex : ∃ (f : Addr) (fd : FuncData) (ps : List Str), mg x = some (.ref f) ∧ PySem.W.keepIn K (.ref f) = true ∧ Binds K fd ps [] ∧ FnOk P w K mg base (L2.CX P w) k f fd ps sp
section
variable {X : Cx} {k j : Nat} {sp : Sp} {x : Str} {p pos : Pos} {e : Expr} {es : List Expr} {t : TA} {W : WX}
theorem pe_hasX (h : HasX X.prog X.w X.K X.mg X.base x j sp) (hr : Room k X.A) (hk : j ≤ k) (tk : Takes X W) (ha : PA X (e :: es) t) (hg : Gl X x := by rfl)
    (hdb : (x == ("__debug__" : Str)) = false := by decide) (he : starEach (e :: es) X.env = (false, eval e X.env) :: starEach es X.env := by rfl) (hpl : (backTo pos (starEach es X.env)).any (·.1) = false := by rfl) :
    PE X (.Call (.Name x p) (e :: es) [] pos) (tCallS sp (WE W) t) := by
  obtain ⟨f, fd, ps, h1, h2, h3, h5⟩ := h.ex
  exact pe_callS h5 (hr.mono hk) hg h1 h2 h3 (fun σ => passAt tk σ) ha hdb he hpl
end
section
variable {P : Program} {w : World} {K : PySem.W.Frag} {mg : Str → Option Value} {base : Heap} {x : Str} {k : Nat} {sp : Sp}
/-- where it raises nothing -/
theorem HasX.no (h : HasX P w K mg base x k sp) : Has P w K mg base x k [] (fun vs H Q _ => sp vs H Q fun _ _ _ => False) := by
  obtain ⟨f, fd, ps, h1, h2, h3, h5⟩ := h.ex
  refine ⟨f, fd, ps, [], h1, h2, h3, .nil, ⟨fun vs H Q E => h5.len vs H Q _, fun A outer s H args us vs Q E hr he hb hv hs => ?_⟩⟩
  refine codeAny_mono (h5.run A outer s H args us vs Q (fun _ _ _ => False) hr he hb hv hs) fun r s' hq => ?_
  cases r with
  | ok fl =>
    cases fl with
    | ret u => exact hq
    | next => exact hq
    | brk => exact hq
    | cont => exact hq
  | error e =>
    obtain ⟨a, B, H', cls, d, _, _, _, _, _, _, _, f⟩ := hq
    exact f.elim
theorem HasX.imp {sp' : Sp} (h : HasX P w K mg base x k sp) (q : ∀ vs H Q E, sp' vs H Q E → sp vs H Q E) : HasX P w K mg base x k sp' := by
  obtain ⟨g, fd, ps, h1, h2, h3, h5⟩ := h.ex
  exact ⟨g, fd, ps, h1, h2, h3, h5.imp q⟩
end
def veB : List Value := [.type "ValueError", .type "Exception", .type "BaseException", .type "object"]
/-- a class of errors of the program, without an __init__ of its own -/
structure ExcC (K : PySem.W.Frag) (mg : Str → Option Value) (x : Str) (C : Addr) : Prop where
  g : mg x = some (.ref C)
  x : PySem.W.excIn K C veB "ValueError.__new__" = true
  k : PySem.W.keepIn K (.ref C) = true
  b : PySem.W.subIn K (.ref C) (.type "BaseException") = some true
  t : PySem.W.typeIn K (.ref C) = some (.type "type")
  m : PySem.W.exmOne K (.ref C) (.ref C) = some true
section
variable {X : Cx} {C : Addr} {bmB : List Value} {B newId initId : String} {W : WX} {x : Str} {p pos pos' : Pos}
/-- X() -/
theorem pmk_own0 (F : ExcBaseFacts B newId initId bmB) (q : PySem.W.excIn X.K C bmB newId = true) (gC : X.mg x = some (.ref C)) (kC : PySem.W.keepIn X.K (.ref C) = true) (r : Raises X (.ref C)) (hg : Gl X x)
    (hdb : (x == ("__debug__" : Str)) = false := by decide) : PMk X (.Call (.Name x p) [] [] pos) (fun _ H Q => Q (.ref C) none H) := by
  intro pins s σ H Q I h
  refine wpAny_Call_Name_kw (ld_glob I hg gC ?_ hdb)
  refine PySem.W.callWith_K0 I.kIn kC ?_
  obtain ⟨bm, N, nm, qn, bs, hdct, sn, sub, ab, col, dd, k0, k1, k2, k3, k5, mN, hC, hN, hni, T⟩ := exc_obj I.kIn q
  refine wpAny_call_exc_subT F T hC hN hni (fun h' e hm => ?_) (by show 0 ≤ sizeLine; rw [sizeLine_eq]; omega)
  exact mk_of I hm r h (I.hok.gone hm.new)
theorem ps_raise0 (T : ExcC X.K X.mg x C) (tk : Takes X W) (hc : X.calm = true := by rfl) (hg : Gl X x := by rfl) (hdb : (x == ("__debug__" : Str)) = false := by decide) :
    PS X (.Raise (some (.Call (.Name x p) [] [] pos)) none pos') (fun _ σ H => W (.ref C) none σ H) :=
  ps_raise hc tk (pmk_own0 PySem.F.excBase_ValueError T.x T.g T.k (raises_own T.b T.t) hg hdb)
end
end NS
end
section
set_option maxHeartbeats 4000000
/-! N11: the checks of any value -/
namespace NS
open PySem PySem.Spec PyProof.Rows L2 ZS
theorem ddp : ∀ t : List Int, ∃ D : List Int, D.Nodup ∧ (∀ k, k ∈ D ↔ k ∈ t) ∧ D.length ≤ t.length ∧ (D.length = t.length ↔ t.Nodup)
  | [] => ⟨[], .nil, fun _ => Iff.rfl, Nat.le_refl _, ⟨fun _ => .nil, fun _ => rfl⟩⟩
  | x :: t => by
    obtain ⟨D, nd, mem, le, iff⟩ := ddp t
    by_cases hx : x ∈ D
    · refine ⟨D, nd, fun k => ?_, by rw [List.length_cons]; omega, ⟨fun e => ?_, fun e => ?_⟩⟩
      · rw [mem, List.mem_cons]
        exact ⟨.inr, fun h => h.elim (fun e => by rw [e]; exact (mem x).mp hx) id⟩
      · rw [List.length_cons] at e
        omega
      · exact absurd ((mem x).mp hx) (List.nodup_cons.mp e).1
    · refine ⟨x :: D, List.nodup_cons.mpr ⟨hx, nd⟩, fun k => ?_, by simp only [List.length_cons]; omega, ?_⟩
      · rw [List.mem_cons, List.mem_cons, mem]
      · rw [List.nodup_cons, ← iff]
        simp only [List.length_cons]
        exact ⟨fun e => ⟨fun h => hx ((mem x).mpr h), by omega⟩, fun ⟨_, e⟩ => by omega⟩
/-- x isn't of this class, whatever comes -/
def NotTy (K : PySem.W.Frag) (H : Hp) (x : V) (T : String) : Prop := ∃ t : String, (∀ H', Kp H H' → TyX K H' x (.type t)) ∧ kitB t T = some false
theorem NotTy.kp {K : PySem.W.Frag} {H H' : Hp} (z : Kp H H') {x : V} {T : String} (h : NotTy K H x T) : NotTy K H' x T := let ⟨t, h, k⟩ := h; ⟨t, fun H2 z2 => h H2 (z.trans z2), k⟩
/-- whether x is a number from lo to hi -/
def NumX (K : PySem.W.Frag) (H : Hp) (lo hi : Int) (x : V) (b : Bool) : Prop := (∃ i : Int, x = .int i ∧ b = decide (lo ≤ i ∧ i ≤ hi)) ∨ ((∃ c, x = .bl c) ∨ NotTy K H x "int") ∧ b = false
theorem NumX.kp {K : PySem.W.Frag} {H H' : Hp} (z : Kp H H') {lo hi : Int} {x : V} {b : Bool} (h : NumX K H lo hi x b) : NumX K H' lo hi x b :=
  h.elim .inl fun h => .inr ⟨h.1.elim .inl fun q => .inr (q.kp z), h.2⟩
/-- whether x is a turn of n halls -/
def TurnX (K : PySem.W.Frag) (H : Hp) (n : Nat) (x : V) (b : Bool) : Prop :=
  (NotTy K H x "tuple" ∧ b = false) ∨ (∃ a xs, x = .ref a ∧ SqT K H a xs ∧ xs.length ≠ n ∧ b = false) ∨
  (∃ a xs bs, x = .ref a ∧ SqT K H a xs ∧ xs.length = n ∧ Paired (NumX K H 0 ((n : Int) - 1)) xs bs ∧ false ∈ bs ∧ b = false) ∨
  (∃ (a : Addr) (t : List Int), x = .ref a ∧ SqT K H a (t.map V.int) ∧ t.length = n ∧ n ≤ 1000 ∧ (∀ k ∈ t, 0 ≤ k ∧ k < (n : Int)) ∧ b = decide t.Nodup)
theorem TurnX.kp {K : PySem.W.Frag} {H H' : Hp} (z : Kp H H') {n : Nat} {x : V} {b : Bool} (h : TurnX K H n x b) : TurnX K H' n x b := by
  rcases h with ⟨h, e⟩ | ⟨a, xs, e, h, l⟩ | ⟨a, xs, bs, e, h, l, p, q⟩ | ⟨a, t, e, h, q⟩
  · exact .inl ⟨h.kp z, e⟩
  · exact .inr (.inl ⟨a, xs, e, z.sqT h, l⟩)
  · exact .inr (.inr (.inl ⟨a, xs, bs, e, z.sqT h, l, p.mono fun _ _ q => q.kp z, q⟩))
  · exact .inr (.inr (.inr ⟨a, t, e, z.sqT h, q⟩))
/-- whether x is some turns of n halls -/
def TurnsX (K : PySem.W.Frag) (H : Hp) (n : Nat) (x : V) (b : Bool) : Prop :=
  (NotTy K H x "tuple" ∧ b = false) ∨ (∃ a xs, x = .ref a ∧ SqT K H a xs ∧ (xs.length = 0 ∨ 6 < xs.length) ∧ b = false) ∨
  (∃ a xs bs, x = .ref a ∧ SqT K H a xs ∧ 1 ≤ xs.length ∧ xs.length ≤ 6 ∧ Paired (TurnX K H n) xs bs ∧ b = bs.all id)
theorem TurnsX.kp {K : PySem.W.Frag} {H H' : Hp} (z : Kp H H') {n : Nat} {x : V} {b : Bool} (h : TurnsX K H n x b) : TurnsX K H' n x b := by
  rcases h with ⟨h, e⟩ | ⟨a, xs, e, h, l⟩ | ⟨a, xs, bs, e, h, l, l', p, q⟩
  · exact .inl ⟨h.kp z, e⟩
  · exact .inr (.inl ⟨a, xs, e, z.sqT h, l⟩)
  · exact .inr (.inr ⟨a, xs, bs, e, z.sqT h, l, l', p.mono fun _ _ q => q.kp z, q⟩)
/-- what is wrong with x as a house -/
def FaultX (K : PySem.W.Frag) (H : Hp) (x r : V) : Prop :=
  (NotTy K H x "tuple" ∧ r = .str "whole") ∨ (∃ a xs, x = .ref a ∧ SqT K H a xs ∧ xs.length ≠ 2 ∧ r = .str "whole") ∨
  (∃ a y tv, x = .ref a ∧ SqT K H a [y, tv] ∧ NumX K H 1 8 y false ∧ r = .str "halls") ∨
  (∃ (a : Addr) (n : Nat) (tv : V) (b : Bool), x = .ref a ∧ SqT K H a [.int n, tv] ∧ 1 ≤ n ∧ n ≤ 8 ∧ TurnsX K H n tv b ∧ r = if b then .non else .str "turns")
theorem FaultX.kp {K : PySem.W.Frag} {H H' : Hp} (z : Kp H H') {x r : V} (h : FaultX K H x r) : FaultX K H' x r := by
  rcases h with ⟨h, e⟩ | ⟨a, xs, e, h, l⟩ | ⟨a, y, tv, e, h, l, q⟩ | ⟨a, n, tv, b, e, h, n1, n8, q, er⟩
  · exact .inl ⟨h.kp z, e⟩
  · exact .inr (.inl ⟨a, xs, e, z.sqT h, l⟩)
  · exact .inr (.inr (.inl ⟨a, y, tv, e, z.sqT h, l.kp z, q⟩))
  · exact .inr (.inr (.inr ⟨a, n, tv, b, e, z.sqT h, n1, n8, q.kp z, er⟩))
def spNumX (K : PySem.W.Frag) : Sp := fun vs H Q _ => ∃ (x : V) (lo hi : Int) (b : Bool), vs = [x, .int lo, .int hi] ∧ NumX K H lo hi x b ∧ Q (.bl b) H
def spTurnX (K : PySem.W.Frag) (P : Addr) : Sp := fun vs H Q _ => ∃ (n : Nat) (x : V) (b : Bool), vs = [.int n, x] ∧ TurnX K H n x b ∧ GxR.TabG H P ∧ ∀ H', Kp H H' → Q (.bl b) H'
def spTurnsX (K : PySem.W.Frag) (P P2 : Addr) : Sp := fun vs H Q _ => ∃ (n : Nat) (x : V) (b : Bool), vs = [.int n, x] ∧ TurnsX K H n x b ∧ GxR.TabG H P ∧ GxR.TabG H P2 ∧ ∀ H', Kp H H' → Q (.bl b) H'
def spFaultX (K : PySem.W.Frag) (P P2 : Addr) : Sp := fun vs H Q _ => ∃ x r : V, vs = [x] ∧ FaultX K H x r ∧ GxR.TabG H P ∧ GxR.TabG H P2 ∧ ∀ H', Kp H H' → Q r H'
section
variable {P : Program} {w : World} {K : PySem.W.Frag} {mg : Str → Option Value} {base : Heap} {f : Addr} {fd : FuncData}
theorem has_numX (F : FnP K "is_number" sNumber f fd) (m : mg "is_number" = some (.ref f)) (B : Bl mg) : Has P w K mg base "is_number" 1 [] (spNumX K) := by
  refine ⟨f, fd, ["value", "least", "most"], [], m, F.kp, F.bindsN (fun _ _ _ _ _ _ us hl => match us, hl with | [_, _, _], _ => rfl), .nil, ?_⟩
  refine F.ok scNumber (fun vs H Q E h => ?_) (fun cdv A outer s H vs Q E hr h => ⟨_, PSs.nox (pss_one (ps_ret
    (pe_and (pe_callB call_isi rfl B.isinstance PyProof.Rows.boot_isinstance (pa_cons (pv 0) (pa_cons (pe_bltn (v := .ty "int") rfl B.int PyProof.Rows.boot_int rfl) pa_nil)))
    (pe_and (pe_not (pe_callB call_isi rfl B.isinstance PyProof.Rows.boot_isinstance (pa_cons (pv 0) (pa_cons (pe_bltn (v := .ty "bool") rfl B.bool PyProof.Rows.boot_bool rfl) pa_nil))))
    (pe_one (pe_chain op_le op_le (pv 1) (pv 0) (pv 2))))))), ?_⟩)
  · obtain ⟨x, lo, hi, b, rfl, _⟩ := h
    rfl
  · obtain ⟨x, lo, hi, b, rfl, ⟨i, rfl, rfl⟩ | ⟨⟨c, rfl⟩ | ⟨t, ty, k⟩, rfl⟩, q⟩ := h
    · refine ⟨_, rfl, _, _, _, _, true, rfl, .ty "int", .base (.int i), kit_ty (by decide +kernel), _, rfl, ?_⟩
      refine iteT (B := _) ⟨_, rfl, _, _, _, _, false, rfl, .ty "bool", .base (.int i), kit_ty (by decide +kernel), _, rfl, _, rfl, ?_⟩
      refine iteT (B := _) ⟨_, rfl, _, rfl, _, _, rfl, rfl, _, rfl, ?_⟩
      by_cases h1 : lo ≤ i
      · rw [if_pos (decide_eq_true h1)]
        refine ⟨_, rfl, _, _, rfl, rfl, ?_⟩
        have e : decide (lo ≤ i ∧ i ≤ hi) = decide (i ≤ hi) := by simp [h1]
        rw [e] at q
        exact q
      · rw [if_neg (by simp [h1])]
        have e : decide (lo ≤ i ∧ i ≤ hi) = false := by simp [h1]
        rw [← e]
        exact q
    · refine ⟨_, rfl, _, _, _, _, true, rfl, .ty "int", .base (.bl c), kit_ty (by decide +kernel), _, rfl, ?_⟩
      refine iteT (B := _) ⟨_, rfl, _, _, _, _, true, rfl, .ty "bool", .base (.bl c), kit_ty (by decide +kernel), _, rfl, _, rfl, ?_⟩
      exact iteF (A := _) q
    · refine ⟨_, rfl, _, _, _, _, false, rfl, .ty "int", ty H (Kp.refl H), kit_ty k, _, rfl, ?_⟩
      exact iteF (A := _) q
theorem has_turnX (F : FnP K "is_turn" sIsTurn f fd) (m : mg "is_turn" = some (.ref f)) (B : Bl mg) (hN : Has P w K mg base "is_number" 1 [] (spNumX K)) {c PT : Addr} (ec : fd.code = .ref c) (TB : GxR.TabB base mg c PT) : Has P w K mg base "is_turn" 3 [] (spTurnX K PT) := by
  refine ⟨f, fd, ["halls", "value"], [], m, F.kp, F.bindsN (fun _ _ _ _ _ _ us hl => match us, hl with | [_, _], _ => rfl), .nil, ?_⟩
  refine ok_code F scIsTurn (fun vs H Q E h => ?_) (fun cdv A outer s H vs Q E hcd hr h => ⟨_, PSs.nox (pss_cons (ps_if
      (PW.pt (pw_or (pt_not (pt_val (pe_callB call_isi rfl B.isinstance PyProof.Rows.boot_isinstance (pa_cons (pv 1) (pa_cons (pe_bltn (v := .ty "tuple") rfl B.tuple PyProof.Rows.boot_tuple rfl) pa_nil)))))
        (pw_or1 (pt_cmpR op_ne (pe_callB call_len_seq rfl B.len PySem.boot_len (pa_cons (pv 1) pa_nil)) (pv 0) (nomark _)))))
      (pss_one (ps_ret pe_bl)) pss_nil)
    (pss_one (ps_ret (pe_and (GA.pe_allG [("halls", 0)] hr rfl rfl B.all TB (hcd.trans ec) ⟨rfl, rfl, by decide +kernel, rfl, rfl, ?_⟩ (by decide +kernel) ?_ (pv 1) (fun C code A s H ex hr' => pe_has hN hr' (by decide) (pa_cons (pv 1) (pa_cons pe_int (pa_cons (pe_op op_sub (pv 2) pe_int) pa_nil)))))
      (pe_one (pe_cmpR op_eq (pe_callB cr_slen rfl B.len PySem.boot_len (pa_cons (pe_callTy (cr_isetOf rfl) rfl B.set PyProof.Rows.boot_set (pa_cons (pv 1) pa_nil)) pa_nil)) (pv 0) (nomark _))))))), ?_⟩)
  · obtain ⟨n, x, b, rfl, _⟩ := h
    rfl
  · exact free1 (x := "halls") (by decide +kernel) rfl
  · exact cap1 rfl rfl (.inl rfl)
  · obtain ⟨n, x, b, rfl, h, hG, q⟩ := h
    rcases h with ⟨⟨t, ty, k⟩, rfl⟩ | ⟨a, xs, rfl, hT, hl, rfl⟩ | ⟨a, xs, bs, rfl, hT, hl, hp, hf, rfl⟩ | ⟨a, t, rfl, hT, hl, hn, low, rfl⟩
    · refine ⟨_, rfl, _, _, _, _, false, rfl, .ty "tuple", ty H (Kp.refl H), kit_ty k, _, rfl, ?_⟩
      exact iteT (B := _) (ifT (A := _) (B := _) rfl (q H (Kp.refl H)))
    · refine ⟨_, rfl, _, _, _, _, true, rfl, .ty "tuple", tyx_T hT, kit_ty (by decide +kernel), _, rfl, ?_⟩
      refine iteF (A := _) ⟨_, rfl, a, _, rfl, .inr hT, _, rfl, rfl, _, rfl, ?_⟩
      exact ifT (A := _) (B := _) (by simp; omega) (q H (Kp.refl H))
    · refine ⟨_, rfl, _, _, _, _, true, rfl, .ty "tuple", tyx_T hT, kit_ty (by decide +kernel), _, rfl, ?_⟩
      refine iteF (A := _) ⟨_, rfl, a, _, rfl, .inr hT, _, rfl, rfl, _, rfl, ?_⟩
      rw [hl]
      refine ifF (A := _) (B := _) (by simp) ?_
      refine ⟨_, rfl, a, xs, rfl, hT, hG, fun i => bs.getD i true, fun i H' => Kp H H' ∧ ∀ j, j < i → bs.getD j true = true, fun H2 z => ⟨Kp.tab hG (by decide) z, fun j hj => absurd hj (Nat.not_lt_zero j)⟩, fun i H2 z => z.1.sqT hT, fun i v H2 it hv z => ?_, fun H2 z => ?_⟩
      · obtain ⟨b, hb, nx⟩ := pr_get hp hv
        have eb : bs.getD i true = b := by rw [List.getD_eq_getElem?_getD, hb]; rfl
        refine ⟨_, rfl, _, rfl, _, _, rfl, rfl, v, 0, (n : Int) - 1, b, rfl, nx.kp z.1, by show V.bl b = V.bl (bs.getD i true); rw [eb], fun e => ⟨z.1, fun j hj => ?_⟩, fun e => ⟨false, rfl, iteF (A := _) (q H2 z.1)⟩⟩
        rcases Nat.lt_succ_iff_lt_or_eq.mp hj with h | h
        · exact z.2 j h
        · rw [h]
          exact e
      · obtain ⟨j, hj⟩ := List.getElem?_of_mem hf
        have hj2 := (List.getElem?_eq_some_iff.mp hj).1
        have := z.2 j (by rw [hp.length]; exact hj2)
        rw [List.getD_eq_getElem?_getD, hj] at this
        cases this
    · have hl' : (t.map V.int).length = n := by rw [List.length_map, hl]
      refine ⟨_, rfl, _, _, _, _, true, rfl, .ty "tuple", tyx_T hT, kit_ty (by decide +kernel), _, rfl, ?_⟩
      refine iteF (A := _) ⟨_, rfl, a, _, rfl, .inr hT, _, rfl, rfl, _, rfl, ?_⟩
      rw [hl']
      refine ifF (A := _) (B := _) (by simp) ?_
      refine ⟨_, rfl, a, t.map V.int, rfl, hT, hG, fun _ => true, fun _ H' => Kp H H', fun H2 z => Kp.tab hG (by decide) z, fun i H2 z => z.sqT hT, fun i v H2 it hv z => ?_, fun H2 z => ⟨true, rfl, iteT (B := _) ?_⟩⟩
      · obtain ⟨k, hk, rfl⟩ := map_some hv
        have := low k (List.mem_of_getElem? hk)
        refine ⟨_, rfl, _, rfl, _, _, rfl, rfl, _, 0, (n : Int) - 1, true, rfl, .inl ⟨k, rfl, (decide_eq_true (by omega)).symm⟩, rfl, fun _ => z, fun e => by cases e⟩
      · refine ⟨_, rfl, a, t, rfl, .inr (z.sqT hT), by have : scanBound = 4096 := rfl; omega, fun b m hb hm => ?_⟩
        obtain ⟨D, nd, mem, le, iff⟩ := ddp t
        refine ⟨b, _, m, D, rfl, upd_same, nd, fun k => by simp [mem], _, rfl, rfl, ?_⟩
        have e : decide (V.int (D.length : Int) = V.int (n : Int)) = decide t.Nodup := decide_eq_decide.mpr ⟨fun e => iff.mp (by injection e with e; omega), fun e => by rw [iff.mpr e, hl]⟩
        show Q (.bl (decide (V.int (D.length : Int) = V.int (n : Int)))) _
        rw [e]
        exact q _ (z.new hb)
theorem has_turnsX (F : FnP K "are_turns" sAreTurns f fd) (m : mg "are_turns" = some (.ref f)) (B : Bl mg) (m6 : ∃ t, mg "MOST_TURNS" = some (.int 6 t)) {pT c PA : Addr} (hN : Has P w K mg base "is_turn" 3 [] (spTurnX K pT)) (ec : fd.code = .ref c) (TB : GxR.TabB base mg c PA) : Has P w K mg base "are_turns" 5 [] (spTurnsX K pT PA) := by
  obtain ⟨t6, m6⟩ := m6
  refine ⟨f, fd, ["halls", "value"], [], m, F.kp, F.bindsN (fun _ _ _ _ _ _ us hl => match us, hl with | [_, _], _ => rfl), .nil, ?_⟩
  refine ok_code F scAreTurns (fun vs H Q E h => ?_) (fun cdv A outer s H vs Q E hcd hr h => ⟨_, PSs.nox (pss_cons (ps_if
      (PW.pt (pw_or (pt_not (pt_val (pe_callB call_isi rfl B.isinstance PyProof.Rows.boot_isinstance (pa_cons (pv 1) (pa_cons (pe_bltn (v := .ty "tuple") rfl B.tuple PyProof.Rows.boot_tuple rfl) pa_nil)))))
        (pw_or1 (pt_not (pt_chain op_le op_le pe_int (pe_callB call_len_seq rfl B.len PySem.boot_len (pa_cons (pv 1) pa_nil)) (pe_glob (v := .int 6) rfl m6 ⟨_, rfl⟩))))))
      (pss_one (ps_ret pe_bl)) pss_nil)
    (pss_one (ps_ret (GA.pe_allG [("halls", 0)] hr rfl rfl B.all TB (hcd.trans ec) ⟨rfl, rfl, by decide +kernel, rfl, rfl, ?_⟩ (by decide +kernel) ?_ (pv 1) (fun C code A s H ex hr' => pe_has hN hr' (by decide) (pa_cons (pv 2) (pa_cons (pv 1) pa_nil))))))), ?_⟩)
  · obtain ⟨n, x, b, rfl, _⟩ := h
    rfl
  · exact free1 (x := "halls") (by decide +kernel) rfl
  · exact cap1 rfl rfl (.inl rfl)
  · obtain ⟨n, x, b, rfl, h, gT, gA, q⟩ := h
    rcases h with ⟨⟨t, ty, k⟩, rfl⟩ | ⟨a, xs, rfl, hT, hl, rfl⟩ | ⟨a, xs, bs, rfl, hT, h1, h6, hp, rfl⟩
    · refine ⟨_, rfl, _, _, _, _, false, rfl, .ty "tuple", ty H (Kp.refl H), kit_ty k, _, rfl, ?_⟩
      exact iteT (B := _) (ifT (A := _) (B := _) rfl (q H (Kp.refl H)))
    · refine ⟨_, rfl, _, _, _, _, true, rfl, .ty "tuple", tyx_T hT, kit_ty (by decide +kernel), _, rfl, ?_⟩
      refine iteF (A := _) ⟨_, rfl, a, _, rfl, .inr hT, _, _, rfl, rfl, _, rfl, ?_⟩
      rcases hl with hl | hl
      · refine ifF (A := _) (B := _) (decide_eq_false (by omega)) ?_
        exact ⟨_, rfl, ifT (A := _) (B := _) rfl (q H (Kp.refl H))⟩
      · refine ifT (A := _) (B := _) (decide_eq_true (by omega)) ⟨_, _, rfl, rfl, _, rfl, ?_⟩
        exact ifT (A := _) (B := _) (by rw [decide_eq_false (by omega)]; rfl) (q H (Kp.refl H))
    · refine ⟨_, rfl, _, _, _, _, true, rfl, .ty "tuple", tyx_T hT, kit_ty (by decide +kernel), _, rfl, ?_⟩
      refine iteF (A := _) ⟨_, rfl, a, _, rfl, .inr hT, _, _, rfl, rfl, _, rfl, ifT (A := _) (B := _) (decide_eq_true (by omega)) ⟨_, _, rfl, rfl, _, rfl, ?_⟩⟩
      refine ifF (A := _) (B := _) (by rw [decide_eq_true (by omega)]; rfl) ?_
      refine ⟨_, rfl, a, xs, rfl, hT, gA, fun i => bs.getD i true, fun i H' => Kp H H' ∧ ∀ j, j < i → bs.getD j true = true, fun H2 z => ⟨Kp.tab gA (by decide) z, fun j hj => absurd hj (Nat.not_lt_zero j)⟩, fun i H2 z => z.1.sqT hT, fun i v H2 it hv z => ?_, fun H2 z => ?_⟩
      · obtain ⟨b, hb, nx⟩ := pr_get hp hv
        have eb : bs.getD i true = b := by rw [List.getD_eq_getElem?_getD, hb]; rfl
        refine ⟨_, rfl, _, rfl, n, v, b, rfl, nx.kp z.1, z.1.tabG gT, fun H3 z3 => ⟨by show V.bl b = V.bl (bs.getD i true); rw [eb], fun e => ⟨z.1.trans z3, fun j hj => ?_⟩, fun e => ?_⟩⟩
        · rcases Nat.lt_succ_iff_lt_or_eq.mp hj with h | h
          · exact z.2 j h
          · rw [h]
            exact e
        · have : bs.all id = false := by
            have e : bs.getD i true = false := e
            rw [eb] at e
            subst e
            exact List.all_eq_false.mpr ⟨false, List.mem_of_getElem? hb, by simp⟩
          rw [this] at q
          exact q H3 (z.1.trans z3)
      · have : bs.all id = true := List.all_eq_true.mpr fun b hb => by
          obtain ⟨j, hj⟩ := List.getElem?_of_mem hb
          have hj2 := (List.getElem?_eq_some_iff.mp hj).1
          have := z.2 j (by rw [hp.length]; exact hj2)
          rw [List.getD_eq_getElem?_getD, hj] at this
          exact this
        rw [this] at q
        exact q H2 z.1
theorem has_faultX (F : FnP K "house_fault" sFault f fd) (m : mg "house_fault" = some (.ref f)) (B : Bl mg) (m8 : ∃ t, mg "MOST_HALLS" = some (.int 8 t)) {pT PA : Addr} (hN : Has P w K mg base "is_number" 1 [] (spNumX K)) (hA : Has P w K mg base "are_turns" 5 [] (spTurnsX K pT PA)) :
    Has P w K mg base "house_fault" 6 [] (spFaultX K pT PA) := by
  obtain ⟨t8, m8⟩ := m8
  refine ⟨f, fd, ["value"], [], m, F.kp, F.bindsN (fun _ _ _ _ _ _ us hl => match us, hl with | [_], _ => rfl), .nil, ?_⟩
  refine F.ok scFault (fun vs H Q E h => ?_) (fun cdv A outer s H vs Q E hr h => ⟨_, PSs.nox (pss_cons (ps_if
      (PW.pt (pw_or (pt_not (pt_val (pe_callB call_isi rfl B.isinstance PyProof.Rows.boot_isinstance (pa_cons (pv 0) (pa_cons (pe_bltn (v := .ty "tuple") rfl B.tuple PyProof.Rows.boot_tuple rfl) pa_nil)))))
        (pw_or1 (pt_cmpR op_ne (pe_callB call_len_seq rfl B.len PySem.boot_len (pa_cons (pv 0) pa_nil)) pe_int (nomark _)))))
      (pss_one (ps_ret pe_str)) pss_nil)
    (pss_cons (ps_asg (pv 0) (pg_tup rfl (pgs_cons (pg_name (i := 1) scFault.nd rfl (Or.inl rfl)) (pgs_cons (pg_name (i := 2) scFault.nd rfl (Or.inl rfl)) pgs_nil))))
    (pss_cons (ps_if (pt_not (pt_val (pe_has hN hr (by decide) (pa_cons (pv 1) (pa_cons pe_int (pa_cons (pe_glob (v := .int 8) rfl m8 ⟨_, rfl⟩) pa_nil)))))) (pss_one (ps_ret pe_str)) pss_nil)
    (pss_cons (ps_if (pt_not (pt_val (pe_has hA hr (by decide) (pa_cons (pv 1) (pa_cons (pv 2) pa_nil))))) (pss_one (ps_ret pe_str)) pss_nil)
    (pss_one (ps_ret pe_non)))))), ?_⟩)
  · obtain ⟨x, r, rfl, _⟩ := h
    rfl
  · obtain ⟨x, r, rfl, h, gT, gA, q⟩ := h
    rcases h with ⟨⟨t, ty, k⟩, rfl⟩ | ⟨a, xs, rfl, hT, hl, rfl⟩ | ⟨a, y, tv, rfl, hT, hy, rfl⟩ | ⟨a, n, tv, b, rfl, hT, h1, h8, hp, rfl⟩
    · refine ⟨_, rfl, _, _, _, _, false, rfl, .ty "tuple", ty H (Kp.refl H), kit_ty k, _, rfl, ?_⟩
      exact iteT (B := _) (ifT (A := _) (B := _) rfl (q H (Kp.refl H)))
    · refine ⟨_, rfl, _, _, _, _, true, rfl, .ty "tuple", tyx_T hT, kit_ty (by decide +kernel), _, rfl, ?_⟩
      refine iteF (A := _) ⟨_, rfl, a, _, rfl, .inr hT, rfl, _, rfl, ifT (A := _) (B := _) (by simp; omega) (q H (Kp.refl H))⟩
    · refine ⟨_, rfl, _, _, _, _, true, rfl, .ty "tuple", tyx_T hT, kit_ty (by decide +kernel), _, rfl, ?_⟩
      refine iteF (A := _) ⟨_, rfl, a, _, rfl, .inr hT, rfl, _, rfl, ifF (A := _) (B := _) (by show (!decide (V.int (2 : Int) = V.int 2)) = false; decide +kernel) ?_⟩
      refine ⟨_, rfl, a, _, rfl, hT, rfl, _, _, rfl, _, _, rfl, rfl, ?_⟩
      exact ⟨_, rfl, y, 1, 8, false, rfl, hy, _, rfl, ifT (A := _) (B := _) rfl (q H (Kp.refl H))⟩
    · refine ⟨_, rfl, _, _, _, _, true, rfl, .ty "tuple", tyx_T hT, kit_ty (by decide +kernel), _, rfl, ?_⟩
      refine iteF (A := _) ⟨_, rfl, a, _, rfl, .inr hT, rfl, _, rfl, ifF (A := _) (B := _) (by show (!decide (V.int (2 : Int) = V.int 2)) = false; decide +kernel) ?_⟩
      refine ⟨_, rfl, a, _, rfl, hT, rfl, _, _, rfl, _, _, rfl, rfl, ?_⟩
      refine ⟨_, rfl, .int n, 1, 8, true, rfl, .inl ⟨n, rfl, (decide_eq_true (by omega)).symm⟩, _, rfl, ifF (A := _) (B := _) rfl ?_⟩
      refine ⟨_, rfl, _, rfl, n, tv, b, rfl, hp, gT, gA, fun H' z => ?_⟩
      cases b with
      | true => exact ⟨_, rfl, ifF (A := _) (B := _) rfl (q H' z)⟩
      | false => exact ⟨_, rfl, ifT (A := _) (B := _) rfl (q H' z)⟩
/-- a house has no fault -/
theorem faultX_house {H : Hp} {v : V} {n : Nat} {ts : List (List Int)} (hv : HouseAt K H v n ts) (hi : IsH n ts) : FaultX K H v .non := by
  obtain ⟨a, tv, rfl, hT, b, xs, rfl, hT2, hp⟩ := hv
  have n8 := hi.n8
  refine .inr (.inr (.inr ⟨a, n, _, true, rfl, hT, hi.n1, hi.n8, .inr (.inr ⟨b, xs, ts.map fun _ => true, rfl, hT2, by rw [hp.length]; exact hi.t1, by rw [hp.length]; exact hi.t6, ?_, ?_⟩), rfl⟩))
  · have go : ∀ {xs : List V} {ts : List (List Int)}, Paired (PT H) xs ts → (∀ t ∈ ts, IsT n t) → Paired (TurnX K H n) xs (ts.map fun _ => true) := by
      intro xs ts hp
      induction hp with
      | nil => intro _; exact .nil
      | cons p _ ih =>
        rename_i x t xs ts hh
        intro hi
        have it := hi _ List.mem_cons_self
        obtain ⟨c, o, rfl, hc, _⟩ := p
        exact .cons (.inr (.inr (.inr ⟨c, _, rfl, .inl (.inr ⟨o, hc⟩), it.len, by omega, it.low, (decide_eq_true it.nd).symm⟩))) (ih fun t h => hi t (List.mem_cons_of_mem _ h))
    exact go hp hi.is
  · exact (List.all_eq_true.mpr fun b hb => by
      obtain ⟨_, _, e⟩ := List.mem_map.mp hb
      rw [← e]
      rfl).symm
end
end NS
end
section
set_option maxHeartbeats 4000000
/-! E1: an error class of the program with a field, made by its own __init__ -/
namespace NS
open PySem PySem.Spec PyProof.Rows L2 ZS
theorem oexB_ok {K : PySem.W.Frag} {C : Addr} (q : oexB K C = true) : OexC K C := by
  unfold oexB at q
  simp only [Bool.and_eq_true, decide_eq_true_iff] at q
  obtain ⟨⟨⟨⟨q, sa⟩, ex⟩, ty⟩, kp⟩ := q
  refine ⟨?_, sa, ex, ty, kp⟩
  split at q
  · rename_i dd cd sl ho
    split at q
    · rename_i C' bm k0 k1 k2 k3 n k5 hm hs
      simp only [Bool.and_eq_true, beq_iff_eq, Bool.not_eq_true'] at q
      obtain ⟨⟨⟨⟨rfl, rfl⟩, hdel⟩, hd⟩, ht⟩ := q
      obtain ⟨nm, bs, mro, ns, qn, hd', sn, sub, ab, col, del⟩ := cd
      dsimp only at hm hdel hd
      subst hm hdel hd
      have hsl : sl = #[k0, k1, k2, k3, some (.builtin "ValueError.__new__"), k5] := by
        obtain ⟨l⟩ := sl
        simp only at hs
        rw [hs]
      subst hsl
      exact ⟨nm, qn, ns, bs, bm, sn, sub, ab, col, dd, k0, k1, k2, k3, k5, ho, ht⟩
    · cases q
  · cases q
section
variable {X : Cx} {C : Addr} {W : WX} {x f : Str} {e : Expr} {ta : TA} {p pos pos' : Pos} {k : Nat}
end
section
variable {P : Program} {w : World} {K : PySem.W.Frag} {mg : Str → Option Value} {base : Heap} {fI C : Addr} {fd : FuncData}
end
end NS
end
section
set_option maxHeartbeats 4000000
/-! N13: check_house of any value -/
namespace NS
open PySem PySem.Spec PyProof.Rows L2 ZS
section
variable {P : Program} {w : World} {K : PySem.W.Frag} {mg : Str → Option Value} {base : Heap} {f : Addr} {fd : FuncData} {pT pA C : Addr}
end
end NS
end
section
set_option maxHeartbeats 4000000
/-! E2: an error class of the program with two fields -/
namespace NS
open PySem PySem.Spec PyProof.Rows L2 ZS
def spInit2 (f g : Str) (C : Addr) : Sp := fun vs H Q _ => ∃ (a : Addr) (v w : V), vs = [.ref a, v, w] ∧ H a = some (exo a C none) ∧ ∀ dx, H dx = none → dx ≠ a → Q .non (upd (upd (upd H dx (exd dx [(f, v)])) a (exo a C (some dx))) dx (exd dx [(g, w), (f, v)]))
structure ErrF2 (P : Program) (w : World) (K : PySem.W.Frag) (mg : Str → Option Value) (base : Heap) (x f f2 : Str) (C : Addr) : Prop where
  g : mg x = some (.ref C)
  o : OexC K C
  m : PySem.W.exmOne K (.ref C) (.ref C) = some true
  ini : ∃ (fI : Addr) (fd : FuncData) (ps : List Str), PySem.W.findIn K (.ref C) "__init__" = some (some (.ref fI)) ∧ PySem.W.typeIn K (.ref fI) = some (.type "function") ∧ Binds K fd ps [] ∧ FnOk P w K mg base CX0 1 fI fd ps (spInit2 f f2 C)
section
variable {X : Cx} {C : Addr} {W : WX} {x f g : Str} {e1 e2 : Expr} {ta : TA} {p pos pos' : Pos} {k : Nat}
theorem upd_del2 {H : Hp} {a d : Addr} {u : HO} (ha : H a = none) (hd : d ≠ a) {o1 o2 o3 o4 : HO} : upd (del (upd (upd (upd (upd H a o1) d o2) a o3) d o4) a) d u = upd H d u := by
  funext b
  by_cases q : b = d
  · subst q
    rw [upd_same, upd_same]
  · rw [upd_ne q, upd_ne q]
    by_cases e2 : b = a
    · subst e2
      rw [del_same, ha]
    · rw [del_ne e2, upd_ne q, upd_ne e2, upd_ne q, upd_ne e2]
theorem ps_raiseF2 (T : ErrF2 X.prog X.w X.K X.mg X.base x f g C) (hr : Room (k + 2) X.A) (tk : Takes X W) (ha : PA X [e1, e2] ta) (hc : X.calm = true := by rfl) (hg : Gl X x := by rfl) (hdb : (x == ("__debug__" : Str)) = false := by decide) (he : starEach [e1, e2] X.env = (false, eval e1 X.env) :: starEach [e2] X.env := by rfl) (hpl : (backTo pos (starEach [e2] X.env)).any (·.1) = false := by rfl) :
    PS X (.Raise (some (.Call (.Name x p) [e1, e2] [] pos)) none pos') (fun _ σ H => tMkO C (spInit2 f g C) [] ta σ H fun cls d H' => W cls d σ H') := by
  obtain ⟨fI, fd, ps, iC, tI, hb, F1⟩ := T.ini
  exact ps_raise hc tk (pmk_oex T.o iC tI F1 (hr.mono (by omega)) hb .nil pass0 hg T.g ha hdb he hpl)
theorem mkF2 {H1 : Hp} {v w : V} {Q : XK} (q : ∀ d, H1 d = none → Q (.ref C) (some d) (upd H1 d (.xd [(g, w), (f, v)]))) : [v, w].length ≤ 1000 ∧ ∀ a, H1 a = none → spInit2 f g C (.ref a :: ([v, w] ++ [])) (upd H1 a (exo a C none))
    (fun u H2 => u = .non ∧ ∃ (d : Addr) (fs : List (Str × V)), H2 a = some (exo a C (some d)) ∧ H2 d = some (exd d fs) ∧ H1 d = none ∧ Q (.ref C) (some d) (upd (del H2 a) d (.xd fs))) (fun _ _ _ => False) := by
  refine ⟨by simp, fun a ha => ⟨a, v, w, rfl, upd_same, fun dx h1 ne => ⟨rfl, dx, [(g, w), (f, v)], ?_, upd_same, ?_, ?_⟩⟩⟩
  · rw [upd_ne ne.symm, upd_same]
  · rw [upd_ne ne] at h1
    exact h1
  · rw [upd_del2 ha ne]
    rw [upd_ne ne] at h1
    exact q dx h1
end
theorem scLineInit : FnScope ["self", "line", "word"] ["self", "line", "word"] (defScope sLineInit) := ⟨rfl, rfl, rfl, by decide +kernel, rfl, by decide +kernel, by decide +kernel⟩
section
variable {P : Program} {w : World} {K : PySem.W.Frag} {mg : Str → Option Value} {base : Heap} {fI C : Addr} {fd : FuncData}
theorem ok_lineinit (F : FunD K "__init__" "BadLine.__init__" (defArgs sLineInit) (defBody sLineInit) (defScope sLineInit) [] [] fI fd) (O : OexC K C) (no : PySem.W.findIn K (.ref C) "line" = some none) (no2 : PySem.W.findIn K (.ref C) "word" = some none) : FnOk P w K mg base CX0 1 fI fd ["self", "line", "word"] (spInit2 "line" "word" C) := by
  refine ok_code F scLineInit (fun vs H Q E h => ?_) (fun cdv A outer s H vs Q E hcd hr h => ⟨_, PSs.nox (pss_cons (ps_ost (pv 0) (pv 1)) (pss_one (ps_ost (pv 0) (pv 2)))), ?_⟩)
  · obtain ⟨a, v, w, rfl, _⟩ := h
    rfl
  · obtain ⟨a, v, w, rfl, ha, q⟩ := h
    refine ⟨_, rfl, _, rfl, a, C, rfl, O, no, .inl ⟨ha, fun dx h1 h2 => ?_⟩⟩
    exact ⟨_, rfl, _, rfl, a, C, rfl, O, no2, .inr ⟨dx, [("line", v)], upd_same, by rw [upd_ne h2, upd_same], by simp, q dx h1 h2⟩⟩
theorem errL_of (g : mg "BadLine" = some (.ref C)) (o : oexB K C = true) (m : PySem.W.exmOne K (.ref C) (.ref C) = some true) (M : Meth K C "__init__" fI) (no : NoAttr K C "line") (no2 : NoAttr K C "word") (F : FunD K "__init__" "BadLine.__init__" (defArgs sLineInit) (defBody sLineInit) (defScope sLineInit) [] [] fI fd) : ErrF2 P w K mg base "BadLine" "line" "word" C := by
  have O := oexB_ok o
  exact ⟨g, O, m, fI, fd, ["self", "line", "word"], M.at_, beq_iff_eq.mp M.fn, F.bindsN (fun _ _ _ _ _ _ us hl => match us, hl with | [_, _, _], _ => rfl), ok_lineinit F O no no2⟩
end
end NS
end
section
set_option maxHeartbeats 4000000
/-! X1: a tuple of whole numbers at module level, told by the head -/
namespace NS
open PySem PySem.Spec PyProof.Rows L2 ZS
end NS
end
section
set_option maxHeartbeats 4000000
/-! X5: a dict of the module with texts for keys and whole numbers for values, asked by .get -/
namespace NS
open PySem PySem.Spec PyProof.Rows L2 ZS
structure DicS (K : PySem.W.Frag) (w : World) (d : Addr) (l : List (Str × Int)) : Prop where
  ex : ∃ es n, K.lookup d = some ⟨.type "dict", none, .dict es n, #[]⟩ ∧ es.toList.map He.keyOf = He.keysIn w.params (l.map (·.1)) ∧ valSB es.toList (l.map (·.2)) = true
  low : (d == sysModules) = false
theorem dicS_of {K : PySem.W.Frag} {w : World} {x : Str} {l : List (Str × Int)} (e : He.dicW K (He.ga K x) = some (He.keysIn w.params (l.map (·.1)))) (v : dicSB K x (l.map (·.2)) = true) : DicS K w (He.ga K x) l := by
  unfold He.dicW at e
  unfold dicSB at v
  split at e
  · rename_i c es n sl ho
    rw [ho] at v
    split at e
    · rename_i hb
      simp only [Bool.and_eq_true, decide_eq_true_iff, Bool.not_eq_true'] at hb
      obtain ⟨rfl, hsl, low⟩ := hb
      have e2 : sl = #[] := Array.isEmpty_iff.mp hsl
      subst e2
      exact ⟨⟨es, n, ho, Option.some.inj e, v⟩, low⟩
    · cases e
  · cases e
theorem find_s {P : Params} {z : Str} : ∀ {es : List DictEntry} {l : List (Str × Int)}, es.map He.keyOf = He.keysIn P (l.map (·.1)) → valSB es (l.map (·.2)) = true →
    match l.lookup z with
    | none => (es.find? fun e => Value.isStrOf z e.key).map (·.val) = none
    | some k => ∃ t, (es.find? fun e => Value.isStrOf z e.key).map (·.val) = some (.int k t)
  | [], [], _, _ => rfl
  | [], _ :: _, h, _ => by cases h
  | x :: es, [], h, _ => by cases h
  | x :: es, (y, j) :: l, h, v => by
    unfold He.keysIn at h
    simp only [List.map_cons, List.cons.injEq] at h
    obtain ⟨h1, h2⟩ := h
    simp only [List.map_cons] at v
    unfold valSB at v
    simp only [Bool.and_eq_true] at v
    obtain ⟨v1, v2⟩ := v
    have ih := find_s (P := P) (z := z) (es := es) (l := l) (by unfold He.keysIn; simpa using h2) v2
    have hk : Value.isStrOf z x.key = (z == y) := by
      unfold He.keyOf at h1
      split at h1
      · rename_i y' t q
        have e := (Prod.mk.inj (Option.some.inj h1)).1
        subst e
        rw [q]
        simp only [Value.isStrOf]
        exact Bool.beq_comm ..
      · cases h1
    rw [List.find?_cons, hk, List.lookup_cons]
    cases e : z == y with
    | true =>
      split at v1
      · rename_i j' t q
        have := of_decide_eq_true v1
        subst this
        exact ⟨t, by rw [← q]; rfl⟩
      · cases v1
    | false => exact ih
section
variable {X : Cx}
theorem keysS_lit {P : Params} : ∀ {es : List DictEntry} {ks : List Str}, es.map He.keyOf = He.keysIn P ks → PySem.W.KeysLit P es := fun h => He.keysLit_of h
theorem dicS_map {l : List (Str × Int)} {a : Addr} {pins : List (Addr × Obj)} {σ : L2.St} {H : Hp} {s : Shared} (D : DicS X.K X.w a l) (I : Inv X pins σ H s) :
    ∃ f : Str → Option Value, s.heap.MapOf (strKind X.prog X.w) a f ∧ ∀ z, match l.lookup z with
      | none => f z = none
      | some k => ∃ t, f z = some (.int k t) := by
  obtain ⟨es, n, hl, hk, hv⟩ := D.ex
  refine ⟨fun k => findBy Value.isStrOf es k, PySem.W.mapOf_K (prog := X.prog) I.kIn hl (keysS_lit hk), fun z => ?_⟩
  have h := find_s (z := z) hk hv
  have e : findBy Value.isStrOf es z = (es.toList.find? fun e => Value.isStrOf z e.key).map (·.val) := by
    unfold findBy
    rw [← Array.find?_toList]
  cases q : l.lookup z with
  | none =>
    rw [q] at h
    show findBy Value.isStrOf es z = none
    rw [e]
    exact h
  | some k =>
    rw [q] at h
    obtain ⟨t, h⟩ := h
    refine ⟨t, ?_⟩
    show findBy Value.isStrOf es z = _
    rw [e]
    exact h
/-- d.get(z) -/
def tKGet (K : PySem.W.Frag) (w : World) (td ty : TE) : TE := fun σ H Q => td σ H fun x H1 => ∃ (a : Addr) (l : List (Str × Int)), x = .ref a ∧ DicS K w a l ∧ ty σ H1 fun y H2 => ∃ z, y = .str z ∧ Q ((l.lookup z).elim V.non V.int) H2
variable {o e : Expr} {apos cpos : Pos} {td ty : TE}
theorem pe_kget (ho : PE X o td) (he : PE X e ty) (m : M1 X o "get" apos e cpos) : PE X (.Call (.Attribute o "get" apos) [e] [] cpos) (tKGet X.K X.w td ty) := by
  refine ⟨fun pins s σ H Q I h => ?_⟩
  refine wpAny_Call_method m.base m.few m.line PySem.F.plainAttrs_dict PySem.F.slot_dict_get PySem.F.type_dict_get (thn (ho.run pins s σ H _ I h) fun u s1 ⟨x, H1, I1, rx, a, l, ex, D, q1⟩ => ?_)
  subst ex
  obtain rfl : u = Value.ref a := rx
  obtain ⟨es, n, hl, _, _⟩ := D.ex
  have hg := I1.kIn _ _ hl
  refine ⟨⟨_, hg, rfl⟩, fun b q => ?_, ?_⟩
  · cases q
    exact ⟨_, hg, rfl⟩
  rw [m.trees]
  refine Calls.callWith_builtin rfl (Calls.evalArgs_plain (Calls.spliced_cons (thn (he.run pins s1 σ H1 _ I1 q1) fun iv s2 ⟨y, H2, I2, ry, z, ey, q2⟩ => Calls.spliced_nil ?_)))
  subst ey
  obtain ⟨t, rfl⟩ := ry
  obtain ⟨f, hm, hf⟩ := dicS_map D I2
  refine call_meetsIn PySem.F.slot_dict_get hm.typeIs PySem.F.entry_dict_get (PySem.F.args_dict_get_2 _ _) (meets_dict_get (strKind X.prog X.w) a (strKind_is X.prog X.w z t) D.low) ⟨_, hm, ?_⟩
  have hz := hf z
  cases q : l.lookup z with
  | none =>
    rw [q] at hz q2
    have hz : f z = none := hz
    rw [hz]
    exact ⟨.non, H2, I2.tok _, rfl, q2⟩
  | some k =>
    rw [q] at hz q2
    obtain ⟨t', hz⟩ := hz
    rw [hz]
    exact ⟨.int k, H2, I2.tok _, ⟨t', rfl⟩, q2⟩
end
end NS
end
section
set_option maxHeartbeats 4000000
/-! S9: texts as lists of signs: how a house's text is read, what spaces and void lines leave as it is -/
namespace NS
open PySem SX PySem.StrLaws
abbrev Cs := List Nat
/-- the parts between signs c -/
def cutC (c : Nat) : Cs → List Cs
  | [] => [[]]
  | x :: r => if x = c then [] :: cutC c r else match cutC c r with
    | [] => [[x]]
    | p :: ps => (x :: p) :: ps
theorem cutC_ne (c : Nat) : ∀ l : Cs, cutC c l ≠ []
  | [] => by unfold cutC; simp
  | x :: r => by
    unfold cutC
    split
    · simp
    · split <;> simp
theorem cutC_hit (c : Nat) (r : Cs) : cutC c (c :: r) = [] :: cutC c r := by rw [cutC, if_pos rfl]
theorem cutC_miss {c x : Nat} (h : x ≠ c) (r : Cs) : ∃ p ps, cutC c r = p :: ps ∧ cutC c (x :: r) = (x :: p) :: ps := by
  cases e : cutC c r with
  | nil => exact absurd e (cutC_ne c r)
  | cons p ps => exact ⟨p, ps, rfl, by rw [cutC, if_neg h, e]⟩
theorem cutC_app (c : Nat) (b : Cs) : ∀ a : Cs, cutC c (a ++ c :: b) = cutC c a ++ cutC c b
  | [] => by
    rw [List.nil_append, cutC_hit]
    rfl
  | x :: a => by
    by_cases h : x = c
    · subst h
      rw [List.cons_append, cutC_hit, cutC_hit, cutC_app x b a]
      rfl
    · obtain ⟨p, ps, e1, e2⟩ := cutC_miss h a
      obtain ⟨q, qs, e3, e4⟩ := cutC_miss h (a ++ c :: b)
      rw [cutC_app c b a, e1] at e3
      rw [List.cons_append, e4, e2]
      injection e3 with e5 e6
      rw [← e5, ← e6]
      rfl
theorem cutC_none {c : Nat} : ∀ {a : Cs}, c ∉ a → cutC c a = [a]
  | [], _ => rfl
  | x :: a, h => by
    have hx : x ≠ c := fun e => h (by rw [e]; exact List.mem_cons_self)
    obtain ⟨p, ps, e1, e2⟩ := cutC_miss hx a
    rw [cutC_none (fun m => h (List.mem_cons_of_mem _ m))] at e1
    injection e1 with e3 e4
    rw [e2, ← e3, ← e4]
theorem spl_cut (c : Nat) : ∀ (l acc : Cs), ∃ p ps, cutC c l = p :: ps ∧ TL.spl [c] 0 acc l = (acc ++ p) :: ps
  | [], acc => ⟨[], [], rfl, by rw [TL.spl_nil, List.append_nil]⟩
  | x :: r, acc => by
    by_cases h : x = c
    · subst h
      obtain ⟨p, ps, e1, e2⟩ := spl_cut x r []
      refine ⟨[], cutC x r, cutC_hit x r, ?_⟩
      rw [TL.spl_hit (by unfold TL.pre; simp), List.append_nil, e1]
      show acc :: TL.spl [x] 0 [] r = _
      rw [e2]
      rfl
    · obtain ⟨p, ps, e1, e2⟩ := cutC_miss h r
      obtain ⟨q, qs, e3, e4⟩ := spl_cut c r (acc ++ [x])
      refine ⟨x :: p, ps, e2, ?_⟩
      have hp : TL.pre [c] (x :: r) = false := by
        unfold TL.pre
        simp [h]
      have e5 : TL.spl [c] 0 acc (x :: r) = TL.spl [c] 0 (acc ++ [x]) r := by
        show (if TL.pre [c] (x :: r) = true then acc :: TL.spl [c] ([c].length - 1) [] r else TL.spl [c] 0 (acc ++ [x]) r) = _
        rw [hp, if_neg Bool.false_ne_true]
      rw [e1] at e3
      injection e3 with e6 e7
      rw [e5, e4, ← e6, ← e7, List.append_assoc]
      rfl
theorem split_cut (c : Nat) (hc : c < 256) (a : Cs) : Txt.split (S a) (S [c]) = (cutC c a).map S := by
  rw [split_S (by simp) (by simp [hc])]
  obtain ⟨p, ps, e1, e2⟩ := spl_cut c a []
  rw [e1, e2, List.nil_append]
/-! ### words -/
def wds (l : Cs) : List Cs := (cutC 32 l).filter fun w => !decide (w = [])
theorem wds_app (a b : Cs) : wds (a ++ 32 :: b) = wds a ++ wds b := by
  unfold wds
  rw [cutC_app, List.filter_append]
theorem wds_nil : wds [] = [] := rfl
theorem wds_one {a : Cs} (h : 32 ∉ a) (ne : a ≠ []) : wds a = [a] := by
  unfold wds
  rw [cutC_none h]
  simp [ne]
theorem wds_cons (a : Cs) : wds (32 :: a) = wds a := by
  have := wds_app [] a
  rw [List.nil_append, wds_nil, List.nil_append] at this
  exact this
theorem wds_snoc (a : Cs) : wds (a ++ [32]) = wds a := by
  rw [wds_app, wds_nil, List.append_nil]
/-! ### the lines' words, void lines left out -/
def wsL (ls : List Cs) : List (List Cs) := (ls.map wds).filter fun w => !decide (w = [])
def ws (t : Cs) : List (List Cs) := wsL (cutC 10 t)
theorem ws_app (a b : Cs) : ws (a ++ 10 :: b) = ws a ++ ws b := by
  unfold ws wsL
  rw [cutC_app, List.map_append, List.filter_append]
theorem ws_line {a : Cs} (h : 10 ∉ a) : ws a = [wds a].filter fun w => !decide (w = []) := by
  unfold ws wsL
  rw [cutC_none h]
  rfl
theorem ws_nil : ws [] = [] := rfl
theorem last_of {c : Nat} : ∀ {x : Cs}, c ∈ x → ∃ x1 x2, x = x1 ++ c :: x2 ∧ c ∉ x2
  | [], h => by cases h
  | y :: x, h => by
    by_cases hx : c ∈ x
    · obtain ⟨x1, x2, e, n⟩ := last_of hx
      exact ⟨y :: x1, x2, by rw [e]; rfl, n⟩
    · rcases List.mem_cons.mp h with e | e
      · exact ⟨[], x, by rw [e]; rfl, hx⟩
      · exact absurd e hx
theorem first_of {c : Nat} : ∀ {x : Cs}, c ∈ x → ∃ x1 x2, x = x1 ++ c :: x2 ∧ c ∉ x1
  | [], h => by cases h
  | y :: x, h => by
    by_cases e : y = c
    · exact ⟨[], x, by rw [e]; rfl, by simp⟩
    · rcases List.mem_cons.mp h with q | q
      · exact absurd q.symm e
      · obtain ⟨x1, x2, e1, n⟩ := first_of q
        exact ⟨y :: x1, x2, by rw [e1]; rfl, by simp [n, Ne.symm e]⟩
theorem ws_cons (x : Cs) : ws (32 :: x) = ws x := by
  by_cases h : 10 ∈ x
  · obtain ⟨x1, x2, rfl, n⟩ := first_of h
    rw [← List.cons_append, ws_app, ws_app, ws_line (a := 32 :: x1) (by simp [n]), ws_line n, wds_cons]
  · rw [ws_line (a := 32 :: x) (by simp [h]), ws_line h, wds_cons]
theorem ws_snoc (x : Cs) : ws (x ++ [32]) = ws x := by
  by_cases h : 10 ∈ x
  · obtain ⟨x1, x2, rfl, n⟩ := last_of h
    rw [List.append_assoc, List.cons_append, ws_app, ws_app, ws_line (a := x2 ++ [32]) (by simp [n]), ws_line n, wds_snoc]
  · rw [ws_line (a := x ++ [32]) (by simp [h]), ws_line h, wds_snoc]
def Blank (b : Cs) : Prop := ∀ c ∈ b, c = 32 ∨ c = 10
theorem ws_bl : ∀ {b : Cs} (x : Cs), Blank b → ws (b ++ x) = ws x
  | [], _, _ => rfl
  | c :: b, x, h => by
    have ih := ws_bl x (fun d hd => h d (List.mem_cons_of_mem _ hd) : Blank b)
    rcases h c List.mem_cons_self with e | e
    · rw [e, List.cons_append, ws_cons, ih]
    · rw [e, List.cons_append]
      have := ws_app [] (b ++ x)
      rw [List.nil_append, ws_nil, List.nil_append] at this
      rw [this, ih]
theorem ws_br : ∀ {b : Cs} (x : Cs), Blank b → ws (x ++ b) = ws x
  | [], x, _ => by rw [List.append_nil]
  | c :: b, x, h => by
    have hb : Blank b := fun d hd => h d (List.mem_cons_of_mem _ hd)
    rcases h c List.mem_cons_self with e | e
    · rw [e, show x ++ 32 :: b = (x ++ [32]) ++ b by rw [List.append_assoc]; rfl, ws_br (x ++ [32]) hb, ws_snoc]
    · rw [e, ws_app]
      have : ws b = [] := by
        have := ws_br [] hb
        rwa [List.nil_append, ws_nil] at this
      rw [this, List.append_nil]
theorem ws_mid {b : Cs} (x y : Cs) (h : Blank b) (h10 : 10 ∈ b) : ws (x ++ (b ++ y)) = ws x ++ ws y := by
  obtain ⟨b1, b2, rfl, _⟩ := first_of h10
  have h1 : Blank b1 := fun c hc => h c (by simp [hc])
  have h2 : Blank b2 := fun c hc => h c (by simp [hc])
  rw [show x ++ (b1 ++ 10 :: b2 ++ y) = (x ++ b1) ++ 10 :: (b2 ++ y) by simp, ws_app, ws_br x h1, ws_bl y h2]
theorem ws_join {b : Cs} (h : Blank b) (h10 : 10 ∈ b) : ∀ ls : List Cs, ws (TL.joinL b ls) = ls.flatMap ws
  | [] => rfl
  | [p] => by
    show ws p = _
    rw [List.flatMap_cons, List.flatMap_nil, List.append_nil]
  | p :: q :: r => by
    show ws (p ++ (b ++ TL.joinL b (q :: r))) = _
    rw [ws_mid p _ h h10, ws_join h h10 (q :: r)]
    rfl
/-! ### one sign replaced -/
def subC (c : Nat) (z : Cs) (l : Cs) : Cs := l.flatMap fun x => if x = c then z else [x]
theorem replL_sub (c : Nat) (z : Cs) : ∀ l : Cs, replL [c] z l = subC c z l
  | [] => replL_nil
  | x :: l => by
    by_cases h : x = c
    · rw [replL_hit (by simp) (by simp [h])]
      show z ++ replL [c] z l = _
      rw [replL_sub c z l]
      unfold subC
      rw [List.flatMap_cons, if_pos h]
    · rw [replL_miss (by simp [h]), replL_sub c z l]
      unfold subC
      rw [List.flatMap_cons, if_neg h]
      rfl
theorem replace_sub (c : Nat) (x z : Cs) : Txt.replace (S x) (S [c]) (S z) = S (subC c z x) := by
  refine TL.ext_tl ?_
  show (Txt.replace (S x) (S [c]) (S z)).cps.toList = subC c z x
  rw [replace_list (by rw [S_len]; exact Nat.le_refl 1)]
  exact replL_sub c z x
theorem subC_app (c : Nat) (z a b : Cs) : subC c z (a ++ b) = subC c z a ++ subC c z b := by unfold subC; rw [List.flatMap_append]
theorem subC_none {c : Nat} {z : Cs} : ∀ {a : Cs}, c ∉ a → subC c z a = a
  | [], _ => rfl
  | x :: a, h => by
    have ih := subC_none (z := z) (a := a) (c := c) fun m => h (List.mem_cons_of_mem _ m)
    unfold subC at ih ⊢
    rw [List.flatMap_cons, ih, if_neg (fun e => h (by rw [e]; exact List.mem_cons_self))]
    rfl
theorem subC_one (c : Nat) (z : Cs) : subC c z [c] = z := by unfold subC; simp
theorem subC_join (c : Nat) (z b : Cs) : ∀ ls : List Cs, subC c z (TL.joinL b ls) = TL.joinL (subC c z b) (ls.map (subC c z))
  | [] => rfl
  | [p] => rfl
  | p :: q :: r => by
    show subC c z (p ++ (b ++ TL.joinL b (q :: r))) = subC c z p ++ (subC c z b ++ TL.joinL (subC c z b) ((q :: r).map (subC c z)))
    rw [subC_app, subC_app, subC_join c z b (q :: r)]
theorem subC_blank {c : Nat} {z : Cs} (hz : Blank z) {b : Cs} (h : Blank b) : Blank (subC c z b) := fun x hx => by
  unfold subC at hx
  obtain ⟨y, hy, q⟩ := List.mem_flatMap.mp hx
  split at q
  · exact hz x q
  · rw [List.mem_singleton.mp q]; exact h y hy
/-! ### how a text is read -/
def figs : List (Str × Int) := [("0", 0), ("1", 1), ("2", 2), ("3", 3), ("4", 4), ("5", 5), ("6", 6), ("7", 7), ("8", 8)]
def figC (w : Cs) : Option Int := figs.lookup (S w)
def cHalls : Cs := [104, 97, 108, 108, 115]
def cTurn : Cs := [116, 117, 114, 110]
def rdSecond (w : List Cs) (first : Cs) : Except Nat Cs := match w with
  | [] => .error 1
  | a :: r => if a = first then (match r with
    | [] => .error 2
    | b :: _ => .ok b) else .error 1
def rdHalls (w : List Cs) : Except Nat Int := match rdSecond w cHalls with
  | .error e => .error e
  | .ok b => match figC b with
    | some d => if 1 ≤ d ∧ d ≤ 8 then (if 2 < w.length then .error 3 else .ok d) else .error 2
    | none => .error 2
def allS : List (Option Int) → Option (List Int)
  | [] => some []
  | none :: _ => none
  | some i :: r => match allS r with
    | some l => some (i :: l)
    | none => none
def turnB (n : Int) (t : List Int) : Bool := decide ((t.length : Int) = n) && t.all (fun k => decide (0 ≤ k ∧ k < n)) && decide t.Nodup
def rdTurn (n : Int) (w : List Cs) : Except Nat (List Int) := match rdSecond w cTurn with
  | .error e => .error e
  | .ok b => match allS (b.map fun c => figC [c]) with
    | some t => if turnB n t = true then (if 2 < w.length then .error 3 else .ok t) else .error 2
    | none => .error 2
abbrev RdS := Option Int × List (List Int)
def rdLine (st : RdS) (w : List Cs) : Except Nat RdS := if w = [] then .ok st else if st.2.length = 6 then .error 1 else match st.1 with
  | none => (match rdHalls w with
    | .error e => .error e
    | .ok d => .ok (some d, st.2))
  | some n => (match rdTurn n w with
    | .error e => .error e
    | .ok t => .ok (some n, st.2 ++ [t]))
def rdLines : Nat → RdS → List Cs → Except (Nat × Nat) RdS
  | _, st, [] => .ok st
  | k, st, l :: ls => match rdLine st (wds l) with
    | .error j => .error (k, j)
    | .ok st' => rdLines (k + 1) st' ls
def rd (t : Cs) : Except (Nat × Nat) (Int × List (List Int)) := match rdLines 1 (none, []) (cutC 10 t) with
  | .error e => .error e
  | .ok (h, ts) => if ts = [] then .error ((cutC 10 t).length + 1, 1) else .ok (h.getD 0, ts)
def stp : RdS → List (List Cs) → Option RdS
  | st, [] => some st
  | st, w :: r => match rdLine st w with
    | .error _ => none
    | .ok st' => stp st' r
theorem rdLine_nil (st : RdS) : rdLine st [] = .ok st := by unfold rdLine; rw [if_pos rfl]
theorem rdLines_ok : ∀ (ls : List Cs) (k : Nat) (st st' : RdS), stp st (wsL ls) = some st' → rdLines k st ls = .ok st'
  | [], k, st, st', h => by
    have h : some st = some st' := h
    rw [rdLines, Option.some.inj h]
  | l :: ls, k, st, st', h => by
    unfold wsL at h
    rw [List.map_cons, List.filter_cons] at h
    rw [rdLines]
    by_cases e : wds l = []
    · rw [if_neg (by simp [e])] at h
      rw [e, rdLine_nil]
      exact rdLines_ok ls (k + 1) st st' h
    · rw [if_pos (by simp [e]), stp] at h
      cases q : rdLine st (wds l) with
      | error j => rw [q] at h; cases h
      | ok s2 =>
        rw [q] at h
        exact rdLines_ok ls (k + 1) s2 st' h
theorem rd_ok {t : Cs} {n : Int} {ts : List (List Int)} (h : stp (none, []) (ws t) = some (some n, ts)) (ne : ts ≠ []) : rd t = .ok (n, ts) := by
  unfold rd
  rw [rdLines_ok _ 1 _ _ h]
  show (if ts = [] then _ else _) = _
  rw [if_neg ne]
  rfl
/-! ### a house's text -/
def dig (i : Int) : Nat := 48 + i.toNat
def wrT (t : List Int) : Cs := cTurn ++ 32 :: t.map dig
def wrH (n : Int) : Cs := cHalls ++ [32, dig n]
def wr (n : Int) (ts : List (List Int)) : Cs := TL.joinL [10] (wrH n :: ts.map wrT)
def wrW (n : Int) (ts : List (List Int)) : List (List Cs) := [cHalls, [dig n]] :: ts.map fun t => [cTurn, t.map dig]
theorem fig_dig {i : Int} (h : 0 ≤ i) (h' : i ≤ 8) : figC [dig i] = some i := by
  have : i = 0 ∨ i = 1 ∨ i = 2 ∨ i = 3 ∨ i = 4 ∨ i = 5 ∨ i = 6 ∨ i = 7 ∨ i = 8 := by omega
  rcases this with rfl | rfl | rfl | rfl | rfl | rfl | rfl | rfl | rfl <;> decide +kernel
theorem allS_some : ∀ t : List Int, allS (t.map some) = some t
  | [] => rfl
  | i :: t => by rw [List.map_cons, allS, allS_some t]
theorem figs_t {n : Nat} {t : List Int} (it : IsT n t) (n8 : n ≤ 8) : (t.map dig).map (fun c => figC [c]) = t.map some := by
  rw [List.map_map]
  refine List.map_congr_left fun k hk => ?_
  have := it.low k hk
  exact fig_dig (by omega) (by omega)
theorem stp_turns {n : Nat} (n8 : n ≤ 8) : ∀ (ts us : List (List Int)), (∀ t ∈ ts, IsT n t) → us.length + ts.length ≤ 6 → stp (some (n : Int), us) (ts.map fun t => [cTurn, t.map dig]) = some (some (n : Int), us ++ ts)
  | [], us, _, _ => by rw [List.append_nil]; rfl
  | t :: ts, us, it, hl => by
    have i1 := it t List.mem_cons_self
    have l1 := i1.len
    rw [List.length_cons] at hl
    have e : rdLine (some (n : Int), us) [cTurn, t.map dig] = .ok (some (n : Int), us ++ [t]) := by
      have tb : turnB n t = true := by
        unfold turnB
        rw [decide_eq_true (by omega), decide_eq_true i1.nd, List.all_eq_true.mpr (fun k hk => decide_eq_true (i1.low k hk))]
        rfl
      have h6 : ¬ us.length = 6 := by omega
      have e1 : rdTurn n [cTurn, t.map dig] = .ok t := by
        unfold rdTurn rdSecond
        simp only [if_pos, figs_t i1 n8, allS_some, tb]
        rfl
      unfold rdLine
      rw [if_neg (by simp), if_neg h6]
      simp only [e1]
    rw [List.map_cons, stp, e]
    show stp (some (n : Int), us ++ [t]) (ts.map fun t => [cTurn, t.map dig]) = _
    rw [stp_turns n8 ts (us ++ [t]) (fun u hu => it u (List.mem_cons_of_mem _ hu)) (by rw [List.length_append]; simp only [List.length_singleton]; omega), List.append_assoc]
    rfl
theorem stp_wr {n : Nat} {ts : List (List Int)} (n1 : 1 ≤ n) (n8 : n ≤ 8) (t6 : ts.length ≤ 6) (it : ∀ t ∈ ts, IsT n t) : stp (none, []) (wrW n ts) = some (some (n : Int), ts) := by
  have e : rdLine (none, []) [cHalls, [dig n]] = .ok (some (n : Int), []) := by
    have : n = 1 ∨ n = 2 ∨ n = 3 ∨ n = 4 ∨ n = 5 ∨ n = 6 ∨ n = 7 ∨ n = 8 := by omega
    rcases this with rfl | rfl | rfl | rfl | rfl | rfl | rfl | rfl <;> rfl
  unfold wrW
  rw [stp, e]
  have := stp_turns n8 ts [] it (by simpa using t6)
  rwa [List.nil_append] at this
theorem dig_lo {i : Int} : 48 ≤ dig i := by unfold dig; omega
theorem digs_ne {c : Nat} (h : c < 48) (t : List Int) : c ∉ t.map dig := fun m => by
  obtain ⟨i, _, e⟩ := List.mem_map.mp m
  have := dig_lo (i := i)
  omega
/-- a line of two words, whatever spaces stand between -/
theorem ws_two {a b s : Cs} (ha : 32 ∉ a) (ha' : 10 ∉ a) (hb : 32 ∉ b) (hb' : 10 ∉ b) (na : a ≠ []) (nb : b ≠ []) (hs : s = [32] ∨ s = [32, 32, 32]) : ws (a ++ (s ++ b)) = [[a, b]] := by
  have hn : 10 ∉ a ++ (s ++ b) := by rcases hs with rfl | rfl <;> simp [ha', hb']
  have e : wds (a ++ (s ++ b)) = [a, b] := by
    rcases hs with rfl | rfl
    · show wds (a ++ 32 :: b) = _
      rw [wds_app, wds_one ha na, wds_one hb nb]
      rfl
    · show wds (a ++ 32 :: 32 :: 32 :: b) = _
      rw [wds_app, wds_cons, wds_cons, wds_one ha na, wds_one hb nb]
      rfl
  rw [ws_line hn, e]
  rfl
/-- the text with spaces and void lines put in -/
def loose (pre s1 s2 post t : Cs) : Cs := subC 10 s2 (pre ++ subC 32 s1 t) ++ post
theorem ws_loose {n : Nat} {ts : List (List Int)} (n1 : 1 ≤ n) (it : ∀ t ∈ ts, IsT n t) {pre s1 s2 post : Cs} (hp : Blank pre) (hs : s1 = [32] ∨ s1 = [32, 32, 32]) (h2 : Blank s2) (h10 : 10 ∈ s2) (hq : Blank post) : ws (loose pre s1 s2 post (wr n ts)) = wrW n ts := by
  unfold loose wr
  rw [ws_br _ hq, subC_app, ws_bl _ (subC_blank h2 hp), subC_join, subC_join]
  have e10 : subC 10 s2 (subC 32 s1 [10]) = s2 := by
    have : subC 32 s1 [10] = [10] := by unfold subC; simp
    rw [this, subC_one]
  rw [e10, ws_join h2 h10, List.map_map]
  have one : ∀ {a b : Cs}, 32 ∉ a → 10 ∉ a → 32 ∉ b → 10 ∉ b → a ≠ [] → b ≠ [] → ws (subC 10 s2 (subC 32 s1 (a ++ 32 :: b))) = [[a, b]] := fun {a b} ha ha' hb hb' na nb => by
    have e1 : subC 32 s1 (a ++ 32 :: b) = a ++ (s1 ++ b) := by
      rw [show a ++ 32 :: b = a ++ ([32] ++ b) from rfl, subC_app, subC_app, subC_none ha, subC_none hb, subC_one]
    rw [e1, subC_none (by rcases hs with rfl | rfl <;> simp [ha', hb'])]
    exact ws_two ha ha' hb hb' na nb hs
  rw [List.map_cons, List.flatMap_cons]
  have h1 : ws ((subC 10 s2 ∘ subC 32 s1) (wrH n)) = [[cHalls, [dig n]]] := by
    have d := dig_lo (i := (n : Int))
    exact one (a := cHalls) (b := [dig n]) (by decide) (by decide) (by simp only [List.mem_singleton]; omega) (by simp only [List.mem_singleton]; omega) (by decide) (by simp)
  have h2' : ((ts.map wrT).map (subC 10 s2 ∘ subC 32 s1)).flatMap ws = ts.map fun t => [cTurn, t.map dig] := by
    clear h1
    induction ts with
    | nil => rfl
    | cons t ts ih =>
      rw [List.map_cons, List.map_cons, List.flatMap_cons, ih (fun u hu => it u (List.mem_cons_of_mem _ hu)), List.map_cons]
      have i1 := it t List.mem_cons_self
      have e : ws ((subC 10 s2 ∘ subC 32 s1) (wrT t)) = [[cTurn, t.map dig]] := one (a := cTurn) (b := t.map dig) (by decide) (by decide) (digs_ne (by omega) t) (digs_ne (by omega) t) (by decide) (fun e => by
        have := i1.len
        rw [List.map_eq_nil_iff.mp e] at this
        simp at this
        omega)
      rw [e]
      rfl
  rw [h1, h2']
  rfl
theorem ws_wr {n : Nat} {ts : List (List Int)} (n1 : 1 ≤ n) (it : ∀ t ∈ ts, IsT n t) : ws (wr n ts) = wrW n ts := by
  have e := ws_loose (pre := []) (s1 := [32]) (s2 := [10]) (post := []) n1 it (fun c h => by cases h) (.inl rfl) (fun c h => .inr (List.mem_singleton.mp h)) (by simp) (fun c h => by cases h)
  have id1 : ∀ (c : Nat) (l : Cs), subC c [c] l = l := fun c l => by
    unfold subC
    induction l with
    | nil => rfl
    | cons x l ih =>
      rw [List.flatMap_cons, ih]
      split
      · rename_i h; rw [h]; rfl
      · rfl
  unfold loose at e
  rw [id1, id1, List.nil_append, List.append_nil] at e
  exact e
end NS
end
section
set_option maxHeartbeats 4000000
/-! REnum: enumerate(list, start=k); text * k -/
namespace ZS
open PySem PySem.Spec PyProof.Rows L2
/-- the list at a, in pairs with numbers from c on -/
def IteS (K : PySem.W.Frag) (a : Addr) (c : Int) : It :=
  ⟨fun i H => ∃ (xs : List V) (x : V), SqL K H a xs ∧ xs[i]? = some x, fun i H v H' => ∃ T x, v = .ref T ∧ H T = none ∧ H' = upd H T (.tup [.int (c + (i : Nat)), x]) ∧ ∀ xs, SqL K H a xs → xs[i]? = some x, fun i H => ∃ xs : List V, SqL K H a xs ∧ xs.length ≤ i⟩
theorem turn_enumS {P : Program} {w : World} {K : PySem.W.Frag} {elts : List Expr} {kk : Nat} {tpos : Pos} (a e it : Addr) (c : Int) (hai : a ≠ it) (hae : a ≠ e) :
    Turn P w K (.Tuple elts kk tpos) (IteS K a c) [e, it] e (fun i h => (∃ old, IsEnum h e it (c + ((i : Nat) : Int)) old) ∧ h.IsListIter it a i ∧ e ≠ it) where
  mem := List.mem_cons_self
  obj := fun i h st b hb => by
    obtain ⟨⟨old, he⟩, ⟨o, ho, _, hd⟩, _⟩ := st
    rcases List.mem_cons.mp hb with z | z
    · rw [z]
      exact ⟨_, he, fun v q => nomatch q⟩
    · rw [List.mem_singleton.mp z]
      exact ⟨o, ho, fun v q => by rw [hd] at q; cases q⟩
  keep := fun i h h' st k => let ⟨⟨old, he⟩, hi, hne⟩ := st; ⟨⟨old, k e (by simp) _ he⟩, hi.at fun o q => k it (by simp) o q, hne⟩
  item := by
    intro X hP hw hK hc i pins s σ H E I hf st hg
    subst hP hw hK
    obtain ⟨⟨old, he⟩, hit, hne⟩ := st
    obtain ⟨xs, x, hq, hx⟩ := hg
    obtain ⟨its, rv, p, hz⟩ := I.list hq
    obtain ⟨u, hu, ru⟩ := rv.get hx
    have lte : e < s.heap.objs.size := Heap.lt_size he
    have lti : it < s.heap.objs.size := by obtain ⟨_, q, _⟩ := hit; exact Heap.lt_size q
    have hiz : i < its.toArray.size := by
      have := (List.getElem?_eq_some_iff.mp hu).1
      simpa using this
    refine wpAny_pyNext_enum_itemC (Draws.list (prog := X.prog) (w := X.w) (A := X.A.in1) (show X.A.in1.handled = none from I.ok.hd hc) it a hai its.toArray) he ⟨hit, p.isList⟩ hiz hne (by simp only [List.mem_cons, List.mem_singleton, List.not_mem_nil, or_false, not_or]; exact ⟨hne, Ne.symm hae⟩) fun y h' tk hy ho hst hT hsz hk => ?_
    have ey : y = u := by
      have hy' : its[i]? = some y := by simpa using hy
      rw [hu] at hy'
      exact (Option.some.inj hy').symm
    subst ey
    refine ⟨_, rfl, wpAny_letOwnedTupleGo_enum (s := { s with heap := h', toks := tk + 1 }) ho fun h'' he' sb => ?_⟩
    have hT2 : h''.get? s.heap.objs.size = some { cls := .type "tuple", data := .seq #[.int (c + (i : Nat)) tk, y] } := (sb.2 _ (Nat.ne_of_gt lte)).trans hT
    have new : ObjOk X.prog X.w (upd H s.heap.objs.size (.tup [.int (c + (i : Nat)), x])) h'' s.heap.objs.size (.tup [.int (c + (i : Nat)), x]) :=
      ⟨(by show 2 ≤ sizeLine; decide), [.int (c + (i : Nat)) tk, y], .cons ⟨_, rfl⟩ (.cons ru .nil), ⟨_, hT2, rfl, _, rfl⟩⟩
    have J : Inv X pins σ (upd H s.heap.objs.size (.tup [.int (c + (i : Nat)), x])) { s with heap := h'', toks := tk + 1 } :=
      I.turnedNew (ch := [e, it]) (fun b ob hb q => by
        have n1 : b ≠ e := fun z => hb (by simp [z])
        have n2 : b ≠ it := fun z => hb (by simp [z])
        exact (sb.2 b n1).trans (hk b ob n1 n2 q)) hf (Nat.le_refl _) new
    refine ⟨.ref s.heap.objs.size, _, J, rfl, ⟨_, x, rfl, I.hok.fresh (Nat.le_refl _), rfl, fun ys hy => by rw [I.list_inj hy hq]; exact hx⟩, ⟨⟨y, ?_⟩, hst.1.at fun o q => (sb.2 it (Ne.symm hne)).trans q, hne⟩, fun b hb => ?_⟩
    · rw [show c + ((i + 1 : Nat) : Int) = c + (i : Int) + 1 by omega]
      exact he'
    · have hb' : b < s.heap.objs.size := by
        rcases List.mem_cons.mp hb with z | z
        · rw [z]; exact lte
        · rw [List.mem_singleton.mp z]; exact lti
      rw [upd_ne (Nat.ne_of_lt hb')]
      exact (hf b hb).1
  done := by
    intro X hP hw hK hc i pins s σ H E I hf st hg
    subst hP hw hK
    obtain ⟨⟨old, he⟩, hit, hne⟩ := st
    obtain ⟨xs, hq, hx⟩ := hg
    obtain ⟨its, rv, p, hz⟩ := I.list hq
    obtain ⟨f0, f1, f2, f3, f4, f5⟩ := hf it (by simp)
    have hl := rv.length
    refine wpAny_pyNext_enum_endD (n := 0) (P := fun _ _ => False) (fp := [it, a]) (St := fun _ h => h.IsListIter it a i ∧ h.IsList a its.toArray)
      { live := fun _ h st => let ⟨o, ho, _⟩ := st.1; ⟨o, ho⟩
        frame := fun _ _ _ st hk => ⟨st.1.at fun o e => hk it (by simp) o e, st.2.at fun o e => hk a (by simp) o e⟩
        item := fun i s' Q E hi _ _ => absurd hi (Nat.not_lt_zero _)
        done := fun s' Q E st hE => wpAny_nextOf_list_end (show X.A.in1.handled = none from I.ok.hd hc) st.1 st.2 (by simp; omega) hE } he ⟨hit, p.isList⟩ fun h' eb => ⟨rfl, I.turned (t' := s.toks) (fun b o hb q => eb b o hb q) f0 f1 f3 f4 f5⟩
  self := fun A i s Q E st h => let ⟨⟨_, he⟩, _⟩ := st; wpAny_pyIter_enum he h
def iEnumS (K : PySem.W.Frag) (c : Int) (ta : TA) : L2.TI := fun σ H R => ta σ H fun vs H1 => ∃ a xs, vs = [.ref a] ∧ SqL K H1 a xs ∧ R (IteS K a c) H1
section
variable {M : Model} {A : Around} {E : Value → Shared → Prop} {s : Shared} {env : Env}
theorem callWith_type_kw {pos : Pos} {T : String} {first : List Value} {args : List (Bool × Sem Value)} {keywords : List (Option Str × Sem Value)} {Q : Value → Shared → Prop}
    (hplain : args.any (·.1) = false) (hkw : keywords.any (·.1.isNone) = false)
    (h : wpAny M A (evalArgs (.type T) true args keywords) (fun a s₁ => wpAny M A (call (.type T) (first ++ a.pos) a.kw) Q E s₁) E s) :
    wpAny M A (callWith pos (.type T) first args keywords) Q E s := by
  unfold callWith
  refine wpAny_bind (wpAny_holding (wpAny_mono h (fun a s₁ h₁ => wpAny_bind (wpAny_standAt ?_)) fun _ _ x => x))
  simp only [hplain, hkw, Bool.or_false]
  refine wpAny_bind (wpAny_pure ?_)
  exact wpAny_bind (wpAny_mono h₁ (fun r s₂ hr => wpAny_bind (wpAny_holding (wpAny_point (wpAny_pure hr)))) fun _ _ x => x)
end
theorem pi_enumS {X : Cx} {e : Expr} {ta : TA} {p pos tpos cp kp : Pos} {j : Nat} {elts : List Expr} {kk : Nat} {c : Int} (hg : Gl X "enumerate") (hm : X.mg "enumerate" = none) (ha : PA X [e] ta) (c0 : -(2 ^ 63) ≤ c) (c1 : c < 2 ^ 63)
    (he : backTo pos (starEach [e] X.env) = (false, eval e X.env) :: backTo pos (starEach [] X.env) := by rfl) (hpl : (backTo pos (starEach [e] X.env)).any (·.1) = false := by rfl) :
    PI X (.Tuple elts kk tpos) (.Call (.Name "enumerate" p) [e] [⟨some "start", .Constant (.int c) j cp, kp⟩] pos) (iEnumS X.K c ta) := by
  refine ⟨fun pins s σ H R I h => ?_⟩
  refine wpAny_Call_Name_kw (ld_blt I hg hm boot_enumerate ?_)
  refine callWith_type_kw hpl rfl ?_
  rw [he]
  refine PyProof.Rows.evalArgs_kwB rfl ?_
  rw [← he]
  refine thn (ha.run pos pins s σ H _ I h) fun us s1 ⟨vs, H1, I1, r1, q1⟩ => ?_
  obtain ⟨a, xs, ex, hq, q⟩ := q1
  subst ex
  cases r1 with
  | cons r rr =>
    cases rr
    cases r
    refine PyProof.Rows.kws_cons (wpAny_Constant_int (PyProof.Rows.kws_nil ?_))
    have I1' : Inv X pins σ H1 { s1 with toks := s1.toks + 1 } := I1.tok _
    obtain ⟨its, rv, p', hz⟩ := I1'.list hq
    have la : a < s1.heap.objs.size := by obtain ⟨_, q, _⟩ := p'.isList; exact Heap.lt_size q
    show wpAny _ _ (call (.type "enumerate") [Value.ref a] [(Str.ofString "start", Value.int c s1.toks)]) _ _ { s1 with toks := s1.toks + 1 }
    refine enum_begins_start (begins_list a its.toArray) p'.isList c0 c1 fun h' he hit hsz hk => wpAny_pyIter_enum he ?_
    have I2 : Inv X pins σ H1 { s1 with heap := h', toks := s1.toks + 1 } := I1'.kept (t' := s1.toks + 1) hk
    refine ⟨s1.heap.objs.size + 1, [s1.heap.objs.size + 1, s1.heap.objs.size], _, _, H1, rfl, I2, turn_enumS a (s1.heap.objs.size + 1) s1.heap.objs.size c (Nat.ne_of_lt la) (Nat.ne_of_lt (Nat.lt_succ_of_lt la)), ⟨⟨.none, by rw [show c + ((0 : Nat) : Int) = c by omega]; exact he⟩, ⟨_, hit, rfl, rfl⟩, Nat.succ_ne_self _⟩, fun b hb => ?_, q⟩
    have e' : b = s1.heap.objs.size + 1 ∨ b = s1.heap.objs.size := by simpa using hb
    have hle : s1.heap.objs.size ≤ b := by
      rcases e' with z | z
      · rw [z]; exact Nat.le_add_right _ _
      · rw [z]; exact Nat.le_refl _
    exact I1.fpOk hle (I1.hok.fresh hle)
/-- text * k -/
def rStrMul : R2 := fun x y H Q => ∃ (z : Str) (k : Int), x = .str z ∧ y = .int k ∧ 2 ≤ k ∧ k ≤ 1000 ∧ 1 ≤ z.length ∧ z.length ≤ 1000 ∧ Q (.str ⟨(List.replicate k.toNat z.cps).foldl (· ++ ·) #[]⟩) H
theorem rep_size (a : Array Nat) : ∀ (k : Nat) (acc : Array Nat), ((List.replicate k a).foldl (· ++ ·) acc).size = acc.size + k * a.size
  | 0, acc => by simp
  | k + 1, acc => by
    rw [List.replicate_succ, List.foldl_cons, rep_size a k, Array.size_append, Nat.succ_mul]
    omega
theorem op_strMul {X : Cx} : OpR X (binaryOp .Mult) rStrMul := by
  intro pins s σ H x y v u Q I rx ry h
  obtain ⟨z, k, rfl, rfl, k2, k1000, z1, z1000, q⟩ := h
  obtain ⟨t, rfl⟩ := rx
  obtain ⟨t', rfl⟩ := ry
  have e1 : ¬ k < 1 := by omega
  have e2 : (k == 1 || z.length == 0) = false := by
    rw [show (k == 1) = false from beq_eq_false_iff_ne.mpr (by omega), show (z.length == 0) = false from beq_eq_false_iff_ne.mpr (by omega)]
    rfl
  have hz : z.length * k.toNat ≤ 1000000 := by
    have h1 : z.length * k.toNat ≤ 1000 * 1000 := Nat.mul_le_mul z1000 (by omega)
    omega
  have hd : (z.length : Int) ≤ (2 ^ 63 - 1) / k := by
    rw [Int.le_ediv_iff_mul_le (by omega)]
    have h2 : (z.length : Int) * k ≤ 1000 * 1000 := Int.mul_le_mul (by omega) k1000 (by omega) (by omega)
    omega
  refine P.mul_str (by rw [decide_eq_false (by omega), decide_eq_false (by omega)]; rfl) (fun _ _ => by omega) (fun _ _ => by
    unfold Builtin.Str.tooLong
    exact decide_eq_false (by rw [sizeLine_eq]; omega)) ?_
  rw [if_neg e1, if_neg (by rw [e2]; exact Bool.false_ne_true)]
  refine ⟨?_, ?_⟩
  · have := rep_size z.cps k.toNat #[]
    show ((List.replicate k.toNat z.cps).foldl (· ++ ·) #[]).size ≤ sizeLine
    rw [this, sizeLine_eq]
    have e : z.cps.size = z.length := rfl
    rw [e, Nat.mul_comm]
    simp only [List.size_toArray, List.length_nil]
    omega
  · exact ⟨.str _, H, I.tok _, ⟨_, rfl⟩, q⟩
end ZS
end
section
set_option maxHeartbeats 4000000
/-! R1: sets of ints, and of tuples of ints, in one form -/
namespace NS
open PySem PySem.Spec PyProof.Rows L2 ZS
structure One (K : PySem.W.Frag) (P : Program) (w : World) (v : V) (H : Hp) (Q : VK) : Prop where
  h : (∃ b k, v = .ref b ∧ ElK K H b k ∧ ∀ p, H p = none → Q (.ref p) (upd H p (ZSet P w p [(b, k)]))) ∨ (∃ i, v = .int i ∧ ∀ p, H p = none → Q (.ref p) (upd H p (SetO w p (fun j => decide (j = i)) 1)))
structure Nin (K : PySem.W.Frag) (P : Program) (w : World) (x y : V) (H : Hp) (Q : VK) : Prop where
  h : rZIn K P w true x y H Q ∨ rSNotIn w x y H Q
structure Add (K : PySem.W.Frag) (P : Program) (w : World) (s : Addr) (v : V) (H : Hp) (Q : VK) : Prop where
  h : ((∃ a' L', V.ref s = .ref a' ∧ H a' = some (ZSet P w a' L')) ∧ rZAdd K P w (.ref s) [v] H Q) ∨ ((∃ a' S n, V.ref s = .ref a' ∧ H a' = some (SetO w a' S n)) ∧ rSAdd w (.ref s) [v] H Q)
structure Len (K : PySem.W.Frag) (P : Program) (w : World) (xs : List V) (H : Hp) (Q : VK) : Prop where
  h : rZLen K P w xs H Q ∨ rSLen w xs H Q
structure Sor (K : PySem.W.Frag) (P : Program) (w : World) (xs : List V) (H : Hp) (Q : VK) : Prop where
  h : rZSort K P w xs H Q ∨ rSortedSet w xs H Q
theorem pe_imp {X : Cx} {e : Expr} {t t' : TE} (h : PE X e t) (q : ∀ σ H Q, t' σ H Q → t σ H Q) : PE X e t' := ⟨fun pins s σ H Q I w => h.run pins s σ H Q I (q σ H Q w)⟩
structure Rep (K : PySem.W.Frag) (P : Program) (w : World) (α : Type) where
  El : Hp → V → α → Prop
  St : Hp → Addr → List α → Prop
  lt : α → α → Prop
  lim : Nat
  big : lim ≤ 5000
  el_tup : ∀ {H H' : Hp} {v : V} {a : α}, Tup H H' → El H v a → El H' v a
  st_tup : ∀ {H H' : Hp} {s : Addr} {L : List α}, Tup H H' → H' s = H s → St H s L → St H' s L
  st_some : ∀ {H : Hp} {s : Addr} {L : List α}, St H s L → ∃ o, H s = some o ∧ (∀ ps, o ≠ .tbl ps) ∧ L.Nodup
  one : ∀ {H : Hp} {v : V} {a : α} {Q : VK}, El H v a → (∀ p o, H p = none → St (upd H p o) p [a] → Q (.ref p) (upd H p o)) → One K P w v H Q
  notin : ∀ {H : Hp} {v : V} {a : α} {s : Addr} {L : List α} {Q : VK}, El H v a → St H s L → (∀ b, (b = true ↔ a ∉ L) → Q (.bl b) H) → Nin K P w v (.ref s) H Q
  add : ∀ {H : Hp} {v : V} {a : α} {s : Addr} {L : List α} {Q : VK}, El H v a → St H s L → a ∉ L → L.length + 1 < lim → (∀ o, Tup H (upd H s o) → St (upd H s o) s (a :: L) → Q .non (upd H s o)) → Add K P w s v H Q
  len : ∀ {H : Hp} {s : Addr} {L : List α} {Q : VK}, St H s L → Q (.int L.length) H → Len K P w [.ref s] H Q
  sort : ∀ {H : Hp} {s : Addr} {L : List α} {Q : VK}, St H s L → L.length < lim → (∀ p vs L', L'.Perm L → L'.Pairwise lt → H p = none → Paired (El H) vs L' → Q (.ref p) (upd H p (.lst vs))) → Sor K P w [.ref s] H Q
theorem nd1 {α : Type} (a : α) : [a].Nodup := List.nodup_cons.mpr ⟨List.not_mem_nil, List.nodup_nil⟩
section
variable {K : PySem.W.Frag} {P : Program} {w : World} {H : Hp} {v : V} {s : Addr} {Q : VK}
variable (K P w)
end
section
variable {K : PySem.W.Frag} {P : Program} {w : World} {H : Hp} {v : V} {s : Addr} {Q : VK}
def ElT (K : PySem.W.Frag) (H : Hp) (v : V) (k : List Int) : Prop := TI K H v k ∧ k ≠ [] ∧ PT H v k
abbrev keys (L : List (Addr × List Int)) : List (Addr × NK) := L.map fun p => (p.1, tk p.2)
theorem ElT.el {a : Addr} {k : List Int} (h : ElT K H (.ref a) k) : ElK K H a (tk k) := .inl ⟨k, rfl, h.1⟩
theorem ElT.tup {H' : Hp} {k : List Int} (z : Tup H H') (h : ElT K H v k) : ElT K H' v k := ⟨z.ti h.1, h.2.1, NS.Tup.pt z h.2.2⟩
variable (K P w)
end
section
variable {X : Cx}
end
end NS
end
section
/-! P2: halls called otherwise -/
namespace NS
section
variable {n : Nat} {m t : List Int}
end
end NS
end
section
/-! M2: what is reached leads back -/
namespace NS
theorem nd_of {α : Type} [DecidableEq α] : ∀ l : List α, ∃ L : List α, L.Nodup ∧ ∀ x, x ∈ L ↔ x ∈ l
  | [] => ⟨[], List.nodup_nil, fun _ => Iff.rfl⟩
  | a :: l => by
    obtain ⟨L, nd, mem⟩ := nd_of l
    by_cases h : a ∈ L
    · exact ⟨L, nd, fun x => ⟨fun hx => List.mem_cons_of_mem _ ((mem x).mp hx), fun hx => by
        rcases List.mem_cons.mp hx with e | e
        · rw [e]; exact h
        · exact (mem x).mpr e⟩⟩
    · exact ⟨a :: L, List.nodup_cons.mpr ⟨h, nd⟩, fun x => by rw [List.mem_cons, List.mem_cons, mem x]⟩
/-- what the turns make of a start -/
inductive Rch {α : Type} (step : α → List Int → α) (ts : List (List Int)) (a0 : α) : α → Prop
  | base : Rch step ts a0 a0
  | next {a : α} {t : List Int} : Rch step ts a0 a → t ∈ ts → Rch step ts a0 (step a t)
section
variable {α : Type} {step : α → List Int → α} {ts : List (List Int)} {a0 a b : α} {U : List α}
theorem Rch.inU (h0 : a0 ∈ U) (hc : ∀ a ∈ U, ∀ t ∈ ts, step a t ∈ U) (h : Rch step ts a0 a) : a ∈ U := by
  induction h with
  | base => exact h0
  | next _ ht ih => exact hc _ ih _ ht
theorem Rch.trans (h : Rch step ts a0 a) (h' : Rch step ts a b) : Rch step ts a0 b := by
  induction h' with
  | base => exact h
  | next _ ht ih => exact .next ih ht
theorem Rch.back (hc : ∀ a ∈ U, ∀ t ∈ ts, step a t ∈ U) (inj : ∀ t ∈ ts, ∀ a ∈ U, ∀ b ∈ U, step a t = step b t → a = b) (ha : a ∈ U) {t : List Int} (ht : t ∈ ts) : Rch step ts (step a t) a := by
  classical
  -- the list of what the later one reaches
  obtain ⟨L, nd, mem0⟩ := nd_of (U.filter fun y => decide (Rch step ts (step a t) y))
  have mem : ∀ y, y ∈ L ↔ y ∈ U ∧ Rch step ts (step a t) y := fun y => by rw [mem0, List.mem_filter, decide_eq_true_iff]
  have xU := hc a ha t ht
  have nd2 : (L.map fun y => step y t).Nodup := nodup_map nd fun x hx y hy e => inj t ht x ((mem x).mp hx).1 y ((mem y).mp hy).1 e
  have sub : ∀ x ∈ L.map (fun y => step y t), x ∈ L := fun x hx => by
    obtain ⟨y, hy, rfl⟩ := List.mem_map.mp hx
    exact (mem _).mpr ⟨hc y ((mem y).mp hy).1 t ht, .next ((mem y).mp hy).2 ht⟩
  have all := nd_all nd2 sub (by rw [List.length_map]; exact Nat.le_refl _) (step a t) ((mem _).mpr ⟨xU, .base⟩)
  obtain ⟨y, hy, e⟩ := List.mem_map.mp all
  have := inj t ht y ((mem y).mp hy).1 a ha e
  have h2 := ((mem y).mp hy).2
  rw [this] at h2
  exact h2
theorem Rch.symm (hc : ∀ a ∈ U, ∀ t ∈ ts, step a t ∈ U) (inj : ∀ t ∈ ts, ∀ a ∈ U, ∀ b ∈ U, step a t = step b t → a = b) (h0 : a0 ∈ U) (h : Rch step ts a0 a) : Rch step ts a a0 := by
  induction h with
  | base => exact .base
  | next h ht ih => exact (Rch.back hc inj (h.inU h0 hc) ht).trans ih
end
end NS
end
section
set_option maxHeartbeats 4000000
/-! R2: reached -/
namespace NS
open PySem PySem.Spec PyProof.Rows L2 ZS
/-- ahead of each turn of the for -/
def FR {K : PySem.W.Frag} {P : Program} {w : World} {α : Type} (R : Rep K P w α) (step : α → List Int → α) (ts : List (List Int)) (a0 : α) (U : List α) (H : Hp) (start : V) (tb fl : Addr) (most : V) (sa wa : Addr) (v : V) (a : α) (m : Nat) (i : Nat) (σ : L2.St) (H' : Hp) : Prop :=
  ∃ (L : List α) (ws : List V) (as : List α) (y z : Option V), σ = [some start, some (.ref tb), some (.ref fl), some most, some (.ref sa), some (.ref wa), some v, y, z] ∧ Kp H H' ∧ R.El H' v a ∧ a ∈ L ∧ R.St H' sa L ∧ H' wa = some (.lst ws) ∧ Paired (R.El H') ws as ∧
    (∀ a ∈ as, a ∈ L) ∧ (∀ a ∈ L, Rch step ts a0 a) ∧ a0 ∈ L ∧ (∀ b ∈ L, b ∉ as → b ≠ a → ∀ t ∈ ts, step b t ∈ L) ∧ (∀ j, j < i → ∀ t, ts[j]? = some t → step a t ∈ L) ∧ 2 * (U.length - L.length) + as.length < m
theorem FR.kp {K : PySem.W.Frag} {P : Program} {w : World} {α : Type} {R : Rep K P w α} {step : α → List Int → α} {ts : List (List Int)} {a0 : α} {U : List α} {H : Hp} {start : V} {tb fl : Addr} {most : V} {sa wa : Addr} {v : V} {a : α} {m i : Nat} {σ : L2.St} {H' : Hp} (h : FR R step ts a0 U H start tb fl most sa wa v a m i σ H') : Kp H H' := by
  obtain ⟨L, ws, as, y, z, _, zk, _⟩ := h
  exact zk
section
variable {P : Program} {w : World} {K : PySem.W.Frag} {mg : Str → Option Value} {base : Heap} {f : Addr} {fd : FuncData}
end
end NS
end
section
set_option maxHeartbeats 4000000
/-! G2: members, order, is_member, made, likes -/
namespace NS
open PySem PySem.Spec PyProof.Rows L2 ZS
/-- v is a tuple of the things of L -/
def TupEl (H : Hp) (El : V → α → Prop) (v : V) (L : List α) : Prop := ∃ p o vs, v = .ref p ∧ H p = some (.frz o (.tup vs)) ∧ o.dict = none ∧ Paired El vs L
/-- a turn of the group -/
abbrev Grp (n : Nat) (ts : List (List Int)) : List Int → Prop := Rch comp ts (idt n)
def likeS (a t : List Int) : List Int := comp (comp (inv t) a) t
/-- U holds a0 and all that the turns make of what it holds; few turns of n halls -/
structure Room' (n : Nat) (step : List Int → List Int → List Int) (ts : List (List Int)) (a0 : List Int) (U : List (List Int)) : Prop where
  a0 : a0 ∈ U
  cl : ∀ a ∈ U, ∀ t ∈ ts, step a t ∈ U
  is : ∀ a ∈ U, IsT n a
  few : U.length ≤ 4000
/-- the ascending list of what is reached -/
structure Asc {α : Type} (lt : α → α → Prop) (G : α → Prop) (L : List α) : Prop where
  pw : L.Pairwise lt
  nd : L.Nodup
  mem : ∀ a, a ∈ L ↔ G a
theorem ne_len {n : Nat} {a : List Int} (h : IsT n a) (hn : 1 ≤ n) : a ≠ [] := fun e => by
  have := h.len
  rw [e] at this
  simp at this
  omega
section
variable {P : Program} {w : World} {K : PySem.W.Frag} {mg : Str → Option Value} {base : Heap} {f : Addr} {fd : FuncData} {pT pA : Addr} {S : Addr → Option Sp}
end
end NS
end
section
set_option maxHeartbeats 4000000
/-! D2: set comprehensions of keys -/
namespace NS
open PySem PySem.Spec PyProof.Rows L2 ZS
/-- ascending lists of the same things are one -/
theorem asc_unique {α : Type} {lt : α → α → Prop} (irr : ∀ a, ¬ lt a a) (tr : ∀ a b, lt a b → ¬ lt b a) : ∀ {l m : List α}, l.Pairwise lt → m.Pairwise lt → (∀ a, a ∈ l ↔ a ∈ m) → l = m
  | [], [], _, _, _ => rfl
  | [], b :: m, _, _, h => by have := (h b).mpr (List.mem_cons_self ..); cases this
  | a :: l, [], _, _, h => by have := (h a).mp (List.mem_cons_self ..); cases this
  | a :: l, b :: m, hl, hm, h => by
    obtain ⟨l1, l2⟩ := List.pairwise_cons.mp hl
    obtain ⟨m1, m2⟩ := List.pairwise_cons.mp hm
    have e : a = b := by
      rcases List.mem_cons.mp ((h a).mp (List.mem_cons_self ..)) with q | q
      · exact q
      · rcases List.mem_cons.mp ((h b).mpr (List.mem_cons_self ..)) with q2 | q2
        · exact q2.symm
        · exact absurd (l1 b q2) (tr _ _ (m1 a q))
    subst e
    congr 1
    refine asc_unique irr tr l2 m2 fun x => ⟨fun hx => ?_, fun hx => ?_⟩
    · rcases List.mem_cons.mp ((h x).mp (List.mem_cons_of_mem _ hx)) with q | q
      · rw [q] at hx
        exact absurd (l1 a hx) (irr a)
      · exact q
    · rcases List.mem_cons.mp ((h x).mpr (List.mem_cons_of_mem _ hx)) with q | q
      · rw [q] at hx
        exact absurd (m1 a hx) (irr a)
      · exact q
theorem Asc.uniq {α : Type} {lt : α → α → Prop} (irr : ∀ a, ¬ lt a a) (tr : ∀ a b, lt a b → ¬ lt b a) {G : α → Prop} {l m : List α} (hl : Asc lt G l) (hm : Asc lt G m) : l = m := asc_unique irr tr hl.pw hm.pw fun a => (hl.mem a).trans (hm.mem a).symm
/-- the pairs of places, row by row -/
def grid (n m : Nat) : List (Nat × Nat) := (List.range n).flatMap fun i => (List.range m).map fun j => (i, j)
theorem grid_succ (n m : Nat) : grid (n + 1) m = grid n m ++ (List.range m).map fun j => (n, j) := by
  unfold grid
  rw [List.range_succ, List.flatMap_append]
  simp
theorem grid_len (n m : Nat) : (grid n m).length = n * m := by
  induction n with
  | zero => simp [grid]
  | succ n ih => rw [grid_succ, List.length_append, ih, List.length_map, List.length_range, Nat.succ_mul]
end NS
end
section
set_option maxHeartbeats 4000000
/-! G3: parts, is_transitive, rank -/
namespace NS
open PySem PySem.Spec PyProof.Rows L2 ZS
def hallS (a : Int) (t : List Int) : Int := t.getD a.toNat 0
/-- the halls to which hall h is led -/
abbrev Orb (ts : List (List Int)) (h : Int) : Int → Prop := Rch hallS ts h
/-- k is the ascending lot of hall h -/
abbrev Lot (ts : List (List Int)) (h : Int) (k : List Int) : Prop := Asc (· < ·) (Orb ts h) k
/-- all lots of halls -/
abbrev Lots (n : Nat) (ts : List (List Int)) (k : List Int) : Prop := ∃ i : Nat, i < n ∧ Lot ts i k
def pr2 (p : Nat × Nat) : List Int := [(p.1 : Int), (p.2 : Int)]
section
variable {P : Program} {w : World} {K : PySem.W.Frag} {mg : Str → Option Value} {base : Heap} {f : Addr} {fd : FuncData} {pT pA : Addr} {S : Addr → Option Sp}
end
end NS
end
section
set_option maxHeartbeats 4000000
/-! G4: stays -/
namespace NS
open PySem PySem.Spec PyProof.Rows L2 ZS
/-- the halls that a turn leaves in place -/
def keptL (t : List Int) : List Int := ((List.range t.length).filter fun i => decide (t.getD i 0 = (i : Int))).map fun (i : Nat) => (i : Int)
theorem take_succ_of {α : Type} {L : List α} {i : Nat} {k : α} (h : L[i]? = some k) : L.take (i + 1) = L.take i ++ [k] := by
  rw [List.take_add_one, h]
  rfl
section
variable {P : Program} {w : World} {K : PySem.W.Frag} {mg : Str → Option Value} {base : Heap} {f : Addr} {fd : FuncData} {pT pA : Addr}
end
end NS
end
section
set_option maxHeartbeats 4000000
/-! DD: a dict whose keys are tuples of ints, all values True -/
namespace NS
open PySem PySem.Spec PyProof.Rows L2 ZS
abbrev dl (L : List (Addr × List Int)) : List (NK × Addr × Value) := L.map fun p => (tk p.2, p.1, Value.bool true)
structure Dd0 (P : Program) (w : World) (h : Heap) (d : Addr) (L : List (Addr × List Int)) : Prop where
  few : L.length ≤ 100000
  sm : (d == sysModules) = false
  nd : (L.map (·.2)).Nodup
  ex : ∃ o es ep, h.get? d = some o ∧ o.ExactDict ∧ o.data = .dict es ep ∧ es.toList = (dl L).map (entryOfKey (nestedKind P w))
def DDict (P : Program) (w : World) (d : Addr) (L : List (Addr × List Int)) : HO := .ext fun h => Dd0 P w h d L
theorem dl_fst (L : List (Addr × List Int)) : (dl L).map (·.1) = (L.map (·.2)).map tk := by unfold dl; rw [List.map_map, List.map_map]; rfl
theorem nd_tk {l : List (List Int)} (h : l.Nodup) : (l.map tk).Nodup := nodup_map h fun _ _ _ _ e => tk_inj e
section
variable {P : Program} {w : World} {h : Heap} {d : Addr} {L : List (Addr × List Int)}
theorem Dd0.laid (R : Dd0 P w h d L) (H : Hp) : ObjOk P w H h d (DDict P w d L) := by
  obtain ⟨o, es, ep, ho, r⟩ := R.ex
  exact ⟨R, ⟨o, ho⟩, fun h1 h2 p k => ⟨p.few, p.sm, p.nd, let ⟨o, es, ep, ho, r⟩ := p.ex; ⟨o, es, ep, k o ho, r⟩⟩⟩
theorem Dd0.full (R : Dd0 P w h d L) (ht : ∀ p ∈ L, NestedIs h (tk p.2) (.ref p.1)) : h.DictOfH (nestedKind P w) d (dl L) := by
  obtain ⟨o, es, ep, ho, he, hd, hs⟩ := R.ex
  refine ⟨o, es, ep, ho, he, hd, hs, fun x hx => ?_, by rw [dl_fst]; exact nd_tk R.nd⟩
  obtain ⟨p, hp, rfl⟩ := List.mem_map.mp hx
  exact ⟨ht p hp, by rw [show NestedKey.depth (tk p.2) = 1 from depth_tk p.2]; decide⟩
theorem Dd0.of (sm : (d == sysModules) = false) (few : L.length ≤ 100000) (x : h.DictOfH (nestedKind P w) d (dl L)) : Dd0 P w h d L := by
  obtain ⟨o, es, ep, ho, he, hd, hs, _, nd⟩ := x
  rw [dl_fst] at nd
  exact ⟨few, sm, (List.pairwise_map.mp nd).imp fun h e => h (by rw [e]), o, es, ep, ho, he, hd, hs⟩
end
section
variable {X : Cx} {pins : List (Addr × Obj)} {σ : L2.St} {H : Hp} {s : Shared}
end
end NS
end
section
set_option maxHeartbeats 4000000
/-! LT: what the law's own defs want: x != [], a row of draws -/
namespace NS
open PySem PySem.Spec PyProof.Rows L2 ZS
section
variable {X : Cx}
/-- x != [], x == [] of a list -/
def rNilB (K : PySem.W.Frag) (f : Bool → Bool) : R2 := fun x y H Q => ∃ (a b : Addr) (xs : List V), x = .ref a ∧ y = .ref b ∧ SqL K H a xs ∧ SqL K H b [] ∧ Q (.bl (f xs.isEmpty)) H
theorem op_neNil (hu : X.A.units + 64 < cLine) : OpR X (compareOp .NotEq) (rNilB X.K not) := by
  intro pins s σ H x y v u Q I rx ry h
  obtain ⟨a, b, xs, rfl, rfl, ha, hb, q⟩ := h
  cases rx
  cases ry
  obtain ⟨its, r1, p1, _⟩ := I.list ha
  obtain ⟨its2, r2, p2, _⟩ := I.list hb
  cases r2
  cases r1 with
  | nil => exact SeqAt.RcNeAt.lists (e := fun _ => true) p1.isList p2.isList rfl (by omega) (fun j h1 h2 => absurd h1 (Nat.not_lt_zero _)) X.prog X.w _ _ ⟨.bl false, H, I, rfl, q⟩
  | cons r t => exact SeqAt.RcNeAt.lists_lengths p1.isList p2.isList (by simp) (by omega) X.prog X.w _ _ ⟨.bl true, H, I, rfl, q⟩
theorem op_eqNil (hu : X.A.units + 64 < cLine) : OpR X (compareOp .Eq) (rNilB X.K id) := by
  intro pins s σ H x y v u Q I rx ry h
  obtain ⟨a, b, xs, rfl, rfl, ha, hb, q⟩ := h
  cases rx
  cases ry
  obtain ⟨its, r1, p1, _⟩ := I.list ha
  obtain ⟨its2, r2, p2, _⟩ := I.list hb
  cases r2
  cases r1 with
  | nil => exact SeqAt.RcAt.lists (e := fun _ => true) p1.isList p2.isList rfl (by omega) (fun j h1 h2 => absurd h1 (Nat.not_lt_zero _)) X.prog X.w _ _ ⟨.bl true, H, I, rfl, q⟩
  | cons r t => exact SeqAt.RcAt.lists_lengths p1.isList p2.isList (by simp) (by omega) X.prog X.w _ _ ⟨.bl false, H, I, rfl, q⟩
end
/-- all stands but the list at r -/
structure KpB (r : Addr) (H H' : Hp) : Prop where
  k : ∀ b o, H b = some o → (∀ ps, o ≠ .tbl ps) → (∀ xs, o = .lst xs → b ≠ r) → H' b = some o
  t : ∀ b ps, H b = some (.tbl ps) → ∃ ps' : Array Value, H' b = some (.tbl ps') ∧ TabUp ps ps'
  r : ∀ xs, H r = some (.lst xs) → ∃ ys, H' r = some (.lst ys)
section
variable {r : Addr} {H H1 H2 : Hp}
theorem Kp.b (z : Kp H H1) : KpB r H H1 := ⟨fun b o e n _ => z.k b o e n, z.t, fun xs e => ⟨xs, z.lst e⟩⟩
theorem KpB.refl (H : Hp) : KpB r H H := (Kp.refl H).b
theorem KpB.trans (a : KpB r H H1) (b : KpB r H1 H2) : KpB r H H2 where
  k := fun c o e n m => b.k c o (a.k c o e n m) n m
  t := fun c ps e => by
    obtain ⟨p1, h1, t1⟩ := a.t c ps e
    obtain ⟨p2, h2, t2⟩ := b.t c p1 h1
    exact ⟨p2, h2, t1.trans t2⟩
  r := fun xs e => let ⟨ys, e1⟩ := a.r xs e; b.r ys e1
theorem KpB.none (z : KpB r H H1) {p : Addr} (h : H1 p = Option.none) : H p = Option.none := by
  cases e : H p with
  | none => rfl
  | some o =>
    by_cases q : ∃ ps, o = .tbl ps
    · obtain ⟨ps, rfl⟩ := q
      obtain ⟨ps', h', _⟩ := z.t p ps e
      rw [h] at h'
      cases h'
    · by_cases l : ∃ xs, o = .lst xs ∧ p = r
      · obtain ⟨xs, rfl, rfl⟩ := l
        obtain ⟨ys, e2⟩ := z.r xs e
        rw [h] at e2
        cases e2
      · have := z.k p o e (fun ps w => q ⟨ps, w⟩) (fun xs e1 e2 => l ⟨xs, e1, e2⟩)
        rw [h] at this
        cases this
theorem KpB.put (z : KpB r H H1) {p : Addr} (n : H p = Option.none) {o : HO} (hr : p ≠ r) : KpB r H (upd H1 p o) := by
  have ne : ∀ b u, H b = some u → b ≠ p := fun b u e q => by rw [q, n] at e; cases e
  refine ⟨fun b u e q m => by rw [upd_ne (ne b u e)]; exact z.k b u e q m, fun b ps e => by rw [upd_ne (ne b _ e)]; exact z.t b ps e, fun xs e => ?_⟩
  obtain ⟨ys, e2⟩ := z.r xs e
  exact ⟨ys, by rw [upd_ne hr.symm]; exact e2⟩
/-- the row itself changes -/
theorem KpB.row (z : KpB r H H1) {xs : List V} (h : H r = some (.lst xs)) {ys : List V} : KpB r H (upd H1 r (.lst ys)) := by
  refine ⟨fun b u e q m => ?_, fun b ps e => ?_, fun xs e => ⟨ys, upd_same⟩⟩
  · have : b ≠ r := fun w => by
      rw [w, h] at e
      exact m xs (Option.some.inj e).symm w
    rw [upd_ne this]
    exact z.k b u e q m
  · have : b ≠ r := fun w => by rw [w, h] at e; cases e
    rw [upd_ne this]
    exact z.t b ps e
theorem KpB.tup (z : KpB r H H1) : Tup H H1 := ⟨fun c xs h => z.k c _ h (fun _ q => by cases q) (fun _ q => by cases q), fun c o u h => z.k c _ h (fun _ q => by cases q) (fun _ q => by cases q)⟩
theorem KpB.lst (z : KpB r H H1) {a : Addr} {xs : List V} (h : H a = some (.lst xs)) (hr : a ≠ r) : H1 a = some (.lst xs) := z.k a _ h (fun _ q => by cases q) (fun _ _ => hr)
theorem KpB.ext (z : KpB r H H1) {a : Addr} {f : Heap → Prop} (h : H a = some (.ext f)) : H1 a = some (.ext f) := z.k a _ h (fun _ q => by cases q) (fun _ q => by cases q)
theorem KpB.tabG (z : KpB r H H1) {P : Addr} (g : GxR.TabG H P) : GxR.TabG H1 P := by
  obtain ⟨ps, hP, hT⟩ := g
  obtain ⟨ps', h', t⟩ := z.t P ps hP
  exact ⟨ps', h', t.1 hT⟩
theorem KpB.sqL {K : PySem.W.Frag} (z : KpB r H H1) {a : Addr} {xs : List V} (h : SqL K H a xs) (hr : a ≠ r) : SqL K H1 a xs := by
  rcases h with (h | ⟨o, h⟩) | h
  · exact .inl (.inl (z.lst h hr))
  · exact .inl (.inr ⟨o, z.tup.f _ _ _ h⟩)
  · exact .inr h
theorem Tup.pts {K : PySem.W.Frag} (z : Tup H H1) {v : V} {ts : List (List Int)} (h : PTS K H v ts) : PTS K H1 v ts := let ⟨b, xs, e, s, p⟩ := h; ⟨b, xs, e, z.sq s, p.mono fun _ _ q => NS.Tup.pt z q⟩
theorem Tup.house {K : PySem.W.Frag} (z : Tup H H1) {v : V} {n : Nat} {ts : List (List Int)} (h : HouseAt K H v n ts) : HouseAt K H1 v n ts := let ⟨a, tv, e, s, p⟩ := h; ⟨a, tv, e, z.sq s, NS.Tup.pts z p⟩
end
/-- the row of draws at r over the script at sa -/
def RowAt (H : Hp) (r sa : Addr) : Prop := ∃ (i : Nat) (sd rest : Int), H r = some (.lst [.ref sa, .int i, .int sd, .int rest]) ∧ 0 ≤ rest
theorem Kp.rowAt {H H' : Hp} (z : Kp H H') {r sa : Addr} (h : RowAt H r sa) : RowAt H' r sa := let ⟨i, sd, rest, e, p⟩ := h; ⟨i, sd, rest, z.lst e, p⟩
theorem RowAt.lst {H : Hp} {r sa : Addr} (h : RowAt H r sa) : ∃ xs, H r = some (.lst xs) := let ⟨i, sd, rest, e, p⟩ := h; ⟨_, e⟩
theorem RowAt.put {H : Hp} {r sa p : Addr} {o : HO} (h : RowAt H r sa) (n : p ≠ r) : RowAt (upd H p o) r sa := let ⟨i, sd, rest, e, q⟩ := h; ⟨i, sd, rest, by rw [upd_ne n.symm]; exact e, q⟩
/-- a comprehension over a range, whose element may draw -/
theorem lcB {g : TG} {te : TE} {vs : List Nat} {σ : L2.St} {r sa : Addr} {H : Hp} {D : Addr} {Qd : Hp → Prop} {n : Nat} (hr : RowAt H r sa) (hD : H D = none) (hz : n < sizeLine)
    (R : Nat → V → Hp → Prop) (st : ∀ i y H1 H2, Tup H1 H2 → R i y H1 → R i y H2)
    (el : ∀ i H' (Q1 : VK), i < n → KpB r H H' → RowAt H' r sa → (∀ y H4, KpB r H' H4 → RowAt H4 r sa → R i y H4 → Q1 y H4) → g (.int (0 + (i : Nat))) (wipe σ vs) H' fun σ2 H2 => wipe σ2 vs = wipe σ vs ∧ te σ2 H2 Q1)
    (mono : ∀ x H' (Q Q' : L2.St → Hp → Prop), (∀ s h, Q s h → Q' s h) → g x (wipe σ vs) H' Q → g x (wipe σ vs) H' Q')
    (fin : ∀ ys H', KpB r H H' → RowAt H' r sa → H' D = some (.lst ys) → Paired (fun i y => R i y H') (List.range n) ys → Qd H') :
    ∃ W : Nat → Nat → Hp → Prop, (∃ m, W 0 m (upd H D (.lst []))) ∧ ∀ i m H, W i m H →
      ((Itr 0 n).stop i H ∧ Qd H) ∨ ((Itr 0 n).go i H ∧ ∃ Nx : Hp → Prop, (∀ H', Nx H' → ∃ m', m' < m ∧ W (i + 1) m' H') ∧ ∀ x H', (Itr 0 n).yld i H x H' → g x (wipe σ vs) H' fun σ2 H2 => wipe σ2 vs = wipe σ vs ∧ tYes σ2 H2 fun b H3 =>
        if b = true then te σ2 H3 fun y H4 => ∃ acc, H4 D = some (.lst acc) ∧ acc.length < sizeLine ∧ Nx (upd H4 D (.lst (acc ++ [y]))) else Nx H3) := by
  obtain ⟨xr, hxr⟩ := hr.lst
  have nD : D ≠ r := fun e => by rw [e, hxr] at hD; cases hD
  let G : Nat → Hp → Prop := fun i H' => KpB r H H' ∧ RowAt H' r sa ∧ ∃ ys, H' D = some (.lst ys) ∧ Paired (fun i y => R i y H') (List.range i) ys
  refine ⟨fun i m H' => m = n - i ∧ i ≤ n ∧ G i H', ⟨n, by simp, Nat.zero_le _, (KpB.refl H).put hD nD, hr.put nD, [], upd_same, .nil⟩, ?_⟩
  rintro i m H1 ⟨rfl, hi, z, ra, ys, hy, hp⟩
  by_cases hlt : i < n
  · refine .inr ⟨hlt, G (i + 1), fun H' p => ⟨n - (i + 1), by omega, rfl, hlt, p⟩, fun x H' y => ?_⟩
    obtain ⟨e, y⟩ := y
    subst e y
    refine mono _ _ _ _ (fun s h q => ⟨q.1, iteT (B := G (i + 1) h) q.2⟩) (el i _ _ hlt z ra fun v H4 z4 r4 rv => ?_)
    have hD4 := z4.lst hy nD
    have hl := hp.length
    rw [List.length_range] at hl
    have tz : Tup H4 (upd H4 D (.lst (ys ++ [v]))) := Tup.put (by rw [hD4]; trivial)
    refine ⟨ys, hD4, by omega, (z.trans z4).put hD nD, r4.put nD, _, upd_same, ?_⟩
    rw [List.range_succ]
    exact Paired.snoc (hp.mono fun a b q => st _ _ _ _ (z4.tup.trans tz) q) (st _ _ _ _ tz rv)
  · have e : i = n := by omega
    subst e
    exact .inl ⟨Nat.le_refl _, fin ys H1 z ra hy hp⟩
end NS
end
section
set_option maxHeartbeats 4000000
/-! L1: the law's draws and turns -/
namespace NS
open PySem PySem.Spec PyProof.Rows L2 ZS
theorem scTaken : FnScope ["row", "many", "found", "cell"] ["row", "many"] (defScope sTaken) := ⟨rfl, rfl, rfl, by decide +kernel, rfl, by decide +kernel, by decide +kernel⟩
theorem scPick : FnScope ["row", "things"] ["row", "things"] (defScope sPick) := ⟨rfl, rfl, rfl, by decide +kernel, rfl, by decide +kernel, by decide +kernel⟩
theorem scLTurn : FnScope ["row", "halls", "found", "left"] ["row", "halls"] (defScope sLTurn) := ⟨rfl, rfl, rfl, by decide +kernel, rfl, by decide +kernel, by decide +kernel⟩
theorem at4_0 {a b c d : V} : atI [a, b, c, d] 0 = some a := rfl
theorem at4_1 {a b c d : V} : atI [a, b, c, d] 1 = some b := rfl
theorem at4_2 {a b c d : V} : atI [a, b, c, d] 2 = some c := rfl
theorem at4_3 {a b c d : V} : atI [a, b, c, d] 3 = some d := rfl
theorem erase_map {α β : Type} (f : α → β) : ∀ (l : List α) (i : Nat), (l.map f).eraseIdx i = (l.eraseIdx i).map f
  | [], _ => rfl
  | _ :: _, 0 => rfl
  | a :: l, i + 1 => by
    show f a :: (l.map f).eraseIdx i = f a :: (l.eraseIdx i).map f
    rw [erase_map f l i]
theorem erase_perm {α : Type} : ∀ (l : List α) (i : Nat) (x : α), l[i]? = some x → (x :: l.eraseIdx i).Perm l
  | [], i, x, h => by simp at h
  | a :: l, 0, x, h => by cases h; exact List.Perm.refl _
  | a :: l, i + 1, x, h => (List.Perm.swap a x _).trans ((erase_perm l i x h).cons a)
theorem low_perm {n : Nat} {fs : List Int} (h : fs.Perm (idt n)) : IsT n fs := ⟨by rw [h.length_eq, idt_len], fun x hx => mem_idt.mp (h.mem_iff.mp hx), h.nodup_iff.mpr (idt_isT n).nd⟩
/-- a list of ints is no row -/
theorem KpB.sqI {K : PySem.W.Frag} {r sa a : Addr} {H H1 : Hp} (z : KpB r H H1) (ra : RowAt H r sa) {ns : List Int} (h : SqL K H a (ns.map V.int)) : SqL K H1 a (ns.map V.int) := by
  rcases h with (h | ⟨o, h⟩) | h
  · refine .inl (.inl (z.lst h fun e => ?_))
    obtain ⟨i, sd, rest, e2, _⟩ := ra
    rw [← e, h] at e2
    have e3 := Option.some.inj e2
    injection e3 with e3
    cases ns with
    | nil => cases e3
    | cons n ns =>
      rw [List.map_cons] at e3
      injection e3 with e4 _
      cases e4
  · exact .inl (.inr ⟨o, z.tup.f _ _ _ h⟩)
  · exact .inr h
/-- r is the row of draws over a script -/
def Draws (K : PySem.W.Frag) (H : Hp) (r sa : Addr) : Prop := RowAt H r sa ∧ ∃ ns : List Int, SqL K H sa (ns.map V.int)
theorem Draws.b {K : PySem.W.Frag} {H H' : Hp} {r sa : Addr} (h : Draws K H r sa) (z : KpB r H H') (ra : RowAt H' r sa) : Draws K H' r sa := let ⟨ro, ns, e⟩ := h; ⟨ra, ns, z.sqI ro e⟩
theorem Draws.k {K : PySem.W.Frag} {H H' : Hp} {r sa : Addr} (h : Draws K H r sa) (z : Kp H H') : Draws K H' r sa := h.b z.b (z.rowAt h.1)
def spTaken (K : PySem.W.Frag) : Sp := fun vs H Q _ => ∃ (r sa : Addr) (m : Int), vs = [.ref r, .int m] ∧ Draws K H r sa ∧ 0 < m ∧ m < 1073741824 ∧ ∀ v H', KpB r H H' → RowAt H' r sa → 0 ≤ v → v < m → Q (.int v) H'
def spPick (K : PySem.W.Frag) : Sp := fun vs H Q _ => ∃ (r sa t : Addr) (xs : List V), vs = [.ref r, .ref t] ∧ Draws K H r sa ∧ t ≠ r ∧ SqL K H t xs ∧ xs ≠ [] ∧ xs.length < 1073741824 ∧ ∀ x H', KpB r H H' → RowAt H' r sa → x ∈ xs → Q x H'
def spLTurn (K : PySem.W.Frag) : Sp := fun vs H Q _ => ∃ (r sa : Addr) (n : Nat), vs = [.ref r, .int n] ∧ Draws K H r sa ∧ 1 ≤ n ∧ n ≤ 1000 ∧ ∀ v H' t, KpB r H H' → RowAt H' r sa → PT H' v t → IsT n t → Q v H'
section
variable {P : Program} {w : World} {K : PySem.W.Frag} {mg : Str → Option Value} {base : Heap} {f : Addr} {fd : FuncData}
theorem has_taken (F : FnP K "_law_taken" sTaken f fd) (m : mg "_law_taken" = some (.ref f)) (B : Bl mg) : Has P w K mg base "_law_taken" 1 [] (spTaken K) := by
  refine ⟨f, fd, ["row", "many"], [], m, F.kp, F.bindsN (fun _ _ _ _ _ _ us hl => match us, hl with | [_, _], _ => rfl), .nil, ?_⟩
  refine F.ok scTaken (fun vs H Q E h => ?_) (fun cdv A outer s H vs Q E hr h => ⟨_, PSs.nox (
    pss_cons (ps_if (pt_cmpR op_gt (pe_ix (r := rIxL K) ix_list (pv 0) pe_int (fun _ _ => rfl)) pe_int (nomark _))
      (pss_cons (ps_set (i := 2) scTaken.nd rfl (Or.inl rfl) (pe_op op_mod (pe_callTy call_int1 rfl B.int PyProof.Rows.boot_int (pa_cons (pe_ix (r := rIxL K) ix_list (pv 0) pe_int (fun _ _ => rfl)) pa_nil)) (pv 1)))
      (pss_cons (ps_asg (pe_op op_fdiv (pe_ix (r := rIxL K) ix_list (pv 0) pe_int (fun _ _ => rfl)) (pv 1)) (pg_sub (pv 0) pe_int set_list))
      (pss_one (ps_ret (pv 2))))) pss_nil)
    (pss_cons (ps_asg (pe_op op_add (pe_ix (r := rIxL K) ix_list (pv 0) pe_int (fun _ _ => rfl)) pe_int) (pg_sub (pv 0) pe_int set_list))
    (pss_cons (ps_if (pt_cmpR op_gt (pe_ix (r := rIxL K) ix_list (pv 0) pe_int (fun _ _ => rfl)) (pe_callB call_len_seq rfl B.len PySem.boot_len (pa_cons (pe_ix (r := rIxL K) ix_list (pv 0) pe_int (fun _ _ => rfl)) pa_nil)) (nomark _))
      (pss_cons (ps_asg (pe_op op_mod (pe_callTy call_int1 rfl B.int PyProof.Rows.boot_int (pa_cons (pe_op op_add (pe_op op_mul (pe_ix (r := rIxL K) ix_list (pv 0) pe_int (fun _ _ => rfl)) pe_int) pe_int) pa_nil)) pe_int) (pg_sub (pv 0) pe_int set_list))
      (pss_one (ps_ret (pe_op op_mod (pe_callTy call_int1 rfl B.int PyProof.Rows.boot_int (pa_cons (pe_op op_fdiv (pe_ix (r := rIxL K) ix_list (pv 0) pe_int (fun _ _ => rfl)) pe_int) pa_nil)) (pv 1))))) pss_nil)
    (pss_cons (ps_set (i := 3) scTaken.nd rfl (Or.inl rfl) (pe_ix (r := rIxL K) ix_list (pe_ix (r := rIxL K) ix_list (pv 0) pe_int (fun _ _ => rfl)) (pe_op op_sub (pe_ix (r := rIxL K) ix_list (pv 0) pe_int (fun _ _ => rfl)) pe_int) (fun _ _ => rfl)))
    (pss_cons (ps_asg (pe_op op_mod (pe_callTy call_int1 rfl B.int PyProof.Rows.boot_int (pa_cons (pe_op op_add (pe_op op_add (pe_op op_mul (pe_ix (r := rIxL K) ix_list (pv 0) pe_int (fun _ _ => rfl)) pe_int) (pv 3)) pe_int) pa_nil)) pe_int) (pg_sub (pv 0) pe_int set_list))
    (pss_cons (ps_if (pt_cmpR op_ge (pv 3) (pe_op op_pow pe_int pe_int) (nomark _)) (pss_one (ps_asg (pe_op op_fdiv (pv 3) (pv 1)) (pg_sub (pv 0) pe_int set_list))) pss_nil)
    (pss_one (ps_ret (pe_op op_mod (pe_callTy call_int1 rfl B.int PyProof.Rows.boot_int (pa_cons (pv 3) pa_nil)) (pv 1)))))))))), ?_⟩)
  · obtain ⟨r, sa, m, rfl, _⟩ := h
    rfl
  · obtain ⟨r, sa, mm, rfl, ⟨⟨i, sd, rest, hrow, hrest⟩, ns, hns⟩, m0, m1, q⟩ := h
    refine ⟨_, rfl, ⟨r, _, _, _, rfl, rfl, SqL.of hrow, at4_3, ⟨_, _, rfl, rfl, _, rfl, ?_⟩⟩⟩
    by_cases hp : 0 < rest
    · refine ifT (A := _) (B := _) (decide_eq_true hp) ?_
      refine ⟨_, rfl, ⟨r, _, _, _, rfl, rfl, SqL.of hrow, at4_3, (.inl ⟨_, rfl, _, rfl, _, _, rfl, rfl, m0, ?_⟩)⟩⟩
      refine ⟨_, rfl, ⟨r, _, _, _, rfl, rfl, SqL.of hrow, at4_3, ⟨_, rfl, _, _, rfl, rfl, ⟨m0, m1⟩, ?_⟩⟩⟩
      refine ⟨_, rfl, r, _, 3, 3, rfl, rfl, hrow, rfl, ?_⟩
      have hm := Int.emod_lt_of_pos rest m0
      have hm0 := Int.emod_nonneg rest (Int.ne_of_gt m0)
      exact ⟨_, rfl, q _ _ ((KpB.refl H).row hrow) ⟨i, sd, rest / mm, upd_same, Int.ediv_nonneg (by omega) (by omega)⟩ hm0 hm⟩
    · refine ifF (A := _) (B := _) (decide_eq_false hp) ?_
      have h0 : rest = 0 := by omega
      subst h0
      refine ⟨_, rfl, ⟨r, _, _, _, rfl, rfl, SqL.of hrow, at4_1, ⟨_, _, rfl, rfl, ?_⟩⟩⟩
      refine ⟨_, rfl, r, _, 1, 1, rfl, rfl, hrow, rfl, ?_⟩
      have z1 : KpB r H (upd H r (.lst [.ref sa, .int ((i : Int) + 1), .int sd, .int 0])) := (KpB.refl H).row hrow
      have hrow1 : (upd H r (.lst [.ref sa, .int ((i : Int) + 1), .int sd, .int 0])) r = some (.lst [.ref sa, .int ((i : Int) + 1), .int sd, .int 0]) := upd_same
      have hns1 := z1.sqI ⟨i, sd, 0, hrow, Int.le_refl _⟩ hns
      refine ⟨_, rfl, ⟨r, _, _, _, rfl, rfl, SqL.of hrow1, at4_1, ⟨_, rfl, ⟨r, _, _, _, rfl, rfl, SqL.of hrow1, at4_0, ⟨sa, _, rfl, .inl hns1, _, _, rfl, rfl, _, rfl, ?_⟩⟩⟩⟩⟩
      rw [List.length_map]
      by_cases hl : (ns.length : Int) < (i : Int) + 1
      · refine ifT (A := _) (B := _) (decide_eq_true hl) ?_
        refine ⟨_, rfl, ⟨r, _, _, _, rfl, rfl, SqL.of hrow1, at4_2, ⟨_, _, rfl, rfl, .inr ⟨by decide, by decide⟩, _, _, rfl, rfl, .inl ⟨_, rfl, _, _, rfl, rfl, (by show (0 : Int) < 2147483647; decide), ?_⟩⟩⟩⟩
        refine ⟨_, rfl, r, _, 2, 2, rfl, rfl, hrow1, rfl, ?_⟩
        rw [upd_upd]
        refine ⟨_, rfl, ⟨r, _, _, _, rfl, rfl, SqL.of upd_same, at4_2, ⟨_, _, rfl, rfl, ⟨by decide, by decide⟩, .inl ⟨_, rfl, _, rfl, _, _, rfl, rfl, m0, ?_⟩⟩⟩⟩
        exact q _ _ ((KpB.refl H).row hrow) ⟨i + 1, _, 0, by rw [upd_same]; rfl, by omega⟩ (Int.emod_nonneg _ (Int.ne_of_gt m0)) (Int.emod_lt_of_pos _ m0)
      · refine ifF (A := _) (B := _) (decide_eq_false hl) ?_
        have hi : i < ns.length := by omega
        refine ⟨_, rfl, ⟨r, _, _, _, rfl, rfl, SqL.of hrow1, at4_0, ⟨_, rfl, ⟨r, _, _, _, rfl, rfl, SqL.of hrow1, at4_1, ⟨_, _, rfl, rfl, sa, _, _, .int (ns.getD i 0), rfl, rfl, hns1, ?_, ?_⟩⟩⟩⟩⟩
        · have e : (i : Int) + 1 - 1 = (i : Int) := by omega
          rw [e]
          exact atI_nat (by rw [List.getElem?_map, get_some hi 0]; rfl)
        generalize ns.getD i 0 = cell
        refine ⟨_, rfl, ⟨r, _, _, _, rfl, rfl, SqL.of hrow1, at4_2, ⟨_, _, rfl, rfl, .inr ⟨by decide, by decide⟩, _, rfl, _, _, rfl, rfl, _, _, rfl, rfl, .inl ⟨_, rfl, _, _, rfl, rfl, (by show (0 : Int) < 2147483647; decide), ?_⟩⟩⟩⟩
        refine ⟨_, rfl, r, _, 2, 2, rfl, rfl, hrow1, rfl, ?_⟩
        rw [upd_upd]
        refine ⟨_, rfl, _, _, rfl, rfl, ⟨by decide, by decide, by decide⟩, _, _, rfl, rfl, _, rfl, ?_⟩
        by_cases hc : (10 : Int) ^ (18 : Int).toNat ≤ cell
        · refine ifT (A := _) (B := _) (decide_eq_true hc) ?_
          refine ⟨_, rfl, _, rfl, _, _, rfl, rfl, ⟨m0, m1⟩, ?_⟩
          refine ⟨_, rfl, r, _, 3, 3, rfl, rfl, upd_same, rfl, ?_⟩
          have c0 : 0 ≤ cell := Int.le_trans (by decide) hc
          exact ⟨_, rfl, .inl ⟨_, rfl, _, rfl, _, _, rfl, rfl, m0, q _ _ (((KpB.refl H).row hrow).row hrow) ⟨i + 1, _, cell / mm, by rw [upd_same]; rfl, Int.ediv_nonneg c0 (by omega)⟩ (Int.emod_nonneg _ (Int.ne_of_gt m0)) (Int.emod_lt_of_pos _ m0)⟩⟩
        · refine ifF (A := _) (B := _) (decide_eq_false hc) ?_
          exact ⟨_, rfl, .inl ⟨_, rfl, _, rfl, _, _, rfl, rfl, m0, q _ _ ((KpB.refl H).row hrow) ⟨i + 1, _, 0, by rw [upd_same]; rfl, by omega⟩ (Int.emod_nonneg _ (Int.ne_of_gt m0)) (Int.emod_lt_of_pos _ m0)⟩⟩
theorem has_pick (F : FnP K "_law_pick" sPick f fd) (m : mg "_law_pick" = some (.ref f)) (B : Bl mg) (hT : Has P w K mg base "_law_taken" 1 [] (spTaken K)) : Has P w K mg base "_law_pick" 2 [] (spPick K) := by
  refine ⟨f, fd, ["row", "things"], [], m, F.kp, F.bindsN (fun _ _ _ _ _ _ us hl => match us, hl with | [_, _], _ => rfl), .nil, ?_⟩
  refine F.ok scPick (fun vs H Q E h => ?_) (fun cdv A outer s H vs Q E hr h => ⟨_, PSs.nox (
    pss_one (ps_ret (pe_ix (r := rIxL K) ix_list (pv 1) (pe_has hT hr (by decide) (pa_cons (pv 0) (pa_cons (pe_callB call_len_seq rfl B.len PySem.boot_len (pa_cons (pv 1) pa_nil)) pa_nil))) (fun _ _ => rfl)))), ?_⟩)
  · obtain ⟨r, sa, t, xs, rfl, _⟩ := h
    rfl
  · obtain ⟨r, sa, t, xs, rfl, hd, ne, hx, hne, hl, q⟩ := h
    have hpos : 0 < xs.length := List.length_pos_iff.mpr hne
    refine ⟨_, rfl, _, rfl, _, rfl, t, xs, rfl, .inl hx, r, sa, _, rfl, hd, by omega, by omega, fun v H1 z1 ra h0 h1 => ?_⟩
    obtain ⟨j, rfl⟩ := Int.eq_ofNat_of_zero_le h0
    have hj : j < xs.length := by omega
    exact ⟨t, xs, _, xs[j], rfl, rfl, z1.sqL hx ne, atI_nat (List.getElem?_eq_getElem hj), q _ _ z1 ra (List.getElem_mem hj)⟩
theorem has_lturn (F : FnP K "_law_turn" sLTurn f fd) (m : mg "_law_turn" = some (.ref f)) (B : Bl mg) (hT : Has P w K mg base "_law_taken" 1 [] (spTaken K)) : Has P w K mg base "_law_turn" 2 [] (spLTurn K) := by
  refine ⟨f, fd, ["row", "halls"], [], m, F.kp, F.bindsN (fun _ _ _ _ _ _ us hl => match us, hl with | [_, _], _ => rfl), .nil, ?_⟩
  refine F.ok scLTurn (fun vs H Q E h => ?_) (fun cdv A outer s H vs Q E hr h => ⟨_, PSs.nox (
    pss_cons (ps_par (i := 2) (j := 3) (by rfl) scLTurn.nd rfl rfl (by decide) rfl rfl (pa_cons (pe_tup pa_nil) (pa_cons (pe_listRg rfl rfl B.list (prg_1 rfl B.range (pv 1))) pa_nil)) (by rfl))
    (pss_cons (ps_while PassesOwn.never (pt_cmpR (op_neNil hr.units) (pv 3) (pe_lst pa_nil) (nomark _))
      (pss_one (ps_set (i := 2) scLTurn.nd rfl (Or.inl rfl) (pe_op op_catP (pv 2) (pe_tupP (pa_cons (pe_bm PySem.F.plainAttrs_list PySem.F.slot_list_pop PySem.F.type_list_pop mt_popAt (pv 3) (pa_cons (pe_has hT hr (by decide) (pa_cons (pv 0) (pa_cons (pe_callB call_len_seq rfl B.len PySem.boot_len (pa_cons (pv 3) pa_nil)) pa_nil))) pa_nil)) pa_nil))))))
    (pss_one (ps_ret (pv 2))))), ?_⟩)
  · obtain ⟨r, sa, n, rfl, _⟩ := h
    rfl
  · obtain ⟨r, sa, n, rfl, hd, hn1, hn2, q⟩ := h
    obtain ⟨xr, hxr⟩ := hd.1.lst
    refine ⟨Nat.zero_le _, fun e he => ⟨_, rfl, n, rfl, RgOk.of_le (by decide) (by omega) (by decide) (by omega), fun l hl => ⟨_, _, rfl, ?_⟩⟩⟩
    have ner : e ≠ r := fun w => by rw [w, hxr] at he; cases he
    have nel : e ≠ l := fun w => by rw [← w, upd_same] at hl; cases hl
    have hl0 : H l = none := by rw [upd_ne nel.symm] at hl; exact hl
    have nlr : l ≠ r := fun w => by rw [w, hxr] at hl0; cases hl0
    refine ⟨fun m σ H' => ∃ (fv : V) (fs ls : List Int), σ = [some (.ref r), some (.int (n : Int)), some fv, some (.ref l)] ∧ KpB r H H' ∧ RowAt H' r sa ∧ H' l = some (.lst (ls.map V.int)) ∧ TI K H' fv fs ∧ (fs ≠ [] → PT H' fv fs) ∧ (fs ++ ls).Perm (idt n) ∧ m = ls.length,
      ⟨_, .ref e, [], idt n, rfl, ((KpB.refl H).put he ner).put hl0 nlr, (hd.1.put ner).put nlr, by rw [upd_same, rgV_idt], TI.of (by rw [upd_ne nel, upd_same]; rfl), fun h => absurd rfl h, List.Perm.refl _, rfl⟩, ?_⟩
    rintro m σ H' ⟨fv, fs, ls, rfl, z, ra, hl', tf, pf, pm, rfl⟩
    obtain ⟨xr', hxr'⟩ := ra.lst
    refine ⟨_, rfl, Nat.zero_le _, fun p hp => ?_⟩
    have npr : p ≠ r := fun w => by rw [w, hxr'] at hp; cases hp
    have npl : p ≠ l := fun w => by rw [w, hl'] at hp; cases hp
    have z2 := z.put (z.none hp) npr (o := .lst [])
    have zp := (Kp.refl H').new hp (o := .lst [])
    have hl2 : (upd H' p (.lst [])) l = some (.lst (ls.map V.int)) := by rw [upd_ne npl.symm]; exact hl'
    refine ⟨l, p, ls.map V.int, rfl, rfl, SqL.of hl2, SqL.of upd_same, _, rfl, ?_⟩
    by_cases hls : ls = []
    · subst hls
      refine ifF (A := _) (B := _) rfl ?_
      rw [List.append_nil] at pm
      have it := low_perm pm
      exact ⟨_, rfl, q _ _ fs z2 (ra.put npr) (zp.pt (pf (ne_len it hn1))) it⟩
    · refine ifT (A := _) (B := _) (by cases ls with | nil => exact absurd rfl hls | cons _ _ => rfl) ?_
      refine ⟨fun σ' H'' => ∃ m', m' < ls.length ∧ ∃ (fv : V) (fs ls : List Int), σ' = [some (.ref r), some (.int (n : Int)), some fv, some (.ref l)] ∧ KpB r H H'' ∧ RowAt H'' r sa ∧ H'' l = some (.lst (ls.map V.int)) ∧ TI K H'' fv fs ∧ (fs ≠ [] → PT H'' fv fs) ∧ (fs ++ ls).Perm (idt n) ∧ m' = ls.length, fun σ' H'' h => h, ?_⟩
      have lp : 0 < ls.length := List.length_pos_iff.mpr hls
      have ll : ls.length ≤ n := by
        have := pm.length_eq
        rw [List.length_append, idt_len] at this
        omega
      refine ⟨_, rfl, _, rfl, .inl ⟨rfl, _, SqL.of hl2⟩, _, rfl, _, rfl, l, _, rfl, .inl (SqL.of hl2), r, sa, _, rfl, hd.b z2 (ra.put npr), by rw [List.length_map]; omega, by rw [List.length_map]; omega, fun v H3 z3 ra3 v0 v1 => ?_⟩
      rw [List.length_map] at v1
      obtain ⟨j, rfl⟩ := Int.eq_ofNat_of_zero_le v0
      have hj : j < ls.length := by omega
      have hl3 : H3 l = some (.lst (ls.map V.int)) := z3.lst hl2 nlr
      refine ⟨l, _, _, j, .int ls[j], rfl, rfl, hl3, by omega, by omega, by rw [seqIndex_of (by omega) (by rw [List.length_map]; omega)]; rfl, by rw [List.getElem?_map, List.getElem?_eq_getElem hj]; rfl, (by show 1 ≤ sizeLine; decide), fun b o hb ho => ?_⟩
      rw [erase_map] at hb ⊢
      have nbl : b ≠ l := fun w => by rw [w, upd_same] at hb; cases hb
      have hb3 : H3 b = none := by rw [upd_ne nbl] at hb; exact hb
      obtain ⟨xr3, hxr3⟩ := ra3.lst
      have nbr : b ≠ r := fun w => by rw [w, hxr3] at hb3; cases hb3
      have z13 := z2.trans z3
      have t4 : Tup H3 (upd H3 l (.lst ((ls.eraseIdx j).map V.int))) := Tup.put (by rw [hl3]; trivial)
      have t5 : Tup H3 (upd (upd H3 l (.lst ((ls.eraseIdx j).map V.int))) b (.frz o (.tup [.int ls[j]]))) := t4.trans (Tup.new hb)
      have t6 : Tup H' (upd (upd H3 l (.lst ((ls.eraseIdx j).map V.int))) b (.frz o (.tup [.int ls[j]]))) := zp.tup.trans (z3.tup.trans t5)
      obtain ⟨pa, rfl, hpa⟩ := id tf
      have fl : fs.length ≤ n := by
        have := pm.length_eq
        rw [List.length_append, idt_len] at this
        omega
      have zz := (z13.put hl0 nlr (o := .lst ((ls.eraseIdx j).map V.int))).put (z13.none hb3) nbr (o := .frz o (.tup [.int ls[j]]))
      have rr := (ra3.put nlr (o := .lst ((ls.eraseIdx j).map V.int))).put nbr (o := .frz o (.tup [.int ls[j]]))
      have el : (ls.eraseIdx j).length < ls.length := by rw [List.length_eraseIdx_of_lt hj]; omega
      have pm2 : ((fs ++ [ls[j]]) ++ ls.eraseIdx j).Perm (idt n) := by
        rw [List.append_assoc]
        exact ((erase_perm ls j _ (List.getElem?_eq_getElem hj)).append_left fs).trans pm
      refine ⟨pa, b, _, [.int ls[j]], rfl, rfl, t6.sq hpa, .inl (.inr ⟨o, upd_same⟩), by rw [List.length_map, sizeLine_eq]; simp only [List.length_singleton]; omega, by simp, fun hx => ?_, fun hx p3 o3 hp3 ho3 => ?_⟩
      · have hfs : fs = [] := by simpa using hx
        subst hfs
        have pt : PT (upd (upd H3 l (.lst ((ls.eraseIdx j).map V.int))) b (.frz o (.tup [.int ls[j]]))) (.ref b) [ls[j]] := .of upd_same ho
        exact ⟨_, el, .ref b, [ls[j]], ls.eraseIdx j, rfl, zz, rr, by rw [upd_ne nbl.symm, upd_same], pt.ti, fun _ => pt, pm2, rfl⟩
      · have np3 : p3 ≠ l := fun w => by rw [w, upd_ne nbl.symm, upd_same] at hp3; cases hp3
        have p3r : p3 ≠ r := fun w => by
          obtain ⟨x4, hx4⟩ := rr.lst
          rw [w, hx4] at hp3
          cases hp3
        have pt : PT (upd (upd (upd H3 l (.lst ((ls.eraseIdx j).map V.int))) b (.frz o (.tup [.int ls[j]]))) p3 (.frz o3 (.tup (fs.map V.int ++ [.int ls[j]])))) (.ref p3) (fs ++ [ls[j]]) := .of (by rw [upd_same, List.map_append]; rfl) ho3
        exact ⟨_, el, .ref p3, fs ++ [ls[j]], ls.eraseIdx j, rfl, zz.put (zz.none hp3) p3r, rr.put p3r, by rw [upd_ne np3.symm, upd_ne nbl.symm, upd_same], pt.ti, fun _ => pt, pm2, rfl⟩
end
end NS
end
section
set_option maxHeartbeats 4000000
/-! DT: nested values; written ones -/
namespace NS
open PySem PySem.Spec PyProof.Rows L2 ZS
inductive Dt where
  | int (i : Int) | bl (b : Bool) | tup (xs : List Dt) | lst (xs : List Dt)
mutual
/-- v stands for d -/
def IsDt (K : PySem.W.Frag) (H : Hp) : Dt → V → Prop
  | .int i, v => v = .int i
  | .bl b, v => v = .bl b
  | .tup ds, v => ∃ a xs, v = .ref a ∧ SqT K H a xs ∧ IsDts K H ds xs
  | .lst ds, v => ∃ a xs, v = .ref a ∧ SqL K H a xs ∧ IsDts K H ds xs
def IsDts (K : PySem.W.Frag) (H : Hp) : List Dt → List V → Prop
  | [], vs => vs = []
  | d :: ds, vs => ∃ v r, vs = v :: r ∧ IsDt K H d v ∧ IsDts K H ds r
end
mutual
def Dt.depth : Dt → Nat
  | .int _ => 0
  | .bl _ => 0
  | .tup ds => Dt.depths ds + 1
  | .lst ds => Dt.depths ds + 1
def Dt.depths : List Dt → Nat
  | [] => 0
  | d :: ds => max (Dt.depth d) (Dt.depths ds)
end
section
variable {K : PySem.W.Frag} {H H' : Hp}
mutual
theorem IsDt.kp (z : Kp H H') : ∀ (d : Dt) (v : V), IsDt K H d v → IsDt K H' d v
  | .int i, v, h => by unfold IsDt at h ⊢; exact h
  | .bl b, v, h => by unfold IsDt at h ⊢; exact h
  | .tup ds, v, h => by
    unfold IsDt at h ⊢
    obtain ⟨a, xs, e, s, r⟩ := h
    exact ⟨a, xs, e, z.sqT s, IsDts.kp z ds xs r⟩
  | .lst ds, v, h => by
    unfold IsDt at h ⊢
    obtain ⟨a, xs, e, s, r⟩ := h
    exact ⟨a, xs, e, z.sqL s, IsDts.kp z ds xs r⟩
theorem IsDts.kp (z : Kp H H') : ∀ (ds : List Dt) (vs : List V), IsDts K H ds vs → IsDts K H' ds vs
  | [], vs, h => by unfold IsDts at h ⊢; exact h
  | d :: ds, vs, h => by
    unfold IsDts at h ⊢
    obtain ⟨v, r, e, h1, h2⟩ := h
    exact ⟨v, r, e, IsDt.kp z d v h1, IsDts.kp z ds r h2⟩
end
theorem IsDts.len : ∀ {ds : List Dt} {vs : List V}, IsDts K H ds vs → vs.length = ds.length
  | [], vs, h => by unfold IsDts at h; rw [h]; rfl
  | d :: ds, vs, h => by
    unfold IsDts at h
    obtain ⟨v, r, e, _, h2⟩ := h
    rw [e, List.length_cons, List.length_cons, IsDts.len h2]
theorem IsDts.get : ∀ {ds : List Dt} {vs : List V} {i : Nat} {d : Dt}, IsDts K H ds vs → ds[i]? = some d → ∃ v, vs[i]? = some v ∧ IsDt K H d v
  | [], vs, i, d, h, e => by simp at e
  | d0 :: ds, vs, 0, d, h, e => by
    unfold IsDts at h
    obtain ⟨v, r, e1, h1, _⟩ := h
    cases e
    exact ⟨v, by rw [e1]; rfl, h1⟩
  | d0 :: ds, vs, i + 1, d, h, e => by
    unfold IsDts at h
    obtain ⟨v, r, e1, _, h2⟩ := h
    obtain ⟨x, h3, h4⟩ := IsDts.get h2 (i := i) (d := d) e
    exact ⟨x, by rw [e1]; exact h3, h4⟩
theorem IsDts.snoc : ∀ {ds es : List Dt} {vs ws : List V}, IsDts K H ds vs → IsDts K H es ws → IsDts K H (ds ++ es) (vs ++ ws)
  | [], es, vs, ws, h, h' => by unfold IsDts at h; rw [h]; exact h'
  | d :: ds, es, vs, ws, h, h' => by
    unfold IsDts at h
    obtain ⟨v, r, e, h1, h2⟩ := h
    show IsDts K H (d :: (ds ++ es)) (vs ++ ws)
    unfold IsDts
    exact ⟨v, r ++ ws, by rw [e]; rfl, h1, IsDts.snoc h2 h'⟩
theorem dt_ints : ∀ ns : List Int, IsDts K H (ns.map Dt.int) (ns.map V.int)
  | [] => by unfold IsDts; rfl
  | n :: ns => by
    show IsDts K H (Dt.int n :: ns.map Dt.int) (V.int n :: ns.map V.int)
    unfold IsDts
    exact ⟨_, _, rfl, by unfold IsDt; rfl, dt_ints ns⟩
theorem of_dt_ints : ∀ (ns : List Int) (vs : List V), IsDts K H (ns.map Dt.int) vs → vs = ns.map V.int
  | [], vs, h => by simp only [List.map_nil] at h; unfold IsDts at h; rw [h]; rfl
  | n :: ns, vs, h => by
    simp only [List.map_cons] at h
    unfold IsDts at h
    obtain ⟨v, r, e, h1, h2⟩ := h
    unfold IsDt at h1
    rw [e, h1, of_dt_ints ns r h2, List.map_cons]
abbrev dT (t : List Int) : Dt := .tup (t.map Dt.int)
theorem TI.dt {v : V} {k : List Int} (h : TI K H v k) : IsDt K H (dT k) v := by
  obtain ⟨a, e, s⟩ := h
  unfold IsDt
  exact ⟨a, _, e, s, dt_ints k⟩
theorem dt_ti {v : V} {k : List Int} (h : IsDt K H (dT k) v) : TI K H v k := by
  unfold IsDt at h
  obtain ⟨a, xs, e, s, r⟩ := h
  rw [of_dt_ints k xs r] at s
  exact ⟨a, e, s⟩
end
section
variable {X : Cx}
end
end NS
end
section
set_option maxHeartbeats 4000000
/-! L2x: circle, stayers, undone, then, members of the law -/
namespace NS
open PySem PySem.Spec PyProof.Rows L2 ZS
def circ (n s : Nat) : List Int := (List.range n).map fun (i : Nat) => ((i : Int) + (s : Int)) % (n : Int)
theorem pr_pt {H H' : Hp} (z : Tup H H') {vs : List V} {as : List (List Int)} (h : Paired (PT H) vs as) : Paired (PT H') vs as := h.mono fun _ _ q => NS.Tup.pt z q
section
variable {P : Program} {w : World} {K : PySem.W.Frag} {mg : Str → Option Value} {base : Heap} {f : Addr} {fd : FuncData}
end
end NS
end
section
set_option maxHeartbeats 4000000
/-! L3: the law's houses -/
namespace NS
open PySem PySem.Spec PyProof.Rows L2 ZS
def kn0 : List (Nat × List (List Int)) := [(2, [[1, 0]]), (3, [[1, 2, 0]]), (3, [[1, 2, 0], [0, 2, 1]])]
def kn1 : List (Nat × List (List Int)) := [(4, [circ 4 1]), (4, [[1, 0, 3, 2], [2, 3, 0, 1]])]
def kn2 : List (Nat × List (List Int)) := [(4, [[1, 2, 0, 3], [1, 0, 3, 2]]), (4, [circ 4 1, [0, 3, 2, 1]])]
def kn3 : List (Nat × List (List Int)) := [(4, [[1, 2, 3, 0], [1, 0, 2, 3]])]
def kn4 : List (Nat × List (List Int)) := [(5, [circ 5 1]), (5, [circ 5 1, [0, 4, 3, 2, 1]])]
def kn5 : List (Nat × List (List Int)) := [(5, [circ 5 1, [0, 2, 4, 1, 3]])]
def kn6 : List (Nat × List (List Int)) := [(5, [[1, 2, 0, 3, 4], [0, 1, 3, 4, 2]]), (6, [circ 6 1])]
def kn7 : List (Nat × List (List Int)) := [(6, [circ 6 1, [0, 5, 4, 3, 2, 1]])]
def kn8 : List (Nat × List (List Int)) := [(6, [[1, 2, 0, 4, 5, 3], [3, 5, 4, 0, 2, 1]]), (6, [[1, 2, 3, 4, 0, 5], [5, 4, 2, 3, 1, 0]])]
def kn9 : List (Nat × List (List Int)) := [(7, [circ 7 1, [0, 2, 4, 6, 1, 3, 5]])]
def kn10 : List (Nat × List (List Int)) := [(7, [circ 7 1, [0, 3, 6, 2, 5, 1, 4]]), (7, [circ 7 1])]
def kn11 : List (Nat × List (List Int)) := [(8, [circ 8 1]), (8, [[1, 0, 3, 2, 5, 4, 7, 6], [0, 2, 4, 6, 3, 1, 7, 5]])]
def kn12 : List (Nat × List (List Int)) := [(8, [[1, 2, 3, 0, 5, 6, 7, 4], [4, 7, 6, 5, 2, 1, 0, 3]])]
def kn13 : List (Nat × List (List Int)) := [(8, [circ 8 1, [0, 7, 6, 5, 4, 3, 2, 1]])]
def known : List (Nat × List (List Int)) := (((((((((((((kn0 ++ kn1) ++ kn2) ++ kn3) ++ kn4) ++ kn5) ++ kn6) ++ kn7) ++ kn8) ++ kn9) ++ kn10) ++ kn11) ++ kn12) ++ kn13)
abbrev houseD (p : Nat × List (List Int)) : Dt := .tup [.int p.1, .tup (p.2.map dT)]
section
variable {P : Program} {w : World} {K : PySem.W.Frag} {mg : Str → Option Value} {base : Heap} {f : Addr} {fd : FuncData}
end
end NS
end
section
set_option maxHeartbeats 4000000
/-! L4: the law's house -/
namespace NS
open PySem PySem.Spec PyProof.Rows L2 ZS
theorem dts_pr {K : PySem.W.Frag} {H : Hp} : ∀ (ts : List (List Int)) (xs : List V), IsDts K H (ts.map dT) xs → Paired (TI K H) xs ts
  | [], xs, h => by simp only [List.map_nil] at h; unfold IsDts at h; rw [h]; exact .nil
  | t :: ts, xs, h => by
    simp only [List.map_cons] at h
    unfold IsDts at h
    obtain ⟨v, r, e, h1, h2⟩ := h
    rw [e]
    exact .cons (dt_ti h1) (dts_pr ts r h2)
theorem house_dt {K : PySem.W.Frag} {H : Hp} {p : Nat × List (List Int)} {v : V} (h : IsDt K H (houseD p) v) : ∃ a tb xs, v = .ref a ∧ SqT K H a [.int p.1, .ref tb] ∧ SqT K H tb xs ∧ Paired (TI K H) xs p.2 := by
  unfold houseD at h
  unfold IsDt at h
  obtain ⟨a, us, e, s, h⟩ := h
  unfold IsDts at h
  obtain ⟨v1, r1, e1, h1, h⟩ := h
  unfold IsDts at h
  obtain ⟨v2, r2, e2, h2, h⟩ := h
  unfold IsDts at h
  unfold IsDt at h1 h2
  obtain ⟨tb, xs, e3, s3, h3⟩ := h2
  subst e1 e2 e3 h h1
  exact ⟨a, tb, xs, e, s, s3, dts_pr _ _ h3⟩
section
variable {P : Program} {w : World} {K : PySem.W.Frag} {mg : Str → Option Value} {base : Heap} {f : Addr} {fd : FuncData}
mutual
theorem IsDt.kpb {K : PySem.W.Frag} {H H' : Hp} {r : Addr} (z : KpB r H H') : ∀ (p : Nat × List (List Int)) (v : V), IsDt K H (houseD p) v → IsDt K H' (houseD p) v
  | p, v, h => by
    obtain ⟨a, tb, xs, e, h1, h2, h3⟩ := house_dt h
    have h3' : Paired (TI K H') xs p.2 := h3.mono fun _ _ q => z.tup.ti q
    have go : ∀ (ts : List (List Int)) (xs : List V), Paired (TI K H') xs ts → IsDts K H' (ts.map dT) xs := fun ts xs h => by
      induction h with
      | nil => simp only [List.map_nil]; unfold IsDts; rfl
      | cons p _ ih =>
        simp only [List.map_cons]
        unfold IsDts
        exact ⟨_, _, rfl, NS.TI.dt p, ih⟩
    unfold houseD
    unfold IsDt
    refine ⟨a, [.int p.1, .ref tb], e, z.tup.sq h1, ?_⟩
    unfold IsDts
    refine ⟨_, _, rfl, by unfold IsDt; rfl, ?_⟩
    unfold IsDts
    refine ⟨_, _, rfl, ?_, by unfold IsDts; rfl⟩
    unfold IsDt
    exact ⟨tb, xs, rfl, z.tup.sq h2, go _ _ h3'⟩
end
end
end NS
end
section
set_option maxHeartbeats 4000000
/-! L5: alike -/
namespace NS
open PySem PySem.Spec PyProof.Rows L2 ZS
theorem scAlike : FnScope ["found", "due", "k"] ["found", "due"] (defScope sAlike) := ⟨rfl, rfl, rfl, by decide +kernel, rfl, by decide +kernel, by decide +kernel⟩
mutual
def Dt.small : Dt → Prop
  | .int _ => True
  | .bl _ => True
  | .tup ds => ds.length ≤ 10000 ∧ Dt.smalls ds
  | .lst ds => ds.length ≤ 10000 ∧ Dt.smalls ds
def Dt.smalls : List Dt → Prop
  | [] => True
  | d :: ds => Dt.small d ∧ Dt.smalls ds
end
theorem smalls_get : ∀ {ds : List Dt} {i : Nat} {d : Dt}, Dt.smalls ds → ds[i]? = some d → Dt.small d
  | [], i, d, h, e => by simp at e
  | d0 :: ds, 0, d, h, e => by
    unfold Dt.smalls at h
    cases e
    exact h.1
  | d0 :: ds, i + 1, d, h, e => by
    unfold Dt.smalls at h
    exact smalls_get h.2 (i := i) e
theorem depths_get : ∀ {ds : List Dt} {i : Nat} {d : Dt}, ds[i]? = some d → d.depth ≤ Dt.depths ds
  | [], i, d, e => by simp at e
  | d0 :: ds, 0, d, e => by
    unfold Dt.depths
    cases e
    omega
  | d0 :: ds, i + 1, d, e => by
    unfold Dt.depths
    have := depths_get (ds := ds) (i := i) (d := d) e
    omega
def spAlike (K : PySem.W.Frag) (n : Nat) : Sp := fun vs H Q _ => ∃ (u v : V) (d : Dt), vs = [u, v] ∧ d.depth ≤ n ∧ d.small ∧ IsDt K H d u ∧ IsDt K H d v ∧ ∀ H', Kp H H' → Q (.bl true) H'
theorem tyx_L {K : PySem.W.Frag} {H : Hp} {a : Addr} {xs : List V} (h : SqL K H a xs) : TyX K H (.ref a) (.type "list") := by
  rcases h with (h | ⟨o, h⟩) | ⟨o, _, _, h1, h2, _⟩
  · exact .base (.lst h)
  · exact .base (.frz h)
  · exact .kList h1 h2
theorem any_tl {K : PySem.W.Frag} (t : String) (b : Bool) (h1 : kitB t "tuple" = some b) (h2 : b = false → kitB t "list" = some false) : PySem.W.kitAny K (.type t) [.type "tuple", .type "list"] = some b := by
  refine kitAny_cons (kit_ty h1) (fun e => ?_) (fun e => e)
  subst e
  exact kitAny_cons (kit_ty (h2 rfl)) (fun _ => kitAny_nil) (fun e => by cases e)
theorem any_l {K : PySem.W.Frag} : PySem.W.kitAny K (.type "list") [.type "tuple", .type "list"] = some true :=
  kitAny_cons (b := false) (kit_ty (by decide +kernel)) (fun _ => kitAny_cons (b := true) (kit_ty (by decide +kernel)) (fun e => by cases e) (fun _ => rfl)) (fun e => by cases e)
/-- an int or a truth value -/
structure Fl (K : PySem.W.Frag) (x : V) (t : String) (bb : Bool) : Prop where
  ty : ∀ H, TyX K H x (.type t)
  k1 : kitB t "tuple" = some false
  k2 : kitB t "list" = some false
  k3 : kitB t "str" = some false
  k4 : kitB t "int" = some true
  k5 : kitB t "bool" = some bb
  nn : x ≠ .non
  sc : scal x x = true
theorem fl_int {K : PySem.W.Frag} (i : Int) : Fl K (.int i) "int" false := ⟨fun _ => .base (.int i), by decide +kernel, by decide +kernel, by decide +kernel, by decide +kernel, by decide +kernel, (fun e => by cases e), rfl⟩
theorem fl_bl {K : PySem.W.Frag} (b : Bool) : Fl K (.bl b) "bool" true := ⟨fun _ => .base (.bl b), by decide +kernel, by decide +kernel, by decide +kernel, by decide +kernel, by decide +kernel, (fun e => by cases e), rfl⟩
/-- a list (k) or a tuple -/
def SqB (K : PySem.W.Frag) (H : Hp) (k : Bool) (a : Addr) (xs : List V) : Prop := (k = true ∧ SqL K H a xs) ∨ (k = false ∧ SqT K H a xs)
abbrev tyB (k : Bool) : String := if k then "list" else "tuple"
theorem Kp.sqB {K : PySem.W.Frag} {H H' : Hp} (z : Kp H H') {k : Bool} {a : Addr} {xs : List V} (h : SqB K H k a xs) : SqB K H' k a xs := h.elim (fun h => .inl ⟨h.1, z.sqL h.2⟩) fun h => .inr ⟨h.1, z.sqT h.2⟩
theorem SqB.ty {K : PySem.W.Frag} {H : Hp} {k : Bool} {a : Addr} {xs : List V} (h : SqB K H k a xs) : TyX K H (.ref a) (.type (tyB k)) := by
  rcases h with ⟨rfl, h⟩ | ⟨rfl, h⟩
  · exact tyx_L h
  · exact tyx_T h
theorem SqB.or {K : PySem.W.Frag} {H : Hp} {k : Bool} {a : Addr} {xs : List V} (h : SqB K H k a xs) : SqL K H a xs ∨ SqT K H a xs := h.elim (fun h => .inl h.2) fun h => .inr h.2
theorem SqB.ix {K : PySem.W.Frag} {H : Hp} {k : Bool} {a : Addr} {xs : List V} (h : SqB K H k a xs) {i : Int} {v : V} {Q : VK} (e : atI xs i = some v) (q : Q v H) : rIx K (.ref a) (.int i) H Q :=
  h.elim (fun h => .inl ⟨a, xs, i, v, rfl, rfl, h.2, e, q⟩) fun h => .inr (.inl ⟨a, xs, i, v, rfl, rfl, h.2, e, q⟩)
theorem any_B {K : PySem.W.Frag} (k : Bool) : PySem.W.kitAny K (.type (tyB k)) [.type "tuple", .type "list"] = some true := by
  cases k with
  | true => exact any_l
  | false => exact any_tl "tuple" true (by decide +kernel) (fun e => by cases e)
theorem one_B {K : PySem.W.Frag} (k : Bool) : PySem.W.kitOne K (.type (tyB k)) (.type "list") = some k := by
  cases k with
  | true => exact kit_ty (by decide +kernel)
  | false => exact kit_ty (by decide +kernel)
theorem dt_cases {K : PySem.W.Frag} {H : Hp} {d : Dt} {u v : V} (hu : IsDt K H d u) (hv : IsDt K H d v) : (∃ t bb, u = v ∧ Fl K v t bb) ∨ ∃ k ds pu us pv ws, u = .ref pu ∧ v = .ref pv ∧ SqB K H k pu us ∧ SqB K H k pv ws ∧ IsDts K H ds us ∧ IsDts K H ds ws ∧ d.depth = Dt.depths ds + 1 ∧ (d.small → ds.length ≤ 10000 ∧ Dt.smalls ds) := by
  cases d with
  | int i => unfold IsDt at hu hv; subst hu hv; exact .inl ⟨_, _, rfl, fl_int i⟩
  | bl b => unfold IsDt at hu hv; subst hu hv; exact .inl ⟨_, _, rfl, fl_bl b⟩
  | tup ds =>
    unfold IsDt at hu hv
    obtain ⟨pu, us, rfl, su, iu⟩ := hu
    obtain ⟨pv', ws, rfl, sv, iv⟩ := hv
    exact .inr ⟨false, ds, pu, us, pv', ws, rfl, rfl, .inr ⟨rfl, su⟩, .inr ⟨rfl, sv⟩, iu, iv, by rw [Dt.depth], fun h => by unfold Dt.small at h; exact h⟩
  | lst ds =>
    unfold IsDt at hu hv
    obtain ⟨pu, us, rfl, su, iu⟩ := hu
    obtain ⟨pv', ws, rfl, sv, iv⟩ := hv
    exact .inr ⟨true, ds, pu, us, pv', ws, rfl, rfl, .inl ⟨rfl, su⟩, .inl ⟨rfl, sv⟩, iu, iv, by rw [Dt.depth], fun h => by unfold Dt.small at h; exact h⟩
section
variable {P : Program} {w : World} {K : PySem.W.Frag} {mg : Str → Option Value} {base : Heap} {f : Addr} {fd : FuncData}
abbrev clsTL : List V := [.ty "tuple", .ty "list"]
theorem cls_tl : Paired ClsV clsTL [.type "tuple", .type "list"] := .cons (.ty _) (.cons (.ty _) .nil)
theorem ok_alike0 (F : FnP K "_law_alike" sAlike f fd) (B : Bl mg) : FnOk P w K mg base CX0 1 f fd ["found", "due"] (spAlike K 0) := by
  refine F.ok scAlike (fun vs H Q E h => ?_) (fun cdv A outer s H vs Q E hr h => ⟨_, PSs.nox (
    pss_cons (ps_if (pt_val (pe_callB call_isiT rfl B.isinstance PyProof.Rows.boot_isinstance (pa_cons (pv 1) (pa_cons (pe_tup (pa_cons (pe_bltn (v := .ty "tuple") rfl B.tuple PyProof.Rows.boot_tuple rfl) (pa_cons (pe_bltn (v := .ty "list") rfl B.list PyProof.Rows.boot_list rfl) pa_nil))) pa_nil)))) pss_never pss_nil)
    (pss_cons (ps_if (PW.pt (pw_or (pt_cmp (pc_isN (pv 1))) (pw_or1 (pt_val (pe_callB call_isi rfl B.isinstance PyProof.Rows.boot_isinstance (pa_cons (pv 1) (pa_cons (pe_bltn (v := .ty "str") rfl B.str PyProof.Rows.boot_str rfl) pa_nil))))))) pss_never pss_nil)
    (pss_one (ps_ret (pe_and (pe_callB call_isi rfl B.isinstance PyProof.Rows.boot_isinstance (pa_cons (pv 0) (pa_cons (pe_bltn (v := .ty "int") rfl B.int PyProof.Rows.boot_int rfl) pa_nil)))
      (pe_and (pe_cmpR op_eq (pe_callB call_isi rfl B.isinstance PyProof.Rows.boot_isinstance (pa_cons (pv 0) (pa_cons (pe_bltn (v := .ty "bool") rfl B.bool PyProof.Rows.boot_bool rfl) pa_nil))) (pe_callB call_isi rfl B.isinstance PyProof.Rows.boot_isinstance (pa_cons (pv 1) (pa_cons (pe_bltn (v := .ty "bool") rfl B.bool PyProof.Rows.boot_bool rfl) pa_nil))) (nomark _))
      (pe_one (pe_cmpR op_eq (pv 0) (pv 1) (nomark _))))))))), ?_⟩)
  · obtain ⟨u, v, d, rfl, _⟩ := h
    rfl
  · obtain ⟨u, v, d, rfl, hd, hsm, hu, hv, q⟩ := h
    rcases dt_cases hu hv with ⟨t, bb, rfl, fl⟩ | ⟨k, ds, pu, us, pw, ws, rfl, rfl, su, sw, iu, iw, ed, es⟩
    · refine ⟨_, rfl, (by show 2 ≤ sizeLine; decide), fun p hp => ⟨_, p, clsTL, _, _, false, rfl, upd_same, cls_tl, fl.ty _, any_tl t false fl.k1 (fun _ => fl.k2), _, rfl, ifF (A := _) (B := _) rfl ?_⟩⟩
      refine ⟨_, rfl, _, rfl, ifF (A := _) (B := _) (decide_eq_false fl.nn) ⟨_, rfl, _, _, _, _, false, rfl, .ty "str", fl.ty _, kit_ty fl.k3, _, rfl, ifF (A := _) (B := _) rfl ?_⟩⟩
      refine ⟨_, rfl, _, _, _, _, true, rfl, .ty "int", fl.ty _, kit_ty fl.k4, _, rfl, ifT (A := _) (B := _) rfl ?_⟩
      refine ⟨_, rfl, _, _, _, _, bb, rfl, .ty "bool", fl.ty _, kit_ty fl.k5, _, rfl, _, _, _, _, bb, rfl, .ty "bool", fl.ty _, kit_ty fl.k5, rfl, _, rfl, ifT (A := _) (B := _) (decide_eq_true rfl) ?_⟩
      refine ⟨_, rfl, _, rfl, fl.sc, ?_⟩
      rw [decide_eq_true rfl]
      exact q _ ((Kp.refl H).new hp)
    · omega
theorem ok_alikeS {n j : Nat} (F : FnP K "_law_alike" sAlike f fd) (B : Bl mg) (hA : Has P w K mg base "_law_alike" j [] (spAlike K n)) : FnOk P w K mg base CX0 (j + 1) f fd ["found", "due"] (spAlike K (n + 1)) := by
  refine F.ok scAlike (fun vs H Q E h => ?_) (fun cdv A outer s H vs Q E hr h => ⟨_, PSs.nox (
    pss_cons (ps_if (pt_val (pe_callB call_isiT rfl B.isinstance PyProof.Rows.boot_isinstance (pa_cons (pv 1) (pa_cons (pe_tup (pa_cons (pe_bltn (v := .ty "tuple") rfl B.tuple PyProof.Rows.boot_tuple rfl) (pa_cons (pe_bltn (v := .ty "list") rfl B.list PyProof.Rows.boot_list rfl) pa_nil))) pa_nil))))
      (pss_cons (ps_if (PW.pt (pw_or (pt_not (pt_val (pe_callB call_isiT rfl B.isinstance PyProof.Rows.boot_isinstance (pa_cons (pv 0) (pa_cons (pe_tup (pa_cons (pe_bltn (v := .ty "tuple") rfl B.tuple PyProof.Rows.boot_tuple rfl) (pa_cons (pe_bltn (v := .ty "list") rfl B.list PyProof.Rows.boot_list rfl) pa_nil))) pa_nil)))))
        (pw_or1 (pt_cmpR op_ne (pe_callB call_isi rfl B.isinstance PyProof.Rows.boot_isinstance (pa_cons (pv 0) (pa_cons (pe_bltn (v := .ty "list") rfl B.list PyProof.Rows.boot_list rfl) pa_nil))) (pe_callB call_isi rfl B.isinstance PyProof.Rows.boot_isinstance (pa_cons (pv 1) (pa_cons (pe_bltn (v := .ty "list") rfl B.list PyProof.Rows.boot_list rfl) pa_nil))) (nomark _))))) pss_never pss_nil)
      (pss_cons (ps_if (pt_cmpR op_ne (pe_callB call_len_seq rfl B.len PySem.boot_len (pa_cons (pv 0) pa_nil)) (pe_callB call_len_seq rfl B.len PySem.boot_len (pa_cons (pv 1) pa_nil)) (nomark _)) pss_never pss_nil)
      (pss_one (ps_ret (pe_cmpR (op_eqNil hr.units) (pe_lc (own := [("k", 2)]) (g := gName 2) (tt := tNot (tB (tCall (spAlike K n) [] E0 (tCons (tOp (rIx K) (tVar 0) (tVar 2)) (tCons (tOp (rIx K) (tVar 1) (tVar 2)) tNil))))) rfl scAlike.nd (pi_range1 rfl B.range (pa_cons (pe_callB call_len_seq rfl B.len PySem.boot_len (pa_cons (pv 1) pa_nil)) pa_nil)) (blkOk_by (N := ["found", "due", "k"]) (sc := defScope sAlike) (by decide +kernel))
        (fun _ _ _ _ _ => pg_name (i := 2) scAlike.nd rfl (Or.inl rfl)) (fun _ _ _ _ _ => pts_one (pt_not (pt_val (pe_has hA hr (Nat.le_refl _) (pa_cons (pe_ix (r := rIx K) ix_seq (pv 0) (pv 2) (fun _ _ => rfl)) (pa_cons (pe_ix (r := rIx K) ix_seq (pv 1) (pv 2) (fun _ _ => rfl)) pa_nil)))))) (fun _ _ _ _ _ => pv 2)) (pe_lst pa_nil) (nomark _)))))) pss_nil)
    (pss_cons (ps_if (PW.pt (pw_or (pt_cmp (pc_isN (pv 1))) (pw_or1 (pt_val (pe_callB call_isi rfl B.isinstance PyProof.Rows.boot_isinstance (pa_cons (pv 1) (pa_cons (pe_bltn (v := .ty "str") rfl B.str PyProof.Rows.boot_str rfl) pa_nil))))))) pss_never pss_nil)
    (pss_one (ps_ret (pe_and (pe_callB call_isi rfl B.isinstance PyProof.Rows.boot_isinstance (pa_cons (pv 0) (pa_cons (pe_bltn (v := .ty "int") rfl B.int PyProof.Rows.boot_int rfl) pa_nil)))
      (pe_and (pe_cmpR op_eq (pe_callB call_isi rfl B.isinstance PyProof.Rows.boot_isinstance (pa_cons (pv 0) (pa_cons (pe_bltn (v := .ty "bool") rfl B.bool PyProof.Rows.boot_bool rfl) pa_nil))) (pe_callB call_isi rfl B.isinstance PyProof.Rows.boot_isinstance (pa_cons (pv 1) (pa_cons (pe_bltn (v := .ty "bool") rfl B.bool PyProof.Rows.boot_bool rfl) pa_nil))) (nomark _))
      (pe_one (pe_cmpR op_eq (pv 0) (pv 1) (nomark _))))))))), ?_⟩)
  · obtain ⟨u, v, d, rfl, _⟩ := h
    rfl
  · obtain ⟨u, v, d, rfl, hd, hsm, hu, hv, q⟩ := h
    rcases dt_cases hu hv with ⟨t, bb, rfl, fl⟩ | ⟨k, ds, pu, us, pw, ws, rfl, rfl, su, sw, iu, iw, ed, es⟩
    · refine ⟨_, rfl, (by show 2 ≤ sizeLine; decide), fun p hp => ⟨_, p, clsTL, _, _, false, rfl, upd_same, cls_tl, fl.ty _, any_tl t false fl.k1 (fun _ => fl.k2), _, rfl, ifF (A := _) (B := _) rfl ?_⟩⟩
      refine ⟨_, rfl, _, rfl, ifF (A := _) (B := _) (decide_eq_false fl.nn) ⟨_, rfl, _, _, _, _, false, rfl, .ty "str", fl.ty _, kit_ty fl.k3, _, rfl, ifF (A := _) (B := _) rfl ?_⟩⟩
      refine ⟨_, rfl, _, _, _, _, true, rfl, .ty "int", fl.ty _, kit_ty fl.k4, _, rfl, ifT (A := _) (B := _) rfl ?_⟩
      refine ⟨_, rfl, _, _, _, _, bb, rfl, .ty "bool", fl.ty _, kit_ty fl.k5, _, rfl, _, _, _, _, bb, rfl, .ty "bool", fl.ty _, kit_ty fl.k5, rfl, _, rfl, ifT (A := _) (B := _) (decide_eq_true rfl) ?_⟩
      refine ⟨_, rfl, _, rfl, fl.sc, ?_⟩
      rw [decide_eq_true rfl]
      exact q _ ((Kp.refl H).new hp)
    · obtain ⟨l5, sm⟩ := es hsm
      have lu := iu.len
      have lw := iw.len
      refine ⟨_, rfl, (by show 2 ≤ sizeLine; decide), fun p hp => ?_⟩
      have z1 := (Kp.refl H).new hp (o := .tup clsTL)
      refine ⟨_, p, clsTL, _, _, true, rfl, upd_same, cls_tl, (z1.sqB sw).ty, any_B k, _, rfl, ifT (A := _) (B := _) rfl ?_⟩
      refine ⟨_, rfl, (by show 2 ≤ sizeLine; decide), fun p2 hp2 => ?_⟩
      have z2 := z1.new hp2 (o := .tup clsTL)
      have su2 := z2.sqB su
      have sw2 := z2.sqB sw
      refine ⟨_, p2, clsTL, _, _, true, rfl, upd_same, cls_tl, su2.ty, any_B k, _, rfl, ifF (A := _) (B := _) rfl ?_⟩
      refine ⟨_, rfl, _, _, _, _, k, rfl, .ty "list", su2.ty, one_B k, _, rfl, _, _, _, _, k, rfl, .ty "list", sw2.ty, one_B k, rfl, _, rfl, ifF (A := _) (B := _) (by simp) ?_⟩
      refine ⟨_, rfl, pu, us, rfl, su2.or, _, rfl, pw, ws, rfl, sw2.or, rfl, _, rfl, ifF (A := _) (B := _) (by rw [lu, lw]; simp) ?_⟩
      refine ⟨_, rfl, pw, ws, rfl, sw2.or, (ws.length : Int), rfl, by omega, by omega, fun D hD => ?_⟩
      show ∃ W, _
      refine lcG (J := Itr 0 ws.length) (Wlk.rng 0 ws.length) hD (by rw [sizeLine_eq]; omega) (fun _ => false) (fun _ _ _ => True) (fun _ _ _ _ _ _ => trivial) (fun i x H' Q1 Q0 hi z hx q1 q0 => ?_) (fun ys H' z hD' hpr => ?_)
      · subst hx
        rw [Int.zero_add]
        have hi' : i < ds.length := by omega
        have e := List.getElem?_eq_getElem hi'
        have zz := z2.trans z
        obtain ⟨u1, hu1, du1⟩ := IsDts.get (IsDts.kp zz ds us iu) e
        obtain ⟨w1, hw1, dw1⟩ := IsDts.get (IsDts.kp zz ds ws iw) e
        have dd := depths_get e
        refine ⟨rfl, _, rfl, _, rfl, (z.sqB su2).ix (atI_nat hu1) ⟨_, rfl, _, rfl, (z.sqB sw2).ix (atI_nat hw1) ⟨u1, w1, ds[i], rfl, by omega, smalls_get sm e, du1, dw1, fun H5 z5 => ⟨_, rfl, ?_⟩⟩⟩⟩
        exact ifF (A := tVar 2 _ _ Q1) rfl (q0 _ rfl z5)
      · have ey : ys = [] := by
          have := hpr.length
          rw [show (List.range ws.length).filter (fun _ => false) = [] from by simp] at this
          exact List.length_eq_zero_iff.mp this.symm
        subst ey
        refine ⟨Nat.zero_le _, fun e he => ?_⟩
        have ze := z.new he (o := .lst [])
        have nD : D ≠ e := fun w => by rw [w, he] at hD'; cases hD'
        exact ⟨D, e, [], rfl, rfl, SqL.of (by rw [upd_ne nD]; exact hD'), SqL.of upd_same, q _ (z2.trans ze)⟩
end
end NS
end
section
set_option maxHeartbeats 4000000
/-! L6: the law's lots of pairs -/
namespace NS
open PySem PySem.Spec PyProof.Rows L2 ZS
theorem has_alike {P : Program} {w : World} {K : PySem.W.Frag} {mg : Str → Option Value} {base : Heap} {f : Addr} {fd : FuncData} (F : FnP K "_law_alike" sAlike f fd) (m : mg "_law_alike" = some (.ref f)) (B : Bl mg) : ∀ n, Has P w K mg base "_law_alike" (n + 1) [] (spAlike K n)
  | 0 => ⟨f, fd, ["found", "due"], [], m, F.kp, F.bindsN (fun _ _ _ _ _ _ us hl => match us, hl with | [_, _], _ => rfl), .nil, ok_alike0 F B⟩
  | n + 1 => ⟨f, fd, ["found", "due"], [], m, F.kp, F.bindsN (fun _ _ _ _ _ _ us hl => match us, hl with | [_, _], _ => rfl), .nil, ok_alikeS F B (has_alike F m B n)⟩
/-- all pairs of halls -/
def G2 (n : Nat) : List (List Int) := (grid n n).map pr2
theorem mem_grid {n m : Nat} {p : Nat × Nat} : p ∈ grid n m ↔ p.1 < n ∧ p.2 < m := by
  unfold grid
  rw [List.mem_flatMap]
  constructor
  · rintro ⟨i, hi, e⟩
    obtain ⟨j, hj, rfl⟩ := List.mem_map.mp e
    exact ⟨List.mem_range.mp hi, List.mem_range.mp hj⟩
  · rintro ⟨h1, h2⟩
    exact ⟨p.1, List.mem_range.mpr h1, List.mem_map.mpr ⟨p.2, List.mem_range.mpr h2, rfl⟩⟩
theorem mem_g2 {n : Nat} {b : List Int} : b ∈ G2 n ↔ b.length = 2 ∧ Low n b := by
  unfold G2
  rw [List.mem_map]
  constructor
  · rintro ⟨p, hp, rfl⟩
    have h := mem_grid.mp hp
    refine ⟨rfl, fun x hx => ?_⟩
    rcases List.mem_cons.mp hx with e | e
    · rw [e]; show (0 : Int) ≤ (p.1 : Int) ∧ (p.1 : Int) < n; omega
    · rw [List.mem_singleton.mp e]; show (0 : Int) ≤ (p.2 : Int) ∧ (p.2 : Int) < n; omega
  · rintro ⟨hb, lo⟩
    match b, hb with
    | [x, y], _ =>
      have hx := lo x (by simp)
      have hy := lo y (by simp)
      refine ⟨(x.toNat, y.toNat), mem_grid.mpr ⟨by show x.toNat < n; omega, by show y.toNat < n; omega⟩, ?_⟩
      show [((x.toNat : Nat) : Int), ((y.toNat : Nat) : Int)] = [x, y]
      rw [Int.toNat_of_nonneg hx.1, Int.toNat_of_nonneg hy.1]
theorem g2_len (n : Nat) : (G2 n).length = n * n := by unfold G2; rw [List.length_map, grid_len]
theorem comp_low {n : Nat} {b t : List Int} (hb : Low n b) (ht : IsT n t) : Low n (comp b t) := fun x hx => by
  obtain ⟨k, hk, rfl⟩ := List.mem_map.mp hx
  have hk' := hb k hk
  exact ht.low _ (mem_getD (by rw [ht.len]; omega) 0)
theorem g2_cl {n : Nat} {ts : List (List Int)} (hi : ∀ t ∈ ts, IsT n t) : ∀ b ∈ G2 n, ∀ t ∈ ts, comp b t ∈ G2 n := fun b hb t ht => by
  obtain ⟨l2, lo⟩ := mem_g2.mp hb
  exact mem_g2.mpr ⟨by rw [comp_len, l2], comp_low lo (hi t ht)⟩
theorem comp_inj {n : Nat} {t : List Int} (ht : IsT n t) : ∀ {a b : List Int}, Low n a → Low n b → comp a t = comp b t → a = b
  | [], [], _, _, _ => rfl
  | [], y :: b, _, _, e => by cases e
  | x :: a, [], _, _, e => by cases e
  | x :: a, y :: b, ha, hb, e => by
    have e1 : t.getD x.toNat 0 :: comp a t = t.getD y.toNat 0 :: comp b t := e
    injection e1 with h1 h2
    have hx := ha x (List.mem_cons_self ..)
    have hy := hb y (List.mem_cons_self ..)
    have := ht.inj (i := x.toNat) (j := y.toNat) (by omega) (by omega) (by unfold at'; rw [h1])
    have exy : x = y := by omega
    rw [exy, comp_inj ht (fun z hz => ha z (List.mem_cons_of_mem _ hz)) (fun z hz => hb z (List.mem_cons_of_mem _ hz)) h2]
theorem g2_sym {n : Nat} {ts : List (List Int)} (hi : ∀ t ∈ ts, IsT n t) {p x : List Int} (hp : p ∈ G2 n) (h : Rch comp ts p x) : Rch comp ts x p :=
  h.symm (g2_cl hi) (fun t ht a ha b hb e => comp_inj (hi t ht) (mem_g2.mp ha).2 (mem_g2.mp hb).2 e) hp
/-- lots of pairs, each from its first one -/
structure PLots (n : Nat) (ts : List (List Int)) (LL : List (List (List Int))) : Prop where
  hd : ∀ lot ∈ LL, ∃ p rest, lot = p :: rest ∧ p ∈ G2 n ∧ lot.Nodup ∧ ∀ x, x ∈ lot ↔ Rch comp ts p x
  dj : LL.Pairwise fun l1 l2 => ∀ x ∈ l1, x ∉ l2
def LotsAt (K : PySem.W.Frag) (H : Hp) (fo : Addr) (us : List V) (LL : List (List (List Int))) : Prop := Paired (fun v lot => ∃ a ys, v = .ref a ∧ a ≠ fo ∧ H a = some (.lst ys) ∧ Paired (TI K H) ys lot) us LL
theorem pr_ti {K : PySem.W.Frag} {H H' : Hp} (z : Tup H H') {vs : List V} {as : List (List Int)} (h : Paired (TI K H) vs as) : Paired (TI K H') vs as := h.mono fun _ _ q => z.ti q
theorem LotsAt.kp {K : PySem.W.Frag} {H H' : Hp} {fo : Addr} {us : List V} {LL : List (List (List Int))} (h : LotsAt K H fo us LL) (z : Kp H H') : LotsAt K H' fo us LL := h.mono fun _ _ ⟨a, ys, e, n, h1, h2⟩ => ⟨a, ys, e, n, z.lst h1, pr_ti z.tup h2⟩
theorem LotsAt.put {K : PySem.W.Frag} {H : Hp} {fo : Addr} {us ws : List V} {LL : List (List (List Int))} (h : LotsAt K H fo us LL) {xs : List V} (hf : H fo = some (.lst xs)) : LotsAt K (upd H fo (.lst ws)) fo us LL := h.mono fun _ _ ⟨a, ys, e, n, h1, h2⟩ => ⟨a, ys, e, n, by rw [upd_ne n]; exact h1, pr_ti (Tup.put (by rw [hf]; trivial)) h2⟩
theorem pr_app {α β : Type} {F : α → β → Prop} {as bs : List α} {xs ys : List β} (h : Paired F as xs) (h' : Paired F bs ys) : Paired F (as ++ bs) (xs ++ ys) := by
  induction h with
  | nil => exact h'
  | cons p _ ih => exact .cons p ih
theorem filter_at {α : Type} (l : List α) (d : α) (f : α → Bool) : ((List.range l.length).filter fun i => f (l.getD i d)).map (fun i => l.getD i d) = l.filter f := by
  conv => rhs; rw [← map_range_getD l d, List.filter_map]
  rfl
section
variable {P : Program} {w : World} {K : PySem.W.Frag} {mg : Str → Option Value} {base : Heap} {f : Addr} {fd : FuncData}
end
end NS
end
section
set_option maxHeartbeats 4000000
/-! L7: the law's parts and rings -/
namespace NS
open PySem PySem.Spec PyProof.Rows L2 ZS
theorem diag_rch {ts : List (List Int)} {i : Int} {x : List Int} : Rch comp ts [i, i] x ↔ ∃ h, x = [h, h] ∧ Orb ts i h := by
  constructor
  · intro h
    induction h with
    | base => exact ⟨i, rfl, .base⟩
    | next _ ht ih =>
      obtain ⟨h, rfl, o⟩ := ih
      exact ⟨_, rfl, .next o ht⟩
  · rintro ⟨h, rfl, o⟩
    induction o with
    | base => exact .base
    | next _ ht ih => exact .next ih ht
/-- the first pair of lot i -/
abbrev hdp (LLp : List (List (List Int))) (i : Nat) : List Int := (LLp.getD i []).getD 0 []
section
variable {n : Nat} {ts : List (List Int)} {LLp : List (List (List Int))}
theorem lots_dj (pl : PLots n ts LLp) {i j : Nat} (hi : i < LLp.length) (hj : j < LLp.length) {x : List Int} (h1 : x ∈ LLp.getD i []) (h2 : x ∈ LLp.getD j []) : i = j := by
  have pw := List.pairwise_iff_getElem.mp pl.dj
  have e1 : LLp.getD i [] = LLp[i] := getD_of (List.getElem?_eq_getElem hi)
  have e2 : LLp.getD j [] = LLp[j] := getD_of (List.getElem?_eq_getElem hj)
  rw [e1] at h1
  rw [e2] at h2
  rcases Nat.lt_trichotomy i j with h | h | h
  · exact absurd h2 (pw i j hi hj h x h1)
  · exact h
  · exact absurd h1 (pw j i hj hi h x h2)
end
section
variable {P : Program} {w : World} {K : PySem.W.Frag} {mg : Str → Option Value} {base : Heap} {f : Addr} {fd : FuncData}
end
end NS
end
section
set_option maxHeartbeats 4000000
/-! L8: the law's rings -/
namespace NS
open PySem PySem.Spec PyProof.Rows L2 ZS
section
variable {n : Nat} {t : List Int}
theorem hallS_in (ht : IsT n t) {a : Int} (ha : a ∈ idt n) : hallS a t ∈ idt n := by
  have h := mem_idt.mp ha
  have h2 := ht.getD (i := a.toNat) (by omega)
  refine mem_idt.mpr ?_
  show 0 ≤ t.getD a.toNat 0 ∧ t.getD a.toNat 0 < n
  omega
theorem hallS_inj (ht : IsT n t) {a b : Int} (ha : a ∈ idt n) (hb : b ∈ idt n) (e : hallS a t = hallS b t) : a = b := by
  have h1 := mem_idt.mp ha
  have h2 := mem_idt.mp hb
  have := ht.inj (i := a.toNat) (j := b.toNat) (by omega) (by omega) (by unfold at'; unfold hallS at e; rw [e])
  omega
theorem orb_sym {ts : List (List Int)} (hT : ∀ t ∈ ts, IsT n t) {a b : Int} (ha : a ∈ idt n) (h : Orb ts a b) : Orb ts b a :=
  h.symm (U := idt n) (fun a ha t ht => hallS_in (hT t ht) ha) (fun t ht a ha b hb e => hallS_inj (hT t ht) ha hb e) ha
theorem orb_in {ts : List (List Int)} (hT : ∀ t ∈ ts, IsT n t) {a b : Int} (ha : a ∈ idt n) (h : Orb ts a b) : b ∈ idt n := h.inU ha fun a ha t ht => hallS_in (hT t ht) ha
end
section
variable {n : Nat} {t : List Int} {OO : List (List Int)}
end
section
variable {P : Program} {w : World} {K : PySem.W.Frag} {mg : Str → Option Value} {base : Heap} {f : Addr} {fd : FuncData}
end
end NS
end
section
/-! M3: counting -/
namespace NS
/-! ### sums -/
theorem sum_map_add {α : Type} (f g : α → Nat) : ∀ l : List α, (l.map fun x => f x + g x).sum = (l.map f).sum + (l.map g).sum
  | [] => rfl
  | a :: l => by
    simp only [List.map_cons, List.sum_cons, sum_map_add f g l]
    omega
theorem sum_map_zero {α : Type} : ∀ l : List α, (l.map fun _ => 0).sum = 0
  | [] => rfl
  | a :: l => by simp only [List.map_cons, List.sum_cons, sum_map_zero l]
theorem sum_map_congr {α : Type} {f g : α → Nat} {l : List α} (h : ∀ x ∈ l, f x = g x) : (l.map f).sum = (l.map g).sum := by rw [List.map_congr_left h]
theorem sum_const {α : Type} (c : Nat) : ∀ l : List α, (l.map fun _ => c).sum = l.length * c
  | [] => by simp
  | a :: l => by
    simp only [List.map_cons, List.sum_cons, sum_const c l, List.length_cons, Nat.succ_mul]
    omega
theorem sum_flatten {α : Type} (f : α → Nat) : ∀ LL : List (List α), (LL.flatten.map f).sum = (LL.map fun k => (k.map f).sum).sum
  | [] => rfl
  | k :: LL => by rw [List.flatten_cons, List.map_append, List.sum_append, List.map_cons, List.sum_cons, sum_flatten f LL]
theorem sum_perm {l m : List Nat} (h : l.Perm m) : l.sum = m.sum := by
  induction h with
  | nil => rfl
  | cons a _ ih => rw [List.sum_cons, List.sum_cons, ih]
  | swap a b l => simp only [List.sum_cons]; omega
  | trans _ _ h1 h2 => rw [h1, h2]
theorem len_filter {α : Type} (p : α → Bool) : ∀ l : List α, (l.filter p).length = (l.map fun x => if p x = true then 1 else 0).sum
  | [] => rfl
  | a :: l => by
    rw [List.map_cons, List.sum_cons, ← len_filter p l]
    cases h : p a
    · rw [List.filter_cons_of_neg (by simp [h])]; simp
    · rw [List.filter_cons_of_pos h, List.length_cons]; simp; omega
/-- the same pairs counted both ways -/
theorem count_both {α γ : Type} (P : α → γ → Bool) (X : List α) : ∀ G : List γ, (G.map fun g => (X.filter fun x => P x g).length).sum = (X.map fun x => (G.filter fun g => P x g).length).sum
  | [] => by
    have := sum_map_zero X
    simpa using this.symm
  | g :: G => by
    rw [List.map_cons, List.sum_cons, count_both P X G, len_filter, ← sum_map_add]
    refine sum_map_congr fun x _ => ?_
    cases h : P x g
    · rw [List.filter_cons_of_neg (by simp [h])]; simp
    · rw [List.filter_cons_of_pos h, List.length_cons, if_pos rfl]; exact Nat.add_comm ..
theorem one_of {α : Type} [DecidableEq α] {a : α} : ∀ {k : List α}, k.Nodup → a ∈ k → (k.filter fun x => decide (a = x)).length = 1
  | [], _, h => by cases h
  | b :: k, nd, h => by
    obtain ⟨h1, h2⟩ := List.nodup_cons.mp nd
    by_cases e : a = b
    · subst e
      rw [List.filter_cons_of_pos (by simp), List.length_cons]
      have : k.filter (fun x => decide (a = x)) = [] := List.filter_eq_nil_iff.mpr fun x hx => by
        simp only [decide_eq_true_eq]
        intro e
        rw [e] at h1
        exact h1 hx
      rw [this]
      rfl
    · rw [List.filter_cons_of_neg (by simpa using e)]
      rcases List.mem_cons.mp h with h | h
      · exact absurd h e
      · exact one_of h2 h
/-- as many turns leave things in place as there are turns, times lots -/
theorem burnside {α γ : Type} [DecidableEq α] [DecidableEq γ] {G : List γ} {X : List α} {act : α → γ → α} {mul : γ → γ → γ} {LL : List (List α)} (ndG : G.Nodup) (pm : LL.flatten.Perm X)
    (hm : ∀ a ∈ G, ∀ b ∈ G, mul a b ∈ G) (hi : ∀ h ∈ G, ∀ a ∈ G, ∀ b ∈ G, mul h a = mul h b → a = b) (ha : ∀ x ∈ X, ∀ a ∈ G, ∀ b ∈ G, act (act x a) b = act x (mul a b))
    (hk : ∀ k ∈ LL, k.Nodup ∧ ∃ x0 ∈ k, (∀ g ∈ G, act x0 g ∈ k) ∧ ∀ x ∈ k, (∃ h ∈ G, act x0 h = x) ∧ ∃ h ∈ G, act x h = x0) :
    (G.map fun g => (X.filter fun x => decide (act x g = x)).length).sum = G.length * LL.length := by
  rw [count_both (fun x g => decide (act x g = x)) X G]
  rw [sum_perm ((pm.map fun x => (G.filter fun g => decide (act x g = x)).length).symm), sum_flatten]
  have each : ∀ k ∈ LL, (k.map fun x => (G.filter fun g => decide (act x g = x)).length).sum = G.length := fun k hkm => by
    obtain ⟨ndk, x0, hx0, hin, hx⟩ := hk k hkm
    have inX : ∀ x ∈ k, x ∈ X := fun x h => pm.mem_iff.mp (List.mem_flatten.mpr ⟨k, hkm, h⟩)
    have step : ∀ x ∈ k, (G.filter fun g => decide (act x g = x)).length = (G.filter fun g => decide (act x0 g = x)).length := fun x hxk => by
      obtain ⟨⟨h, hh, eh⟩, h', hh', eh'⟩ := hx x hxk
      refine Nat.le_antisymm ?_ ?_
      · have nd : ((G.filter fun g => decide (act x g = x)).map (mul h)).Nodup := nodup_map (List.Pairwise.filter _ ndG) fun a ha' b hb' e => hi h hh a (List.mem_filter.mp ha').1 b (List.mem_filter.mp hb').1 e
        have := nd_le nd (b := G.filter fun g => decide (act x0 g = x)) fun y hy => by
          obtain ⟨g, hg, rfl⟩ := List.mem_map.mp hy
          obtain ⟨g1, g2⟩ := List.mem_filter.mp hg
          refine List.mem_filter.mpr ⟨hm h hh g g1, decide_eq_true ?_⟩
          rw [← ha x0 (inX x0 hx0) h hh g g1, eh]
          exact of_decide_eq_true g2
        rwa [List.length_map] at this
      · have nd : ((G.filter fun g => decide (act x0 g = x)).map (mul h')).Nodup := nodup_map (List.Pairwise.filter _ ndG) fun a ha' b hb' e => hi h' hh' a (List.mem_filter.mp ha').1 b (List.mem_filter.mp hb').1 e
        have := nd_le nd (b := G.filter fun g => decide (act x g = x)) fun y hy => by
          obtain ⟨g, hg, rfl⟩ := List.mem_map.mp hy
          obtain ⟨g1, g2⟩ := List.mem_filter.mp hg
          refine List.mem_filter.mpr ⟨hm h' hh' g g1, decide_eq_true ?_⟩
          rw [← ha x (inX x hxk) h' hh' g g1, eh']
          exact of_decide_eq_true g2
        rwa [List.length_map] at this
    rw [sum_map_congr step, ← count_both (fun x g => decide (act x0 g = x)) k G, sum_map_congr (g := fun _ => 1) fun g hg => one_of ndk (hin g hg), sum_const, Nat.mul_one]
  rw [sum_map_congr each, sum_const, Nat.mul_comm]
/-! ### ascending lists are there -/
theorem asc_exists {α : Type} {lt : α → α → Prop} (tr : ∀ a b c, lt a b → lt b c → lt a c) (tot : ∀ a b, a ≠ b → lt a b ∨ lt b a) : ∀ l : List α, l.Nodup → ∃ k : List α, k.Perm l ∧ k.Pairwise lt
  | [], _ => ⟨[], List.Perm.refl _, List.Pairwise.nil⟩
  | a :: l, nd => by
    obtain ⟨h1, h2⟩ := List.nodup_cons.mp nd
    obtain ⟨k, pm, pw⟩ := asc_exists tr tot l h2
    have ins : ∀ k : List α, k.Pairwise lt → a ∉ k → ∃ k' : List α, k'.Perm (a :: k) ∧ k'.Pairwise lt := fun k => by
      induction k with
      | nil => exact fun _ _ => ⟨[a], List.Perm.refl _, List.pairwise_singleton _ _⟩
      | cons b k ih =>
        intro pw na
        obtain ⟨p1, p2⟩ := List.pairwise_cons.mp pw
        have nab : a ≠ b := fun e => na (by rw [e]; exact List.mem_cons_self ..)
        rcases tot a b nab with h | h
        · exact ⟨a :: b :: k, List.Perm.refl _, List.pairwise_cons.mpr ⟨fun x hx => by
            rcases List.mem_cons.mp hx with e | e
            · rw [e]; exact h
            · exact tr _ _ _ h (p1 x e), pw⟩⟩
        · obtain ⟨k', pm', pw'⟩ := ih p2 fun hk => na (List.mem_cons_of_mem _ hk)
          refine ⟨b :: k', (pm'.cons b).trans (List.Perm.swap a b k), List.pairwise_cons.mpr ⟨fun x hx => ?_, pw'⟩⟩
          rcases List.mem_cons.mp (pm'.mem_iff.mp hx) with e | e
          · rw [e]; exact h
          · exact p1 x e
    obtain ⟨k', pm', pw'⟩ := ins k pw fun h => h1 (pm.mem_iff.mp h)
    exact ⟨k', pm'.trans (pm.cons a), pw'⟩
end NS
end
section
set_option maxHeartbeats 4000000
/-! M4: the group, its lots, its numbers -/
namespace NS
open PySem PySem.Spec PyProof.Rows L2 ZS
section
variable {n : Nat} {ts : List (List Int)} {a b c g h t : List Int}
theorem comp_low_assoc (ha : Low n a) (hb : IsT n b) (c : List Int) : comp (comp a b) c = comp a (comp b c) := by
  unfold comp
  rw [List.map_map]
  refine List.map_congr_left fun x hx => ?_
  have h := ha x hx
  exact (comp_getD c (a := b) (i := x.toNat) (by rw [hb.len]; omega)).symm
theorem comp_low_idt (ha : Low n a) : comp a (idt n) = a := by
  unfold comp
  conv => rhs; rw [← List.map_id a]
  refine List.map_congr_left fun x hx => ?_
  have h := ha x hx
  show (idt n).getD x.toNat 0 = x
  rw [idt_at (by omega)]
  omega
theorem grp_isT (hT : ∀ t ∈ ts, IsT n t) (h : Grp n ts g) : IsT n g := by
  induction h with
  | base => exact idt_isT n
  | next _ ht ih => exact ih.comp (hT _ ht)
theorem grp_mul (hT : ∀ t ∈ ts, IsT n t) (hg : Grp n ts g) (hh : Grp n ts h) : Grp n ts (comp g h) := by
  have ig := grp_isT hT hg
  have key : ∀ k, Rch comp ts (idt n) k → Grp n ts (comp g k) ∧ IsT n k := fun k hk => by
    induction hk with
    | base => exact ⟨by rw [comp_idt ig]; exact hg, idt_isT n⟩
    | next _ ht ih => exact ⟨by rw [← comp_assoc ig ih.2]; exact .next ih.1 ht, ih.2.comp (hT _ ht)⟩
  exact (key h hh).1
/-- what the turns make of places are the places behind a turn of the group -/
theorem rch_comp (hT : ∀ t ∈ ts, IsT n t) (ha : Low n a) {x : List Int} : Rch comp ts a x ↔ ∃ g, Grp n ts g ∧ x = comp a g := by
  constructor
  · intro h
    induction h with
    | base => exact ⟨idt n, .base, (comp_low_idt ha).symm⟩
    | next _ ht ih =>
      obtain ⟨g, hg, rfl⟩ := ih
      exact ⟨_, .next hg ht, comp_low_assoc ha (grp_isT hT hg) _⟩
  · rintro ⟨g, hg, rfl⟩
    have key : ∀ k, Rch comp ts (idt n) k → Rch comp ts a (comp a k) ∧ IsT n k := fun k hk => by
      induction hk with
      | base => exact ⟨by rw [comp_low_idt ha]; exact .base, idt_isT n⟩
      | next _ ht ih => exact ⟨by rw [← comp_low_assoc ha ih.2]; exact .next ih.1 ht, ih.2.comp (hT _ ht)⟩
    exact (key g hg).1
theorem hallS_comp {x : Int} (hx : x ∈ idt n) (ha : IsT n a) (b : List Int) : hallS (hallS x a) b = hallS x (comp a b) := by
  have h := mem_idt.mp hx
  exact (comp_getD b (a := a) (i := x.toNat) (by rw [ha.len]; omega)).symm
theorem hallS_idt {x : Int} (hx : x ∈ idt n) : hallS x (idt n) = x := by
  have h := mem_idt.mp hx
  unfold hallS
  rw [idt_at (by omega)]
  omega
theorem orb_grp (hT : ∀ t ∈ ts, IsT n t) {y x : Int} (hy : y ∈ idt n) : Orb ts y x ↔ ∃ g, Grp n ts g ∧ x = hallS y g := by
  constructor
  · intro h
    induction h with
    | base => exact ⟨idt n, .base, (hallS_idt hy).symm⟩
    | next _ ht ih =>
      obtain ⟨g, hg, rfl⟩ := ih
      exact ⟨_, .next hg ht, hallS_comp hy (grp_isT hT hg) _⟩
  · rintro ⟨g, hg, rfl⟩
    have key : ∀ k, Rch comp ts (idt n) k → Orb ts y (hallS y k) ∧ IsT n k := fun k hk => by
      induction hk with
      | base => exact ⟨by rw [hallS_idt hy]; exact .base, idt_isT n⟩
      | next _ ht ih => exact ⟨by rw [← hallS_comp hy ih.2]; exact .next ih.1 ht, ih.2.comp (hT _ ht)⟩
    exact (key g hg).1
theorem left_inj (hh : IsT n h) (ha : IsT n a) (hb : IsT n b) (e : comp h a = comp h b) : a = b := by
  have e2 : comp (inv h) (comp h a) = comp (inv h) (comp h b) := by rw [e]
  rwa [← comp_assoc hh.inv hh, ← comp_assoc hh.inv hh, inv_comp hh, idt_comp ha, idt_comp hb] at e2
theorem IsT.like (ha : IsT n a) (ht : IsT n t) : IsT n (likeS a t) := (ht.inv.comp ha).comp ht
/-! ### lots of halls -/
theorem lot_ex (hT : ∀ t ∈ ts, IsT n t) {y : Int} (hy : y ∈ idt n) : ∃ k, Lot ts y k := by
  classical
  obtain ⟨k, pm, pw⟩ := asc_exists (lt := fun a b : Int => a < b) (fun a b c h1 h2 => by omega) (fun a b h => by omega) ((idt n).filter fun x => decide (Orb ts y x)) (List.Pairwise.filter _ (idt_isT n).nd)
  refine ⟨k, pw, pw.imp fun h e => by omega, fun x => ?_⟩
  rw [pm.mem_iff, List.mem_filter, decide_eq_true_iff]
  exact ⟨fun h => h.2, fun h => ⟨orb_in hT hy h, h⟩⟩
theorem lots_apart (hT : ∀ t ∈ ts, IsT n t) {k k' : List Int} (h1 : Lots n ts k) (h2 : Lots n ts k') {x : Int} (x1 : x ∈ k) (x2 : x ∈ k') : k = k' := by
  obtain ⟨i, hi, l1⟩ := h1
  obtain ⟨j, hj, l2⟩ := h2
  have ii : (i : Int) ∈ idt n := mem_idt.mpr (by omega)
  have jj : (j : Int) ∈ idt n := mem_idt.mpr (by omega)
  have o1 := (l1.mem x).mp x1
  have o2 := (l2.mem x).mp x2
  have e1 : Orb ts (i : Int) (j : Int) := o1.trans (orb_sym hT jj o2)
  have e2 := orb_sym hT ii e1
  refine Asc.uniq (G := Orb ts (i : Int)) (fun a => Int.lt_irrefl a) (fun a b h1 h2 => by omega) l1 ⟨l2.pw, l2.nd, fun y => (l2.mem y).trans ⟨fun q => e1.trans q, fun q => e2.trans q⟩⟩
theorem flat_nd {α : Type} {LL : List (List α)} (nd : ∀ k ∈ LL, k.Nodup) (dj : LL.Pairwise fun a b => ∀ x ∈ a, x ∉ b) : LL.flatten.Nodup := by
  induction LL with
  | nil => exact List.nodup_nil
  | cons k LL ih =>
    obtain ⟨p1, p2⟩ := List.pairwise_cons.mp dj
    rw [List.flatten_cons, List.nodup_append]
    refine ⟨nd k (List.mem_cons_self ..), ih (fun k' h => nd k' (List.mem_cons_of_mem _ h)) p2, fun x hx y hy e => ?_⟩
    subst e
    obtain ⟨k', hk', hx'⟩ := List.mem_flatten.mp hy
    exact p1 k' hk' x hx hx'
theorem lots_flat (hT : ∀ t ∈ ts, IsT n t) {LL : List (List Int)} (nd : LL.Nodup) (mem : ∀ k, k ∈ LL ↔ Lots n ts k) : LL.flatten.Perm (idt n) := by
  refine (List.perm_ext_iff_of_nodup (flat_nd (fun k hk => ?_) ?_) (idt_isT n).nd).mpr fun x => ?_
  · obtain ⟨i, _, l⟩ := (mem k).mp hk
    exact l.nd
  · refine nd.imp_of_mem fun {a b} ha hb ne x x1 x2 => ne (lots_apart hT ((mem a).mp ha) ((mem b).mp hb) x1 x2)
  · rw [List.mem_flatten]
    constructor
    · rintro ⟨k, hk, hx⟩
      obtain ⟨i, hi, l⟩ := (mem k).mp hk
      exact orb_in hT (mem_idt.mpr (by omega)) ((l.mem x).mp hx)
    · intro hx
      obtain ⟨k, l⟩ := lot_ex hT hx
      have := mem_idt.mp hx
      refine ⟨k, (mem k).mpr ⟨x.toNat, by omega, ?_⟩, (l.mem x).mpr .base⟩
      rw [Int.toNat_of_nonneg this.1]
      exact l
theorem kept_eq (ht : IsT n t) : (idt n).filter (fun x => decide (hallS x t = x)) = keptL t := by
  unfold idt keptL
  rw [List.filter_map, ht.len]
  rfl
/-- halls left in place, over the group -/
theorem sum_kept (hT : ∀ t ∈ ts, IsT n t) {LL W : List (List Int)} (ndW : W.Nodup) (mW : ∀ x, x ∈ W ↔ Grp n ts x) (nd : LL.Nodup) (mem : ∀ k, k ∈ LL ↔ Lots n ts k) : (W.map fun g => (keptL g).length).sum = W.length * LL.length := by
  have is : ∀ g ∈ W, IsT n g := fun g hg => grp_isT hT ((mW g).mp hg)
  rw [← burnside (X := idt n) (act := hallS) (mul := comp) ndW (lots_flat hT nd mem) (fun a ha b hb => (mW _).mpr (grp_mul hT ((mW a).mp ha) ((mW b).mp hb))) (fun h hh a ha b hb e => left_inj (is h hh) (is a ha) (is b hb) e) (fun x hx a ha b hb => hallS_comp hx (is a ha) b) fun k hk => ?_]
  · exact sum_map_congr fun g hg => by rw [kept_eq (is g hg)]
  · obtain ⟨i, hi, l⟩ := (mem k).mp hk
    have ii : (i : Int) ∈ idt n := mem_idt.mpr (by omega)
    refine ⟨l.nd, i, (l.mem _).mpr .base, fun g hg => (l.mem _).mpr ((orb_grp hT ii).mpr ⟨g, (mW g).mp hg, rfl⟩), fun x hx => ?_⟩
    have o := (l.mem x).mp hx
    obtain ⟨g, hg, e⟩ := (orb_grp hT ii).mp o
    obtain ⟨g', hg', e'⟩ := (orb_grp hT (orb_in hT ii o)).mp (orb_sym hT ii o)
    exact ⟨⟨g, (mW g).mpr hg, e.symm⟩, g', (mW g').mpr hg', e'.symm⟩
/-! ### lots of pairs -/
theorem filter_both {α β : Type} (p : α → Bool) (q : β → Bool) (l2 : List β) : ∀ l1 : List α, ((l1.flatMap fun i => l2.map fun j => (i, j)).filter fun x => p x.1 && q x.2).length = (l1.filter p).length * (l2.filter q).length
  | [] => by simp
  | a :: l1 => by
    rw [List.flatMap_cons, List.filter_append, List.length_append, filter_both p q l2 l1, List.filter_map, List.length_map]
    cases h : p a
    · rw [List.filter_cons_of_neg (by simp [h])]
      have : l2.filter ((fun x : α × β => p x.1 && q x.2) ∘ fun j => (a, j)) = [] := List.filter_eq_nil_iff.mpr fun x _ => by simp [h]
      rw [this]
      simp
    · rw [List.filter_cons_of_pos h, List.length_cons, Nat.succ_mul]
      have : l2.filter ((fun x : α × β => p x.1 && q x.2) ∘ fun j => (a, j)) = l2.filter q := List.filter_congr fun x _ => by simp [h]
      rw [this]
      exact Nat.add_comm ..
theorem kept2 (ht : IsT n t) : ((G2 n).filter fun x => decide (comp x t = x)).length = (keptL t).length * (keptL t).length := by
  unfold G2
  rw [List.filter_map, List.length_map]
  have e : (grid n n).filter ((fun x => decide (comp x t = x)) ∘ pr2) = (grid n n).filter fun x => decide (t.getD x.1 0 = (x.1 : Int)) && decide (t.getD x.2 0 = (x.2 : Int)) := List.filter_congr fun x _ => by
    show decide ([t.getD (x.1 : Int).toNat 0, t.getD (x.2 : Int).toNat 0] = [(x.1 : Int), (x.2 : Int)]) = _
    rw [Int.toNat_natCast, Int.toNat_natCast, ← Bool.decide_and]
    exact decide_eq_decide.mpr ⟨fun e => by injection e with e1 e2; injection e2 with e2 _; exact ⟨e1, e2⟩, fun ⟨e1, e2⟩ => by rw [e1, e2]⟩
  rw [e]
  have := filter_both (fun i : Nat => decide (t.getD i 0 = (i : Int))) (fun i : Nat => decide (t.getD i 0 = (i : Int))) (List.range n) (List.range n)
  unfold keptL
  rw [List.length_map, ht.len]
  exact this
theorem pl_flat (hT : ∀ t ∈ ts, IsT n t) {LLp : List (List (List Int))} (pl : PLots n ts LLp) (cm : ∀ p ∈ G2 n, ∃ lot ∈ LLp, p ∈ lot) : LLp.flatten.Perm (G2 n) := by
  have ndg : (G2 n).Nodup := by
    unfold G2
    refine nodup_map ?_ fun x hx y hy e => ?_
    · unfold grid
      have : ∀ l1 : List Nat, l1.Nodup → (l1.flatMap fun i => (List.range n).map fun j => (i, j)).Nodup := fun l1 => by
        induction l1 with
        | nil => exact fun _ => List.nodup_nil
        | cons a l1 ih =>
          intro nd
          obtain ⟨h1, h2⟩ := List.nodup_cons.mp nd
          rw [List.flatMap_cons, List.nodup_append]
          refine ⟨nodup_map List.nodup_range fun x _ y _ e => by injection e, ih h2, fun x hx y hy e => ?_⟩
          subst e
          obtain ⟨j, _, rfl⟩ := List.mem_map.mp hx
          obtain ⟨i, hi, hy⟩ := List.mem_flatMap.mp hy
          obtain ⟨j', _, e⟩ := List.mem_map.mp hy
          injection e with e _
          rw [e] at hi
          exact h1 hi
      exact this _ List.nodup_range
    · obtain ⟨x1, x2⟩ := x
      obtain ⟨y1, y2⟩ := y
      injection e with e1 e2
      injection e2 with e2 _
      have : x1 = y1 := by omega
      have : x2 = y2 := by omega
      subst x1 x2
      rfl
  refine (List.perm_ext_iff_of_nodup (flat_nd (fun k hk => ?_) pl.dj) ndg).mpr fun x => ?_
  · obtain ⟨p, rest, _, _, nd, _⟩ := pl.hd k hk
    exact nd
  · rw [List.mem_flatten]
    constructor
    · rintro ⟨k, hk, hx⟩
      obtain ⟨p, rest, _, hp, _, mem⟩ := pl.hd k hk
      exact ((mem x).mp hx).inU hp (g2_cl hT)
    · exact fun hx => cm x hx
theorem sum_kept2 (hT : ∀ t ∈ ts, IsT n t) {LLp : List (List (List Int))} {W : List (List Int)} (ndW : W.Nodup) (mW : ∀ x, x ∈ W ↔ Grp n ts x) (pl : PLots n ts LLp) (cm : ∀ p ∈ G2 n, ∃ lot ∈ LLp, p ∈ lot) :
    (W.map fun g => (keptL g).length * (keptL g).length).sum = W.length * LLp.length := by
  have is : ∀ g ∈ W, IsT n g := fun g hg => grp_isT hT ((mW g).mp hg)
  rw [← burnside (X := G2 n) (act := comp) (mul := comp) ndW (pl_flat hT pl cm) (fun a ha b hb => (mW _).mpr (grp_mul hT ((mW a).mp ha) ((mW b).mp hb))) (fun h hh a ha b hb e => left_inj (is h hh) (is a ha) (is b hb) e) (fun x hx a ha b hb => comp_low_assoc (mem_g2.mp hx).2 (is a ha) b) fun k hk => ?_]
  · exact sum_map_congr fun g hg => (kept2 (is g hg)).symm
  · obtain ⟨p, rest, e, hp, nd, mem⟩ := pl.hd k hk
    have lo := (mem_g2.mp hp).2
    refine ⟨nd, p, (mem _).mpr .base, fun g hg => (mem _).mpr ((rch_comp hT lo).mpr ⟨g, (mW g).mp hg, rfl⟩), fun x hx => ?_⟩
    have o := (mem x).mp hx
    have hx' := o.inU hp (g2_cl hT)
    obtain ⟨g, hg, e⟩ := (rch_comp hT lo).mp o
    obtain ⟨g', hg', e'⟩ := (rch_comp hT (mem_g2.mp hx').2).mp (g2_sym hT hp o)
    exact ⟨⟨g, (mW g).mpr hg, e.symm⟩, g', (mW g').mpr hg', e'.symm⟩
end
end NS
end
section
set_option maxHeartbeats 4000000
/-! M5: rings, tables, room -/
namespace NS
open PySem PySem.Spec PyProof.Rows L2 ZS
section
variable {n : Nat} {t : List Int}
end
/-! ### room -/
end NS
end
section
set_option maxHeartbeats 4000000
/-! LV: answers as nested values -/
namespace NS
open PySem PySem.Spec PyProof.Rows L2 ZS
/-- numbers drawn -/
theorem drawn {m : Int} {l : List Nat} {ys : List V} (h : Paired (fun (_ : Nat) y => ∃ k : Int, y = .int k ∧ 0 ≤ k ∧ k < m) l ys) : ∃ ks : List Int, ys = ks.map V.int ∧ ks.length = l.length ∧ ∀ k ∈ ks, 0 ≤ k ∧ k < m := by
  induction h with
  | nil => exact ⟨[], rfl, rfl, fun k h => by cases h⟩
  | cons p _ ih =>
    obtain ⟨k, rfl, h1, h2⟩ := p
    obtain ⟨ks, e, el, hk⟩ := ih
    refine ⟨k :: ks, by rw [e]; rfl, by rw [List.length_cons, List.length_cons, el], fun x hx => ?_⟩
    rcases List.mem_cons.mp hx with e | e
    · rw [e]; exact ⟨h1, h2⟩
    · exact hk x e
section
variable {K : PySem.W.Frag} {H H' : Hp}
theorem ints_depth : ∀ ns : List Int, Dt.depths (ns.map Dt.int) = 0
  | [] => rfl
  | n :: ns => by
    rw [List.map_cons]
    unfold Dt.depths
    rw [ints_depth ns]
    unfold Dt.depth
    rfl
theorem dT_depth (t : List Int) : Dt.depth (dT t) = 1 := by unfold Dt.depth; rw [ints_depth]
theorem dts_depth : ∀ L : List (List Int), Dt.depths (L.map dT) ≤ 1
  | [] => by rw [List.map_nil]; unfold Dt.depths; omega
  | t :: L => by
    rw [List.map_cons]
    unfold Dt.depths
    have := dts_depth L
    rw [dT_depth]
    omega
theorem ints_small : ∀ ns : List Int, Dt.smalls (ns.map Dt.int)
  | [] => by rw [List.map_nil]; unfold Dt.smalls; trivial
  | n :: ns => by rw [List.map_cons]; unfold Dt.smalls; exact ⟨by unfold Dt.small; trivial, ints_small ns⟩
theorem dT_small {t : List Int} (h : t.length ≤ 10000) : Dt.small (dT t) := by unfold Dt.small; exact ⟨by rw [List.length_map]; exact h, ints_small t⟩
theorem dts_small : ∀ {L : List (List Int)}, (∀ t ∈ L, t.length ≤ 10000) → Dt.smalls (L.map dT)
  | [], _ => by rw [List.map_nil]; unfold Dt.smalls; trivial
  | t :: L, h => by rw [List.map_cons]; unfold Dt.smalls; exact ⟨dT_small (h t (List.mem_cons_self ..)), dts_small fun u hu => h u (List.mem_cons_of_mem _ hu)⟩
/-- a tuple of turns -/
abbrev dTT (L : List (List Int)) : Dt := .tup (L.map dT)
theorem dTT_small {L : List (List Int)} (h1 : L.length ≤ 10000) (h : ∀ t ∈ L, t.length ≤ 10000) : Dt.small (dTT L) := by unfold Dt.small; exact ⟨by rw [List.length_map]; exact h1, dts_small h⟩
theorem dTT_depth (L : List (List Int)) : Dt.depth (dTT L) ≤ 2 := by
  unfold Dt.depth
  have := dts_depth L
  omega
theorem dt_tup {a : Addr} {xs : List V} {ds : List Dt} (s : SqT K H a xs) (h : IsDts K H ds xs) : IsDt K H (.tup ds) (.ref a) := by unfold IsDt; exact ⟨a, xs, rfl, s, h⟩
theorem dt_int (i : Int) : IsDt K H (.int i) (.int i) := by unfold IsDt; rfl
theorem dts_nil : IsDts K H [] [] := by unfold IsDts; rfl
theorem dts_cons {d : Dt} {ds : List Dt} {v : V} {vs : List V} (h : IsDt K H d v) (h' : IsDts K H ds vs) : IsDts K H (d :: ds) (v :: vs) := by unfold IsDts; exact ⟨v, vs, rfl, h, h'⟩
theorem smalls_nil : Dt.smalls [] := by unfold Dt.smalls; trivial
theorem smalls_cons {d : Dt} {ds : List Dt} (h : Dt.small d) (h' : Dt.smalls ds) : Dt.smalls (d :: ds) := by unfold Dt.smalls; exact ⟨h, h'⟩
/-- what stands all along the law: the row of draws, the house, the tables -/
structure Sta (K : PySem.W.Frag) (H : Hp) (r sa : Addr) (v : V) (n : Nat) (ts : List (List Int)) (pT pA : Addr) : Prop where
  dr : Draws K H r sa
  hv : HouseAt K H v n ts
  gT : GxR.TabG H pT
  gA : GxR.TabG H pA
variable {r sa pT pA : Addr} {v : V} {n : Nat} {ts : List (List Int)}
theorem Sta.kp (h : Sta K H r sa v n ts pT pA) (z : Kp H H') : Sta K H' r sa v n ts pT pA := ⟨h.dr.k z, z.house h.hv, z.tabG h.gT, z.tabG h.gA⟩
theorem Sta.kpb (h : Sta K H r sa v n ts pT pA) (z : KpB r H H') (ra : RowAt H' r sa) : Sta K H' r sa v n ts pT pA := ⟨h.dr.b z ra, NS.Tup.house z.tup h.hv, z.tabG h.gT, z.tabG h.gA⟩
/-- a list of turns at wa -/
structure Who (H : Hp) (r wa : Addr) (W : List (Addr × List Int)) : Prop where
  ne : wa ≠ r
  at_ : H wa = some (.lst (W.map fun p => V.ref p.1))
  pt : ∀ p ∈ W, PT H (.ref p.1) p.2
variable {wa : Addr} {W : List (Addr × List Int)}
theorem Who.kpb (h : Who H r wa W) (z : KpB r H H') : Who H' r wa W := ⟨h.ne, z.lst h.at_ h.ne, fun p hp => NS.Tup.pt z.tup (h.pt p hp)⟩
theorem Who.kp (h : Who H r wa W) (z : Kp H H') : Who H' r wa W := h.kpb z.b
theorem Who.sq (h : Who H r wa W) : SqL K H wa (W.map fun p => V.ref p.1) := SqL.of h.at_
/-- a list that is not the row -/
def Lst (H : Hp) (r la : Addr) (us : List V) : Prop := la ≠ r ∧ H la = some (.lst us)
theorem Lst.kpb {la : Addr} {us : List V} (h : Lst H r la us) (z : KpB r H H') : Lst H' r la us := ⟨h.1, z.lst h.2 h.1⟩
theorem Lst.kp {la : Addr} {us : List V} (h : Lst H r la us) (z : Kp H H') : Lst H' r la us := h.kpb z.b
end
end NS
end
section
set_option maxHeartbeats 4000000
/-! M6: roamers, counted -/
namespace NS
open PySem PySem.Spec PyProof.Rows L2 ZS
/-! ### sums of whole numbers -/
/-! ### orbits: as many turns as things, times those that leave one in place -/
theorem orbit_stab {α γ : Type} [DecidableEq α] [DecidableEq γ] {G : List γ} {act : α → γ → α} {mul : γ → γ → γ} {k : List α} {x0 : α} (ndG : G.Nodup) (ndk : k.Nodup)
    (hm : ∀ a ∈ G, ∀ b ∈ G, mul a b ∈ G) (hi : ∀ h ∈ G, ∀ a ∈ G, ∀ b ∈ G, mul a h = mul b h → a = b) (ha : ∀ a ∈ G, ∀ b ∈ G, act (act x0 a) b = act x0 (mul a b))
    (hin : ∀ g ∈ G, act x0 g ∈ k) (hx : ∀ x ∈ k, (∃ h ∈ G, act x0 h = x) ∧ ∃ h ∈ G, act x h = x0) :
    (∀ x ∈ k, (G.filter fun g => decide (act x0 g = x)).length = (G.filter fun g => decide (act x0 g = x0)).length) ∧ G.length = k.length * (G.filter fun g => decide (act x0 g = x0)).length := by
  have step : ∀ x ∈ k, (G.filter fun g => decide (act x0 g = x)).length = (G.filter fun g => decide (act x0 g = x0)).length := fun x hxk => by
    obtain ⟨⟨h, hh, eh⟩, h', hh', eh'⟩ := hx x hxk
    refine Nat.le_antisymm ?_ ?_
    · have nd : ((G.filter fun g => decide (act x0 g = x)).map (fun g => mul g h')).Nodup := nodup_map (List.Pairwise.filter _ ndG) fun a ha' b hb' e => hi h' hh' a (List.mem_filter.mp ha').1 b (List.mem_filter.mp hb').1 e
      have := nd_le nd (b := G.filter fun g => decide (act x0 g = x0)) fun y hy => by
        obtain ⟨g, hg, rfl⟩ := List.mem_map.mp hy
        obtain ⟨g1, g2⟩ := List.mem_filter.mp hg
        refine List.mem_filter.mpr ⟨hm g g1 h' hh', decide_eq_true ?_⟩
        rw [← ha g g1 h' hh', of_decide_eq_true g2, eh']
      rwa [List.length_map] at this
    · have nd : ((G.filter fun g => decide (act x0 g = x0)).map (fun g => mul g h)).Nodup := nodup_map (List.Pairwise.filter _ ndG) fun a ha' b hb' e => hi h hh a (List.mem_filter.mp ha').1 b (List.mem_filter.mp hb').1 e
      have := nd_le nd (b := G.filter fun g => decide (act x0 g = x)) fun y hy => by
        obtain ⟨g, hg, rfl⟩ := List.mem_map.mp hy
        obtain ⟨g1, g2⟩ := List.mem_filter.mp hg
        refine List.mem_filter.mpr ⟨hm g g1 h hh, decide_eq_true ?_⟩
        rw [← ha g g1 h hh, of_decide_eq_true g2, eh]
      rwa [List.length_map] at this
  refine ⟨step, ?_⟩
  have e := count_both (fun x g => decide (act x0 g = x)) k G
  rw [sum_map_congr step, sum_const, sum_map_congr (g := fun _ => 1) (fun g hg => one_of ndk (hin g hg)), sum_const, Nat.mul_one] at e
  exact e
/-! ### turns that leave halls in place -/
section
variable {n : Nat} {ts : List (List Int)} {W : List (List Int)} {t : List Int}
/-- a turn that leaves no hall in place -/
abbrev free (t : List Int) : Bool := decide (keptL t = [])
/-- the group, its lots of halls and of pairs -/
structure Grpd (n : Nat) (ts W : List (List Int)) (LLp : List (List (List Int))) : Prop where
  n2 : 2 ≤ n
  is : ∀ t ∈ ts, IsT n t
  nd : W.Nodup
  mem : ∀ x, x ∈ W ↔ Grp n ts x
  one : ∀ i : Nat, i < n → Orb ts 0 (i : Int)
  pl : PLots n ts LLp
  cm : ∀ p ∈ G2 n, ∃ lot ∈ LLp, p ∈ lot
variable {LLp : List (List (List Int))}
theorem Grpd.wis (g : Grpd n ts W LLp) : ∀ t ∈ W, IsT n t := fun t ht => grp_isT g.is ((g.mem t).mp ht)
theorem Grpd.s1 (g : Grpd n ts W LLp) : (W.map fun t => (keptL t).length).sum = W.length := by
  obtain ⟨k0, l0⟩ := lot_ex g.is (y := ((0 : Nat) : Int)) (mem_idt.mpr (by have := g.n2; omega))
  have n2 := g.n2
  have mem : ∀ k, k ∈ [k0] ↔ Lots n ts k := fun k => by
    rw [List.mem_singleton]
    constructor
    · rintro rfl
      exact ⟨0, by omega, l0⟩
    · rintro ⟨i, hi, l⟩
      exact lots_apart g.is ⟨i, hi, l⟩ ⟨0, by omega, l0⟩ ((l.mem _).mpr .base) ((l0.mem _).mpr (g.one i hi))
  have := sum_kept g.is g.nd g.mem (List.pairwise_singleton _ k0) mem
  simpa using this
theorem Grpd.s2 (g : Grpd n ts W LLp) : (W.map fun t => (keptL t).length * (keptL t).length).sum = W.length * LLp.length := sum_kept2 g.is g.nd g.mem g.pl g.cm
end
end NS
end
section
set_option maxHeartbeats 4000000
/-! M7: sharp groups -/
namespace NS
open PySem PySem.Spec PyProof.Rows L2 ZS
theorem grid_nd (n : Nat) : (grid n n).Nodup := by
  unfold grid
  have : ∀ l1 : List Nat, l1.Nodup → (l1.flatMap fun i => (List.range n).map fun j => (i, j)).Nodup := fun l1 => by
    induction l1 with
    | nil => exact fun _ => List.nodup_nil
    | cons a l1 ih =>
      intro nd
      obtain ⟨h1, h2⟩ := List.nodup_cons.mp nd
      rw [List.flatMap_cons, List.nodup_append]
      refine ⟨nodup_map List.nodup_range fun x _ y _ e => by injection e, ih h2, fun x hx y hy e => ?_⟩
      subst e
      obtain ⟨j, _, rfl⟩ := List.mem_map.mp hx
      obtain ⟨i, hi, hy⟩ := List.mem_flatMap.mp hy
      obtain ⟨j', _, e⟩ := List.mem_map.mp hy
      injection e with e _
      rw [e] at hi
      exact h1 hi
  exact this _ List.nodup_range
section
variable {n : Nat} {ts : List (List Int)} {W : List (List Int)} {t : List Int} {LLp : List (List (List Int))}
theorem pl_same (pl : PLots n ts LLp) {l1 l2 : List (List Int)} (h1 : l1 ∈ LLp) (h2 : l2 ∈ LLp) {x : List Int} (x1 : x ∈ l1) (x2 : x ∈ l2) : l1 = l2 := by
  obtain ⟨i, hi, e1⟩ := List.getElem_of_mem h1
  obtain ⟨j, hj, e2⟩ := List.getElem_of_mem h2
  have d1 : LLp.getD i [] = l1 := getD_of (by rw [List.getElem?_eq_getElem hi, e1])
  have d2 : LLp.getD j [] = l2 := getD_of (by rw [List.getElem?_eq_getElem hj, e2])
  have := lots_dj pl hi hj (by rw [d1]; exact x1) (by rw [d2]; exact x2)
  subst this
  rw [← d1, ← d2]
theorem pl_nd (pl : PLots n ts LLp) : LLp.Nodup := pl.dj.imp_of_mem fun {a b} ha hb h e => by
  obtain ⟨p, rest, ea, _⟩ := pl.hd a ha
  subst e
  have := h p (by rw [ea]; exact List.mem_cons_self ..)
  rw [ea] at this
  exact this (List.mem_cons_self ..)
theorem pair_g2 {a b : Nat} (ha : a < n) (hb : b < n) : [(a : Int), (b : Int)] ∈ G2 n := mem_g2.mpr ⟨rfl, fun x hx => by
  rcases List.mem_cons.mp hx with e | e
  · rw [e]; omega
  · rw [List.mem_singleton.mp e]; omega⟩
theorem g2_pair {x : List Int} (h : x ∈ G2 n) : ∃ a b : Nat, a < n ∧ b < n ∧ x = [(a : Int), (b : Int)] := by
  obtain ⟨hl, lo⟩ := mem_g2.mp h
  match x, hl, lo with
  | [u, v], _, lo =>
    have h1 := lo u (List.mem_cons_self ..)
    have h2 := lo v (List.mem_cons_of_mem _ (List.mem_cons_self ..))
    refine ⟨u.toNat, v.toNat, by omega, by omega, ?_⟩
    rw [Int.toNat_of_nonneg h1.1, Int.toNat_of_nonneg h2.1]
/-- the lot of a pair -/
theorem Grpd.lot (g : Grpd n ts W LLp) {p : List Int} (hp : p ∈ G2 n) : ∃ lot ∈ LLp, lot.Nodup ∧ p ∈ lot ∧ ∀ x, x ∈ lot ↔ Rch comp ts p x := by
  obtain ⟨lot, hl, hpl⟩ := g.cm p hp
  obtain ⟨q, rest, _, hq, nd, mem⟩ := g.pl.hd lot hl
  have qp := (mem p).mp hpl
  have pq := g2_sym g.is hq qp
  exact ⟨lot, hl, nd, hpl, fun x => (mem x).trans ⟨fun h => pq.trans h, fun h => qp.trans h⟩⟩
theorem Grpd.orb (g : Grpd n ts W LLp) {p : List Int} (hp : p ∈ G2 n) {lot : List (List Int)} (nd : lot.Nodup) (mem : ∀ x, x ∈ lot ↔ Rch comp ts p x) :
    (∀ x ∈ lot, (W.filter fun t => decide (comp p t = x)).length = (W.filter fun t => decide (comp p t = p)).length) ∧ W.length = lot.length * (W.filter fun t => decide (comp p t = p)).length := by
  have lo := (mem_g2.mp hp).2
  refine orbit_stab (act := comp) (mul := comp) g.nd nd (fun a ha b hb => (g.mem _).mpr (grp_mul g.is ((g.mem a).mp ha) ((g.mem b).mp hb))) (fun h hh a ha b hb e => ?_) (fun a ha b hb => comp_low_assoc lo (g.wis a ha) b) (fun t ht => (mem _).mpr ((rch_comp g.is lo).mpr ⟨t, (g.mem t).mp ht, rfl⟩)) (fun x hx => ?_)
  · have e2 : comp (comp a h) (inv h) = comp (comp b h) (inv h) := by rw [e]
    rwa [comp_assoc (g.wis a ha) (g.wis h hh), comp_assoc (g.wis b hb) (g.wis h hh), comp_inv (g.wis h hh), comp_idt (g.wis a ha), comp_idt (g.wis b hb)] at e2
  · have o := (mem x).mp hx
    have hx' := o.inU hp (g2_cl g.is)
    obtain ⟨u, hu, e⟩ := (rch_comp g.is lo).mp o
    obtain ⟨u', hu', e'⟩ := (rch_comp g.is (mem_g2.mp hx').2).mp (g2_sym g.is hp o)
    exact ⟨⟨u, (g.mem u).mpr hu, e.symm⟩, u', (g.mem u').mpr hu', e'.symm⟩
theorem off_rch {a b : Nat} (g : Grpd n ts W LLp) (ha : a < n) (hb : b < n) (ne : a ≠ b) {x : List Int} (h : Rch comp ts [(a : Int), (b : Int)] x) : ∃ c d : Nat, c < n ∧ d < n ∧ c ≠ d ∧ x = [(c : Int), (d : Int)] := by
  have hx := h.inU (pair_g2 ha hb) (g2_cl g.is)
  obtain ⟨c, d, hc, hd, rfl⟩ := g2_pair hx
  refine ⟨c, d, hc, hd, fun e => ?_, rfl⟩
  subst e
  obtain ⟨y, e, _⟩ := diag_rch.mp (g2_sym g.is (pair_g2 ha hb) h)
  injection e with e1 e2
  injection e2 with e2 _
  omega
/-- two lots of pairs, exactly if each two unlike halls are led to each two -/
theorem Grpd.rank2 (g : Grpd n ts W LLp) : 2 ≤ LLp.length ∧ (LLp.length = 2 ↔ ∀ a b : Nat, a < n → b < n → a ≠ b → Rch comp ts [0, 1] [(a : Int), (b : Int)]) := by
  have n2 := g.n2
  have p0 : [((0 : Nat) : Int), ((0 : Nat) : Int)] ∈ G2 n := pair_g2 (by omega) (by omega)
  have p1 : [((0 : Nat) : Int), ((1 : Nat) : Int)] ∈ G2 n := pair_g2 (by omega) (by omega)
  obtain ⟨A, hA, nA, inA, mA⟩ := g.lot p0
  obtain ⟨B, hB, nB, inB, mB⟩ := g.lot p1
  have ne : A ≠ B := fun e => by
    rw [← e] at inB
    obtain ⟨y, e, _⟩ := diag_rch.mp ((mA _).mp inB)
    injection e with e1 e2
    injection e2 with e2 _
    omega
  have two : 2 ≤ LLp.length := nd_le (a := [A, B]) (b := LLp) (by simp; exact ne) fun x hx => by
    rcases List.mem_cons.mp hx with e | e
    · rw [e]; exact hA
    · rw [List.mem_singleton.mp e]; exact hB
  refine ⟨two, fun h a b ha hb nab => ?_, fun h => ?_⟩
  · obtain ⟨C, hC, nC, inC, mC⟩ := g.lot (pair_g2 ha hb)
    have all := nd_all (a := [A, B]) (b := LLp) (by simp; exact ne) (fun x hx => by
      rcases List.mem_cons.mp hx with e | e
      · rw [e]; exact hA
      · rw [List.mem_singleton.mp e]; exact hB) (by rw [h]; exact Nat.le_refl _) C hC
    rcases List.mem_cons.mp all with e | e
    · rw [e] at inC
      obtain ⟨y, e, _⟩ := diag_rch.mp ((mA _).mp inC)
      injection e with e1 e2
      injection e2 with e2 _
      omega
    · rw [List.mem_singleton.mp e] at inC
      exact (mB _).mp inC
  · have le : LLp.length ≤ 2 := nd_le (a := LLp) (b := [A, B]) (pl_nd g.pl) fun C hC => by
      obtain ⟨q, rest, eC, hq, nC, mC⟩ := g.pl.hd C hC
      have inC : q ∈ C := by rw [eC]; exact List.mem_cons_self ..
      obtain ⟨a, b, ha, hb, rfl⟩ := g2_pair hq
      by_cases e : a = b
      · subst e
        have := pl_same g.pl hC hA inC ((mA _).mpr (diag_rch.mpr ⟨a, rfl, g.one a ha⟩))
        rw [this]
        exact List.mem_cons_self ..
      · have := pl_same g.pl hC hB inC ((mB _).mpr (h a b ha hb e))
        rw [this]
        exact List.mem_cons_of_mem _ (List.mem_cons_self ..)
    omega
abbrev p01 : List Int := [((0 : Nat) : Int), ((1 : Nat) : Int)]
/-- how many turns lead 0 and 1 to a pair -/
abbrev cnt (W : List (List Int)) (x : List Int) : Nat := (W.filter fun t => decide (comp p01 t = x)).length
theorem len_parts {α : Type} (p : α → Bool) : ∀ l : List α, l.length = (l.filter p).length + (l.filter fun x => !p x).length
  | [] => rfl
  | a :: l => by
    have ih := len_parts p l
    cases h : p a
    · rw [List.filter_cons_of_neg (by simp [h]), List.filter_cons_of_pos (by simp [h]), List.length_cons, List.length_cons, ih]; omega
    · rw [List.filter_cons_of_pos h, List.filter_cons_of_neg (by simp [h]), List.length_cons, List.length_cons, ih]; omega
theorem off_len (n : Nat) : ((G2 n).filter fun x => !decide (x.getD 0 0 = x.getD 1 0)).length = n * n - n := by
  have e := len_parts (fun x : List Int => decide (x.getD 0 0 = x.getD 1 0)) (G2 n)
  have d : ((G2 n).filter fun x => decide (x.getD 0 0 = x.getD 1 0)).length = n := by
    have ndg : (G2 n).Nodup := by
      unfold G2
      refine nodup_map (grid_nd n) fun x hx y hy e => ?_
      obtain ⟨x1, x2⟩ := x
      obtain ⟨y1, y2⟩ := y
      injection e with e1 e2
      injection e2 with e2 _
      have : x1 = y1 := by omega
      have : x2 = y2 := by omega
      subst x1 x2
      rfl
    have pm : ((G2 n).filter fun x => decide (x.getD 0 0 = x.getD 1 0)).Perm ((idt n).map fun h => [h, h]) := by
      refine (List.perm_ext_iff_of_nodup (List.Pairwise.filter _ ndg) (nodup_map (idt_isT n).nd fun a _ b _ e => by injection e)).mpr fun x => ?_
      rw [List.mem_filter, List.mem_map]
      constructor
      · rintro ⟨h1, h2⟩
        obtain ⟨a, b, ha, hb, rfl⟩ := g2_pair h1
        have h3 : (a : Int) = (b : Int) := of_decide_eq_true h2
        exact ⟨a, mem_idt.mpr (by omega), by rw [h3]⟩
      · rintro ⟨h, hh, rfl⟩
        have := mem_idt.mp hh
        have e : h = ((h.toNat : Nat) : Int) := by omega
        refine ⟨?_, decide_eq_true rfl⟩
        rw [e]
        exact pair_g2 (by omega) (by omega)
    rw [pm.length_eq, List.length_map, idt_len]
  have := g2_len n
  omega
/-- each two halls led to each two: as many turns as pairs, times those that leave 0 and 1 -/
theorem Grpd.twice (g : Grpd n ts W LLp) (h : LLp.length = 2) : W.length = (n * n - n) * cnt W p01 ∧ ∀ a b : Nat, a < n → b < n → a ≠ b → cnt W [(a : Int), (b : Int)] = cnt W p01 := by
  have n2 := g.n2
  have all := g.rank2.2.mp h
  have p1 : p01 ∈ G2 n := pair_g2 (by omega) (by omega)
  obtain ⟨B, hB, nB, inB, mB⟩ := g.lot p1
  obtain ⟨h1, h2⟩ := g.orb p1 nB mB
  have pm : B.Perm ((G2 n).filter fun x => !decide (x.getD 0 0 = x.getD 1 0)) := by
    have ndg : (G2 n).Nodup := (pl_flat g.is g.pl g.cm).nodup_iff.mp (flat_nd (fun k hk => by
      obtain ⟨p, rest, _, _, nd, _⟩ := g.pl.hd k hk
      exact nd) g.pl.dj)
    refine (List.perm_ext_iff_of_nodup nB (List.Pairwise.filter _ ndg)).mpr fun x => ?_
    rw [List.mem_filter]
    constructor
    · intro hx
      obtain ⟨c, d, hc, hd, ne, rfl⟩ := off_rch g (by omega) (by omega) (by decide) ((mB x).mp hx)
      refine ⟨pair_g2 hc hd, ?_⟩
      have : decide (([(c : Int), (d : Int)] : List Int).getD 0 0 = ([(c : Int), (d : Int)] : List Int).getD 1 0) = false := decide_eq_false (fun e => ne (by have e' : (c : Int) = (d : Int) := e; omega))
      rw [this]
      rfl
    · rintro ⟨h1, h2⟩
      obtain ⟨a, b, ha, hb, rfl⟩ := g2_pair h1
      refine (mB _).mpr (all a b ha hb fun e => ?_)
      subst e
      have : decide (([(a : Int), (a : Int)] : List Int).getD 0 0 = ([(a : Int), (a : Int)] : List Int).getD 1 0) = true := decide_eq_true rfl
      rw [this] at h2
      cases h2
  rw [pm.length_eq, off_len] at h2
  exact ⟨h2, fun a b ha hb ne => h1 _ ((mB _).mpr (all a b ha hb ne))⟩
end
end NS
end
section
set_option maxHeartbeats 4000000
/-! M8: a part and its likes -/
namespace NS
open PySem PySem.Spec PyProof.Rows L2 ZS
section
variable {n : Nat} {ts us : List (List Int)} {W V : List (List Int)} {t : List Int}
end
end NS
end
section
set_option maxHeartbeats 4000000
/-! M9: houses of up to five halls -/
namespace NS
open PySem PySem.Spec PyProof.Rows L2 ZS
/-- a turn done so often -/
def pw (t : List Int) : Nat → List Int
  | 0 => idt t.length
  | k + 1 => comp (pw t k) t
section
variable {n : Nat} {ts : List (List Int)} {W : List (List Int)} {t : List Int} {LLp : List (List (List Int))}
end
end NS
end
section
set_option maxHeartbeats 4000000
/-! M10: cores -/
namespace NS
open PySem PySem.Spec PyProof.Rows L2 ZS
section
variable {n : Nat} {ts : List (List Int)} {W : List (List Int)} {t : List Int} {LLp : List (List (List Int))}
/-! ### known houses -/
end
end NS
end
section
set_option maxHeartbeats 4000000
/-! M11: how often a turn must be done till all are in place; its rings -/
namespace NS
open PySem PySem.Spec PyProof.Rows L2 ZS
section
variable {n : Nat} {t : List Int} {ls : List Int}
end
end NS
end
section
set_option maxHeartbeats 4000000
/-! M12: likes: as many divide the group, rings alike; halls called otherwise -/
namespace NS
open PySem PySem.Spec PyProof.Rows L2 ZS
section
variable {n : Nat} {ts : List (List Int)} {W : List (List Int)} {t g : List Int} {ls ls' : List Int}
end
end NS
end
section
set_option maxHeartbeats 4000000
/-! M13: known houses lead each hall to each -/
namespace NS
open PySem PySem.Spec PyProof.Rows L2 ZS
end NS
end
section
set_option maxHeartbeats 4000000
/-! M14: the lots of pairs are there -/
namespace NS
open PySem PySem.Spec PyProof.Rows L2 ZS
end NS
end
section
set_option maxHeartbeats 4000000
/-! RSum: sum(tuple of whole numbers) -/
namespace ZS
open PySem PySem.Spec PyProof.Rows L2
section
variable {prog : Program} {w : World} {A : Around} {E : Value → Shared → Prop} {s : Shared} {l : Addr} {its : List Value} {ns : List Int} {Q : Value → Shared → Prop}
end
section
variable {X : Cx}
end
end ZS
end
section
set_option maxHeartbeats 4000000
/-! N1: roamers, and what is told of them -/
namespace NS
open PySem PySem.Spec PyProof.Rows L2 ZS
/-- a house with its checks' tables, whole, its group small -/
def HW (K : PySem.W.Frag) (pT pA : Addr) (H : Hp) (v : V) (n : Nat) (ts U : List (List Int)) : Prop := HouseAt K H v n ts ∧ IsH n ts ∧ GxR.TabG H pT ∧ GxR.TabG H pA ∧ Room' n comp ts (idt n) U
theorem HW.kp {K : PySem.W.Frag} {pT pA : Addr} {H H' : Hp} {v : V} {n : Nat} {ts U : List (List Int)} (h : HW K pT pA H v n ts U) (z : Kp H H') : HW K pT pA H' v n ts U := ⟨z.house h.1, h.2.1, z.tabG h.2.2.1, z.tabG h.2.2.2.1, h.2.2.2.2⟩
section
variable {P : Program} {w : World} {K : PySem.W.Frag} {mg : Str → Option Value} {base : Heap} {f : Addr} {fd : FuncData} {pT pA : Addr} {S : Addr → Option Sp}
end
end NS
end
section
set_option maxHeartbeats 4000000
/-! LP: what most laws begin with -/
namespace NS
open PySem PySem.Spec PyProof.Rows L2 ZS
section
variable {X : Cx}
end
section
variable {K : PySem.W.Frag} {H H' : Hp} {r sa wa : Addr} {v tv : V} {n : Nat} {ts U : List (List Int)} {pT pA : Addr} {W : List (Addr × List Int)}
end
end NS
end
section
set_option maxHeartbeats 4000000
/-! N17: texts: words_of, second_word, check_end, read_halls -/
namespace NS
open PySem PySem.Spec PyProof.Rows L2 ZS
abbrev vS (w : Cs) : V := .str (SX.S w)
theorem vS_ne {a b : Cs} : (!decide (vS a = vS b)) = !decide (a = b) := by
  congr 1
  exact decide_eq_decide.mpr ⟨fun e => SX.S_inj (V.str.inj e), fun e => by rw [e]⟩
/-- a comprehension over a list of what f makes -/
theorem lcL {K : PySem.W.Frag} {α : Type} (d : α) (f fv : α → V) {g : TG} {tt : TT} {te : TE} {vs : List Nat} {σ : L2.St} {H : Hp} {D wa : Addr} {Qd : Hp → Prop} {W : List α} (hL : SqL K H wa (W.map f)) (hD : H D = none) (few : W.length < sizeLine) (pb : α → Bool)
    (el : ∀ p ∈ W, ∀ H' (Q1 : V → Hp → Prop) (Q0 : Hp → Prop), Kp H H' → (∀ H4, pb p = true → Kp H' H4 → Q1 (fv p) H4) → (∀ H3, pb p = false → Kp H' H3 → Q0 H3) →
      g (f p) (wipe σ vs) H' fun σ2 H2 => wipe σ2 vs = wipe σ vs ∧ tt σ2 H2 fun b H3 => if b = true then te σ2 H3 Q1 else Q0 H3)
    (fin : ∀ H', Kp H H' → H' D = some (.lst ((W.filter pb).map fv)) → Qd H') :
    ∃ Z : Nat → Nat → Hp → Prop, (∃ m, Z 0 m (upd H D (.lst []))) ∧ ∀ i m H, Z i m H →
      ((Itl K wa).stop i H ∧ Qd H) ∨ ((Itl K wa).go i H ∧ ∃ Nx : Hp → Prop, (∀ H', Nx H' → ∃ m', m' < m ∧ Z (i + 1) m' H') ∧ ∀ x H', (Itl K wa).yld i H x H' → g x (wipe σ vs) H' fun σ2 H2 => wipe σ2 vs = wipe σ vs ∧ tt σ2 H2 fun b H3 =>
        if b = true then te σ2 H3 fun y H4 => ∃ acc, H4 D = some (.lst acc) ∧ acc.length < sizeLine ∧ Nx (upd H4 D (.lst (acc ++ [y]))) else Nx H3) := by
  refine lcG (Wlk.lst (K := K) hL) hD (by rw [List.length_map]; exact few) (fun i => pb (W.getD i d)) (fun i y _ => y = fv (W.getD i d)) (fun _ _ _ _ _ h => h) (fun i x H' Q1 Q0 hi z hx q1 q0 => ?_) (fun ys H' z hD' hpr => ?_)
  · obtain ⟨p, hpW, rfl⟩ := map_some hx
    have ep : W.getD i d = p := getD_of hpW
    exact el p (List.mem_of_getElem? hpW) H' Q1 Q0 z (fun H4 hb z4 => q1 _ _ (by rw [ep]; exact hb) z4 (by rw [ep])) (fun H3 hb z3 => q0 _ (by rw [ep]; exact hb) z3)
  · rw [List.length_map] at hpr
    have e := paired_map (f := fun i => fv (W.getD i d)) (fun _ _ e => e) hpr
    have e2 : ys = (W.filter pb).map fv := by
      rw [e, ← filter_at W d pb, List.map_map]
      rfl
    subst e2
    exact fin H' z hD'
theorem rds1 (x : Cs) : rdSecond [x] x = .error 2 := by simp [rdSecond]
theorem rds2 (x b : Cs) (r : List Cs) : rdSecond (x :: b :: r) x = .ok b := by simp [rdSecond]
theorem rds0 {x y : Cs} (h : x ≠ y) (r : List Cs) : rdSecond (x :: r) y = .error 1 := by simp [rdSecond, h]
theorem scWordsOf : FnScope ["line", "word"] ["line"] (defScope sWordsOf) := ⟨rfl, rfl, rfl, by decide +kernel, rfl, by decide +kernel, by decide +kernel⟩
theorem scSecond : FnScope ["number", "words", "first"] ["number", "words", "first"] (defScope sSecond) := ⟨rfl, rfl, rfl, by decide +kernel, rfl, by decide +kernel, by decide +kernel⟩
theorem scChkEnd : FnScope ["number", "words"] ["number", "words"] (defScope sChkEnd) := ⟨rfl, rfl, rfl, by decide +kernel, rfl, by decide +kernel, by decide +kernel⟩
theorem scReadHalls : FnScope ["number", "words", "halls"] ["number", "words"] (defScope sReadHalls) := ⟨rfl, rfl, rfl, by decide +kernel, rfl, by decide +kernel, by decide +kernel⟩
/-- the error of line k, word j is what is wished -/
def ErrAt (E : XK) (C : Addr) (k j : Nat) (H : Hp) : Prop := ∀ d H', Kp H H' → H' d = none → E (.ref C) (some d) (upd H' d (.xd [("word", .int (j : Int)), ("line", .int (k : Int))]))
theorem ErrAt.kp {E : XK} {C : Addr} {k j : Nat} {H H' : Hp} (h : ErrAt E C k j H) (z : Kp H H') : ErrAt E C k j H' := fun d H2 z2 => h d H2 (z.trans z2)
def spWordsOf : Sp := fun vs H Q _ => ∃ l : Cs, vs = [vS l] ∧ l.length ≤ 4000 ∧ ∀ p H', Kp H H' → H' p = some (.lst ((wds l).map vS)) → Q (.ref p) H'
def spSecond (K : PySem.W.Frag) (C : Addr) : Sp := fun vs H Q E => ∃ (k : Nat) (a : Addr) (ws : List Cs) (first : Cs), vs = [.int (k : Int), .ref a, vS first] ∧ SqL K H a (ws.map vS) ∧ ws ≠ [] ∧ (∀ j, rdSecond ws first = .error j → ErrAt E C k j H) ∧ ∀ b, rdSecond ws first = .ok b → Q (vS b) H
def spChkEnd (K : PySem.W.Frag) (C : Addr) : Sp := fun vs H Q E => ∃ (k : Nat) (a : Addr) (xs : List V), vs = [.int (k : Int), .ref a] ∧ SqL K H a xs ∧ (2 < xs.length → ErrAt E C k 3 H) ∧ (xs.length ≤ 2 → Q .non H)
def spReadHalls (K : PySem.W.Frag) (C : Addr) : Sp := fun vs H Q E => ∃ (k : Nat) (a : Addr) (ws : List Cs), vs = [.int (k : Int), .ref a] ∧ SqL K H a (ws.map vS) ∧ ws ≠ [] ∧ (∀ j, rdHalls ws = .error j → ErrAt E C k j H) ∧ ∀ d, rdHalls ws = .ok d → Q (.int d) H
section
variable {P : Program} {w : World} {K : PySem.W.Frag} {mg : Str → Option Value} {base : Heap} {f C : Addr} {fd : FuncData}
theorem has_wordsof (F : FnP K "words_of" sWordsOf f fd) (m : mg "words_of" = some (.ref f)) : Has P w K mg base "words_of" 1 [] spWordsOf := by
  refine ⟨f, fd, ["line"], [], m, F.kp, F.bindsN (fun _ _ _ _ _ _ us hl => match us, hl with | [_], _ => rfl), .nil, ?_⟩
  refine F.ok scWordsOf (fun vs H Q E h => ?_) (fun cdv A outer s H vs Q E hr h => ⟨_, PSs.nox (
    pss_one (ps_ret (pe_lc (own := [("word", 1)]) (g := gName 1) (tt := tTest (tOp rNe (tVar 1) (tC (.str "")))) (te := tVar 1) rfl scWordsOf.nd (pi_list (pe_split (pv 0) pe_str)) (blkOk_by (N := ["line", "word"]) (sc := defScope sWordsOf) (by decide +kernel)) (fun _ _ _ _ _ => pg_name (i := 1) scWordsOf.nd rfl (Or.inl rfl)) (fun _ _ _ _ _ => pts_one (pt_cmpR op_ne (pv 1) pe_str (nomark _))) (fun _ _ _ _ _ => pv 1)))), ?_⟩)
  · obtain ⟨l, rfl, _⟩ := h
    rfl
  · obtain ⟨l, rfl, hl, q⟩ := h
    refine ⟨_, rfl, ⟨_, rfl⟩, SX.S l, SX.S [32], rfl, rfl, by decide +kernel, by rw [SX.S_len, sizeLine_eq]; omega, fun p hp => ?_⟩
    rw [split_cut 32 (by decide), List.map_map]
    have z1 := (Kp.refl H).new hp (o := .lst ((cutC 32 l).map (V.str ∘ SX.S)))
    refine ⟨p, rfl, ⟨_, SqL.of upd_same⟩, fun D hD => ?_⟩
    refine lcL ([] : Cs) vS vS (W := cutC 32 l) (SqL.of upd_same) hD ?_ (fun w => !decide (w = [])) (fun x hx H' Q1 Q0 z q1 q0 => ?_) (fun H' z hD' => q _ _ (z1.trans z) hD')
    · have e := congrArg List.length (split_cut 32 (by decide) l)
      have := PyProof.Rows.split_le (SX.S l) (SX.S [32])
      rw [e, List.length_map, SX.S_len] at this
      rw [sizeLine_eq]
      omega
    · refine ⟨rfl, _, rfl, rfl, _, rfl, ?_⟩
      show if (!decide (vS x = vS [])) = true then _ else _
      rw [vS_ne]
      cases e : (!decide (x = []) : Bool) with
      | true =>
        rw [if_pos rfl]
        exact ⟨_, rfl, q1 _ e (Kp.refl _)⟩
      | false =>
        rw [if_neg Bool.false_ne_true]
        exact q0 _ e (Kp.refl _)
theorem has_second (F : FnP K "second_word" sSecond f fd) (m : mg "second_word" = some (.ref f)) (B : Bl mg) (T : ErrF2 P w K mg base "BadLine" "line" "word" C) : HasX P w K mg base "second_word" 3 (spSecond K C) := by
  refine ⟨f, fd, ["number", "words", "first"], m, F.kp, F.bindsN (fun _ _ _ _ _ _ us hl => match us, hl with | [_, _, _], _ => rfl), ?_⟩
  refine F.ok scSecond (fun vs H Q E h => ?_) (fun cdv A outer s H vs Q E hr h => ⟨_,
    pss_cons (ps_if (pt_cmpR op_ne (pe_ix (r := rIxL K) ix_list (pv 1) pe_int (fun _ _ => rfl)) (pv 2) (nomark _)) (pss_one (ps_raiseF2 (k := 0) T hr (takes_of rfl rfl rfl rfl) (pa_cons (pv 0) (pa_cons pe_int pa_nil)))) pss_nil)
    (pss_cons (ps_if (pt_cmpR op_lt (pe_callB call_len_seq rfl B.len PySem.boot_len (pa_cons (pv 1) pa_nil)) pe_int (nomark _)) (pss_one (ps_raiseF2 (k := 0) T hr (takes_of rfl rfl rfl rfl) (pa_cons (pv 0) (pa_cons pe_int pa_nil)))) pss_nil)
    (PSs.nox (pss_one (ps_ret (pe_ix (r := rIxL K) ix_list (pv 1) pe_int (fun _ _ => rfl)))))), ?_⟩)
  · obtain ⟨k, a, ws, first, rfl, _⟩ := h
    rfl
  · obtain ⟨k, a, ws, first, rfl, hL, ne, qe, q⟩ := h
    cases ws with
    | nil => exact absurd rfl ne
    | cons x xs =>
      refine ⟨_, rfl, a, _, 0, _, rfl, rfl, hL, atI_nat (j := 0) rfl, _, rfl, rfl, _, rfl, ?_⟩
      by_cases e : x = first
      · subst e
        refine ifF (A := _) (B := _) (by rw [vS_ne, decide_eq_true rfl]; rfl) ?_
        refine ⟨_, rfl, a, _, rfl, .inl hL, _, _, rfl, rfl, _, rfl, ?_⟩
        rw [List.length_map]
        cases xs with
        | nil =>
          refine ifT (A := _) (B := _) rfl ?_
          refine ⟨_, rfl, mkF2 fun d hd => ?_⟩
          exact qe 2 (rds1 x) d H (Kp.refl H) hd
        | cons b r =>
          refine ifF (A := _) (B := _) (decide_eq_false (by simp only [List.length_cons]; omega)) ?_
          exact ⟨_, rfl, a, _, 1, _, rfl, rfl, hL, atI_nat (j := 1) rfl, q b (rds2 x b r)⟩
      · refine ifT (A := _) (B := _) (by rw [vS_ne, decide_eq_false e]; rfl) ?_
        refine ⟨_, rfl, mkF2 fun d hd => ?_⟩
        exact qe 1 (rds0 e xs) d H (Kp.refl H) hd
theorem has_chkend (F : FnP K "check_end" sChkEnd f fd) (m : mg "check_end" = some (.ref f)) (B : Bl mg) (T : ErrF2 P w K mg base "BadLine" "line" "word" C) : HasX P w K mg base "check_end" 3 (spChkEnd K C) := by
  refine ⟨f, fd, ["number", "words"], m, F.kp, F.bindsN (fun _ _ _ _ _ _ us hl => match us, hl with | [_, _], _ => rfl), ?_⟩
  refine F.ok scChkEnd (fun vs H Q E h => ?_) (fun cdv A outer s H vs Q E hr h => ⟨_,
    pss_one (ps_if (pt_cmpR op_gt (pe_callB call_len_seq rfl B.len PySem.boot_len (pa_cons (pv 1) pa_nil)) pe_int (nomark _)) (pss_one (ps_raiseF2 (k := 0) T hr (takes_of rfl rfl rfl rfl) (pa_cons (pv 0) (pa_cons pe_int pa_nil)))) pss_nil), ?_⟩)
  · obtain ⟨k, a, xs, rfl, _⟩ := h
    rfl
  · obtain ⟨k, a, xs, rfl, hL, qe, q⟩ := h
    refine ⟨_, rfl, a, _, rfl, .inl hL, _, _, rfl, rfl, _, rfl, ?_⟩
    by_cases h : 2 < xs.length
    · refine ifT (A := _) (B := _) (decide_eq_true (by omega)) ?_
      exact ⟨_, rfl, mkF2 fun d hd => qe h d H (Kp.refl H) hd⟩
    · exact ifF (A := _) (B := _) (decide_eq_false (by omega)) (q (by omega))
theorem has_rdhalls (F : FnP K "read_halls" sReadHalls f fd) (m : mg "read_halls" = some (.ref f)) (m8 : ∃ t, mg "MOST_HALLS" = some (.int 8 t)) {da : Addr} (mF : mg "FIGURES" = some (.ref da)) (D : DicS K w da figs) (T : ErrF2 P w K mg base "BadLine" "line" "word" C)
    (hN : Has P w K mg base "is_number" 1 [] (spNumX K)) (hS : HasX P w K mg base "second_word" 3 (spSecond K C)) (hE : HasX P w K mg base "check_end" 3 (spChkEnd K C)) : HasX P w K mg base "read_halls" 4 (spReadHalls K C) := by
  obtain ⟨t8, m8⟩ := m8
  refine ⟨f, fd, ["number", "words"], m, F.kp, F.bindsN (fun _ _ _ _ _ _ us hl => match us, hl with | [_, _], _ => rfl), ?_⟩
  refine F.ok scReadHalls (fun vs H Q E h => ?_) (fun cdv A outer s H vs Q E hr h => ⟨_,
    pss_cons (ps_set (i := 2) scReadHalls.nd rfl (Or.inl rfl) (pe_kget (pe_glob (v := .ref da) rfl mF rfl) (pe_hasX hS hr (by decide) (takes_of rfl rfl rfl rfl) (pa_cons (pv 0) (pa_cons (pv 1) (pa_cons pe_str pa_nil)))) ⟨rfl, rfl, rfl, rfl⟩))
    (pss_cons (ps_if (pt_not (pt_val (pe_has hN hr (by decide) (pa_cons (pv 2) (pa_cons pe_int (pa_cons (pe_glob (v := .int 8) rfl m8 ⟨_, rfl⟩) pa_nil)))))) (pss_one (ps_raiseF2 (k := 1) T hr (takes_of rfl rfl rfl rfl) (pa_cons (pv 0) (pa_cons pe_int pa_nil)))) pss_nil)
    (pss_cons (ps_expr (pe_hasX hE hr (by decide) (takes_of rfl rfl rfl rfl) (pa_cons (pv 0) (pa_cons (pv 1) pa_nil))))
    (PSs.nox (pss_one (ps_ret (pv 2)))))), ?_⟩)
  · obtain ⟨k, a, ws, rfl, _⟩ := h
    rfl
  · obtain ⟨k, a, ws, rfl, hL, ne, qe, q⟩ := h
    refine ⟨da, figs, rfl, D, _, rfl, _, rfl, k, a, ws, cHalls, rfl, hL, ne, fun j e => qe j (by unfold rdHalls; rw [e]), fun b e => ?_⟩
    refine ⟨SX.S b, rfl, ?_⟩
    show gName 2 ((figC b).elim V.non V.int) _ _ _
    have eH : rdHalls ws = (match figC b with
      | some d => if 1 ≤ d ∧ d ≤ 8 then (if 2 < ws.length then .error 3 else .ok d) else .error 2
      | none => .error 2) := by
      unfold rdHalls
      rw [e] <;> rfl
    cases ef : figC b with
    | none =>
      rw [ef] at eH
      refine ⟨_, rfl, .non, 1, 8, false, rfl, .inr ⟨.inr ⟨"NoneType", fun _ _ => .base .non, by decide +kernel⟩, rfl⟩, _, rfl, ifT (A := _) (B := _) rfl ?_⟩
      exact ⟨_, rfl, mkF2 fun d hd => qe 2 eH d H (Kp.refl H) hd⟩
    | some i =>
      rw [ef] at eH
      refine ⟨_, rfl, .int i, 1, 8, decide (1 ≤ i ∧ i ≤ 8), rfl, .inl ⟨i, rfl, rfl⟩, _, rfl, ?_⟩
      by_cases hi : 1 ≤ i ∧ i ≤ 8
      · refine ifF (A := _) (B := _) (by rw [decide_eq_true hi]; rfl) ?_
        have eH : rdHalls ws = (if 2 < ws.length then .error 3 else .ok i) := by
          rw [eH]
          show (if 1 ≤ i ∧ i ≤ 8 then _ else _) = _
          rw [if_pos hi]
        refine ⟨_, rfl, _, rfl, k, a, _, rfl, hL, fun hl => qe 3 (by rw [eH, if_pos (by rw [List.length_map] at hl; exact hl)]), fun hl => ?_⟩
        exact ⟨_, rfl, q i (by rw [eH, if_neg (by rw [List.length_map] at hl; omega)])⟩
      · refine ifT (A := _) (B := _) (by rw [decide_eq_false hi]; rfl) ?_
        have eH : rdHalls ws = .error 2 := by
          rw [eH]
          show (if 1 ≤ i ∧ i ≤ 8 then _ else _) = _
          rw [if_neg hi]
        exact ⟨_, rfl, mkF2 fun d hd => qe 2 eH d H (Kp.refl H) hd⟩
end
end NS
end
section
set_option maxHeartbeats 4000000
/-! N18: read_turn, read_lines, read_house -/
namespace NS
open PySem PySem.Spec PyProof.Rows L2 ZS
theorem Wlk.str {H : Hp} (l : Cs) : Wlk (Its (SX.S l)) H l.length (fun i x _ => ∃ c, l[i]? = some c ∧ x = .str ⟨#[c]⟩) where
  go := fun i H' z hi => by show i < l.toArray.size; simpa using hi
  stop := fun H' z => by show l.toArray.size ≤ l.length; simp
  yld := fun i H1 x H2 z hi y => by
    obtain ⟨e, c, hc, y⟩ := y
    subst e
    exact ⟨Kp.refl _, c, by simpa using hc, y⟩
theorem Wlk.enumS {K : PySem.W.Frag} {H : Hp} {a : Addr} {xs : List V} (c : Int) (h : SqL K H a xs) : Wlk (IteS K a c) H xs.length (fun i x H2 => ∃ T v, x = .ref T ∧ H2 T = some (.tup [.int (c + (i : Nat)), v]) ∧ xs[i]? = some v) where
  go := fun i H' z hi => ⟨xs, xs[i], z.sqL h, by simp [hi]⟩
  stop := fun H' z => ⟨xs, z.sqL h, Nat.le_refl _⟩
  yld := fun i H1 x H2 z hi y => by
    obtain ⟨T, v, e, hn, eh, y⟩ := y
    subst eh
    exact ⟨(Kp.refl _).new hn, T, v, e, upd_same, y xs (z.sqL h)⟩
abbrev vO (o : Option Int) : V := o.elim .non .int
theorem allS_none : ∀ {os : List (Option Int)}, allS os = none → none ∈ os
  | none :: _, _ => List.mem_cons_self
  | some i :: r, h => by
    rw [allS] at h
    cases e : allS r with
    | none => exact List.mem_cons_of_mem _ (allS_none e)
    | some l => rw [e] at h; cases h
theorem allS_map : ∀ {os : List (Option Int)} {t : List Int}, allS os = some t → os = t.map some
  | [], t, h => by cases h; rfl
  | none :: _, _, h => by cases h
  | some i :: r, t, h => by
    rw [allS] at h
    cases e : allS r with
    | none => rw [e] at h; cases h
    | some l =>
      rw [e] at h
      cases h
      rw [allS_map e]
      rfl
/-- whether what was read is a turn -/
def rdB (n : Int) (os : List (Option Int)) : Bool := match allS os with
  | some t => turnB n t
  | none => false
theorem numX_o {K : PySem.W.Frag} {H : Hp} {lo hi : Int} (o : Option Int) : NumX K H lo hi (vO o) (match o with | some i => decide (lo ≤ i ∧ i ≤ hi) | none => false) := by
  cases o with
  | none => exact .inr ⟨.inr ⟨"NoneType", fun _ _ => .base .non, by decide +kernel⟩, rfl⟩
  | some i => exact .inl ⟨i, rfl, rfl⟩
theorem pr_mapX {α β γ : Type} {F : β → γ → Prop} (f : α → β) (g : α → γ) (h : ∀ a, F (f a) (g a)) : ∀ l : List α, Paired F (l.map f) (l.map g)
  | [] => .nil
  | a :: l => .cons (h a) (pr_mapX f g h l)
theorem turnX_of {K : PySem.W.Frag} {H : Hp} {n : Nat} {a : Addr} {os : List (Option Int)} (h : SqT K H a (os.map vO)) (n8 : n ≤ 8) : TurnX K H n (.ref a) (rdB n os) := by
  by_cases hl : os.length = n
  · cases e : allS os with
    | none =>
      refine .inr (.inr (.inl ⟨a, _, os.map (fun o => match o with | some i => decide (0 ≤ i ∧ i ≤ (n : Int) - 1) | none => false), rfl, h, by rw [List.length_map, hl], pr_mapX _ _ (fun o => numX_o o) os, ?_, by unfold rdB; rw [e]⟩))
      exact List.mem_map.mpr ⟨none, allS_none e, rfl⟩
    | some t =>
      have em := allS_map e
      subst em
      rw [List.length_map] at hl
      have e2 : (t.map some).map vO = t.map V.int := by rw [List.map_map]; rfl
      have er : rdB n (t.map some) = turnB n t := by unfold rdB; rw [e]
      rw [er]
      by_cases hb : ∀ k ∈ t, 0 ≤ k ∧ k < (n : Int)
      · refine .inr (.inr (.inr ⟨a, t, rfl, by rw [← e2]; exact h, hl, by omega, hb, ?_⟩))
        unfold turnB
        rw [decide_eq_true (show (t.length : Int) = n by omega), List.all_eq_true.mpr (fun k hk => decide_eq_true (hb k hk))]
        rfl
      · have hx : ∃ k ∈ t, ¬ (0 ≤ k ∧ k < (n : Int)) := Classical.byContradiction fun q => hb fun k hk => Classical.byContradiction fun r => q ⟨k, hk, r⟩
        obtain ⟨k, hk, hn⟩ := hx
        refine .inr (.inr (.inl ⟨a, _, (t.map some).map (fun o => match o with | some i => decide (0 ≤ i ∧ i ≤ (n : Int) - 1) | none => false), rfl, h, by rw [List.length_map, List.length_map, hl], pr_mapX _ _ (fun o => numX_o o) _, ?_, ?_⟩))
        · rw [List.map_map]
          exact List.mem_map.mpr ⟨k, hk, decide_eq_false (by omega)⟩
        · unfold turnB
          have : t.all (fun k => decide (0 ≤ k ∧ k < (n : Int))) = false := List.all_eq_false.mpr ⟨k, hk, by simp only [decide_eq_true_iff]; exact hn⟩
          rw [this, Bool.and_false]
          rfl
  · refine .inr (.inl ⟨a, _, rfl, h, by rw [List.length_map]; exact hl, ?_⟩)
    unfold rdB
    cases e : allS os with
    | none => rfl
    | some t =>
      have em := allS_map e
      subst em
      rw [List.length_map] at hl
      show turnB n t = false
      unfold turnB
      rw [decide_eq_false (show ¬ (t.length : Int) = n by omega)]
      rfl
theorem scReadTurn : FnScope ["number", "words", "halls", "turn", "sign"] ["number", "words", "halls"] (defScope sReadTurn) := ⟨rfl, rfl, rfl, by decide +kernel, rfl, by decide +kernel, by decide +kernel⟩
def spReadTurn (K : PySem.W.Frag) (pT C : Addr) : Sp := fun vs H Q E => ∃ (k n : Nat) (a : Addr) (ws : List Cs), vs = [.int (k : Int), .ref a, .int (n : Int)] ∧ SqL K H a (ws.map vS) ∧ ws ≠ [] ∧ (∀ w ∈ ws, w.length ≤ 4000) ∧ n ≤ 8 ∧ GxR.TabG H pT ∧ (∀ j, rdTurn n ws = .error j → ErrAt E C k j H) ∧
  ∀ t, rdTurn n ws = .ok t → ∀ v H', Kp H H' → PT H' v t → Q v H'
section
variable {P : Program} {w : World} {K : PySem.W.Frag} {mg : Str → Option Value} {base : Heap} {f C pT : Addr} {fd : FuncData}
theorem rdSecond_mem {ws : List Cs} {first b : Cs} (h : rdSecond ws first = .ok b) : b ∈ ws := by
  unfold rdSecond at h
  split at h
  · cases h
  · split at h
    · split at h
      · cases h
      · cases h
        simp
    · cases h
theorem has_rdturn (F : FnP K "read_turn" sReadTurn f fd) (m : mg "read_turn" = some (.ref f)) (B : Bl mg) {da : Addr} (mF : mg "FIGURES" = some (.ref da)) (D : DicS K w da figs) (T : ErrF2 P w K mg base "BadLine" "line" "word" C)
    (hN : Has P w K mg base "is_turn" 3 [] (spTurnX K pT)) (hS : HasX P w K mg base "second_word" 3 (spSecond K C)) (hE : HasX P w K mg base "check_end" 3 (spChkEnd K C)) : HasX P w K mg base "read_turn" 4 (spReadTurn K pT C) := by
  refine ⟨f, fd, ["number", "words", "halls"], m, F.kp, F.bindsN (fun _ _ _ _ _ _ us hl => match us, hl with | [_, _, _], _ => rfl), ?_⟩
  refine F.ok scReadTurn (fun vs H Q E h => ?_) (fun cdv A outer s H vs Q E hr h => ⟨_,
    pss_cons (ps_set (i := 3) scReadTurn.nd rfl (Or.inl rfl) (pe_callTy cr_tupP rfl B.tuple PyProof.Rows.boot_tuple (pa_cons (pe_lc (own := [("sign", 4)]) (g := gName 4) (tt := tYes) (te := tKGet K w (tC (.ref da)) (tVar 4)) rfl scReadTurn.nd (pi_str (pe_hasX hS hr (by decide) (takes_of rfl rfl rfl rfl) (pa_cons (pv 0) (pa_cons (pv 1) (pa_cons pe_str pa_nil))))) (blkOk_by (N := ["number", "words", "halls", "turn", "sign"]) (sc := defScope sReadTurn) (by decide +kernel)) (fun _ _ _ _ _ => pg_name (i := 4) scReadTurn.nd rfl (Or.inl rfl)) (fun _ _ _ _ _ => pts_nil) (fun _ _ _ _ _ => pe_kget (pe_glob (v := .ref da) rfl mF rfl) (pv 4) ⟨rfl, rfl, rfl, rfl⟩)) pa_nil)))
    (pss_cons (ps_if (pt_not (pt_val (pe_has hN hr (by decide) (pa_cons (pv 2) (pa_cons (pv 3) pa_nil))))) (pss_one (ps_raiseF2 (k := 1) T hr (takes_of rfl rfl rfl rfl) (pa_cons (pv 0) (pa_cons pe_int pa_nil)))) pss_nil)
    (pss_cons (ps_expr (pe_hasX hE hr (by decide) (takes_of rfl rfl rfl rfl) (pa_cons (pv 0) (pa_cons (pv 1) pa_nil))))
    (PSs.nox (pss_one (ps_ret (pv 3)))))), ?_⟩)
  · obtain ⟨k, n, a, ws, rfl, _⟩ := h
    rfl
  · obtain ⟨k, n, a, ws, rfl, hL, ne, hw, n8, gT, qe, q⟩ := h
    refine ⟨_, rfl, _, rfl, k, a, ws, cTurn, rfl, hL, ne, fun j e => qe j (by unfold rdTurn; rw [e]), fun b e => ?_⟩
    have hb := hw b (rdSecond_mem e)
    refine ⟨SX.S b, rfl, fun E1 hE1 => ?_⟩
    refine lcF (Wlk.str b) hE1 (by rw [sizeLine_eq]; omega) (fun i y _ => y = vO (figC [b.getD i 0])) (fun _ _ _ _ _ h => h) (fun i x H2 Q1 hi z hx q1 => ?_) (fun x H2 Q Q' h q => mono_name x _ H2 Q Q' h q) (fun ys H2 z hD hpr => ?_)
    · obtain ⟨c, hc, rfl⟩ := hx
      refine ⟨rfl, da, figs, rfl, D, _, rfl, _, rfl, ?_⟩
      refine q1 _ _ (Kp.refl _) ?_
      rw [getD_of hc]
      rfl
    · have ey : ys = (b.map fun c => figC [c]).map vO := by
        rw [paired_map (f := fun i => vO (figC [b.getD i 0])) (fun _ _ e => e) hpr]
        have := map_range_getD b 0
        rw [List.map_map]
        conv => rhs; rw [← this]
        rw [List.map_map]
        rfl
      subst ey
      refine ⟨E1, _, rfl, SqL.of hD, fun l o hl ho => ?_⟩
      have z2 := (Kp.refl H2).new hl (o := .frz o (.tup ((b.map fun c => figC [c]).map vO)))
      have zz := z.trans z2
      have sq : SqT K (upd H2 l (.frz o (.tup ((b.map fun c => figC [c]).map vO)))) l ((b.map fun c => figC [c]).map vO) := .inl (.inr ⟨o, upd_same⟩)
      have fz : upd H2 l (.frz o (.tup ((b.map fun c => figC [c]).map vO))) l = some (.frz o (.tup ((b.map fun c => figC [c]).map vO))) := upd_same
      generalize upd H2 l (.frz o (.tup ((b.map fun c => figC [c]).map vO))) = H3 at zz sq fz ⊢
      refine ⟨_, rfl, _, rfl, n, .ref l, _, rfl, turnX_of sq n8, zz.tabG gT, fun H4 z4 => ?_⟩
      have z04 := zz.trans z4
      have eT : rdTurn n ws = (match allS (b.map fun c => figC [c]) with
        | some t => if turnB n t = true then (if 2 < ws.length then .error 3 else .ok t) else .error 2
        | none => .error 2) := by
        unfold rdTurn
        rw [e] <;> rfl
      have erd : rdB n (b.map fun c => figC [c]) = match allS (b.map fun c => figC [c]) with
        | some t => turnB n t
        | none => false := rfl
      cases ea : allS (b.map fun c => figC [c]) with
      | none =>
        rw [ea] at eT erd
        have erd : rdB n (b.map fun c => figC [c]) = false := erd
        rw [erd]
        refine ⟨_, rfl, ifT (A := _) (B := _) rfl ⟨_, rfl, mkF2 fun d hd => ?_⟩⟩
        exact qe 2 eT d H4 z04 hd
      | some t =>
        rw [ea] at eT erd
        have erd : rdB n (b.map fun c => figC [c]) = turnB n t := erd
        rw [erd]
        have em := allS_map ea
        cases et : turnB n t with
        | false =>
          have eT : rdTurn n ws = .error 2 := by
            rw [eT]
            show (if turnB n t = true then _ else _) = _
            rw [et, if_neg Bool.false_ne_true]
          refine ⟨_, rfl, ifT (A := _) (B := _) rfl ⟨_, rfl, mkF2 fun d hd => ?_⟩⟩
          exact qe 2 eT d H4 z04 hd
        | true =>
          have eT : rdTurn n ws = (if 2 < ws.length then .error 3 else .ok t) := by
            rw [eT]
            show (if turnB n t = true then _ else _) = _
            rw [et, if_pos rfl]
          refine ⟨_, rfl, ifF (A := _) (B := _) rfl ?_⟩
          refine ⟨_, rfl, _, rfl, k, a, _, rfl, z04.sqL hL, fun hl => ?_, fun hl => ?_⟩
          · exact (qe 3 (by rw [eT, if_pos (by rw [List.length_map] at hl; exact hl)])).kp z04
          · refine ⟨_, rfl, q t (by rw [eT, if_neg (by rw [List.length_map] at hl; omega)]) _ _ z04 ?_⟩
            refine z4.pt (.of (o := o) ?_ ho)
            rw [fz, em, List.map_map]
            rfl
end
theorem cutC_len {c : Nat} : ∀ {l p : Cs}, p ∈ cutC c l → p.length ≤ l.length
  | [], p, h => by
    have : p = [] := by simpa [cutC] using h
    rw [this]
    exact Nat.le_refl _
  | x :: r, p, h => by
    by_cases e : x = c
    · subst e
      rw [cutC_hit] at h
      rcases List.mem_cons.mp h with e | h
      · rw [e]; exact Nat.zero_le _
      · exact Nat.le_succ_of_le (cutC_len h)
    · obtain ⟨q, qs, e1, e2⟩ := cutC_miss e r
      rw [e2] at h
      rcases List.mem_cons.mp h with e | h
      · rw [e]
        exact Nat.succ_le_succ (cutC_len (by rw [e1]; exact List.mem_cons_self))
      · exact Nat.le_succ_of_le (cutC_len (by rw [e1]; exact List.mem_cons_of_mem _ h))
theorem cutC_count (c : Nat) : ∀ l : Cs, (cutC c l).length ≤ l.length + 1
  | [] => by simp [cutC]
  | x :: r => by
    by_cases e : x = c
    · subst e
      rw [cutC_hit]
      exact Nat.succ_le_succ (cutC_count x r)
    · obtain ⟨q, qs, e1, e2⟩ := cutC_miss e r
      have := cutC_count c r
      rw [e1] at this
      rw [e2]
      simp only [List.length_cons] at this ⊢
      omega
theorem wds_len {l p : Cs} (h : p ∈ wds l) : p.length ≤ l.length := cutC_len (List.mem_filter.mp h).1
theorem rdHalls_lo {ws : List Cs} {d : Int} (h : rdHalls ws = .ok d) : 1 ≤ d ∧ d ≤ 8 := by
  unfold rdHalls at h
  split at h
  · cases h
  · split at h
    · split at h
      · split at h
        · cases h
        · cases h
          assumption
      · cases h
    · cases h
abbrev nRL : List Str := ["lines", "halls", "turns", "number", "line", "words"]
theorem scReadLines : FnScope nRL ["lines"] (defScope sReadLines) := ⟨rfl, rfl, rfl, by decide +kernel, rfl, by decide +kernel, by decide +kernel⟩
theorem scReadHouse : FnScope ["text", "lines", "halls", "turns"] ["text"] (defScope sReadHouse) := ⟨rfl, rfl, rfl, by decide +kernel, rfl, by decide +kernel, by decide +kernel⟩
def spReadLines (K : PySem.W.Frag) (pT C : Addr) : Sp := fun vs H Q E => ∃ (a : Addr) (ls : List Cs), vs = [.ref a] ∧ SqL K H a (ls.map vS) ∧ ls.length ≤ 4001 ∧ (∀ l ∈ ls, l.length ≤ 4000) ∧ GxR.TabG H pT ∧ (∀ k j, rdLines 1 (none, []) ls = .error (k, j) → ErrAt E C k j H) ∧
  ∀ st, rdLines 1 (none, []) ls = .ok st → ∀ q p us H', Kp H H' → H' q = some (.tup [vO st.1, .ref p]) → H' p = some (.lst us) → Paired (PT H') us st.2 → (∀ n, st.1 = some n → 1 ≤ n ∧ n ≤ 8) → (st.1 = none → st.2 = []) → st.2.length ≤ 6 → Q (.ref q) H'
section
variable {P : Program} {w : World} {K : PySem.W.Frag} {mg : Str → Option Value} {base : Heap} {f C pT : Addr} {fd : FuncData}
/-- where the loop stands -/
structure RdAt (H : Hp) (a : Addr) (ls : List Cs) (i : Nat) (σ : L2.St) (H' : Hp) (st : RdS) (tl : Addr) (us : List V) (x3 x4 x5 : Option V) : Prop where
  e : σ = [some (.ref a), some (vO st.1), some (.ref tl), x3, x4, x5]
  z : Kp H H'
  ht : H' tl = some (.lst us)
  pr : Paired (PT H') us st.2
  t6 : st.2.length ≤ 6
  n8 : ∀ n, st.1 = some n → 1 ≤ n ∧ n ≤ 8
  nn : st.1 = none → st.2 = []
  new : H tl = none
  eq : rdLines 1 (none, []) ls = rdLines (1 + i) st (ls.drop i)
theorem has_rdlines (F : FnP K "read_lines" sReadLines f fd) (m : mg "read_lines" = some (.ref f)) (B : Bl mg) (m6 : ∃ t, mg "MOST_TURNS" = some (.int 6 t)) (T : ErrF2 P w K mg base "BadLine" "line" "word" C)
    (hW : Has P w K mg base "words_of" 1 [] spWordsOf) (hH : HasX P w K mg base "read_halls" 4 (spReadHalls K C)) (hT : HasX P w K mg base "read_turn" 4 (spReadTurn K pT C)) : HasX P w K mg base "read_lines" 5 (spReadLines K pT C) := by
  obtain ⟨t6, m6⟩ := m6
  refine ⟨f, fd, ["lines"], m, F.kp, F.bindsN (fun _ _ _ _ _ _ us hl => match us, hl with | [_], _ => rfl), ?_⟩
  refine F.ok scReadLines (fun vs H Q E h => ?_) (fun cdv A outer s H vs Q E hr h => ⟨_,
    pss_cons (ps_set (i := 1) scReadLines.nd rfl (Or.inl rfl) pe_non)
    (pss_cons (ps_set (i := 2) scReadLines.nd rfl (Or.inl rfl) (pe_lst pa_nil))
    (pss_cons (ps_for (passes_of rfl) rfl (pi_enumS rfl B.enumerate (pa_cons (pv 0) pa_nil) (by decide) (by decide)) (pg_tup rfl (pgs_cons (pg_name (i := 3) scReadLines.nd rfl (Or.inl rfl)) (pgs_cons (pg_name (i := 4) scReadLines.nd rfl (Or.inl rfl)) pgs_nil)))
      (pss_cons (ps_set (i := 5) scReadLines.nd rfl (Or.inl rfl) (pe_has hW hr (by decide) (pa_cons (pv 4) pa_nil)))
      (pss_cons (ps_if (pt_cmpR op_eq (pe_callB call_len_seq rfl B.len PySem.boot_len (pa_cons (pv 5) pa_nil)) pe_int (nomark _)) (pss_one ps_continue) pss_nil)
      (pss_cons (ps_if (pt_cmpR op_eq (pe_callB call_len_seq rfl B.len PySem.boot_len (pa_cons (pv 2) pa_nil)) (pe_glob (v := .int 6) rfl m6 ⟨_, rfl⟩) (nomark _)) (pss_one (ps_raiseF2 (k := 2) T hr (takes_of rfl rfl rfl rfl) (pa_cons (pv 3) (pa_cons pe_int pa_nil)))) pss_nil)
      (pss_one (ps_if (pt_cmp (pc_isN (pv 1)))
        (pss_one (ps_set (i := 1) scReadLines.nd rfl (Or.inl rfl) (pe_hasX hH hr (by decide) (takes_of rfl rfl rfl rfl) (pa_cons (pv 3) (pa_cons (pv 5) pa_nil)))))
        (pss_one (ps_expr (pe_bm PySem.F.plainAttrs_list PySem.F.slot_list_append PySem.F.type_list_append mt_append (pv 2) (pa_cons (pe_hasX hT hr (by decide) (takes_of rfl rfl rfl rfl) (pa_cons (pv 3) (pa_cons (pv 5) (pa_cons (pv 1) pa_nil)))) pa_nil))))))))))
    (PSs.nox (pss_one (ps_ret (pe_tup (pa_cons (pv 1) (pa_cons (pv 2) pa_nil)))))))), ?_⟩)
  · obtain ⟨a, ls, rfl, _⟩ := h
    rfl
  · obtain ⟨a, ls, rfl, hL, hn, hlen, gT, qe, q⟩ := h
    refine ⟨Nat.zero_le _, fun tl htl => ?_⟩
    have z1 := (Kp.refl H).new htl (o := .lst [])
    refine ⟨_, rfl, a, _, rfl, z1.sqL hL, ?_⟩
    refine forG (Wlk.enumS (H := H) 1 hL) (fun i σ H' => ∃ st tl us x3 x4 x5, RdAt H a ls i σ H' st tl us x3 x4 x5)
      ⟨(none, []), tl, [], none, none, none, rfl, z1, upd_same, .nil, by decide, fun n e => (by cases e), fun _ => rfl, htl, rfl⟩
      (fun i σ H' _ ⟨st, tl, us, x3, x4, x5, R⟩ => R.z) (fun i x σ H1 H2 hi hpv z12 hx => ?_) (fun σ H' hpv => ?_)
    · obtain ⟨st, tl, us, x3, x4, x5, ⟨rfl, z, ht, pr, t6', n8, nn, new, eq⟩⟩ := hpv
      obtain ⟨T1, v, rfl, hT1, hv⟩ := hx
      obtain ⟨l, hl, rfl⟩ := map_some hv
      rw [List.length_map] at hi
      have lm := List.mem_of_getElem? hl
      have ll := hlen l lm
      have ed : ls.drop i = l :: ls.drop (i + 1) := by
        have hi2 : i < ls.length := by omega
        rw [List.drop_eq_getElem_cons hi2]
        have := List.getElem?_eq_getElem hi2
        rw [hl] at this
        rw [← Option.some.inj this]
      rw [ed] at eq
      have z2 := z.trans z12
      have ht2 := z12.lst ht
      have pr2 := pr.mono fun _ _ q => z12.pt q
      clear z z12 ht pr
      refine ⟨T1, _, rfl, SqT.of hT1, rfl, _, _, rfl, _, _, rfl, rfl, ?_⟩
      refine ⟨_, rfl, l, rfl, ll, fun wp H3 z3 hwp => ?_⟩
      have z03 := z2.trans z3
      have ht3 := z3.lst ht2
      have pr3 := pr2.mono fun _ _ q => z3.pt q
      refine ⟨_, rfl, wp, _, rfl, .inl (SqL.of hwp), rfl, _, rfl, ?_⟩
      rw [List.length_map]
      by_cases e0 : wds l = []
      · refine ifT (A := _) (B := _) (by rw [e0]; rfl) ?_
        refine ⟨st, tl, us, _, _, _, rfl, z03, ht3, pr3, t6', n8, nn, new, ?_⟩
        rw [eq, rdLines, e0, rdLine_nil]
        rw [show 1 + (i + 1) = 1 + i + 1 by omega]
      · have wl : (wds l).length ≠ 0 := fun e => e0 (List.length_eq_zero_iff.mp e)
        refine ifF (A := _) (B := _) (decide_eq_false fun e => wl (by have := V.int.inj e; omega)) ?_
        refine ⟨_, rfl, tl, _, rfl, .inl (SqL.of ht3), rfl, _, rfl, ?_⟩
        have ul := pr3.length
        have hk : (1 : Int) + (i : Int) = ((1 + i : Nat) : Int) := by omega
        by_cases e6 : st.2.length = 6
        · refine ifT (A := _) (B := _) (by rw [show us.length = 6 by omega]; rfl) ?_
          refine ⟨_, rfl, mkF2 fun d hd => ?_⟩
          have er : rdLines 1 (none, []) ls = .error (1 + i, 1) := by
            rw [eq, rdLines]
            unfold rdLine
            rw [if_neg e0, if_pos e6]
          rw [hk]
          exact qe _ _ er d H3 z03 hd
        · refine ifF (A := _) (B := _) (decide_eq_false fun e => e6 (by have := V.int.inj e; omega)) ?_
          cases e1 : st.1 with
          | none =>
            refine ⟨_, rfl, _, rfl, ifT (A := _) (B := _) rfl ?_⟩
            refine ⟨_, rfl, _, rfl, 1 + i, wp, wds l, by rw [hk], SqL.of hwp, e0, fun j ej => ?_, fun dd ed2 => ?_⟩
            · refine ErrAt.kp ?_ z03
              refine qe (1 + i) j ?_
              rw [eq, rdLines]
              unfold rdLine
              rw [if_neg e0, if_neg e6, e1]
              simp only [ej]
            · refine ⟨(some dd, st.2), tl, us, _, _, _, rfl, z03, ht3, pr3, t6', fun n en => ?_, fun en => (by cases en), new, ?_⟩
              · cases en
                exact rdHalls_lo ed2
              · rw [eq, rdLines]
                unfold rdLine
                rw [if_neg e0, if_neg e6, e1]
                simp only [ed2]
                rw [show 1 + (i + 1) = 1 + i + 1 by omega]
          | some nI =>
            have hn8 := n8 nI e1
            obtain ⟨n, rfl⟩ : ∃ n : Nat, nI = (n : Int) := ⟨nI.toNat, by omega⟩
            refine ⟨_, rfl, _, rfl, ifF (A := _) (B := _) rfl ?_⟩
            refine ⟨_, rfl, .inl ⟨rfl, _, SqL.of ht3⟩, _, rfl, _, rfl, _, rfl, 1 + i, n, wp, wds l, (by rw [hk]; rfl), SqL.of hwp, e0, fun w hw => Nat.le_trans (wds_len hw) ll, by omega, z03.tabG gT, fun j ej => ?_, fun t et v H4 z4 pt => ?_⟩
            · refine ErrAt.kp ?_ z03
              refine qe (1 + i) j ?_
              rw [eq, rdLines]
              unfold rdLine
              rw [if_neg e0, if_neg e6, e1]
              simp only [ej]
            · have ht4 := z4.lst ht3
              refine ⟨tl, us, v, rfl, rfl, ht4, by rw [sizeLine_eq]; omega, ?_⟩
              have tw : Tup H4 (upd H4 tl (.lst (us ++ [v]))) := Tup.put (by rw [ht4]; trivial)
              refine ⟨(some (n : Int), st.2 ++ [t]), tl, us ++ [v], _, _, _, rfl, (z03.trans z4).put new, upd_same, Paired.snoc (pr3.mono fun _ _ q => NS.Tup.pt tw (z4.pt q)) (NS.Tup.pt tw pt), ?_, fun m em => ?_, fun en => (by cases en), new, ?_⟩
              · show (st.2 ++ [t]).length ≤ 6
                rw [List.length_append]
                simp only [List.length_singleton]
                omega
              · cases em
                exact hn8
              · rw [eq, rdLines]
                unfold rdLine
                rw [if_neg e0, if_neg e6, e1]
                simp only [et]
                rw [show 1 + (i + 1) = 1 + i + 1 by omega]
    · obtain ⟨st, tl, us, x3, x4, x5, ⟨rfl, z, ht, pr, t6', n8, nn, new, eq⟩⟩ := hpv
      rw [List.length_map, List.drop_length, rdLines] at eq
      refine ⟨_, rfl, _, rfl, (by show 2 ≤ sizeLine; decide), fun qa hqa => ?_⟩
      have zq := (Kp.refl H').new hqa (o := .tup [vO st.1, .ref tl])
      exact q st eq qa tl us _ (z.trans zq) upd_same (zq.lst ht) (pr.mono fun _ _ q => zq.pt q) n8 nn t6'
def spReadHouse (K : PySem.W.Frag) (pT C CT : Addr) : Sp := fun vs H Q E => ∃ x : V, vs = [x] ∧ ((NotTy K H x "str" ∧ E (.ref CT) none H) ∨ ∃ t : Cs, x = vS t ∧ t.length ≤ 4000 ∧ GxR.TabG H pT ∧ (∀ k j, rd t = .error (k, j) → ErrAt E C k j H) ∧
  ∀ n ts, rd t = .ok (n, ts) → ∀ q p vs H', Kp H H' → SqT K H' q [.int n, .ref p] → SqT K H' p vs → Paired (PT H') vs ts → Q (.ref q) H')
theorem has_rdhouse (F : FnP K "read_house" sReadHouse f fd) (m : mg "read_house" = some (.ref f)) (B : Bl mg) {CT : Addr} (TT : ExcC K mg "BadText" CT) (T : ErrF2 P w K mg base "BadLine" "line" "word" C)
    (hR : HasX P w K mg base "read_lines" 5 (spReadLines K pT C)) : HasX P w K mg base "read_house" 6 (spReadHouse K pT C CT) := by
  refine ⟨f, fd, ["text"], m, F.kp, F.bindsN (fun _ _ _ _ _ _ us hl => match us, hl with | [_], _ => rfl), ?_⟩
  refine F.ok scReadHouse (fun vs H Q E h => ?_) (fun cdv A outer s H vs Q E hr h => ⟨_,
    pss_cons (ps_if (pt_not (pt_val (pe_callB call_isi rfl B.isinstance PyProof.Rows.boot_isinstance (pa_cons (pv 0) (pa_cons (pe_bltn (v := .ty "str") rfl B.str PyProof.Rows.boot_str rfl) pa_nil))))) (pss_one (ps_raise0 TT (takes_of rfl rfl rfl rfl))) pss_nil)
    (pss_cons (ps_set (i := 1) scReadHouse.nd rfl (Or.inl rfl) (pe_split (pv 0) pe_str))
    (pss_cons (ps_asg (pe_hasX hR hr (by decide) (takes_of rfl rfl rfl rfl) (pa_cons (pv 1) pa_nil)) (pg_tup rfl (pgs_cons (pg_name (i := 2) scReadHouse.nd rfl (Or.inl rfl)) (pgs_cons (pg_name (i := 3) scReadHouse.nd rfl (Or.inl rfl)) pgs_nil))))
    (pss_cons (ps_if (pt_cmpR op_eq (pe_callB call_len_seq rfl B.len PySem.boot_len (pa_cons (pv 3) pa_nil)) pe_int (nomark _)) (pss_one (ps_raiseF2 (k := 3) T hr (takes_of rfl rfl rfl rfl) (pa_cons (pe_op op_add (pe_callB call_len_seq rfl B.len PySem.boot_len (pa_cons (pv 1) pa_nil)) pe_int) (pa_cons pe_int pa_nil)))) pss_nil)
    (PSs.nox (pss_one (ps_ret (pe_tup (pa_cons (pv 2) (pa_cons (pe_callTy cr_tupP rfl B.tuple PyProof.Rows.boot_tuple (pa_cons (pv 3) pa_nil)) pa_nil))))))))), ?_⟩)
  · obtain ⟨x, rfl, _⟩ := h
    rfl
  · obtain ⟨x, rfl, ⟨⟨ty, hty, hk⟩, qe⟩ | ⟨t, rfl, ht, gT, qe, q⟩⟩ := h
    · refine ⟨_, rfl, _, _, _, _, false, rfl, .ty "str", hty H (Kp.refl H), kit_ty hk, _, rfl, ?_⟩
      exact ifT (A := _) (B := _) rfl qe
    · refine ⟨_, rfl, _, _, _, _, true, rfl, .ty "str", .base (.str _), kit_ty (by decide +kernel), _, rfl, ?_⟩
      refine ifF (A := _) (B := _) rfl ?_
      refine ⟨_, rfl, ⟨_, rfl⟩, SX.S t, SX.S [10], rfl, rfl, by decide +kernel, by rw [SX.S_len, sizeLine_eq]; omega, fun p hp => ?_⟩
      rw [split_cut 10 (by decide), List.map_map]
      have z1 := (Kp.refl H).new hp (o := .lst ((cutC 10 t).map (V.str ∘ SX.S)))
      have hp1 : upd H p (.lst ((cutC 10 t).map (V.str ∘ SX.S))) p = some (.lst ((cutC 10 t).map vS)) := upd_same
      generalize upd H p (.lst ((cutC 10 t).map (V.str ∘ SX.S))) = H1 at z1 hp1 ⊢
      have cc := cutC_count 10 t
      refine ⟨_, rfl, p, cutC 10 t, rfl, SqL.of hp1, by omega, fun l hl => Nat.le_trans (cutC_len hl) ht, z1.tabG gT, fun k j e => ?_, fun st e qa pa us H2 z2 hqa hpa pr n8 nn t6 => ?_⟩
      · refine (qe k j ?_).kp z1
        unfold rd
        rw [e]
      · refine ⟨qa, _, rfl, SqT.of hqa, rfl, _, _, rfl, _, _, rfl, rfl, ?_⟩
        refine ⟨_, rfl, pa, _, rfl, .inl (SqL.of hpa), rfl, _, rfl, ?_⟩
        have ul := pr.length
        have z02 := z1.trans z2
        by_cases e0 : st.2 = []
        · refine ifT (A := _) (B := _) (by rw [e0] at ul; rw [List.length_eq_zero_iff.mp ul]; rfl) ?_
          refine ⟨_, rfl, p, _, rfl, .inl (z2.sqL (SqL.of hp1)), _, _, rfl, rfl, mkF2 fun d hd => ?_⟩
          have er : rd t = .error ((cutC 10 t).length + 1, 1) := by
            unfold rd
            rw [e]
            show (if st.2 = [] then _ else _) = _
            rw [if_pos e0]
          have h := qe _ _ er d H2 z02 hd
          rw [show (((cutC 10 t).length + 1 : Nat) : Int) = ((cutC 10 t).length : Int) + 1 by omega] at h
          rw [List.length_map]
          exact h
        · have ne : st.2.length ≠ 0 := fun q => e0 (List.length_eq_zero_iff.mp q)
          refine ifF (A := _) (B := _) (decide_eq_false fun e => ne (by have := V.int.inj e; omega)) ?_
          cases e1 : st.1 with
          | none => exact absurd (nn e1) e0
          | some n =>
            have er : rd t = .ok (n, st.2) := by
              unfold rd
              rw [e]
              show (if st.2 = [] then _ else _) = _
              rw [if_neg e0, e1]
              rfl
            refine ⟨_, rfl, _, rfl, pa, _, rfl, SqL.of hpa, fun l o hl ho => ⟨(by show 2 ≤ sizeLine; decide), fun r hr' => ?_⟩⟩
            have z3 := (Kp.refl H2).new hl (o := .frz o (.tup us))
            have z4 := (Kp.refl _).new hr' (o := .tup [.int n, .ref l])
            exact q n st.2 er r l us _ ((z02.trans z3).trans z4) (SqT.of upd_same) (z4.sqT (.inl (.inr ⟨o, upd_same⟩))) (pr.mono fun _ _ q => (z3.trans z4).pt q)
end
end NS
end
section
set_option maxHeartbeats 4000000
/-! N19: write_turn, write_house -/
namespace NS
open PySem PySem.Spec PyProof.Rows L2 ZS
theorem dig_str {i : Int} (h : 0 ≤ i) (h' : i ≤ 8) : V.str (Str.ofString (toString i)) = vS [dig i] := by
  have : i = 0 ∨ i = 1 ∨ i = 2 ∨ i = 3 ∨ i = 4 ∨ i = 5 ∨ i = 6 ∨ i = 7 ∨ i = 8 := by omega
  rcases this with rfl | rfl | rfl | rfl | rfl | rfl | rfl | rfl | rfl <;> decide +kernel
theorem dig_log {i : Int} (h : 0 ≤ i) (h' : i ≤ 8) : i.natAbs.log2 < 1920 := by
  have : i = 0 ∨ i = 1 ∨ i = 2 ∨ i = 3 ∨ i = 4 ∨ i = 5 ∨ i = 6 ∨ i = 7 ∨ i = 8 := by omega
  rcases this with rfl | rfl | rfl | rfl | rfl | rfl | rfl | rfl | rfl <;> decide +kernel
theorem joinL_nil : ∀ l : Cs, TL.joinL [] (l.map fun c => [c]) = l
  | [] => rfl
  | [c] => rfl
  | c :: d :: r => by
    show [c] ++ ([] ++ TL.joinL [] ((d :: r).map fun c => [c])) = _
    rw [joinL_nil (d :: r)]
    rfl
theorem join_digs (t : List Int) : Txt.join (SX.S []) (t.map fun i => SX.S [dig i]) = SX.S (t.map dig) := by
  have e : (t.map fun i => SX.S [dig i]) = ((t.map dig).map fun c => [c]).map SX.S := by rw [List.map_map, List.map_map]; rfl
  rw [e, SX.join_S, joinL_nil]
theorem sum_ones {α : Type} (f : α → Nat) (h : ∀ a, f a = 1) : ∀ l : List α, (l.map f).sum = l.length
  | [] => rfl
  | a :: l => by rw [List.map_cons, List.sum_cons, h a, sum_ones f h l, List.length_cons]; omega
theorem digs_sq {K : PySem.W.Frag} {H : Hp} {p : Addr} {t : List Int} (hp : H p = some (.lst (t.map fun i => vS [dig i]))) : SqL K H p ((t.map fun i => SX.S [dig i]).map V.str) := SqL.of (by rw [hp, List.map_map]; rfl)
theorem digs_sz {t : List Int} (hl : t.length ≤ 1000) : ((t.map fun i => SX.S [dig i]).map (·.length)).sum + (t.map fun i => SX.S [dig i]).length * (SX.S []).length ≤ 16777216 := by
  rw [List.map_map, sum_ones ((fun x : Str => x.length) ∘ fun i => SX.S [dig i]) (fun i => rfl) t, List.length_map]
  show t.length + t.length * 0 ≤ _
  omega
theorem scWriteTurn : FnScope ["turn", "figures", "hall"] ["turn"] (defScope sWriteTurn) := ⟨rfl, rfl, rfl, by decide +kernel, rfl, by decide +kernel, by decide +kernel⟩
theorem scWriteHouse : FnScope ["house", "halls", "turns", "turn"] ["house"] (defScope sWriteHouse) := ⟨rfl, rfl, rfl, by decide +kernel, rfl, by decide +kernel, by decide +kernel⟩
def rStrI : List V → Hp → VK → Prop := fun xs H Q => ∃ i : Int, xs = [.int i] ∧ i.natAbs.log2 < 1920 ∧ Q (.str (toString i)) H
def spWriteTurn (K : PySem.W.Frag) : Sp := fun vs H Q _ => ∃ (v : V) (t : List Int), vs = [v] ∧ TI K H v t ∧ (∀ i ∈ t, 0 ≤ i ∧ i ≤ 8) ∧ t.length ≤ 1000 ∧ ∀ H', Kp H H' → Q (vS (wrT t)) H'
def spWriteHouse (K : PySem.W.Frag) (pT pA : Addr) : Sp := fun vs H Q _ => ∃ (v : V) (n : Nat) (ts : List (List Int)), vs = [v] ∧ HouseAt K H v n ts ∧ IsH n ts ∧ GxR.TabG H pT ∧ GxR.TabG H pA ∧ ∀ H', Kp H H' → Q (vS (wr n ts)) H'
/-- a comprehension of digits over a tuple of halls -/
theorem lcDig {K : PySem.W.Frag} {g : TG} {te : TE} {vs : List Nat} {σ : L2.St} {H : Hp} {D a : Addr} {Qd : Hp → Prop} {t : List Int} (hT : SqT K H a (t.map V.int)) (hD : H D = none) (few : t.length ≤ 1000)
    (el : ∀ i ∈ t, ∀ H' (Q1 : V → Hp → Prop), Kp H H' → Q1 (vS [dig i]) H' → g (.int i) (wipe σ vs) H' fun σ2 H2 => wipe σ2 vs = wipe σ vs ∧ te σ2 H2 Q1)
    (mono : ∀ x H' (Q Q' : L2.St → Hp → Prop), (∀ s h, Q s h → Q' s h) → g x (wipe σ vs) H' Q → g x (wipe σ vs) H' Q')
    (fin : ∀ H', Kp H H' → H' D = some (.lst (t.map fun i => vS [dig i])) → Qd H') :
    ∃ W : Nat → Nat → Hp → Prop, (∃ m, W 0 m (upd H D (.lst []))) ∧ ∀ i m H, W i m H →
      ((Itt K a).stop i H ∧ Qd H) ∨ ((Itt K a).go i H ∧ ∃ Nx : Hp → Prop, (∀ H', Nx H' → ∃ m', m' < m ∧ W (i + 1) m' H') ∧ ∀ x H', (Itt K a).yld i H x H' → g x (wipe σ vs) H' fun σ2 H2 => wipe σ2 vs = wipe σ vs ∧ tYes σ2 H2 fun b H3 =>
        if b = true then te σ2 H3 fun y H4 => ∃ acc, H4 D = some (.lst acc) ∧ acc.length < sizeLine ∧ Nx (upd H4 D (.lst (acc ++ [y]))) else Nx H3) := by
  refine lcF (Wlk.tup hT) hD (by rw [List.length_map, sizeLine_eq]; omega) (fun i y _ => y = vS [dig (t.getD i 0)]) (fun _ _ _ _ _ h => h) (fun i x H2 Q1 hi z hx q1 => ?_) mono (fun ys H2 z hD hpr => ?_)
  · obtain ⟨k, hk, rfl⟩ := map_some hx
    exact el k (List.mem_of_getElem? hk) H2 Q1 z (q1 _ _ (Kp.refl _) (by rw [getD_of hk]))
  · rw [List.length_map] at hpr
    have ey : ys = t.map fun i => vS [dig i] := by
      rw [paired_map (f := fun i => vS [dig (t.getD i 0)]) (fun _ _ e => e) hpr]
      conv => rhs; rw [← map_range_getD t 0]
      rw [List.map_map]
      rfl
    subst ey
    exact fin H2 z hD
section
variable {P : Program} {w : World} {K : PySem.W.Frag} {mg : Str → Option Value} {base : Heap} {f : Addr} {fd : FuncData} {pT pA : Addr}
theorem has_wrturn (F : FnP K "write_turn" sWriteTurn f fd) (m : mg "write_turn" = some (.ref f)) (B : Bl mg) : Has P w K mg base "write_turn" 1 [] (spWriteTurn K) := by
  refine ⟨f, fd, ["turn"], [], m, F.kp, F.bindsN (fun _ _ _ _ _ _ us hl => match us, hl with | [_], _ => rfl), .nil, ?_⟩
  refine F.ok scWriteTurn (fun vs H Q E h => ?_) (fun cdv A outer s H vs Q E hr h => ⟨_, PSs.nox (
    pss_cons (ps_set (i := 1) scWriteTurn.nd rfl (Or.inl rfl) (pe_join pe_str (pe_lc (own := [("hall", 2)]) (g := gName 2) (tt := tYes) (te := tCB rStrI (tCons (tVar 2) tNil)) rfl scWriteTurn.nd (pi_tup (pv 0)) (blkOk_by (N := ["turn", "figures", "hall"]) (sc := defScope sWriteTurn) (by decide +kernel)) (fun _ _ _ _ _ => pg_name (i := 2) scWriteTurn.nd rfl (Or.inl rfl)) (fun _ _ _ _ _ => pts_nil) (fun _ _ _ _ _ => pe_callTy call_str_int rfl B.str PyProof.Rows.boot_str (pa_cons (pv 2) pa_nil)))))
    (pss_one (ps_ret (pe_joined (PJ.cons pe_str (PJ.cons (pe_fmt (pv 1)) .nil)))))), ?_⟩)
  · obtain ⟨v, t, rfl, _⟩ := h
    rfl
  · obtain ⟨v, t, rfl, ⟨a, rfl, hT⟩, lo, hl, q⟩ := h
    refine ⟨⟨_, rfl⟩, _, rfl, a, rfl, ⟨_, hT⟩, fun D hD => ?_⟩
    refine lcDig hT hD hl (fun i hi H2 Q1 z q1 => ⟨rfl, _, rfl, i, rfl, dig_log (lo i hi).1 (lo i hi).2, ?_⟩) (fun x H2 Q Q' h q => mono_name x _ H2 Q Q' h q) (fun H2 z hD' => ?_)
    · show Q1 (V.str (Str.ofString (toString i))) H2
      rw [dig_str (lo i hi).1 (lo i hi).2]
      exact q1
    · refine ⟨SX.S [], D, t.map fun i => SX.S [dig i], rfl, rfl, .inl (digs_sq hD'), digs_sz hl, ?_⟩
      rw [join_digs]
      have e : (Str.empty ++ SX.S (cTurn ++ [32])) ++ SX.S (t.map dig) = SX.S (wrT t) := by
        rw [show Str.empty = SX.S [] from rfl, SX.S_cat, SX.S_cat]
        congr 1
      refine ⟨_, rfl, by decide +kernel, _, rfl, .inl ⟨_, rfl, by rw [SX.S_len, List.length_map, sizeLine_eq]; omega, _, rfl, ?_, ?_⟩⟩
      · show ((Str.empty ++ SX.S (cTurn ++ [32])) ++ SX.S (t.map dig)).length ≤ sizeLine
        rw [e, SX.S_len, sizeLine_eq]
        unfold wrT
        rw [List.length_append, List.length_cons, List.length_map, show cTurn.length = 4 from rfl]
        omega
      · show Q (V.str ((Str.empty ++ SX.S (cTurn ++ [32])) ++ SX.S (t.map dig))) H2
        rw [e]
        exact q H2 z
theorem has_wrhouse (F : FnP K "write_house" sWriteHouse f fd) (m : mg "write_house" = some (.ref f)) (B : Bl mg) (hC : Has P w K mg base "check_house" 7 [] (spHouse K pT pA)) (hT : Has P w K mg base "write_turn" 1 [] (spWriteTurn K)) : Has P w K mg base "write_house" 8 [] (spWriteHouse K pT pA) := by
  refine ⟨f, fd, ["house"], [], m, F.kp, F.bindsN (fun _ _ _ _ _ _ us hl => match us, hl with | [_], _ => rfl), .nil, ?_⟩
  refine F.ok scWriteHouse (fun vs H Q E h => ?_) (fun cdv A outer s H vs Q E hr h => ⟨_, PSs.nox (
    pss_cons (ps_expr (pe_has hC hr (by decide) (pa_cons (pv 0) pa_nil)))
    (pss_cons (ps_asg (pv 0) (pg_tup rfl (pgs_cons (pg_name (i := 1) scWriteHouse.nd rfl (Or.inl rfl)) (pgs_cons (pg_name (i := 2) scWriteHouse.nd rfl (Or.inl rfl)) pgs_nil))))
    (pss_one (ps_ret (pe_join pe_str (pe_op op_cat (pe_lst (pa_cons (pe_joined (PJ.cons pe_str (PJ.cons (pe_fmt (pv 1)) .nil))) pa_nil)) (pe_lc (own := [("turn", 3)]) (g := gName 3) (tt := tYes) (te := tCall (spWriteTurn K) [] E0 (tCons (tVar 3) tNil)) rfl scWriteHouse.nd (pi_tup (pv 2)) (blkOk_by (N := ["house", "halls", "turns", "turn"]) (sc := defScope sWriteHouse) (by decide +kernel)) (fun _ _ _ _ _ => pg_name (i := 3) scWriteHouse.nd rfl (Or.inl rfl)) (fun _ _ _ _ _ => pts_nil) (fun _ _ _ _ _ => pe_has hT hr (by decide) (pa_cons (pv 3) pa_nil)))))))))
    , ?_⟩)
  · obtain ⟨v, n, ts, rfl, _⟩ := h
    rfl
  · obtain ⟨v, n, ts, rfl, hv, hi, gT, gA, q⟩ := h
    have n1 := hi.n1
    have n8 := hi.n8
    have t6 := hi.t6
    refine ⟨_, rfl, v, n, ts, rfl, hv, hi, gT, gA, fun H1 z1 => ?_⟩
    obtain ⟨a, tv, rfl, hT', tb, xs, rfl, hTb, hp⟩ := z1.house hv
    refine ⟨_, rfl, a, _, rfl, hT', rfl, _, _, rfl, _, _, rfl, rfl, ?_⟩
    have e1 : (Str.empty ++ SX.S (cHalls ++ [32])) ++ Str.ofString (toString (n : Int)) = SX.S (wrH n) := by
      rw [V.str.inj (dig_str (i := (n : Int)) (by omega) (by omega)), show Str.empty = SX.S [] from rfl, SX.S_cat, SX.S_cat]
      rfl
    refine ⟨⟨_, rfl⟩, _, rfl, by decide +kernel, _, rfl, .inr ⟨(n : Int), rfl, dig_log (by omega) (by omega), _, rfl, ?_, ?_⟩⟩
    · show ((Str.empty ++ SX.S (cHalls ++ [32])) ++ Str.ofString (toString (n : Int))).length ≤ sizeLine
      rw [e1, SX.S_len, sizeLine_eq]
      show cHalls.length + 2 ≤ _
      decide
    refine ⟨(by show 1 ≤ sizeLine; decide), fun p1 hp1 => ?_⟩
    have z2 := (Kp.refl H1).new hp1 (o := .lst [V.str ((Str.empty ++ SX.S (cHalls ++ [32])) ++ Str.ofString (toString (n : Int)))])
    have h1 : upd H1 p1 (.lst [V.str ((Str.empty ++ SX.S (cHalls ++ [32])) ++ Str.ofString (toString (n : Int)))]) p1 = some (.lst [vS (wrH n)]) := by rw [upd_same, e1]
    show tLc _ _ _ _ _ _ (upd H1 p1 (.lst [V.str ((Str.empty ++ SX.S (cHalls ++ [32])) ++ Str.ofString (toString (n : Int)))])) _
    generalize upd H1 p1 (.lst [V.str ((Str.empty ++ SX.S (cHalls ++ [32])) ++ Str.ofString (toString (n : Int)))]) = H2 at z2 h1 ⊢
    have xl := hp.length
    have z02 := z1.trans z2
    have hTb2 := z2.sqT hTb
    have hp2 := hp.mono fun _ _ q => z2.pt q
    refine ⟨_, rfl, tb, rfl, ⟨_, hTb2⟩, fun D hD => ?_⟩
    refine lcF (Wlk.tup hTb2) hD (by rw [sizeLine_eq]; omega) (fun i y _ => y = vS (wrT (ts.getD i []))) (fun _ _ _ _ _ h => h) (fun i x H3 Q1 hi3 z3 hx q1 => ?_) (fun x H3 Q Q' h q => mono_name x _ H3 Q Q' h q) (fun ys H3 z3 hD3 hpr => ?_)
    · obtain ⟨t, ht, pt⟩ := pr_get hp2 hx
      have it := hi.is t (List.mem_of_getElem? ht)
      have tl := it.len
      exact ⟨rfl, _, rfl, x, t, rfl, (z3.pt pt).ti, fun k hk => (by have := it.low k hk; omega), by omega, fun H4 z4 => q1 _ _ z4 (by rw [getD_of ht])⟩
    · have ey : ys = ts.map fun t => vS (wrT t) := by
        rw [xl] at hpr
        rw [paired_map (f := fun i => vS (wrT (ts.getD i []))) (fun _ _ e => e) hpr]
        conv => rhs; rw [← map_range_getD ts []]
        rw [List.map_map]
        rfl
      subst ey
      refine ⟨p1, D, _, _, rfl, rfl, z3.lst h1, hD3, by rw [sizeLine_eq, List.length_map]; simp only [List.length_singleton]; omega, fun p4 hp4 => ?_⟩
      have z4 := (Kp.refl H3).new hp4 (o := .lst ([vS (wrH n)] ++ ts.map fun t => vS (wrT t)))
      refine ⟨SX.S [10], p4, (wrH n :: ts.map wrT).map SX.S, rfl, rfl, .inl (SqL.of (by rw [upd_same, List.map_map, List.map_cons, List.map_map]; rfl)), ?_, ?_⟩
      · have b1 : (((wrH n :: ts.map wrT).map SX.S).map (·.length)).sum ≤ 7 * 20 := by
          have : ∀ (l : List Str) (k : Nat), (∀ x ∈ l, x.length ≤ k) → (l.map (·.length)).sum ≤ l.length * k := fun l k h => by
            induction l with
            | nil => exact Nat.zero_le _
            | cons x l ih =>
              rw [List.map_cons, List.sum_cons, List.length_cons, Nat.succ_mul]
              have := h x List.mem_cons_self
              have := ih fun y hy => h y (List.mem_cons_of_mem _ hy)
              omega
          refine Nat.le_trans (this _ 20 fun x hx => ?_) (Nat.mul_le_mul_right 20 (by simp only [List.length_map, List.length_cons]; omega))
          obtain ⟨w, hw, rfl⟩ := List.mem_map.mp hx
          rw [SX.S_len]
          rcases List.mem_cons.mp hw with rfl | hw
          · show cHalls.length + 2 ≤ 20
            decide
          · obtain ⟨t, ht, rfl⟩ := List.mem_map.mp hw
            have tl := (hi.is t ht).len
            unfold wrT
            rw [List.length_append, List.length_cons, List.length_map, show cTurn.length = 4 from rfl]
            omega
        have b2 : ((wrH n :: ts.map wrT).map SX.S).length ≤ 7 := by simp only [List.length_map, List.length_cons]; omega
        have b3 : (SX.S [10]).length = 1 := rfl
        rw [b3]
        omega
      · rw [SX.join_S]
        exact q _ ((z02.trans z3).trans z4)
end
end NS
end
section
set_option maxHeartbeats 4000000
/-! RPick: what is drawn, with its token; text.replace(sign, drawn) -/
namespace NS
open PySem PySem.Spec PyProof.Rows L2 ZS
/-- what was returned, as it is, behind a call -/
def CEr (outer : List Env) (P : Program) (w : World) (H : Hp) (s : Shared) (Q : Value → Hp → Prop) (r : Result) (s' : Shared) : Prop := match r with
  | .ok (.ret u) => ∃ H', s'.os = s.os ∧ AllBare s'.gens ∧ Un (frs outer) [] H H' s.heap s'.heap ∧ HOk P w H' s'.heap ∧ Q u H'
  | _ => False
def PickRun (P : Program) (w : World) (K : PySem.W.Frag) (mg : Str → Option Value) (base : Heap) (k : Nat) (f : Addr) : Prop :=
  ∀ (A : Around) (outer : List Env) (s : Shared) (H : Hp) (r sa p : Addr) (its : List Value) (n : Nat) (o : Obj) (xs : List V) (Q : Value → Hp → Prop), Room k A → Env0 P w K mg base A outer s H → Draws K H r sa → p ≠ r → H p = some (.frz o (.lst xs)) → o.cls = .type "list" → o.data = .seq its.toArray n →
    its.length = xs.length → xs ≠ [] → xs.length < 1000 → (∀ u ∈ its, ∀ H', KpB r H H' → RowAt H' r sa → Q u H') → codeAny (model P w) A (.call (.ref f) ⟨[.ref r, .ref p], []⟩) (CEr outer P w H s Q) s
def rLenP (K : PySem.W.Frag) : List V → Hp → VK → Prop := fun xs H Q => ∃ p ys, xs = [V.ref p] ∧ (SqL K H p ys ∨ SqT K H p ys) ∧ Q (V.int ys.length) H
theorem run_pe {X : Cx} {e : Expr} {t : TE} {pins : List (Addr × Obj)} {s : Shared} {σ : L2.St} {H : Hp} {Q : VK} (I : Inv X pins σ H s) (he : PE X e t) (h : t σ H Q) : wpAny (model X.prog X.w) X.A (eval e X.env) (EP X pins σ Q) X.xe s := he.run pins s σ H Q I h
section
variable {P : Program} {w : World} {K : PySem.W.Frag} {mg : Str → Option Value} {base : Heap} {f : Addr} {fd : FuncData}
theorem pick_raw (F : FnP K "_law_pick" sPick f fd) (B : Bl mg) (hT : Has P w K mg base "_law_taken" 1 [] (spTaken K)) : PickRun P w K mg base 2 f := by
  intro A outer s H r sa p its n o xs Q hr e0 hd npr hp hcls hdat hl hne hsz q
  obtain ⟨oc, od, dV, kV, doc, pm, an, cdv, ct, osl, rfl, lk, hcd, hD, _⟩ := F.ex
  rcases hD with ⟨_, rfl⟩ | ⟨e, _⟩
  case inr => exact absurd rfl e
  have hb : ∀ us : List Value, us.length = 2 → bindArgs (PySem.W.fnOf "_law_pick" "_law_pick" (defArgs sPick) (defBody sPick) (defScope sPick) .none kV doc pm an cdv ct) ⟨us, []⟩ = pure ((["row", "things"] : List Str).zip us) := fun us hl => match us, hl with | [_, _], _ => rfl
  have S := scPick
  have KX : K.In s.heap := e0.mod.kin.keeps fun b o e => (e0.bs b o e).1
  have lim : s.heap.NoLimit := e0.mod.nolimit.keeps fun b o e => (e0.bs b o e).1
  have hkind : ∀ v ∈ (["row", "things"] : List Str).zip [Value.ref r, .ref p], (defScope sPick).names.lookup v.1 = some .local ∨ ((defScope sPick).names.lookup v.1 = some .cell ∧ ((cellsFrom (s.heap.objs.size + 1) (defScope sPick).names []).lookup v.1).isSome = true) := fun ⟨n, v⟩ hy => by
    rcases S.par n (List.of_mem_zip hy).1 with q | q
    · exact .inl q
    · exact .inr ⟨q, PySem.W.cellsFrom_some _ _ _ (.inl q)⟩
  refine codeAny_call_function hr.depth (KX _ _ lk) rfl S.co S.gen rfl (PySem.W.codeRec_of KX hcd) (BindsTo.of_eq (hb [.ref r, .ref p] rfl) _ _ _ _ ?_)
  refine wpAny_newFunctionEnv_cells S.kind hkind fun env he s1 xx => ?_
  subst he
  refine ⟨lim.keeps xx.toInCall.keep, codeAny_func ?_⟩
  have rv : Vals [V.ref r, .ref p] [Value.ref r, .ref p] := .cons rfl (.cons rfl .nil)
  have I : Inv (cxOf CX0 P w K mg base ["row", "things"] "_law_pick" (defScope sPick) f cdv A outer s H (fun _ _ _ => False)) [] (start ["row", "things"] [.ref r, .ref p]) H s1 := inv_start S hr.hd e0 rfl rv xx
  have hrD := hr.deeper (envOfC "_law_pick" (defScope sPick) s.heap.objs.size f cdv)
  refine wpAny_execs_cons (wpAny_Return_some (Subscript_ (raw_name (i := 1) rfl (Or.inl rfl) I rfl (fun v rv => ?_))))
  have ev : v = Value.ref p := rv
  subst ev
  refine thn (run_pe (t := tCall (spTaken K) [] E0 (tCons (tVar 0) (tCons (tCB (rLenP K) (tCons (tVar 1) tNil)) tNil))) (Q := fun x H' => ∃ j : Nat, x = .int (j : Int) ∧ j < xs.length ∧ KpB r H H' ∧ RowAt H' r sa) I ?he ?hq) fun u s2 ⟨x, H2, I2, rx, j, ex, hj, z, ra⟩ => ?_
  case he =>
    exact pe_has (X := cxOf CX0 P w K mg base ["row", "things"] "_law_pick" (defScope sPick) f cdv A outer s H (fun _ _ _ => False)) (k := 1) (j := 1) hT hrD (Nat.le_refl _) (pa_cons (pv 0) (pa_cons (pe_callB call_len_seq rfl B.len PySem.boot_len (pa_cons (pv 1) pa_nil)) pa_nil))
  case hq =>
    refine ⟨_, rfl, _, rfl, p, xs, rfl, .inl (.inl (.inr ⟨o, hp⟩)), r, sa, _, rfl, hd, by have := List.length_pos_iff.mpr hne; omega, by omega, fun v H1 z1 ra h0 h1 => ?_⟩
    obtain ⟨j, rfl⟩ := Int.eq_ofNat_of_zero_le h0
    exact ⟨j, rfl, by omega, z1, ra⟩
  · subst ex
    obtain ⟨tk, rfl⟩ := rx
    have hp2 : H2 p = some (.frz o (.lst xs)) := z.k _ _ hp (fun _ q => by cases q) (fun _ q => by cases q)
    have hg : s2.heap.get? p = some o := (I2.hok p _ hp2).1
    have hji : j < its.length := by omega
    refine item_listR ⟨o, hg, hcls, n, hdat⟩ (by omega) (by omega) (x := its[j]) (by simp [hji]) ?_
    exact ⟨H2, I2.os, I2.bare, I2.base, I2.hok, q _ (List.getElem_mem hji) H2 z ra⟩
end
theorem ns_none {K : PySem.W.Frag} {h : Heap} {a : Addr} {mc : Str → Option Value} {n : Str} (X : K.In h) (G : h.Ns a mc) (e : PySem.W.nsIn K a n = some none) : mc n = none := by
  obtain ⟨o, es, ep, ho, hd, _, hf⟩ := G
  unfold PySem.W.nsIn at e
  split at e
  · rename_i c d es' n' sl q
    have := X _ _ q
    rw [ho] at this
    cases this
    cases hd
    split at e
    · cases e
    · rename_i he
      rw [← hf]
      unfold nsFind findBy
      rw [← Array.find?_toList, he]
      rfl
  · cases e
/-- nothing is told of tokens -/
abbrev NoShare (K : PySem.W.Frag) : Prop := PySem.W.nsIn K cStatics sharingNotToldKey = some none
theorem booked0 {X : Cx} {pins : List (Addr × Obj)} {s : Shared} {σ : L2.St} {H : Hp} (I : Inv X pins σ H s) (nb : NoShare X.K) : NoneBooked s.heap := by
  obtain ⟨mc, G, _⟩ := I.nolimit
  exact ⟨mc, G, ns_none I.kIn G nb⟩
/-- written texts -/
inductive CS : List Expr → List Str → Prop
  | nil : CS [] []
  | cons {z : Str} {j : Nat} {c : Pos} {es : List Expr} {zs : List Str} : CS es zs → CS (.Constant (.str z) j c :: es) (z :: zs)
theorem cs_eval {M : Model} {A : Around} {E : Value → Shared → Prop} {env : Env} {pos : Pos} : ∀ {es : List Expr} {zs : List Str}, CS es zs → ∀ (s : Shared) (Post : List Value → Shared → Prop),
    (∀ us, Paired (fun (z : Str) u => ∃ t, u = Value.str z t ∧ s.toks ≤ t) zs us → Post us { s with toks := s.toks + zs.length }) → wpAny M A (spliced (backTo pos (starEach es env))) Post E s
  | _, _, .nil, s, Post, h => Calls.spliced_nil (h [] .nil)
  | _, _, .cons (z := z) (j := j) (c := c) (es := es) (zs := zs) r, s, Post, h => by
    show wpAny _ _ (spliced ((false, eval (.Constant (.str z) j c) env) :: backTo pos (starEach es env))) _ _ s
    refine Calls.spliced_cons (Calls.Constant_str (cs_eval r { s with toks := s.toks + 1 } _ fun us pr => ?_))
    have := h (.str z s.toks :: us) (.cons ⟨_, rfl, Nat.le_refl _⟩ (pr.mono fun _ _ ⟨t, e, ht⟩ => ⟨t, e, by have : s.toks + 1 ≤ t := ht; omega⟩))
    rw [List.length_cons, show s.toks + (zs.length + 1) = s.toks + 1 + zs.length by omega] at this
    exact this
theorem prk_mem {α β : Type} {F : α → β → Prop} : ∀ {xs : List α} {ys : List β}, Paired F xs ys → ∀ {y : β}, y ∈ ys → ∃ x ∈ xs, F x y
  | _, _, .nil, y, h => by cases h
  | _, _, .cons p t, y, h => by
    rcases List.mem_cons.mp h with e | e
    · exact ⟨_, List.mem_cons_self, by rw [e]; exact p⟩
    · obtain ⟨x, hx, q⟩ := prk_mem t e
      exact ⟨x, List.mem_cons_of_mem _ hx, q⟩
section
variable {X : Cx} {f : Addr} {i : Nat} {es : List Expr} {zs : List Str} {p1 p2 p3 p4 : Pos}
theorem cs_vals {t0 : Nat} : ∀ {zs : List Str} {us : List Value}, Paired (fun (z : Str) u => ∃ t, u = Value.str z t ∧ t0 ≤ t) zs us → Vals (zs.map V.str) us
  | _, _, .nil => .nil
  | _, _, .cons ⟨t, e, _⟩ r => by rw [List.map_cons, e]; exact .cons ⟨t, rfl⟩ (cs_vals r)
theorem pick_eval (R : PickRun X.prog X.w X.K X.mg X.base 2 f) (hr : Room 2 X.A) (hm : X.mg "_law_pick" = some (.ref f)) (hk : PySem.W.keepIn X.K (.ref f) = true) (hN : X.N[i]? = some "row") (hv : Vis X.env.scope "row") (cs : CS es zs) (ne : zs ≠ []) (hz : zs.length < 1000)
    {pins : List (Addr × Obj)} {s : Shared} {σ : L2.St} {H : Hp} (I : Inv X pins σ H s) {r sa : Addr} (hrow : σ[i]? = some (some (.ref r))) (dr : Draws X.K H r sa) {Post : Value → Shared → Prop}
    (q : ∀ z t s' H', z ∈ zs → s.toks ≤ t → s.toks + 1 ≤ s'.toks → Inv X pins σ H' s' → KpB r H H' → RowAt H' r sa → Post (.str z t) s') (hg : Gl X "_law_pick" := by rfl) (hpl : (backTo p4 (starEach [Expr.List es p3] X.env)).any (·.1) = false := by rfl) :
    wpAny (model X.prog X.w) X.A (eval (.Call (.Name "_law_pick" p1) [.Name "row" p2, .List es p3] [] p4) X.env) Post X.xe s := by
  refine wpAny_Call_Name_kw (ld_glob I hg hm ?_ (by decide))
  refine PySem.W.callWith_K (h₀ := X.base) I.ok.mod.kin hk ?_ rfl hpl
  show wpAny _ _ (spliced ((false, eval (.Name "row" p2) X.env) :: backTo p4 (starEach [Expr.List es p3] X.env))) _ _ s
  refine Calls.spliced_cons (raw_name hN hv I hrow (fun v rv => ?_))
  have ev : v = Value.ref r := rv
  subst ev
  show wpAny _ _ (spliced ((false, eval (.List es p3) X.env) :: backTo p4 (starEach [] X.env))) _ _ s
  refine Calls.spliced_cons (wpAny_List_spliced (cs_eval cs s _ fun us pr => ?_))
  have rv := cs_vals pr
  have ul := pr.length
  refine ⟨by rw [← ul, sizeLine_eq]; omega, Calls.spliced_nil ?_⟩
  have hf : H s.heap.objs.size = none := I.hok.fresh (Nat.le_refl _)
  have hpg : (s.heap.push { cls := .type "list", data := .seq us.toArray } : Heap).get? s.heap.objs.size = some { cls := .type "list", data := .seq us.toArray } := Heap.get?_push_size _ rfl
  have I2 : Inv X pins σ (upd H s.heap.objs.size (.frz { cls := .type "list", data := .seq us.toArray } (.lst (zs.map V.str)))) { s with heap := s.heap.push { cls := .type "list", data := .seq us.toArray }, toks := s.toks + zs.length } :=
    I.laid (fun b o e => Heap.get?_push_of_some _ e) (Nat.le_refl _) ⟨hpg, by rw [List.length_map, sizeLine_eq]; omega, us, 0, rv, hpg⟩
  have npr : s.heap.objs.size ≠ r := fun e => by
    obtain ⟨xs, h⟩ := dr.1.lst
    rw [e, h] at hf
    cases hf
  have z1 := (Kp.refl H).new hf (o := .frz { cls := .type "list", data := .seq us.toArray } (.lst (zs.map V.str)))
  refine ⟨I2.kIn, wpAny_call (codeAny_mono (codeAny_toks_of (Nat.le_refl _) (R X.A X.stack _ _ r sa s.heap.objs.size us 0 { cls := .type "list", data := .seq us.toArray } (zs.map V.str) (fun u H' => u ∈ us ∧ KpB r H H' ∧ RowAt H' r sa) hr I2.env0 (dr.k z1) npr upd_same rfl rfl (by rw [List.length_map, ul]) (by simpa using ne) (by rw [List.length_map]; exact hz) fun u hu H' z2 ra => ⟨hu, z1.b.trans z2, ra⟩)) fun r' s' hq => ?_)⟩
  obtain ⟨hk', hq⟩ := hq
  unfold CEr at hq
  cases r' with
  | error e => exact hq.elim
  | ok fl =>
    cases fl with
    | next => exact hq.elim
    | brk => exact hq.elim
    | cont => exact hq.elim
    | ret u =>
      obtain ⟨H', os, bare, un, hok, hu, z2, ra⟩ := hq
      obtain ⟨z, hzm, t, rfl, ht⟩ := prk_mem pr hu
      have ce : CE X.stack X.prog X.w _ _ (fun v H2 => H2 = H') (.str z t) s' := ⟨.str z, H', os, bare, un, hok, ⟨t, rfl⟩, rfl⟩
      obtain ⟨v, H2, I3, _, e⟩ := I2.after ce
      subst e
      have hl : 1 ≤ zs.length := List.length_pos_iff.mpr ne
      have hk' : s.toks + zs.length ≤ s'.toks := hk'
      exact q z t s' H2 hzm ht (by omega) I3 z2 ra
/-- an expression behind which a token is out -/
def PE1 (X : Cx) (e : Expr) (t : TE) : Prop := ∀ (pins : List (Addr × Obj)) (s : Shared) (σ : L2.St) (H : Hp) (Q : VK), Inv X pins σ H s → t σ H Q → wpAny (model X.prog X.w) X.A (eval e X.env) (fun v s' => 1 ≤ s'.toks ∧ EP X pins σ Q v s') X.xe s
def tPickS (K : PySem.W.Frag) (i : Nat) (zs : List Str) : TE := fun σ H Q => ∃ r sa, σ[i]? = some (some (.ref r)) ∧ Draws K H r sa ∧ ∀ z ∈ zs, ∀ H', KpB r H H' → RowAt H' r sa → Q (.str z) H'
theorem pe1_pick (R : PickRun X.prog X.w X.K X.mg X.base 2 f) (hr : Room 2 X.A) (hm : X.mg "_law_pick" = some (.ref f)) (hk : PySem.W.keepIn X.K (.ref f) = true) (hN : X.N[i]? = some "row") (hv : Vis X.env.scope "row") (cs : CS es zs) (ne : zs ≠ []) (hz : zs.length < 1000) (hg : Gl X "_law_pick" := by rfl) (hpl : (backTo p4 (starEach [Expr.List es p3] X.env)).any (·.1) = false := by rfl) :
    PE1 X (.Call (.Name "_law_pick" p1) [.Name "row" p2, .List es p3] [] p4) (tPickS X.K i zs) := fun pins s σ H Q I ⟨r, sa, hrow, dr, q⟩ =>
  pick_eval R hr hm hk hN hv cs ne hz I hrow dr (fun z t s' H' hzm _ hs I' z2 ra => ⟨by omega, .str z, H', I', ⟨t, rfl⟩, q z hzm H' z2 ra⟩) hg hpl
theorem pe_of1 {e : Expr} {t : TE} (h : PE1 X e t) : PE X e t := ⟨fun pins s σ H Q I q => thn (h pins s σ H Q I q) fun v s' q => q.2⟩
def tReplP (K : PySem.W.Frag) (to : TE) (y : Str) (i : Nat) (zs : List Str) : TE := fun σ H Q => to σ H fun v H1 => ∃ x r sa, v = .str x ∧ σ[i]? = some (some (.ref r)) ∧ Draws K H1 r sa ∧ (∀ z ∈ zs, x.length + (x.length + 1) * z.length ≤ 16777216) ∧ ∀ z ∈ zs, ∀ H', KpB r H1 H' → RowAt H' r sa → Q (.str (Txt.replace x y z)) H'
theorem pet_replP {o : Expr} {to : TE} {y : Str} {j : Nat} {c0 apos pos : Pos} (ho : PE X o to) (nb : NoShare X.K) (R : PickRun X.prog X.w X.K X.mg X.base 2 f) (hr : Room 2 X.A) (hm : X.mg "_law_pick" = some (.ref f)) (hk : PySem.W.keepIn X.K (.ref f) = true) (hN : X.N[i]? = some "row") (hv : Vis X.env.scope "row") (cs : CS es zs) (ne : zs ≠ []) (hz : zs.length < 1000) (hg : Gl X "_law_pick" := by rfl) (hpl : (backTo p4 (starEach [Expr.List es p3] X.env)).any (·.1) = false := by rfl)
    (hst : starEach [.Constant (.str y) j c0, .Call (.Name "_law_pick" p1) [.Name "row" p2, .List es p3] [] p4] X.env = [(false, eval (.Constant (.str y) j c0) X.env), (false, eval (.Call (.Name "_law_pick" p1) [.Name "row" p2, .List es p3] [] p4) X.env)] := by rfl)
    (hbase : attributeBase o "replace" X.env (eval o X.env) = eval o X.env := by rfl) (hline : (apos.endLine == pos.line) = true := by rfl) :
    PET X (.Call (.Attribute o "replace" apos) [.Constant (.str y) j c0, .Call (.Name "_law_pick" p1) [.Name "row" p2, .List es p3] [] p4] [] pos) (tReplP X.K to y i zs) := by
  intro pins s σ H Q h0 I h
  refine PySem.Call_method2 hbase hst hline (wpAny_mono (PySem.wpAny_toks (ho.run pins s σ H _ I h)) (fun v s1 q => ?_) fun _ _ z => z.2)
  obtain ⟨hk1, v', H1, I1, r1, x, r, sa, e1, hrow, dr, hb, q⟩ := q
  subst e1
  obtain ⟨tx, e2⟩ := r1
  subst e2
  refine ⟨"str", _, PySem.F.plainAttrs_str, PySem.F.slot_str_replace, PySem.F.type_str_replace, typeIs_str _ _ _, (fun _ e => nomatch e), Calls.callWith_builtin rfl (Calls.evalArgs_plain (Calls.spliced_cons ?_))⟩
  refine Calls.Constant_str (Calls.spliced_cons (pick_eval R hr hm hk hN hv cs ne hz (I1.tok _) hrow dr (fun z t s2 H2 hzm ht hs I2 z2 ra => Calls.spliced_nil ?_) hg hpl))
  have ht : s1.toks + 1 ≤ t := ht
  exact PySem.SC.replaceA (by show s1.toks ≠ 0; omega) (show t ≠ 0 by omega) (by show s1.toks ≠ t; omega) (hb z hzm) (fun t' k => ⟨.str (Txt.replace x y z), H2, I2.tok k, ⟨t', rfl⟩, q z hzm H2 z2 ra⟩) (booked0 I2 nb)
/-- a op b: behind a a token is out -/
theorem pe1_op {a b : Expr} {ta tb : TE} {pos : Pos} {op : Operator} {r : R2} (ho : OpR X (binaryOp op) r) (ha : PE1 X a ta) (hb : PET X b tb) : PE1 X (.BinOp a op b pos) (tOp r ta tb) := by
  intro pins s σ H Q I h
  refine wpAny_BinOp (thn (ha pins s σ H _ I h) fun v s1 q => ?_)
  obtain ⟨hk, x, H1, I1, r1, q1⟩ := q
  refine wpAny_mono (PySem.wpAny_toks (hb pins s1 σ H1 _ hk I1 q1)) (fun u s2 q => ?_) fun _ _ z => z.2
  obtain ⟨hk2, y, H2, I2, r2, q2⟩ := q
  refine wpAny_mono (PySem.wpAny_toks (ho pins s2 σ H2 x y v u Q I2 r1 r2 q2)) (fun w s3 q => ?_) fun _ _ z => z.2
  exact ⟨Nat.le_trans hk (Nat.le_trans hk2 q.1), q.2⟩
/-- x = e, behind which a token is out -/
theorem pss_set1 {j : Nat} {x : Str} {e : Expr} {te : TE} {pos pos' : Pos} {rest : List Stmt} {u : TS} (hN : X.N.Nodup) (hi : X.N[j]? = some x) (hx : Loc X.env.scope x) (he : PE1 X e te) (h2 : PSsT X rest u) (hs : swapsWith e (some (.Name x pos')) pos.line X.env = pure false := by rfl) (hf : X.fn x = true ∨ X.env.scope.names.lookup x = some .local := by first | exact .inl rfl | exact .inr rfl | assumption) :
    PSs X (.Assign [.Name x pos'] e pos :: rest) (tSeq (tAsg te (gName j)) u) := by
  refine ⟨fun pins s σ H D I h => ?_⟩
  refine wpAny_execs_cons (wpAny_Assign_Name (thn (he pins s σ H _ I h) fun v s1 q => ?_) hs)
  obtain ⟨hk, y, H1, I1, r1, q1⟩ := q
  refine wpAny_mono (PySem.wpAny_toks (store_ok (v := y) (u := v) (Q := fun _ s2 => Inv X pins (σ.set j (some y)) H1 s2) I1 hN hi hx r1 (fun _ I2 => I2) hf)) (fun _ s2 q => ?_) fun _ _ z => z.2
  exact h2 pins s2 _ H1 D (Nat.le_trans hk q.1) q.2 q1
end
end NS
end
section
set_option maxHeartbeats 4000000
/-! RTry: several except clauses, each with a name -/
namespace NSTry
open PySem PySem.Spec PyProof.Rows L2
abbrev TsX := Addr → Value → Option Addr → TS
/-- what the clauses wish, one after the other: the class, the name's slot, the suite -/
def wManyAs (K : PySem.W.Frag) (Wout : WX) (D : Ends) : List (Value × Nat × TsX) → WX
  | [] => Wout
  | (c, i, ts) :: r => fun cls d σ H => ∃ b, PySem.W.exmOne K cls c = some b ∧ (b = true → ∀ a, H a = none → ts a cls d { nx := fun σ' H' => D.nx (σ'.set i none) H', rt := D.rt, bk := fun σ' H' => D.bk (σ'.set i none) H', ct := fun σ' H' => D.ct (σ'.set i none) H' } (σ.set i (some (.ref a))) H) ∧ (b = false → wManyAs K Wout D r cls d σ H)
inductive HdsAs (X : Cx) : List ExceptHandler → List (Value × Nat × TsX) → Prop
  | nil : HdsAs X [] []
  | cons {x n : Str} {c : Value} {i : Nat} {ts : TsX} {b₀ : Stmt} {suite : List Stmt} {np pos' : Pos} {hds : List ExceptHandler} {l : List (Value × Nat × TsX)} (hi : X.N[i]? = some n) (hln : X.env.kindOf n = some .local) (hc : Names X x c)
      (hsu : ∀ (a : Addr) (oe : Obj) (cls : Value) (d : Option Addr) (pn : List (Addr × Obj)), Zc cls d oe → (∃ vs, oe.data = .fields vs) → PSs (X.suite a ((a, oe) :: pn)) (b₀ :: suite) (ts a cls d)) (r : HdsAs X hds l) :
      HdsAs X (.ExceptHandler (some (.Name x np)) (some n) (b₀ :: suite) pos' :: hds) ((c, i, ts) :: l)
section
variable {X : Cx} {body : List Stmt} {h₀ : ExceptHandler} {hds : List ExceptHandler} {l : List (Value × Nat × TsX)} {pos : Pos} {tb : WX → TS} {Wout : WX}
theorem ps_try_manyAs (hs : X.stack = X.env :: X.outer) (hf : X.env.frame = some X.env.locals) (hN : X.N.Nodup) (tk : Takes X Wout)
    (hb : ∀ (W : WX) (pn : List (Addr × Obj)) (xe : Value → Shared → Prop), Takes (X.tr pn xe) W → PassesOwn (model X.prog X.w) X.A X.env xe → PSs (X.tr pn xe) body (tb W))
    (hh : HdsAs X (h₀ :: hds) l) : PS X (.Try body (h₀ :: hds) [] [] pos) (fun D σ H => tb (wManyAs X.K Wout D l) D σ H) := by
  refine ⟨fun pins s σ H D I h => ?_⟩
  have ok := I.ok
  have hfr : X.A.frames = some (X.env :: X.outer) := by rw [ok.frames, hs]
  refine wpAny_Try_except ?_
  refine wpAny_mono ((hb (wManyAs X.K Wout D l) (X.pn ++ pins) (fun e s₁ => wpAny (model X.prog X.w) X.A (noteFrame e X.env) (fun _ s₂ => wpAny (model X.prog X.w) X.A (setFlight e none) (fun _ s₃ =>
    wpAny (model X.prog X.w) X.A (handleBy e X.env (h₀ :: hds)) (SP X pins D) X.xe s₃) X.xe s₂) X.xe s₁) (fun u s' xx => ?_) PassesOwn.looking).run [] s σ H D (I.toTry _) h) (fun f s1 hsp => ?_) (fun e s1 he => he)
  · obtain ⟨a, B, sI, pins', σ', H', cls, d, rfl, J', nb, up, sky, na, os, ag, w⟩ := xx
    have J : Inv X pins σ' H' sI := J'.ofTry ok
    have sky' : Sky B (X.env :: X.outer) a (Zc cls d) X.env.locals s'.heap := by rw [← hs]; exact sky
    show wpAny (model X.prog X.w) X.A (noteFrame (.ref a) X.env) _ _ _
    refine Sky.land Zc.steady hfr hf sky' fun h3 fl3 up3 => ?_
    have J3 : Inv X pins σ' H' { s' with heap := h3 } := J.landed nb fl3.1 (up.trans up3) os ag
    obtain ⟨oe3, vs3, he3, hz3, hd3⟩ := fl3.there
    have notFr : ∀ {h : Heap} {o : Obj} {vs : Array Value}, h.FunFrames B (X.env :: X.outer) → h.get? a = some o → o.data = .fields vs → a ∉ frs (X.env :: X.outer) := fun {h o vs} ff e dd hm => by
      obtain ⟨_, o', e', hnf⟩ := ff.mem hm
      rw [e] at e'; cases e'
      exact hnf _ dd
    have nfr := notFr fl3.2.2.1 he3 hd3
    have nL : a ≠ X.env.locals := fun z => nfr (List.mem_filterMap.mpr ⟨X.env, List.mem_cons_self, by rw [hf, z]⟩)
    have nF : a ∉ X.fs := fun hm => by
      obtain ⟨e, he, q⟩ := List.mem_filterMap.mp hm
      exact nfr (List.mem_filterMap.mpr ⟨e, List.mem_cons_of_mem _ he, q⟩)
    have S3 := J3.suite he3 hd3 na nL nF
    have go : ∀ {hds' : List ExceptHandler} {l' : List (Value × Nat × TsX)}, HdsAs X hds' l' → wManyAs X.K Wout D l' cls d σ' H' →
        wpAny (model X.prog X.w) X.A (handleBy (.ref a) X.env hds') (SP X pins D) X.xe { s' with heap := h3 } := by
      intro hds' l' hk
      induction hk with
      | nil =>
        intro w
        refine wpAny_handleBy_nil ?_
        obtain ⟨k1, k2, k3, oe, vs, T, oT, ts', he, hz, hd, h1, hr⟩ := id fl3
        unfold PySem.passOn
        refine wpAny_bind (wpAny_field he hd h1 ?_)
        rw [if_neg (show ¬ ((Value.ref T == Value.none) = true) from by simp)]
        have fin : wpAny (model X.prog X.w) X.A (setFlight (.ref a) X.env.frame) (fun _ s4 => wpAny (model X.prog X.w) X.A (throw (.ref a) : Sem Flow) (SP X pins D) X.xe s4) X.xe { s' with heap := h3 } := by
          rw [hf]
          refine HandSPX.setFlight_upZ fl3 fun h4 hh4 up4 => wpAny_throw (tk _ _ ?_)
          exact ⟨a, B, sI, pins, σ', H', cls, d, rfl, J, nb, (up.trans up3).trans up4, .inr (.inr (by rw [hs]; exact hh4)), na, os, ag, w⟩
        first
          | exact wpAny_bind (wpAny_pure (wpAny_bind fin))
          | exact wpAny_bind fin
      | @cons x n c i ts b₀ suite np pos' hds2 l2 hi hln hc hsu r ih =>
        intro w
        have hloc : Loc X.env.scope n := .inl hln
        obtain ⟨b, hb1, hyes, hno⟩ := w
        refine wpAny_handleBy_cons (codeAny_handlers_test ?_) (by intro q; cases q)
        have LT : PySem.W.Looks (model X.prog X.w) h3 (typeOf (.ref a)) cls := fun A Q E s k q => wpAny_typeOf_ref (k _ _ he3) (by rw [hz3.1]; exact q)
        have LM := PySem.W.exm_one (M := model X.prog X.w) (J3.kIn) LT hb1
        have test : ∀ {Q : Value → Shared → Prop} {E : Value → Shared → Prop}, Q c { s' with heap := h3 } → wpAny (model X.prog X.w) (X.A.mark (some (.ref a))) (eval (.Name x np) X.env) Q E { s' with heap := h3 } := fun {Q E} q => by
          obtain ⟨hg, hdbg, hm | ⟨hm, hv, hnn⟩⟩ := hc
          · exact ld_glob (X := X.suite a ((a, oe3) :: (X.pn ++ pins))) S3 hg hm q hdbg
          · exact ld_blt (X := X.suite a ((a, oe3) :: (X.pn ++ pins))) S3 hg hm hv q hnn hdbg
        refine test (LM.here ?_)
        cases b with
        | true =>
          refine codeAny_handlers_suite_as ?_
          refine HandSPX.lands_againZ fl3 fun h4 fl4 up4 => ?_
          have J4 : Inv X pins σ' H' { s' with heap := h4 } := J.landed nb fl4.1 ((up.trans up3).trans up4) os ag
          obtain ⟨oe4, vs4, he4, hz4, hd4⟩ := fl4.there
          have S4 := J4.suite he4 hd4 na nL nF
          refine store_ok (X := X.suite a ((a, oe4) :: (X.pn ++ pins))) (v := .ref a) S4 hN hi hloc rfl (fun s5 S5 => ?_) (.inr hln)
          refine wpAny_mono ((hsu a oe4 cls d (X.pn ++ pins) hz4 ⟨_, hd4⟩).run [] s5 _ H' _ S5 (hyes rfl a na)) (fun f s6 hsp => ?_) (fun _ _ z => False.elim z)
          have end_ : ∀ {σ6 : L2.St} {H6 : Hp} {Q : Shared → Prop}, Inv (X.suite a ((a, oe4) :: (X.pn ++ pins))) [] σ6 H6 s6 → (∀ s7, Inv X pins (σ6.set i none) H6 s7 → Q s7) →
              wpAny (model X.prog X.w) X.A (do bindName X.env n .none; unbindBehindTheSuite X.env n pos') (fun _ s7 => Q s7) X.xe s6 := fun {σ6 H6 Q} S6 hq => gone_ok (S6.unsuite ok) hN hi hln hq
          cases f with
          | next =>
            obtain ⟨σ6, H6, S6, q6⟩ := hsp
            exact end_ S6 fun s7 J7 => ⟨_, _, J7, q6⟩
          | brk =>
            obtain ⟨σ6, H6, S6, q6⟩ := hsp
            exact end_ S6 fun s7 J7 => ⟨_, _, J7, q6⟩
          | cont =>
            obtain ⟨σ6, H6, S6, q6⟩ := hsp
            exact end_ S6 fun s7 J7 => ⟨_, _, J7, q6⟩
          | ret u =>
            obtain ⟨v6, σ6, H6, S6, r6, q6⟩ := hsp
            exact end_ S6 fun s7 J7 => ⟨_, _, _, J7, r6, q6⟩
        | false =>
          show wpAny _ X.A (handleBy (.ref a) X.env hds2) _ _ _
          exact ih (hno rfl)
    exact go hh w
  · cases f with
    | next =>
      obtain ⟨σ', H', J', q⟩ := hsp
      exact wpAny_execs_nil ⟨σ', H', J'.ofTry ok, q⟩
    | brk =>
      obtain ⟨σ', H', J', q⟩ := hsp
      exact ⟨σ', H', J'.ofTry ok, q⟩
    | cont =>
      obtain ⟨σ', H', J', q⟩ := hsp
      exact ⟨σ', H', J'.ofTry ok, q⟩
    | ret u =>
      obtain ⟨v, σ', H', J', r, q⟩ := hsp
      exact ⟨v, σ', H', J'.ofTry ok, r, q⟩
end
end NSTry
end
section
set_option maxHeartbeats 4000000
/-! N20: the law's texts: loose, told, refused -/
namespace NS
open PySem PySem.Spec PyProof.Rows L2 ZS CwR NSTry
theorem scLLoose : FnScope ["row", "text", "loose"] ["row", "text"] (defScope sLLoose) := ⟨rfl, rfl, rfl, by decide +kernel, rfl, by decide +kernel, by decide +kernel⟩
theorem scLTold : FnScope ["text", "e"] ["text"] (defScope sLTold) := ⟨rfl, rfl, rfl, by decide +kernel, rfl, by decide +kernel, by decide +kernel⟩
theorem scLRefused : FnScope ["rows"] [] (defScope sLRefused) := ⟨rfl, rfl, rfl, by decide +kernel, rfl, by decide +kernel, by decide +kernel⟩
def pres : List Cs := [[], [32], [10], [32, 10, 32]]
def gaps : List Cs := [[32], [32, 32, 32]]
def ends : List Cs := [[10], [32, 10], [10, 10], [10, 32, 32]]
def posts : List Cs := [[], [32], [10]]
def spLoose (K : PySem.W.Frag) : Sp := fun vs H Q _ => ∃ (r sa : Addr) (t : Cs), vs = [.ref r, vS t] ∧ Draws K H r sa ∧ t.length ≤ 300 ∧ ∀ pre ∈ pres, ∀ s1 ∈ gaps, ∀ s2 ∈ ends, ∀ post ∈ posts, ∀ H', KpB r H H' → RowAt H' r sa → Q (vS (loose pre s1 s2 post t)) H'
theorem subC_len (c : Nat) (z : Cs) : ∀ l : Cs, (subC c z l).length ≤ l.length * (z.length + 1)
  | [] => by unfold subC; simp
  | x :: l => by
    have := subC_len c z l
    unfold subC at this ⊢
    rw [List.flatMap_cons, List.length_append, List.length_cons, Nat.succ_mul]
    have h : (if x = c then z else [x]).length ≤ z.length + 1 := by split <;> simp
    omega
theorem of_map {l : List Cs} {z : Str} (h : z ∈ l.map SX.S) : ∃ w ∈ l, z = SX.S w := by
  obtain ⟨w, hw, e⟩ := List.mem_map.mp h
  exact ⟨w, hw, e.symm⟩
theorem cat_S {a b : Cs} : V.str (SX.S a ++ SX.S b) = vS (a ++ b) := by rw [SX.S_cat]
section
variable {P : Program} {w : World} {K : PySem.W.Frag} {mg : Str → Option Value} {base : Heap} {f fp : Addr} {fd : FuncData}
theorem has_lloose (F : FnP K "_law_loose" sLLoose f fd) (m : mg "_law_loose" = some (.ref f)) (nb : NoShare K) (R : PickRun P w K mg base 2 fp) (mp : mg "_law_pick" = some (.ref fp)) (kp : PySem.W.keepIn K (.ref fp) = true) : Has P w K mg base "_law_loose" 3 [] (spLoose K) := by
  refine ⟨f, fd, ["row", "text"], [], m, F.kp, F.bindsN (fun _ _ _ _ _ _ us hl => match us, hl with | [_, _], _ => rfl), .nil, ?_⟩
  refine F.ok scLLoose (fun vs H Q E h => ?_) (fun cdv A outer s H vs Q E hr h => ⟨_, PSs.nox (
    pss_set1 (j := 2) scLLoose.nd rfl (Or.inl rfl) (pe1_op op_add_str (pe1_pick (i := 0) (zs := pres.map SX.S) R hr mp kp rfl (Or.inl rfl) (.cons (.cons (.cons (.cons .nil)))) (by decide) (by decide)) (pet_replP (i := 0) (zs := gaps.map SX.S) (pv 1) nb R hr mp kp rfl (Or.inl rfl) (.cons (.cons .nil)) (by decide) (by decide)))
    (psst_one (pst_ret (pet_op op_add_str (pet_replP (i := 0) (zs := ends.map SX.S) (pv 2) nb R hr mp kp rfl (Or.inl rfl) (.cons (.cons (.cons (.cons .nil)))) (by decide) (by decide)) (PET.of (pe_of1 (pe1_pick (i := 0) (zs := posts.map SX.S) R hr mp kp rfl (Or.inl rfl) (.cons (.cons (.cons .nil))) (by decide) (by decide)))))))), ?_⟩)
  · obtain ⟨r, sa, t, rfl, _⟩ := h
    rfl
  · obtain ⟨r, sa, t, rfl, dr, ht, q⟩ := h
    refine ⟨r, sa, rfl, dr, fun z hz H1 z1 ra1 => ?_⟩
    obtain ⟨pre, hpre, rfl⟩ := of_map hz
    have dr1 := dr.b z1 ra1
    refine ⟨_, rfl, SX.S t, r, sa, rfl, rfl, dr1, fun z hz => ?_, fun z hz H2 z2 ra2 => ?_⟩
    · obtain ⟨s1, hs1, rfl⟩ := of_map hz
      rw [SX.S_len, SX.S_len]
      have : s1.length ≤ 3 := by
        have : ∀ s ∈ gaps, s.length ≤ 3 := by decide
        exact this s1 hs1
      have h1 : (t.length + 1) * s1.length ≤ 301 * 3 := Nat.mul_le_mul (by omega) this
      omega
    obtain ⟨s1, hs1, rfl⟩ := of_map hz
    have e1 : Txt.replace (SX.S t) (SX.S [32]) (SX.S s1) = SX.S (subC 32 s1 t) := replace_sub 32 t s1
    have l1 := subC_len 32 s1 t
    have b1 : s1.length ≤ 3 := by
      have : ∀ s ∈ gaps, s.length ≤ 3 := by decide
      exact this s1 hs1
    have b2 : t.length * (s1.length + 1) ≤ 300 * 4 := Nat.mul_le_mul ht (by omega)
    have b3 : pre.length ≤ 3 := by
      have : ∀ s ∈ pres, s.length ≤ 3 := by decide
      exact this pre hpre
    refine ⟨SX.S pre, _, rfl, rfl, ?_, ?_⟩
    · show (SX.S pre).length + (Txt.replace (SX.S t) (SX.S [32]) (SX.S s1)).length ≤ sizeLine
      rw [e1, SX.S_len, SX.S_len, sizeLine_eq]
      omega
    show gName 2 (V.str (SX.S pre ++ Txt.replace (SX.S t) (SX.S [32]) (SX.S s1))) _ _ _
    rw [e1, cat_S]
    have dr2 := dr1.b z2 ra2
    have lm : (pre ++ subC 32 s1 t).length ≤ 1203 := by rw [List.length_append]; omega
    generalize em : pre ++ subC 32 s1 t = md at lm ⊢
    refine ⟨_, rfl, SX.S md, r, sa, rfl, rfl, dr2, fun z hz => ?_, fun z hz H3 z3 ra3 => ?_⟩
    · obtain ⟨s2, hs2, rfl⟩ := of_map hz
      rw [SX.S_len, SX.S_len]
      have : s2.length ≤ 3 := by
        have : ∀ s ∈ ends, s.length ≤ 3 := by decide
        exact this s2 hs2
      have h1 : (md.length + 1) * s2.length ≤ 1204 * 3 := Nat.mul_le_mul (by omega) this
      omega
    obtain ⟨s2, hs2, rfl⟩ := of_map hz
    have e2 : Txt.replace (SX.S md) (SX.S [10]) (SX.S s2) = SX.S (subC 10 s2 md) := replace_sub 10 md s2
    have c2 : s2.length ≤ 3 := by
      have : ∀ s ∈ ends, s.length ≤ 3 := by decide
      exact this s2 hs2
    have l2 := subC_len 10 s2 md
    have b4 : md.length * (s2.length + 1) ≤ 1203 * 4 := Nat.mul_le_mul lm (by omega)
    refine ⟨r, sa, rfl, dr2.b z3 ra3, fun z hz H4 z4 ra4 => ?_⟩
    obtain ⟨post, hpost, rfl⟩ := of_map hz
    have b5 : post.length ≤ 3 := by
      have : ∀ s ∈ posts, s.length ≤ 3 := by decide
      exact this post hpost
    refine ⟨_, SX.S post, rfl, rfl, ?_, ?_⟩
    · show (Txt.replace (SX.S md) (SX.S [10]) (SX.S s2)).length + (SX.S post).length ≤ sizeLine
      rw [e2, SX.S_len, SX.S_len, sizeLine_eq]
      omega
    show Q (V.str (Txt.replace (SX.S md) (SX.S [10]) (SX.S s2) ++ SX.S post)) H4
    rw [e2, cat_S, ← em]
    exact q pre hpre s1 hs1 s2 hs2 post hpost H4 (((z1.trans z2).trans z3).trans z4) ra4
end
end NS
end
section
set_option maxHeartbeats 4000000
/-! N21: the law's told and refused -/
namespace NS
open PySem PySem.Spec PyProof.Rows L2 ZS CwR NSTry
theorem S_of (z : Str) : V.str z = vS z.cps.toList := by
  show V.str z = V.str ⟨z.cps.toList.toArray⟩
  rw [Array.toArray_toList]
def spTold (K : PySem.W.Frag) (pT : Addr) : Sp := fun vs H Q _ => ∃ x : V, vs = [x] ∧ GxR.TabG H pT ∧ ((NotTy K H x "str" ∧ Q (.str "text") H) ∨ ∃ t : Cs, x = vS t ∧ t.length ≤ 4000 ∧
  (∀ k j, rd t = .error (k, j) → ∀ q H', Kp H H' → SqT K H' q [.int (k : Nat), .int (j : Nat)] → Q (.ref q) H') ∧ (∀ r, rd t = .ok r → ∀ H', Kp H H' → Q (.str "") H'))
section
variable {P : Program} {w : World} {K : PySem.W.Frag} {mg : Str → Option Value} {base : Heap} {f C CT pT : Addr} {fd : FuncData}
theorem has_ltold (F : FnP K "_law_told" sLTold f fd) (m : mg "_law_told" = some (.ref f)) (hR : HasX P w K mg base "read_house" 6 (spReadHouse K pT C CT)) (gC : mg "BadLine" = some (.ref C)) (gT : mg "BadText" = some (.ref CT))
    (mCC : PySem.W.exmOne K (.ref C) (.ref C) = some true) (mTC : PySem.W.exmOne K (.ref CT) (.ref C) = some false) (mTT : PySem.W.exmOne K (.ref CT) (.ref CT) = some true) (xf : XfC K C) (n1 : PySem.W.findIn K (.ref C) "line" = some none) (n2 : PySem.W.findIn K (.ref C) "word" = some none) : Has P w K mg base "_law_told" 7 [] (spTold K pT) := by
  refine ⟨f, fd, ["text"], [], m, F.kp, F.bindsN (fun _ _ _ _ _ _ us hl => match us, hl with | [_], _ => rfl), .nil, ?_⟩
  refine F.ok scLTold (fun vs H Q E h => ?_) (fun cdv A outer s H vs Q E hr h => ⟨_, PSs.nox (
    pss_cons (ps_try_manyAs rfl rfl scLTold.nd takes0 (fun W pn xe tk _ => pss_one (ps_expr (pe_hasX hR hr (by decide) tk (pa_cons (pv 0) pa_nil))))
      (.cons (i := 1) (c := .ref C) rfl rfl ⟨rfl, by decide, .inl gC⟩ (fun a oe cls d pn hz hf => pss_one (ps_ret (pe_tup (pa_cons (pe_xf xf n1 hz hf (pv 1)) (pa_cons (pe_xf xf n2 hz hf (pv 1)) pa_nil)))))
      (.cons (i := 1) (c := .ref CT) rfl rfl ⟨rfl, by decide, .inl gT⟩ (fun a oe cls d pn hz hf => pss_one (ps_ret pe_str)) .nil)))
    (pss_one (ps_ret pe_str))), ?_⟩)
  · obtain ⟨x, rfl, _⟩ := h
    rfl
  · obtain ⟨x, rfl, gt, ⟨nt, q⟩ | ⟨t, rfl, ht, qe, q⟩⟩ := h
    · refine ⟨_, rfl, x, rfl, .inl ⟨nt, ?_⟩⟩
      exact ⟨false, mTC, fun e => (by cases e), fun _ => ⟨true, mTT, fun _ a ha => q, fun e => (by cases e)⟩⟩
    · refine ⟨_, rfl, vS t, rfl, .inr ⟨t, rfl, ht, gt, fun k j e d H' z hd => ?_, fun n ts e q2 p vs H' z h1 h2 h3 => ?_⟩⟩
      · refine ⟨true, mCC, fun _ a ha => ?_, fun e => (by cases e)⟩
        refine ⟨_, rfl, rfl, rfl, d, _, _, rfl, upd_same, rfl, _, rfl, rfl, rfl, d, _, _, rfl, upd_same, rfl, ⟨(by show 2 ≤ sizeLine; decide), fun p hp => ?_⟩⟩
        exact qe k j e p _ ((z.new hd).new hp) (SqT.of upd_same)
      · exact q _ e H' z
end
abbrev Rw := Str × Option (Nat × Nat)
def DueAt (K : PySem.W.Frag) (H : Hp) (y : V) : Option (Nat × Nat) → Prop
  | none => y = .str ""
  | some p => ∃ b, y = .ref b ∧ SqT K H b [.int (p.1 : Nat), .int (p.2 : Nat)]
def RwAt (K : PySem.W.Frag) (H : Hp) (v : V) (r : Rw) : Prop := ∃ a y, v = .ref a ∧ SqT K H a [.str r.1, y] ∧ DueAt K H y r.2
theorem DueAt.kp {K : PySem.W.Frag} {H H' : Hp} {y : V} {o : Option (Nat × Nat)} (h : DueAt K H y o) (z : Kp H H') : DueAt K H' y o := by
  cases o with
  | none => exact h
  | some p => obtain ⟨b, e, s⟩ := h; exact ⟨b, e, z.sqT s⟩
theorem RwAt.kp {K : PySem.W.Frag} {H H' : Hp} {v : V} {r : Rw} (h : RwAt K H v r) (z : Kp H H') : RwAt K H' v r := by
  obtain ⟨a, y, e, s, d⟩ := h
  exact ⟨a, y, e, z.sqT s, d.kp z⟩
def tDue (K : PySem.W.Frag) (o : Option (Nat × Nat)) : TE := fun _ H Q => ∀ y H', Kp H H' → DueAt K H' y o → Q y H'
def tRw (K : PySem.W.Frag) (r : Rw) : TE := fun _ H Q => ∀ v H', Kp H H' → RwAt K H' v r → Q v H'
def tRws (K : PySem.W.Frag) (rs : List Rw) : TA := fun _ H Q => ∀ vs H', Kp H H' → Paired (RwAt K H') vs rs → Q vs H'
section
variable {X : Cx}
theorem due0 {j : Nat} {pos : Pos} : PE X (.Constant (.str "") j pos) (tDue X.K none) := pe_imp pe_str fun _ H Q h => h _ H (Kp.refl H) rfl
theorem due2 {k j k1 j1 : Nat} {p1 p2 pos : Pos} {x1} : PE X (.Tuple [.Constant (.int (k : Nat)) k1 p1, .Constant (.int (j : Nat)) j1 p2] x1 pos) (tDue X.K (some (k, j))) :=
  pe_imp (pe_tup (pa_cons pe_int (pa_cons pe_int pa_nil))) fun σ H Q h => show tTup (tCons (tC (.int (k : Nat))) (tCons (tC (.int (j : Nat))) tNil)) σ H Q from ⟨(by show 2 ≤ sizeLine; decide), fun p hp => h _ _ ((Kp.refl H).new hp) ⟨p, rfl, SqT.of upd_same⟩⟩
def zM (k : Nat) : Str := ("halls 1\n" : Str) ++ ⟨(List.replicate ((k : Nat) : Int).toNat ("turn 0\n" : Str).cps).foldl (· ++ ·) #[]⟩
theorem pr_mul {k j1 j2 j3 : Nat} {p1 p2 p3 p4 p5 : Pos} (h2 : 2 ≤ k := by decide) (h7 : k ≤ 7 := by decide) : PE X (.BinOp (.Constant (.str "halls 1\n") j1 p1) .Add (.BinOp (.Constant (.str "turn 0\n") j2 p2) .Mult (.Constant (.int (k : Nat)) j3 p3) p4) p5) (tC (.str (zM k))) := by
  refine pe_imp (pe_op op_add_str pe_str (pe_op op_strMul pe_str pe_int)) fun σ H Q h => ?_
  refine ⟨_, _, rfl, rfl, by omega, by omega, by decide, by decide, _, _, rfl, rfl, ?_, h⟩
  show (Str.length "halls 1\n") + (List.foldl (· ++ ·) #[] (List.replicate ((k : Nat) : Int).toNat ("turn 0\n" : Str).cps)).size ≤ sizeLine
  rw [rep_size, sizeLine_eq]
  have e1 : (Str.length "halls 1\n") = 8 := by decide
  have e2 : ("turn 0\n" : Str).cps.size = 7 := by decide
  have e3 : (#[] : Array Nat).size = 0 := rfl
  rw [e1, e2, e3, Int.toNat_natCast]
  omega
theorem pr_row {e1 e2 : Expr} {z : Str} {o : Option (Nat × Nat)} {x1} {pos : Pos} (h1 : PE X e1 (tC (.str z))) (h2 : PE X e2 (tDue X.K o)) (hs1 : starEach [e1, e2] X.env = (false, eval e1 X.env) :: starEach [e2] X.env := by rfl) (hs2 : starEach [e2] X.env = (false, eval e2 X.env) :: starEach [] X.env := by rfl) : PE X (.Tuple [e1, e2] x1 pos) (tRw X.K (z, o)) :=
  pe_imp (pe_tup (pa_cons h1 (pa_cons h2 pa_nil hs2) hs1)) fun σ H Q h => show tTup (tCons (tC (.str z)) (tCons (tDue X.K o) tNil)) σ H Q from fun y H1 z1 d => ⟨(by show 2 ≤ sizeLine; decide), fun p hp => h _ _ (z1.new hp) ⟨p, y, rfl, SqT.of upd_same, d.kp ((Kp.refl H1).new hp)⟩⟩
theorem prs_nil : PA X [] (tRws X.K []) := ⟨fun pos pins s σ H Q I h => pa_nil.run pos pins s σ H Q I (h [] H (Kp.refl H) .nil)⟩
theorem prs_cons {e : Expr} {es : List Expr} {r : Rw} {rs : List Rw} (h1 : PE X e (tRw X.K r)) (h2 : PA X es (tRws X.K rs)) (hs : starEach (e :: es) X.env = (false, eval e X.env) :: starEach es X.env := by rfl) : PA X (e :: es) (tRws X.K (r :: rs)) :=
  ⟨fun pos pins s σ H Q I h => (pa_cons h1 h2 hs).run pos pins s σ H Q I (show tCons (tRw X.K r) (tRws X.K rs) σ H Q from fun v H1 z1 i1 vs H2 z2 i2 => h _ H2 (z1.trans z2) (.cons (i1.kp z2) i2))⟩
theorem pr_lst {es : List Expr} {pos : Pos} {rs : List Rw} (h : PA X es (tRws X.K rs)) (hl : rs.length ≤ 100 := by decide) : PE X (.List es pos) (fun _ H Q => ∀ p H' vs, Kp H H' → H' p = some (.lst vs) → Paired (RwAt X.K H') vs rs → Q (.ref p) H') :=
  pe_imp (pe_lst h) fun _ H Q q => show tLst (tRws X.K rs) _ H Q from fun vs H1 z1 i1 => ⟨by rw [i1.length, sizeLine_eq]; omega, fun p hp => q p _ vs (z1.new hp) upd_same (i1.mono fun _ _ q => q.kp ((Kp.refl H1).new hp))⟩
end
/-- whether a text is read as is due -/
def rdIs (x : Except (Nat × Nat) (Int × List (List Int))) (o : Option (Nat × Nat)) : Bool := match x, o with
  | .error p, some q => p == q
  | .ok _, none => true
  | _, _ => false
def rf0 : List Rw := [(("" : Str), some (2, 1)), (("halls" : Str), some (1, 2)), (("hall 2" : Str), some (1, 1))]
def rf1 : List Rw := [(("halls 0" : Str), some (1, 2)), (("halls 9" : Str), some (1, 2)), (("halls 02" : Str), some (1, 2))]
def rf2 : List Rw := [(("halls 2 2" : Str), some (1, 3)), (("halls 2" : Str), some (2, 1))]
def rf3 : List Rw := [(("halls 2\nturn" : Str), some (2, 2)), (("halls 2\nturn 00" : Str), some (2, 2))]
def rf4 : List Rw := [(("halls 2\nturn 0" : Str), some (2, 2)), (("halls 2\nturn 010" : Str), some (2, 2))]
def rf5 : List Rw := [(("halls 2\nturn 02" : Str), some (2, 2)), (("halls 2\nturn 01 0" : Str), some (2, 3))]
def rf6 : List Rw := [(("halls 2\nturns 01" : Str), some (2, 1)), (("halls 2\nturn 10" : Str), none), (zM 6, none)]
def rf7 : List Rw := [(zM 7, some (8, 1)), (("\n" : Str), some (3, 1))]
def rf8 : List Rw := [(("\n\nhalls 2\n\nturn 1x" : Str), some (5, 2)), (("halls x" : Str), some (1, 2))]
def rf9 : List Rw := [(("halls 2\nturn 01\nhalls 2" : Str), some (3, 1)), (("halls 2\nturn 10\nturn 1 0" : Str), some (3, 2))]
def refs : List Rw := (((((((((rf0 ++ rf1) ++ rf2) ++ rf3) ++ rf4) ++ rf5) ++ rf6) ++ rf7) ++ rf8) ++ rf9)
theorem refs_ok : refs.all (fun r => decide (r.1.cps.toList.length ≤ 4000) && rdIs (rd r.1.cps.toList) r.2) = true := by decide +kernel
def spRefused (K : PySem.W.Frag) : Sp := fun vs H Q _ => vs = [] ∧ ∀ q H' us, Kp H H' → H' q = some (.lst us) → Paired (RwAt K H') us refs → Q (.ref q) H'
section
variable {P : Program} {w : World} {K : PySem.W.Frag} {mg : Str → Option Value} {base : Heap} {f : Addr} {fd : FuncData}
theorem has_lrefused (F : FnP K "_law_refused" sLRefused f fd) (m : mg "_law_refused" = some (.ref f)) : Has P w K mg base "_law_refused" 1 [] (spRefused K) := by
  refine ⟨f, fd, [], [], m, F.kp, F.bindsN (fun _ _ _ _ _ _ us hl => match us, hl with | [], _ => rfl), .nil, ?_⟩
  refine F.ok scLRefused (fun vs H Q E h => ?_) (fun cdv A outer s H vs Q E hr h => ⟨_, PSs.nox (
    (pss_cons (ps_set (i := 0) scLRefused.nd rfl (Or.inl rfl) (pr_lst (prs_cons (pr_row pe_str due2) (prs_cons (pr_row pe_str due2) (prs_cons (pr_row pe_str due2) prs_nil)))))
    (pss_cons (ps_set (i := 0) scLRefused.nd rfl (Or.inl rfl) (pe_op op_cat (pv 0) (pr_lst (prs_cons (pr_row pe_str due2) (prs_cons (pr_row pe_str due2) (prs_cons (pr_row pe_str due2) prs_nil))))))
    (pss_cons (ps_set (i := 0) scLRefused.nd rfl (Or.inl rfl) (pe_op op_cat (pv 0) (pr_lst (prs_cons (pr_row pe_str due2) (prs_cons (pr_row pe_str due2) prs_nil)))))
    (pss_cons (ps_set (i := 0) scLRefused.nd rfl (Or.inl rfl) (pe_op op_cat (pv 0) (pr_lst (prs_cons (pr_row pe_str due2) (prs_cons (pr_row pe_str due2) prs_nil)))))
    (pss_cons (ps_set (i := 0) scLRefused.nd rfl (Or.inl rfl) (pe_op op_cat (pv 0) (pr_lst (prs_cons (pr_row pe_str due2) (prs_cons (pr_row pe_str due2) prs_nil)))))
    (pss_cons (ps_set (i := 0) scLRefused.nd rfl (Or.inl rfl) (pe_op op_cat (pv 0) (pr_lst (prs_cons (pr_row pe_str due2) (prs_cons (pr_row pe_str due2) prs_nil)))))
    (pss_cons (ps_set (i := 0) scLRefused.nd rfl (Or.inl rfl) (pe_op op_cat (pv 0) (pr_lst (prs_cons (pr_row pe_str due2) (prs_cons (pr_row pe_str due0) (prs_cons (pr_row pr_mul due0) prs_nil))))))
    (pss_cons (ps_set (i := 0) scLRefused.nd rfl (Or.inl rfl) (pe_op op_cat (pv 0) (pr_lst (prs_cons (pr_row pr_mul due2) (prs_cons (pr_row pe_str due2) prs_nil)))))
    (pss_cons (ps_set (i := 0) scLRefused.nd rfl (Or.inl rfl) (pe_op op_cat (pv 0) (pr_lst (prs_cons (pr_row pe_str due2) (prs_cons (pr_row pe_str due2) prs_nil)))))
    (pss_one (ps_ret (pe_op op_cat (pv 0) (pr_lst (prs_cons (pr_row pe_str due2) (prs_cons (pr_row pe_str due2) prs_nil)))))))))))))))), ?_⟩)
  · obtain ⟨rfl, _⟩ := h
    rfl
  · obtain ⟨rfl, q⟩ := h
    refine fun p0 G0 v0 z0 h0 i0 => ?_
    refine ⟨_, rfl, fun q1 J1 w1 y1 g1 j1 => ⟨_, _, _, _, rfl, rfl, y1.lst h0, g1, ?_, fun p1 n1 => ?_⟩⟩
    · rw [i0.length, j1.length, sizeLine_eq]; decide
    have i1 := pr_app (i0.mono fun _ _ q => RwAt.kp q (y1.new n1 (o := .lst (v0 ++ w1)))) (j1.mono fun _ _ q => RwAt.kp q ((Kp.refl J1).new n1 (o := .lst (v0 ++ w1))))
    have h1 : (upd J1 p1 (.lst (v0 ++ w1))) p1 = some (.lst (v0 ++ w1)) := upd_same
    have z1 := (z0.trans y1).new n1 (o := .lst (v0 ++ w1))
    obtain ⟨v1, ev1⟩ : ∃ x, x = v0 ++ w1 := ⟨_, rfl⟩
    rw [← ev1] at i1 h1 z1 ⊢
    refine ⟨_, rfl, fun q2 J2 w2 y2 g2 j2 => ⟨_, _, _, _, rfl, rfl, y2.lst h1, g2, ?_, fun p2 n2 => ?_⟩⟩
    · rw [i1.length, j2.length, sizeLine_eq]; decide
    have i2 := pr_app (i1.mono fun _ _ q => RwAt.kp q (y2.new n2 (o := .lst (v1 ++ w2)))) (j2.mono fun _ _ q => RwAt.kp q ((Kp.refl J2).new n2 (o := .lst (v1 ++ w2))))
    have h2 : (upd J2 p2 (.lst (v1 ++ w2))) p2 = some (.lst (v1 ++ w2)) := upd_same
    have z2 := (z1.trans y2).new n2 (o := .lst (v1 ++ w2))
    obtain ⟨v2, ev2⟩ : ∃ x, x = v1 ++ w2 := ⟨_, rfl⟩
    rw [← ev2] at i2 h2 z2 ⊢
    refine ⟨_, rfl, fun q3 J3 w3 y3 g3 j3 => ⟨_, _, _, _, rfl, rfl, y3.lst h2, g3, ?_, fun p3 n3 => ?_⟩⟩
    · rw [i2.length, j3.length, sizeLine_eq]; decide
    have i3 := pr_app (i2.mono fun _ _ q => RwAt.kp q (y3.new n3 (o := .lst (v2 ++ w3)))) (j3.mono fun _ _ q => RwAt.kp q ((Kp.refl J3).new n3 (o := .lst (v2 ++ w3))))
    have h3 : (upd J3 p3 (.lst (v2 ++ w3))) p3 = some (.lst (v2 ++ w3)) := upd_same
    have z3 := (z2.trans y3).new n3 (o := .lst (v2 ++ w3))
    obtain ⟨v3, ev3⟩ : ∃ x, x = v2 ++ w3 := ⟨_, rfl⟩
    rw [← ev3] at i3 h3 z3 ⊢
    refine ⟨_, rfl, fun q4 J4 w4 y4 g4 j4 => ⟨_, _, _, _, rfl, rfl, y4.lst h3, g4, ?_, fun p4 n4 => ?_⟩⟩
    · rw [i3.length, j4.length, sizeLine_eq]; decide
    have i4 := pr_app (i3.mono fun _ _ q => RwAt.kp q (y4.new n4 (o := .lst (v3 ++ w4)))) (j4.mono fun _ _ q => RwAt.kp q ((Kp.refl J4).new n4 (o := .lst (v3 ++ w4))))
    have h4 : (upd J4 p4 (.lst (v3 ++ w4))) p4 = some (.lst (v3 ++ w4)) := upd_same
    have z4 := (z3.trans y4).new n4 (o := .lst (v3 ++ w4))
    obtain ⟨v4, ev4⟩ : ∃ x, x = v3 ++ w4 := ⟨_, rfl⟩
    rw [← ev4] at i4 h4 z4 ⊢
    refine ⟨_, rfl, fun q5 J5 w5 y5 g5 j5 => ⟨_, _, _, _, rfl, rfl, y5.lst h4, g5, ?_, fun p5 n5 => ?_⟩⟩
    · rw [i4.length, j5.length, sizeLine_eq]; decide
    have i5 := pr_app (i4.mono fun _ _ q => RwAt.kp q (y5.new n5 (o := .lst (v4 ++ w5)))) (j5.mono fun _ _ q => RwAt.kp q ((Kp.refl J5).new n5 (o := .lst (v4 ++ w5))))
    have h5 : (upd J5 p5 (.lst (v4 ++ w5))) p5 = some (.lst (v4 ++ w5)) := upd_same
    have z5 := (z4.trans y5).new n5 (o := .lst (v4 ++ w5))
    obtain ⟨v5, ev5⟩ : ∃ x, x = v4 ++ w5 := ⟨_, rfl⟩
    rw [← ev5] at i5 h5 z5 ⊢
    refine ⟨_, rfl, fun q6 J6 w6 y6 g6 j6 => ⟨_, _, _, _, rfl, rfl, y6.lst h5, g6, ?_, fun p6 n6 => ?_⟩⟩
    · rw [i5.length, j6.length, sizeLine_eq]; decide
    have i6 := pr_app (i5.mono fun _ _ q => RwAt.kp q (y6.new n6 (o := .lst (v5 ++ w6)))) (j6.mono fun _ _ q => RwAt.kp q ((Kp.refl J6).new n6 (o := .lst (v5 ++ w6))))
    have h6 : (upd J6 p6 (.lst (v5 ++ w6))) p6 = some (.lst (v5 ++ w6)) := upd_same
    have z6 := (z5.trans y6).new n6 (o := .lst (v5 ++ w6))
    obtain ⟨v6, ev6⟩ : ∃ x, x = v5 ++ w6 := ⟨_, rfl⟩
    rw [← ev6] at i6 h6 z6 ⊢
    refine ⟨_, rfl, fun q7 J7 w7 y7 g7 j7 => ⟨_, _, _, _, rfl, rfl, y7.lst h6, g7, ?_, fun p7 n7 => ?_⟩⟩
    · rw [i6.length, j7.length, sizeLine_eq]; decide
    have i7 := pr_app (i6.mono fun _ _ q => RwAt.kp q (y7.new n7 (o := .lst (v6 ++ w7)))) (j7.mono fun _ _ q => RwAt.kp q ((Kp.refl J7).new n7 (o := .lst (v6 ++ w7))))
    have h7 : (upd J7 p7 (.lst (v6 ++ w7))) p7 = some (.lst (v6 ++ w7)) := upd_same
    have z7 := (z6.trans y7).new n7 (o := .lst (v6 ++ w7))
    obtain ⟨v7, ev7⟩ : ∃ x, x = v6 ++ w7 := ⟨_, rfl⟩
    rw [← ev7] at i7 h7 z7 ⊢
    refine ⟨_, rfl, fun q8 J8 w8 y8 g8 j8 => ⟨_, _, _, _, rfl, rfl, y8.lst h7, g8, ?_, fun p8 n8 => ?_⟩⟩
    · rw [i7.length, j8.length, sizeLine_eq]; decide
    have i8 := pr_app (i7.mono fun _ _ q => RwAt.kp q (y8.new n8 (o := .lst (v7 ++ w8)))) (j8.mono fun _ _ q => RwAt.kp q ((Kp.refl J8).new n8 (o := .lst (v7 ++ w8))))
    have h8 : (upd J8 p8 (.lst (v7 ++ w8))) p8 = some (.lst (v7 ++ w8)) := upd_same
    have z8 := (z7.trans y8).new n8 (o := .lst (v7 ++ w8))
    obtain ⟨v8, ev8⟩ : ∃ x, x = v7 ++ w8 := ⟨_, rfl⟩
    rw [← ev8] at i8 h8 z8 ⊢
    refine ⟨_, rfl, fun q9 J9 w9 y9 g9 j9 => ⟨_, _, _, _, rfl, rfl, y9.lst h8, g9, ?_, fun p9 n9 => ?_⟩⟩
    · rw [i8.length, j9.length, sizeLine_eq]; decide
    have i9 := pr_app (i8.mono fun _ _ q => RwAt.kp q (y9.new n9 (o := .lst (v8 ++ w9)))) (j9.mono fun _ _ q => RwAt.kp q ((Kp.refl J9).new n9 (o := .lst (v8 ++ w9))))
    have h9 : (upd J9 p9 (.lst (v8 ++ w9))) p9 = some (.lst (v8 ++ w9)) := upd_same
    have z9 := (z8.trans y9).new n9 (o := .lst (v8 ++ w9))
    exact q _ _ _ z9 h9 i9
end
end NS
end
section
set_option maxHeartbeats 4000000
/-! L16: alike, texts among the values -/
namespace NS
open PySem PySem.Spec PyProof.Rows L2 ZS
def spStrA : Sp := fun vs H Q _ => ∃ z : Str, vs = [.str z, .str z] ∧ ∀ H', Kp H H' → Q (.bl true) H'
/-- two values that are alike -/
def AlkV (K : PySem.W.Frag) (n : Nat) (H : Hp) (u v : V) : Prop := (∃ d : Dt, d.depth ≤ n ∧ d.small ∧ IsDt K H d u ∧ IsDt K H d v) ∨ ∃ z : Str, u = .str z ∧ v = .str z
theorem AlkV.kp {K : PySem.W.Frag} {n : Nat} {H H' : Hp} {u v : V} (z : Kp H H') (h : AlkV K n H u v) : AlkV K n H' u v := h.imp (fun ⟨d, h1, h2, h3, h4⟩ => ⟨d, h1, h2, IsDt.kp z d u h3, IsDt.kp z d v h4⟩) id
def spAlkV (K : PySem.W.Frag) (n : Nat) : Sp := fun vs H Q _ => ∃ u v : V, vs = [u, v] ∧ AlkV K n H u v ∧ ∀ H', Kp H H' → Q (.bl true) H'
def spAlkL (K : PySem.W.Frag) (n : Nat) : Sp := fun vs H Q _ => ∃ (pu pv : Addr) (us ws : List V), vs = [.ref pu, .ref pv] ∧ SqL K H pu us ∧ SqL K H pv ws ∧ ws.length ≤ 1000 ∧ Paired (AlkV K n H) us ws ∧ ∀ H', Kp H H' → Q (.bl true) H'
section
variable {P : Program} {w : World} {K : PySem.W.Frag} {mg : Str → Option Value} {base : Heap} {f : Addr} {fd : FuncData}
theorem ok_alikeStr (F : FnP K "_law_alike" sAlike f fd) (B : Bl mg) : FnOk P w K mg base CX0 1 f fd ["found", "due"] spStrA := by
  refine F.ok scAlike (fun vs H Q E h => ?_) (fun cdv A outer s H vs Q E hr h => ⟨_, PSs.nox (
    pss_cons (ps_if (pt_val (pe_callB call_isiT rfl B.isinstance PyProof.Rows.boot_isinstance (pa_cons (pv 1) (pa_cons (pe_tup (pa_cons (pe_bltn (v := .ty "tuple") rfl B.tuple PyProof.Rows.boot_tuple rfl) (pa_cons (pe_bltn (v := .ty "list") rfl B.list PyProof.Rows.boot_list rfl) pa_nil))) pa_nil)))) pss_never pss_nil)
    (pss_cons (ps_if (PW.pt (pw_or (pt_cmp (pc_isN (pv 1))) (pw_or1 (pt_val (pe_callB call_isi rfl B.isinstance PyProof.Rows.boot_isinstance (pa_cons (pv 1) (pa_cons (pe_bltn (v := .ty "str") rfl B.str PyProof.Rows.boot_str rfl) pa_nil)))))))
      (pss_one (ps_ret (pe_and (pe_cmpR op_eq (pv 0) (pv 1) (nomark _)) (pe_one (pe_cmpR op_eq (pe_callB call_isi rfl B.isinstance PyProof.Rows.boot_isinstance (pa_cons (pv 0) (pa_cons (pe_bltn (v := .ty "str") rfl B.str PyProof.Rows.boot_str rfl) pa_nil))) (pe_callB call_isi rfl B.isinstance PyProof.Rows.boot_isinstance (pa_cons (pv 1) (pa_cons (pe_bltn (v := .ty "str") rfl B.str PyProof.Rows.boot_str rfl) pa_nil))) (nomark _)))))) pss_nil)
    (pss_one ps_never))), ?_⟩)
  · obtain ⟨z, rfl, _⟩ := h
    rfl
  · obtain ⟨z, rfl, q⟩ := h
    have ty : ∀ H, TyX K H (.str z) (.type "str") := fun _ => .base (.str z)
    refine ⟨_, rfl, (by show 2 ≤ sizeLine; decide), fun p hp => ⟨_, p, clsTL, _, _, false, rfl, upd_same, cls_tl, ty _, any_tl "str" false (by decide +kernel) (fun _ => by decide +kernel), _, rfl, ifF (A := _) (B := _) rfl ?_⟩⟩
    refine ⟨_, rfl, _, rfl, ifF (A := _) (B := _) (decide_eq_false fun e => by cases e) ⟨_, rfl, _, _, _, _, true, rfl, .ty "str", ty _, kit_ty (by decide +kernel), _, rfl, ifT (A := _) (B := _) rfl ?_⟩⟩
    refine ⟨_, rfl, _, rfl, rfl, _, rfl, ?_⟩
    rw [decide_eq_true rfl, if_pos rfl]
    refine ⟨_, rfl, _, _, _, _, true, rfl, .ty "str", ty _, kit_ty (by decide +kernel), _, rfl, _, _, _, _, true, rfl, .ty "str", ty _, kit_ty (by decide +kernel), rfl, ?_⟩
    rw [decide_eq_true rfl]
    exact q _ ((Kp.refl H).new hp)
theorem fnok_or {k : Nat} {CX : CXT} {ps : List Str} {sp1 sp2 : Sp} (h1 : FnOk P w K mg base CX k f fd ps sp1) (h2 : FnOk P w K mg base CX k f fd ps sp2) : FnOk P w K mg base CX k f fd ps (fun vs H Q E => sp1 vs H Q E ∨ sp2 vs H Q E) :=
  ⟨fun vs H Q E h => h.elim (h1.len vs H Q E) (h2.len vs H Q E), fun A outer s H args us vs Q E hr he hb hv hs => hs.elim (h1.run A outer s H args us vs Q E hr he hb hv) (h2.run A outer s H args us vs Q E hr he hb hv)⟩
theorem ok_alikeL {n j : Nat} (F : FnP K "_law_alike" sAlike f fd) (B : Bl mg) (hA : Has P w K mg base "_law_alike" j [] (spAlkV K n)) : FnOk P w K mg base CX0 (j + 1) f fd ["found", "due"] (spAlkL K n) := by
  refine F.ok scAlike (fun vs H Q E h => ?_) (fun cdv A outer s H vs Q E hr h => ⟨_, PSs.nox (
    pss_cons (ps_if (pt_val (pe_callB call_isiT rfl B.isinstance PyProof.Rows.boot_isinstance (pa_cons (pv 1) (pa_cons (pe_tup (pa_cons (pe_bltn (v := .ty "tuple") rfl B.tuple PyProof.Rows.boot_tuple rfl) (pa_cons (pe_bltn (v := .ty "list") rfl B.list PyProof.Rows.boot_list rfl) pa_nil))) pa_nil))))
      (pss_cons (ps_if (PW.pt (pw_or (pt_not (pt_val (pe_callB call_isiT rfl B.isinstance PyProof.Rows.boot_isinstance (pa_cons (pv 0) (pa_cons (pe_tup (pa_cons (pe_bltn (v := .ty "tuple") rfl B.tuple PyProof.Rows.boot_tuple rfl) (pa_cons (pe_bltn (v := .ty "list") rfl B.list PyProof.Rows.boot_list rfl) pa_nil))) pa_nil)))))
        (pw_or1 (pt_cmpR op_ne (pe_callB call_isi rfl B.isinstance PyProof.Rows.boot_isinstance (pa_cons (pv 0) (pa_cons (pe_bltn (v := .ty "list") rfl B.list PyProof.Rows.boot_list rfl) pa_nil))) (pe_callB call_isi rfl B.isinstance PyProof.Rows.boot_isinstance (pa_cons (pv 1) (pa_cons (pe_bltn (v := .ty "list") rfl B.list PyProof.Rows.boot_list rfl) pa_nil))) (nomark _))))) pss_never pss_nil)
      (pss_cons (ps_if (pt_cmpR op_ne (pe_callB call_len_seq rfl B.len PySem.boot_len (pa_cons (pv 0) pa_nil)) (pe_callB call_len_seq rfl B.len PySem.boot_len (pa_cons (pv 1) pa_nil)) (nomark _)) pss_never pss_nil)
      (pss_one (ps_ret (pe_cmpR (op_eqNil hr.units) (pe_lc (own := [("k", 2)]) (g := gName 2) (tt := tNot (tB (tCall (spAlkV K n) [] E0 (tCons (tOp (rIx K) (tVar 0) (tVar 2)) (tCons (tOp (rIx K) (tVar 1) (tVar 2)) tNil))))) rfl scAlike.nd (pi_range1 rfl B.range (pa_cons (pe_callB call_len_seq rfl B.len PySem.boot_len (pa_cons (pv 1) pa_nil)) pa_nil)) (blkOk_by (N := ["found", "due", "k"]) (sc := defScope sAlike) (by decide +kernel))
        (fun _ _ _ _ _ => pg_name (i := 2) scAlike.nd rfl (Or.inl rfl)) (fun _ _ _ _ _ => pts_one (pt_not (pt_val (pe_has hA hr (Nat.le_refl _) (pa_cons (pe_ix (r := rIx K) ix_seq (pv 0) (pv 2) (fun _ _ => rfl)) (pa_cons (pe_ix (r := rIx K) ix_seq (pv 1) (pv 2) (fun _ _ => rfl)) pa_nil)))))) (fun _ _ _ _ _ => pv 2)) (pe_lst pa_nil) (nomark _)))))) pss_nil)
    (pss_cons ps_never (pss_one ps_never))), ?_⟩)
  · obtain ⟨pu, pw, us, ws, rfl, _⟩ := h
    rfl
  · obtain ⟨pu, pw, us, ws, rfl, su, sw, l5, pr, q⟩ := h
    have su : SqB K H true pu us := .inl ⟨rfl, su⟩
    have sw : SqB K H true pw ws := .inl ⟨rfl, sw⟩
    have lu := pr.length
    refine ⟨_, rfl, (by show 2 ≤ sizeLine; decide), fun p hp => ?_⟩
    have z1 := (Kp.refl H).new hp (o := .tup clsTL)
    refine ⟨_, p, clsTL, _, _, true, rfl, upd_same, cls_tl, (z1.sqB sw).ty, any_B true, _, rfl, ifT (A := _) (B := _) rfl ?_⟩
    refine ⟨_, rfl, (by show 2 ≤ sizeLine; decide), fun p2 hp2 => ?_⟩
    have z2 := z1.new hp2 (o := .tup clsTL)
    have su2 := z2.sqB su
    have sw2 := z2.sqB sw
    refine ⟨_, p2, clsTL, _, _, true, rfl, upd_same, cls_tl, su2.ty, any_B true, _, rfl, ifF (A := _) (B := _) rfl ?_⟩
    refine ⟨_, rfl, _, _, _, _, true, rfl, .ty "list", su2.ty, one_B true, _, rfl, _, _, _, _, true, rfl, .ty "list", sw2.ty, one_B true, rfl, _, rfl, ifF (A := _) (B := _) (by simp) ?_⟩
    refine ⟨_, rfl, pu, us, rfl, su2.or, _, rfl, pw, ws, rfl, sw2.or, rfl, _, rfl, ifF (A := _) (B := _) (by rw [lu]; simp) ?_⟩
    refine ⟨_, rfl, pw, ws, rfl, sw2.or, (ws.length : Int), rfl, by omega, by omega, fun D hD => ?_⟩
    show ∃ W, _
    refine lcG (J := Itr 0 ws.length) (Wlk.rng 0 ws.length) hD (by rw [sizeLine_eq]; omega) (fun _ => false) (fun _ _ _ => True) (fun _ _ _ _ _ _ => trivial) (fun i x H' Q1 Q0 hi z hx q1 q0 => ?_) (fun ys H' z hD' hpr => ?_)
    · subst hx
      rw [Int.zero_add]
      have hi' : i < us.length := by omega
      obtain ⟨w1, hw1, al⟩ := pr_get pr (List.getElem?_eq_getElem hi')
      refine ⟨rfl, _, rfl, _, rfl, (z.sqB su2).ix (atI_nat (List.getElem?_eq_getElem hi')) ⟨_, rfl, _, rfl, (z.sqB sw2).ix (atI_nat hw1) ⟨_, w1, rfl, al.kp (z2.trans z), fun H5 z5 => ⟨_, rfl, ?_⟩⟩⟩⟩
      exact ifF (A := tVar 2 _ _ Q1) rfl (q0 _ rfl z5)
    · have ey : ys = [] := by
        have := hpr.length
        rw [show (List.range ws.length).filter (fun _ => false) = [] from by simp] at this
        exact List.length_eq_zero_iff.mp this.symm
      subst ey
      refine ⟨Nat.zero_le _, fun e he => ?_⟩
      have ze := z.new he (o := .lst [])
      have nD : D ≠ e := fun w => by rw [w, he] at hD'; cases hD'
      exact ⟨D, e, [], rfl, rfl, SqL.of (by rw [upd_ne nD]; exact hD'), SqL.of upd_same, q _ (z2.trans ze)⟩
theorem has_alikeT (F : FnP K "_law_alike" sAlike f fd) (m : mg "_law_alike" = some (.ref f)) (B : Bl mg) (n : Nat) : Has P w K mg base "_law_alike" (n + 2) [] (spAlkL K n) := by
  have bd : Binds K fd ["found", "due"] [] := F.bindsN (fun _ _ _ _ _ _ us hl => match us, hl with | [_, _], _ => rfl)
  have h1 : FnOk P w K mg base CX0 (n + 1) f fd ["found", "due"] (spAlike K n) := by
    cases n with
    | zero => exact ok_alike0 F B
    | succ n => exact ok_alikeS F B (has_alike F m B n)
  have h2 := fnok_or h1 ((ok_alikeStr F B (P := P) (w := w) (base := base)).mono (by omega))
  refine ⟨f, fd, ["found", "due"], [], m, F.kp, bd, .nil, ok_alikeL F B ⟨f, fd, ["found", "due"], [], m, F.kp, bd, .nil, h2.imp fun vs H Q E ⟨u, v, e, al, q⟩ => ?_⟩⟩
  rcases al with ⟨d, h1, h2, h3, h4⟩ | ⟨z, rfl, rfl⟩
  · exact .inl ⟨u, v, d, e, h1, h2, h3, h4, q⟩
  · exact .inr ⟨z, e, q⟩
end
end NS
end
section
set_option maxHeartbeats 4000000
/-! LW9: law k09 -/
namespace NS
open PySem PySem.Spec PyProof.Rows L2 ZS
abbrev nLaw : List Str := ["script", "row", "halls", "house", "letter", "lines", "one", "hall", "text", "told", "some", "due", "value"]
theorem scLaw : FnScope nLaw ["script"] (defScope sLaw) := ⟨rfl, rfl, rfl, by decide +kernel, rfl, by decide +kernel, by decide +kernel⟩
def spLaw (K : PySem.W.Frag) (pT pA : Addr) : Sp := fun vs H Q _ => ∃ (a : Addr) (ns : List Int), vs = [.ref a] ∧ SqL K H a (ns.map V.int) ∧ GxR.TabG H pT ∧ GxR.TabG H pA ∧ ∀ H', Q (.bl true) H'
/-- the law's lines -/
def spRdNo (K : PySem.W.Frag) (pT C CT : Addr) : Sp := fun vs H Q _ => spReadHouse K pT C CT vs H Q fun _ _ _ => False
theorem house_dt9 {K : PySem.W.Frag} {H : Hp} {n : Nat} {ts : List (List Int)} {v : V} (h : HouseAt K H v n ts) : IsDt K H (houseD (n, ts)) v := by
  obtain ⟨a, tv, rfl, hT, tb, xs, rfl, hs, pr⟩ := h
  refine dt_tup hT (dts_cons (dt_int _) (dts_cons (dt_tup hs ?_) dts_nil))
  clear hT hs
  show IsDts K H (ts.map dT) xs
  induction pr with
  | nil => exact dts_nil
  | cons e _ ih => exact dts_cons (NS.TI.dt e.ti) ih
theorem houseD_dep (n : Nat) (ts : List (List Int)) : Dt.depth (houseD (n, ts)) ≤ 3 := by
  have := dTT_depth ts
  unfold houseD Dt.depth Dt.depths Dt.depths Dt.depths
  have e : Dt.depth (.int (n : Int)) = 0 := by unfold Dt.depth; rfl
  show max (Dt.depth (.int (n : Int))) (max (Dt.depth (dTT ts)) 0) + 1 ≤ 3
  omega
theorem houseD_small {n : Nat} {ts : List (List Int)} (hi : IsH n ts) (n8 : n ≤ 8) : Dt.small (houseD (n, ts)) := by
  have t6 := hi.t6
  have : Dt.small (dTT ts) := dTT_small (by omega) fun t ht => by rw [(hi.is t ht).len]; omega
  unfold houseD Dt.small
  exact ⟨(by show 2 ≤ 10000; decide), smalls_cons (by unfold Dt.small; trivial) (smalls_cons this smalls_nil)⟩
theorem alk_house {K : PySem.W.Frag} {H : Hp} {n : Nat} {ts : List (List Int)} {u v : V} (hi : IsH n ts) (n8 : n ≤ 8) (hu : HouseAt K H u n ts) (hv : HouseAt K H v n ts) : AlkV K 3 H u v := .inl ⟨_, houseD_dep n ts, houseD_small hi n8, house_dt9 hu, house_dt9 hv⟩
theorem joinL_len (k : Nat) : ∀ ls : List Cs, (∀ l ∈ ls, l.length ≤ k) → (TL.joinL [10] ls).length ≤ ls.length * (k + 1)
  | [], _ => Nat.zero_le _
  | [l], h => by
    show l.length ≤ 1 * (k + 1)
    have := h l List.mem_cons_self
    omega
  | l :: m :: r, h => by
    show (l ++ ([10] ++ TL.joinL [10] (m :: r))).length ≤ _
    have h1 := h l List.mem_cons_self
    have h2 := joinL_len k (m :: r) fun x hx => h x (List.mem_cons_of_mem _ hx)
    rw [show (l :: m :: r).length = (m :: r).length + 1 from rfl, Nat.succ_mul, List.length_append, List.length_append]
    generalize (m :: r).length * (k + 1) = z at h2 ⊢
    generalize (TL.joinL [10] (m :: r)).length = y at h2 ⊢
    show l.length + (1 + y) ≤ _
    omega
theorem wr_len {n : Nat} {ts : List (List Int)} (hi : IsH n ts) (n8 : n ≤ 8) : (wr n ts).length ≤ 140 := by
  have t6 := hi.t6
  unfold wr
  refine Nat.le_trans (joinL_len 19 _ fun l hl => ?_) ?_
  · rcases List.mem_cons.mp hl with rfl | hl
    · show cHalls.length + 2 ≤ 19
      decide
    · obtain ⟨t, ht, rfl⟩ := List.mem_map.mp hl
      have tl := (hi.is t ht).len
      unfold wrT
      rw [List.length_append, List.length_cons, List.length_map, show cTurn.length = 4 from rfl]
      omega
  · rw [List.length_cons, List.length_map]
    omega
theorem sum_le (l : List Str) (k : Nat) (h : ∀ x ∈ l, x.length ≤ k) : (l.map (·.length)).sum ≤ l.length * k := by
  induction l with
  | nil => exact Nat.zero_le _
  | cons x l ih =>
    rw [List.map_cons, List.sum_cons, List.length_cons, Nat.succ_mul]
    have := h x List.mem_cons_self
    have := ih fun y hy => h y (List.mem_cons_of_mem _ hy)
    omega
theorem wr_sz {n : Nat} {ts : List (List Int)} (hi : IsH n ts) (n8 : n ≤ 8) : (((wrH n :: ts.map wrT).map SX.S).map (·.length)).sum + ((wrH n :: ts.map wrT).map SX.S).length * (SX.S [10]).length ≤ 16777216 := by
  have t6 := hi.t6
  have b1 : (((wrH n :: ts.map wrT).map SX.S).map (·.length)).sum ≤ 7 * 20 := by
    refine Nat.le_trans (sum_le _ 20 fun x hx => ?_) (Nat.mul_le_mul_right 20 (by simp only [List.length_map, List.length_cons]; omega))
    obtain ⟨w, hw, rfl⟩ := List.mem_map.mp hx
    rw [SX.S_len]
    rcases List.mem_cons.mp hw with rfl | hw
    · show cHalls.length + 2 ≤ 20
      decide
    · obtain ⟨t, ht, rfl⟩ := List.mem_map.mp hw
      have tl := (hi.is t ht).len
      unfold wrT
      rw [List.length_append, List.length_cons, List.length_map, show cTurn.length = 4 from rfl]
      omega
  have b2 : ((wrH n :: ts.map wrT).map SX.S).length ≤ 7 := by simp only [List.length_map, List.length_cons]; omega
  have b3 : (SX.S [10]).length = 1 := rfl
  rw [b3]
  omega
theorem pre_bl : ∀ p ∈ pres, Blank p := by unfold Blank; decide
theorem gap_is : ∀ p ∈ gaps, p = [32] ∨ p = [32, 32, 32] := by decide
theorem end_bl : ∀ p ∈ ends, Blank p := by unfold Blank; decide
theorem end_10 : ∀ p ∈ ends, 10 ∈ p := by decide
theorem post_bl : ∀ p ∈ posts, Blank p := by unfold Blank; decide
theorem rd_loose {n : Nat} {ts : List (List Int)} (hi : IsH n ts) (n8 : n ≤ 8) {pre s1 s2 post : Cs} (h1 : pre ∈ pres) (h2 : s1 ∈ gaps) (h3 : s2 ∈ ends) (h4 : post ∈ posts) : rd (loose pre s1 s2 post (wr n ts)) = .ok ((n : Int), ts) :=
  rd_ok (by rw [ws_loose hi.n1 hi.is (pre_bl _ h1) (gap_is _ h2) (end_bl _ h3) (end_10 _ h3) (post_bl _ h4)]; exact stp_wr hi.n1 n8 hi.t6 hi.is) fun e => by have := hi.t1; rw [e] at this; cases this
theorem rd_wr {n : Nat} {ts : List (List Int)} (hi : IsH n ts) (n8 : n ≤ 8) : rd (wr n ts) = .ok ((n : Int), ts) :=
  rd_ok (by rw [ws_wr hi.n1 hi.is]; exact stp_wr hi.n1 n8 hi.t6 hi.is) fun e => by have := hi.t1; rw [e] at this; cases this
theorem loose_len {n : Nat} {ts : List (List Int)} (hi : IsH n ts) (n8 : n ≤ 8) {pre s1 s2 post : Cs} (h1 : pre ∈ pres) (h2 : s1 ∈ gaps) (h3 : s2 ∈ ends) (h4 : post ∈ posts) : (loose pre s1 s2 post (wr n ts)).length ≤ 4000 := by
  have hl := wr_len hi n8
  have b1 : pre.length ≤ 3 := (by decide : ∀ s ∈ pres, s.length ≤ 3) pre h1
  have b2 : s1.length ≤ 3 := (by decide : ∀ s ∈ gaps, s.length ≤ 3) s1 h2
  have b3 : s2.length ≤ 3 := (by decide : ∀ s ∈ ends, s.length ≤ 3) s2 h3
  have b4 : post.length ≤ 3 := (by decide : ∀ s ∈ posts, s.length ≤ 3) post h4
  have l1 := subC_len 32 s1 (wr n ts)
  have c1 : (wr n ts).length * (s1.length + 1) ≤ 140 * 4 := Nat.mul_le_mul hl (by omega)
  have l2 := subC_len 10 s2 (pre ++ subC 32 s1 (wr n ts))
  have lm : (pre ++ subC 32 s1 (wr n ts)).length ≤ 563 := by rw [List.length_append]; omega
  have c2 : (pre ++ subC 32 s1 (wr n ts)).length * (s2.length + 1) ≤ 563 * 4 := Nat.mul_le_mul lm (by omega)
  unfold loose
  rw [List.length_append]
  omega
theorem refs_at {r : Rw} (h : r ∈ refs) : r.1.cps.toList.length ≤ 4000 ∧ rdIs (rd r.1.cps.toList) r.2 = true := by
  have := List.all_eq_true.mp refs_ok r h
  rw [Bool.and_eq_true] at this
  exact ⟨of_decide_eq_true this.1, this.2⟩
def dueD : Option (Nat × Nat) → PyData
  | none => .str ""
  | some p => .tuple [.int (p.1 : Nat), .int (p.2 : Nat)]
theorem due_dp {K : PySem.W.Frag} {H : Hp} {y : V} {o : Option (Nat × Nat)} (h : DueAt K H y o) : Dp K H y (dueD o) := by
  cases o with
  | none => obtain rfl : y = .str "" := h; exact .str _
  | some p =>
    obtain ⟨b, rfl, s⟩ := h
    exact .tup s (.cons (.int _) (.cons (.int _) .nil))
theorem due_ne {K : PySem.W.Frag} {H : Hp} {x y : V} {o : Option (Nat × Nat)} {Q : VK} (hx : DueAt K H x o) (hy : DueAt K H y o) (q : Q (.bl false) H) : rNeD K x y H Q := by
  refine ⟨_, _, due_dp hx, due_dp hy, ?_, ?_, ?_⟩
  · cases o with
    | none => decide +kernel
    | some p => unfold SeqAt.shaped dueD; simp [PyData.canLay0, PyData.canLayAll0, PyData.depth, PyData.depthAll]
  · cases o with
    | none => decide +kernel
    | some p => unfold SeqAt.shaped dueD; simp [PyData.canLay0, PyData.canLayAll0, PyData.depth, PyData.depthAll]
  · have e : ∀ d, PyData.eqv d d = true → Q (.bl (!PyData.eqv d d)) H := fun d h => by rw [h]; exact q
    refine e _ ?_
    cases o with
    | none => decide +kernel
    | some p => unfold dueD; simp [PyData.eqv, PyData.eqvAll]
/-- all the defs that the law calls -/
structure Defs (P : Program) (w : World) (K : PySem.W.Frag) (mg : Str → Option Value) (base : Heap) (pT pA C CT : Addr) : Prop where
  taken : Has P w K mg base "_law_taken" 1 [] (spTaken K)
  lturn : Has P w K mg base "_law_turn" 2 [] (spLTurn K)
  wrhouse : Has P w K mg base "write_house" 8 [] (spWriteHouse K pT pA)
  rdhouse : HasX P w K mg base "read_house" 6 (spReadHouse K pT C CT)
  loose : Has P w K mg base "_law_loose" 3 [] (spLoose K)
  alike : Has P w K mg base "_law_alike" 5 [] (spAlkL K 3)
  told : Has P w K mg base "_law_told" 7 [] (spTold K pT)
  refused : Has P w K mg base "_law_refused" 1 [] (spRefused K)
section
variable {P : Program} {w : World} {K : PySem.W.Frag} {mg : Str → Option Value} {base : Heap} {f : Addr} {fd : FuncData} {pT pA C CT : Addr}
theorem ok_law (F : FnP K "law" sLaw f fd) (B : Bl mg) (M : Defs P w K mg base pT pA C CT) : FnOk P w K mg base CX0 10 f fd ["script"] (spLaw K pT pA) := by
  have RD : Has P w K mg base "read_house" 6 [] (spRdNo K pT C CT) := M.rdhouse.no
  refine F.ok scLaw (fun vs H Q E h => ?_) (fun cdv A outer s H vs Q E hr h => ⟨_, PSs.nox (
    pss_cons (ps_set (i := 1) scLaw.nd rfl (Or.inr rfl) (pe_lst (pa_cons (pv 0) (pa_cons pe_int (pa_cons pe_int (pa_cons pe_int pa_nil))))))
    (pss_cons (ps_set (i := 2) scLaw.nd rfl (Or.inr rfl) (pe_op op_add pe_int (pe_has M.taken hr (by decide) (pa_cons (pv 1) (pa_cons pe_int pa_nil)))))
    (pss_cons (ps_set (i := 3) scLaw.nd rfl (Or.inl rfl) (pe_tup (pa_cons (pv 2) (pa_cons (pe_callTy cr_tupP rfl B.tuple PyProof.Rows.boot_tuple (pa_cons
      (pe_lc (own := [("letter", 4)]) (g := gName 4) (tt := tYes) (te := tCall (spLTurn K) [] E0 (tCons (tVar 1) (tCons (tVar 2) tNil))) rfl scLaw.nd (pi_range1 rfl B.range (pa_cons (pe_op op_add pe_int (pe_has M.taken hr (by decide) (pa_cons (pv 1) (pa_cons pe_int pa_nil)))) pa_nil)) (blkOk_by (N := nLaw) (sc := defScope sLaw) (by decide +kernel))
        (fun _ _ _ _ _ => pg_name (i := 4) scLaw.nd rfl (Or.inl rfl)) (fun _ _ _ _ _ => pts_nil) (fun _ _ _ _ _ => pe_has M.lturn hr (by decide) (pa_cons (pv 1) (pa_cons (pv 2) pa_nil)))) pa_nil)) pa_nil))))
    (pss_cons (ps_set (i := 5) scLaw.nd rfl (Or.inl rfl) (pe_lst (pa_cons (pe_op op_add_str pe_str (pe_callTy call_str_int rfl B.str PyProof.Rows.boot_str (pa_cons (pv 2) pa_nil))) pa_nil)))
    (pss_cons (ps_for PassesOwn.never rfl (pi_tup (pe_ix (r := rIxT K) ix_tup (pv 3) pe_int (fun _ _ => rfl))) (pg_name (i := 6) scLaw.nd rfl (Or.inl rfl))
      (pss_one (ps_expr (pe_bm PySem.F.plainAttrs_list PySem.F.slot_list_append PySem.F.type_list_append mt_append (pv 5) (pa_cons (pe_op op_add_str pe_str (pe_join pe_str (pe_lc (own := [("hall", 7)]) (g := gName 7) (tt := tYes) (te := tCB rStrI (tCons (tVar 7) tNil)) rfl scLaw.nd (pi_tup (pv 6)) (blkOk_by (N := nLaw) (sc := defScope sLaw) (by decide +kernel)) (fun _ _ _ _ _ => pg_name (i := 7) scLaw.nd rfl (Or.inl rfl)) (fun _ _ _ _ _ => pts_nil) (fun _ _ _ _ _ => pe_callTy call_str_int rfl B.str PyProof.Rows.boot_str (pa_cons (pv 7) pa_nil))))) pa_nil)))))
    (pss_cons (ps_set (i := 8) scLaw.nd rfl (Or.inl rfl) (pe_join pe_str (pv 5)))
    (pss_cons (ps_set (i := 9) scLaw.nd rfl (Or.inl rfl) (pe_lst (pa_cons (pe_has M.wrhouse hr (by decide) (pa_cons (pv 3) pa_nil)) (pa_cons (pe_has RD hr (by decide) (pa_cons (pv 8) pa_nil)) (pa_cons (pe_has RD hr (by decide) (pa_cons (pe_has M.loose hr (by decide) (pa_cons (pv 1) (pa_cons (pv 8) pa_nil))) pa_nil)) pa_nil)))))
    (pss_cons (ps_if (pt_not (pt_val (pe_has M.alike hr (by decide) (pa_cons (pv 9) (pa_cons (pe_lst (pa_cons (pv 8) (pa_cons (pv 3) (pa_cons (pv 3) pa_nil)))) pa_nil))))) pss_never pss_nil)
    (pss_cons (ps_if (pt_cmpR (op_neNil hr.units) (pe_lc (own := [("some", 10), ("due", 11)]) (g := gTup K 2 (gCons (gName 10) (gCons (gName 11) gNil))) (tt := tTest (tOp (rNeD K) (tCall (spTold K pT) [] E0 (tCons (tVar 10) tNil)) (tVar 11))) (te := tC (.int 1)) rfl scLaw.nd (pi_list (pe_has0 M.refused hr (by decide))) (blkOk_by (N := nLaw) (sc := defScope sLaw) (by decide +kernel))
        (fun _ _ _ _ _ => pg_tup rfl (pgs_cons (pg_name (i := 10) scLaw.nd rfl (Or.inl rfl)) (pgs_cons (pg_name (i := 11) scLaw.nd rfl (Or.inl rfl)) pgs_nil))) (fun _ _ _ _ _ => pts_one (pt_cmpR (op_neD hr.units) (pe_has M.told hr (by decide) (pa_cons (pv 10) pa_nil)) (pv 11) (nomark _))) (fun _ _ _ _ _ => pe_int)) (pe_lst pa_nil) (nomark _)) pss_never pss_nil)
    (pss_one (ps_ret (pe_cmpR (op_eqD hr.units) (pe_lc (own := [("value", 12)]) (g := gName 12) (tt := tYes) (te := tCall (spTold K pT) [] E0 (tCons (tVar 12) tNil)) rfl scLaw.nd (pi_list (pe_lst (pa_cons pe_non (pa_cons pe_int (pa_cons (pe_tup (pa_cons (pv 8) pa_nil)) (pa_cons pe_bl (pa_cons pe_dnewK pa_nil))))))) (blkOk_by (N := nLaw) (sc := defScope sLaw) (by decide +kernel))
        (fun _ _ _ _ _ => pg_name (i := 12) scLaw.nd rfl (Or.inl rfl)) (fun _ _ _ _ _ => pts_nil) (fun _ _ _ _ _ => pe_has M.told hr (by decide) (pa_cons (pv 12) pa_nil))) (pe_op op_rep (pe_lst (pa_cons pe_str pa_nil)) pe_int) (nomark _))))))))))))), ?_⟩)
  · obtain ⟨a, ns, rfl, _⟩ := h
    rfl
  · obtain ⟨sa, ns, rfl, hs, gT, gA, q⟩ := h
    refine ⟨_, rfl, ⟨(by show 4 ≤ sizeLine; decide), fun r hr0 => ?_⟩⟩
    have z1 := (Kp.refl H).new hr0 (o := .lst [.ref sa, .int 0, .int 5709, .int 0])
    have ra1 : RowAt (upd H r (.lst [.ref sa, .int 0, .int 5709, .int 0])) r sa := ⟨0, 5709, 0, upd_same, Int.le_refl _⟩
    have dr1 : Draws K (upd H r (.lst [.ref sa, .int 0, .int 5709, .int 0])) r sa := ⟨ra1, ns, z1.sqL hs⟩
    have gT1 := z1.tabG gT
    have gA1 := z1.tabG gA
    generalize upd H r (.lst [.ref sa, .int 0, .int 5709, .int 0]) = H1 at dr1 gT1 gA1 ⊢
    clear z1 ra1 hs gT gA hr0
    refine ⟨_, rfl, r, sa, 8, rfl, dr1, by decide, by decide, fun v2 H2 z2 ra2 w0 w1 => ⟨_, _, rfl, rfl, ?_⟩⟩
    have hd2 := dr1.b z2 ra2
    have gT2 := z2.tabG gT1
    have gA2 := z2.tabG gA1
    clear dr1 gT1 gA1 z2 ra2
    obtain ⟨j, rfl⟩ := Int.eq_ofNat_of_zero_le w0
    have en : (1 : Int) + (j : Int) = ((j + 1 : Nat) : Int) := by omega
    show gName 2 (V.int ((1 : Int) + (j : Int))) _ _ _
    rw [en]
    -- the house
    refine ⟨_, rfl, _, rfl, r, sa, 6, rfl, hd2, by decide, by decide, fun v3 H3 z3 ra3 u0 u1 => ⟨_, _, rfl, rfl, (1 : Int) + v3, rfl, by omega, by omega, fun D hD => ?_⟩⟩
    have hd3 := hd2.b z3 ra3
    have gT3 := z3.tabG gT2
    have gA3 := z3.tabG gA2
    clear hd2 gT2 gA2 z3
    obtain ⟨k, rfl⟩ := Int.eq_ofNat_of_zero_le u0
    have ek : ((1 : Int) + (k : Int)).toNat = k + 1 := by omega
    rw [ek]
    refine lcB ra3 hD (by rw [sizeLine_eq]; omega) (fun i y H' => ∃ t, PT H' y t ∧ IsT (j + 1) t) (fun i y Ha Hb z ⟨t, p, it⟩ => ⟨t, NS.Tup.pt z p, it⟩) (fun i H4 Q1 hi z4 ra4 q1 => ⟨rfl, _, rfl, _, rfl, r, sa, j + 1, rfl, hd3.b z4 ra4, by omega, by omega, fun y H5 t z5 ra5 p5 t5 => q1 y H5 z5 ra5 ⟨t, p5, t5⟩⟩) (fun x H' Q Q' h q => h _ _ q) (fun ys H4 z4 ra4 hD4 hpr => ?_)
    have yl := hpr.length
    rw [List.length_range] at yl
    obtain ⟨ts, hts, tl⟩ : ∃ ts : List (List Int), Paired (PT H4) ys ts ∧ ∀ t ∈ ts, IsT (j + 1) t := by
      clear yl hD4
      generalize List.range (k + 1) = l at hpr
      induction hpr with
      | nil => exact ⟨[], .nil, fun t h => by cases h⟩
      | cons p _ ih =>
        obtain ⟨t, p1, p2⟩ := p
        obtain ⟨ts, h1, h2⟩ := ih
        exact ⟨t :: ts, .cons p1 h1, fun u hu => by
          rcases List.mem_cons.mp hu with e | e
          · rw [e]; exact p2
          · exact h2 u e⟩
    have tsl := hts.length
    refine ⟨D, ys, rfl, SqL.of hD4, fun l o hl ho => ⟨(by show 2 ≤ sizeLine; decide), fun c hc => ?_⟩⟩
    have zl := (Kp.refl H4).new hl (o := .frz o (.tup ys))
    have nlc : l ≠ c := fun e => by rw [← e, upd_same] at hc; cases hc
    have zc := zl.new hc (o := .tup [.int ((j + 1 : Nat) : Int), .ref l])
    have hi : IsH (j + 1) ts := ⟨by omega, by omega, by omega, by omega, tl⟩
    have n8 : j + 1 ≤ 8 := by omega
    have hSl : SqT K (upd (upd H4 l (.frz o (.tup ys))) c (.tup [.int ((j + 1 : Nat) : Int), .ref l])) l ys := .inl (.inr ⟨o, by rw [upd_ne nlc, upd_same]⟩)
    have hPl := pr_pt zc.tup hts
    have hc5 : SqT K (upd (upd H4 l (.frz o (.tup ys))) c (.tup [.int ((j + 1 : Nat) : Int), .ref l])) c [.int ((j + 1 : Nat) : Int), .ref l] := SqT.of upd_same
    have hd5 := (hd3.b z4 ra4).k zc
    have gT5 := zc.tabG (z4.tabG gT3)
    have gA5 := zc.tabG (z4.tabG gA3)
    generalize upd (upd H4 l (.frz o (.tup ys))) c (.tup [.int ((j + 1 : Nat) : Int), .ref l]) = H5 at hSl hPl hc5 hd5 gT5 gA5 ⊢
    generalize j + 1 = n at hi n8 hSl hPl hc5 hd5 gT5 gA5 tl ⊢
    clear zc zl nlc hc hl hD4 z4 ra4 hD hd3 gT3 gA3 ra3 hpr hts w0 w1 en u0 u1 ek
    have n1 := hi.n1
    have hv : HouseAt K H5 (.ref c) n ts := ⟨c, .ref l, rfl, hc5, l, ys, rfl, hSl, hPl⟩
    -- the lines
    have eH : ("halls " : Str) ++ Str.ofString (toString (n : Int)) = SX.S (wrH n) := by
      rw [V.str.inj (dig_str (i := (n : Int)) (by omega) (by omega)), show ("halls " : Str) = SX.S (cHalls ++ [32]) by decide +kernel, SX.S_cat]
      rfl
    refine ⟨_, rfl, (n : Int), rfl, dig_log (by omega) (by omega), _, _, rfl, rfl, ?_, ?_⟩
    · show Str.length "halls " + Str.length (Str.ofString (toString (n : Int))) ≤ sizeLine
      rw [V.str.inj (dig_str (i := (n : Int)) (by omega) (by omega)), show Str.length "halls " = 6 by decide, SX.S_len, sizeLine_eq]
      show 6 + 1 ≤ _
      decide
    show 1 ≤ sizeLine ∧ ∀ p, H5 p = none → gName 5 (V.ref p) _ (upd H5 p (.lst [V.str (("halls " : Str) ++ Str.ofString (toString (n : Int)))])) _
    refine ⟨by decide, fun L hL => ?_⟩
    rw [eH]
    refine ⟨_, rfl, c, _, 1, .ref l, rfl, rfl, ((Kp.refl H5).new hL).sqT hc5, rfl, l, rfl, ⟨_, ((Kp.refl H5).new hL).sqT hSl⟩, ?_⟩
    refine forG (Wlk.tup hSl) (fun i σ H' => ∃ x6, σ = [some (.ref sa), some (.ref r), some (.int (n : Nat)), some (.ref c), none, some (.ref L), x6, none, none, none, none, none, none] ∧ Kp H5 H' ∧ H' L = some (.lst ((wrH n :: (ts.take i).map wrT).map vS)))
      ⟨none, rfl, (Kp.refl H5).new hL, upd_same⟩ (fun i σ H' _ ⟨_, _, z, _⟩ => z) (fun i x σ H6 H7 hi6 hpv z7 hx => ?_) (fun σ H6 hpv => ?_)
    · obtain ⟨x6, rfl, z6, hL6⟩ := hpv
      obtain ⟨t, ht, pt⟩ := pr_get hPl hx
      have it := hi.is t (List.mem_of_getElem? ht)
      have tl2 := it.len
      have z57 := z6.trans z7
      have hL7 := z7.lst hL6
      obtain ⟨a, rfl, hT⟩ := (z57.pt pt).ti
      have i6 : i < ts.length := (List.getElem?_eq_some_iff.mp ht).1
      have t6 := hi.t6
      refine ⟨_, rfl, .inl ⟨rfl, _, SqL.of hL7⟩, ⟨_, rfl⟩, _, rfl, a, rfl, ⟨_, hT⟩, fun D hD => ?_⟩
      refine lcDig hT hD (by omega) (fun k hk H8 Q1 z8 q1 => ⟨rfl, _, rfl, k, rfl, dig_log (by have := it.low k hk; omega) (by have := it.low k hk; omega), ?_⟩) (fun x H2 Q Q' h q => mono_name x _ H2 Q Q' h q) (fun H8 z8 hD8 => ?_)
      · have := it.low k hk
        show Q1 (V.str (Str.ofString (toString k))) H8
        rw [dig_str (by omega) (by omega)]
        exact q1
      · refine ⟨SX.S [], D, t.map fun i => SX.S [dig i], rfl, rfl, .inl (digs_sq hD8), digs_sz (by omega), ?_⟩
        rw [join_digs]
        have e : ("turn " : Str) ++ SX.S (t.map dig) = SX.S (wrT t) := by
          rw [show ("turn " : Str) = SX.S (cTurn ++ [32]) by decide +kernel, SX.S_cat]
          congr 1
        refine ⟨_, _, rfl, rfl, ?_, L, _, _, rfl, rfl, z8.lst hL7, ?_, ?_⟩
        · show Str.length "turn " + (SX.S (t.map dig)).length ≤ sizeLine
          rw [show Str.length "turn " = 5 by decide, SX.S_len, List.length_map, sizeLine_eq]
          omega
        · rw [sizeLine_eq]
          simp only [List.length_map, List.length_cons, List.length_take]
          omega
        · refine ⟨_, rfl, (z57.trans z8).put hL, ?_⟩
          show upd H8 L (.lst ((wrH n :: (ts.take i).map wrT).map vS ++ [V.str (("turn " : Str) ++ SX.S (t.map dig))])) L = _
          rw [upd_same, e, take_succ_of ht, List.map_append, List.map_cons, List.map_cons, List.map_append]
          rfl
    · obtain ⟨x6, rfl, z6, hL6⟩ := hpv
      have yl2 := hPl.length
      rw [yl2, List.take_length] at hL6
      have hv6 := z6.house hv
      have hd6 := hd5.k z6
      have gT6 := z6.tabG gT5
      have gA6 := z6.tabG gA5
      clear hv hd5 gT5 gA5 hc5 hSl hPl hL z6 yl2
      refine ⟨⟨_, rfl⟩, _, rfl, SX.S [10], L, (wrH n :: ts.map wrT).map SX.S, rfl, rfl, .inl (SqL.of (by rw [hL6, List.map_map]; rfl)), wr_sz hi n8, ?_⟩
      rw [SX.join_S]
      show gName 8 (vS (wr n ts)) _ H6 _
      -- told
      refine ⟨_, rfl, .ref c, n, ts, rfl, hv6, hi, gT6, gA6, fun H7 z7 => ?_⟩
      have hv7 := z7.house hv6
      have hd7 := hd6.k z7
      have gT7 := z7.tabG gT6
      clear hv6 hd6 gT6 gA6 z7 hL6
      have wl := wr_len hi n8
      have bad : ∀ k j, rd (wr n ts) ≠ .error (k, j) := fun k j e => by rw [rd_wr hi n8] at e; cases e
      refine ⟨_, rfl, vS (wr n ts), rfl, .inr ⟨wr n ts, rfl, by omega, gT7, fun k j e => absurd e (bad k j), fun n' ts' e1 q1 p1 vs1 H8 z8 hq1 hp1 pr1 => ?_⟩⟩
      obtain ⟨rfl, rfl⟩ : (n : Int) = n' ∧ ts = ts' := by
        rw [rd_wr hi n8] at e1
        cases e1
        exact ⟨rfl, rfl⟩
      have hw8 : HouseAt K H8 (.ref q1) n ts := ⟨q1, .ref p1, rfl, hq1, p1, vs1, rfl, hp1, pr1⟩
      have hv8 := z8.house hv7
      have hd8 := hd7.k z8
      have gT8 := z8.tabG gT7
      clear hv7 hd7 gT7 z8 hq1 hp1 pr1
      refine ⟨_, rfl, _, rfl, r, sa, wr n ts, rfl, hd8, by omega, fun pre hpre s1 hs1 s2 hs2 post hpost H9 z9 ra9 => ?_⟩
      have hw9 := NS.Tup.house z9.tup hw8
      have hv9 := NS.Tup.house z9.tup hv8
      have gT9 := z9.tabG gT8
      clear hw8 hv8 gT8 hd8 z9
      have bad2 : ∀ k j, rd (loose pre s1 s2 post (wr n ts)) ≠ .error (k, j) := fun k j e => by rw [rd_loose hi n8 hpre hs1 hs2 hpost] at e; cases e
      refine ⟨_, rfl, .inr ⟨_, rfl, loose_len hi n8 hpre hs1 hs2 hpost, gT9, fun k j e => absurd e (bad2 k j), fun n' ts' e1 q2 p2 vs2 H10 z10 hq2 hp2 pr2 => ?_⟩⟩
      obtain ⟨rfl, rfl⟩ : (n : Int) = n' ∧ ts = ts' := by
        rw [rd_loose hi n8 hpre hs1 hs2 hpost] at e1
        cases e1
        exact ⟨rfl, rfl⟩
      have hx10 : HouseAt K H10 (.ref q2) n ts := ⟨q2, .ref p2, rfl, hq2, p2, vs2, rfl, hp2, pr2⟩
      have hw10 := z10.house hw9
      have hv10 := z10.house hv9
      have gT10 := z10.tabG gT9
      clear hw9 hv9 gT9 z10 hq2 hp2 pr2 ra9
      refine ⟨(by show 3 ≤ sizeLine; decide), fun p3 hp3 => ?_⟩
      have z11 := (Kp.refl H10).new hp3 (o := .lst [vS (wr n ts), .ref q1, .ref q2])
      have h11 : upd H10 p3 (.lst [vS (wr n ts), .ref q1, .ref q2]) p3 = some (.lst [vS (wr n ts), .ref q1, .ref q2]) := upd_same
      refine ⟨_, rfl, _, rfl, _, rfl, _, rfl, (by show 3 ≤ sizeLine; decide), fun p4 hp4 => ?_⟩
      have z12 := z11.new hp4 (o := .lst [vS (wr n ts), .ref c, .ref c])
      have z112 := (Kp.refl (upd H10 p3 (.lst [vS (wr n ts), .ref q1, .ref q2]))).new hp4 (o := .lst [vS (wr n ts), .ref c, .ref c])
      refine ⟨p3, p4, _, _, rfl, SqL.of (z112.lst h11), SqL.of upd_same, (by show 3 ≤ 1000; decide), .cons (.inr ⟨_, rfl, rfl⟩) (.cons (alk_house hi n8 (z12.house hw10) (z12.house hv10)) (.cons (alk_house hi n8 (z12.house hx10) (z12.house hv10)) .nil)), fun H13 z13 => ⟨_, rfl, ifF (A := _) (B := _) rfl ?_⟩⟩
      have gT13 := (z12.trans z13).tabG gT10
      clear hw10 hv10 hx10 gT10 z13 z12 z112 z11 h11 hp3 hp4 bad bad2
      -- refused
      refine ⟨rfl, fun q9 H14 us z14 hq pr => ⟨q9, rfl, ⟨_, SqL.of hq⟩, fun D hD => ?_⟩⟩
      have gT14 := z14.tabG gT13
      have ul := pr.length
      have rl : refs.length ≤ 30 := by decide
      refine lcG (Wlk.lst (SqL.of hq)) hD (by rw [sizeLine_eq]; omega) (fun _ => false) (fun _ _ _ => True) (fun _ _ _ _ _ _ => trivial) (fun i x H15 Q1 Q0 hi9 z15 hx q1 q0 => ?_) (fun ys H15 z15 hD15 hpr => ?_)
      · obtain ⟨rw9, hr9, a9, y9, rfl, ha9, hy9⟩ := pr_get pr hx
        obtain ⟨l9, ok9⟩ := refs_at (List.mem_of_getElem? hr9)
        refine ⟨a9, _, rfl, z15.sqT ha9, rfl, _, _, rfl, _, _, rfl, rfl, rfl, ?_⟩
        refine ⟨_, rfl, _, rfl, z15.tabG gT14, .inr ⟨rw9.1.cps.toList, S_of _, l9, fun k j e q5 H16 z16 hq5 => ?_, fun rr e H16 z16 => ?_⟩⟩
        · obtain ⟨w1, o1⟩ := rw9
          rw [e] at ok9
          cases o1 with
          | none => cases ok9
          | some pp =>
            obtain rfl : (k, j) = pp := beq_iff_eq.mp ok9
            exact ⟨_, rfl, due_ne (o := some (k, j)) ⟨q5, rfl, hq5⟩ (hy9.kp (z15.trans z16)) ⟨_, rfl, q0 _ rfl z16⟩⟩
        · obtain ⟨w1, o1⟩ := rw9
          rw [e] at ok9
          cases o1 with
          | some pp => cases ok9
          | none => exact ⟨_, rfl, due_ne (o := none) rfl (hy9.kp (z15.trans z16)) ⟨_, rfl, q0 _ rfl z16⟩⟩
      · have ey : ys = [] := by
          rw [List.filter_eq_nil_iff.mpr (fun _ _ e => by cases e)] at hpr
          cases hpr
          rfl
        subst ey
        have gT15 := z15.tabG gT14
        refine ⟨(by show 0 ≤ sizeLine; decide), fun p5 hp5 => ⟨D, p5, [], rfl, rfl, SqL.of ?_, SqL.of upd_same, ?_⟩⟩
        · rw [upd_ne fun e => by rw [← e, hD15] at hp5; cases hp5]
          exact hD15
        have gT16 := ((Kp.refl H15).new hp5 (o := .lst [])).tabG gT15
        generalize upd H15 p5 (.lst []) = H16 at gT16 ⊢
        refine ⟨_, rfl, ifF (A := _) (B := _) rfl ?_⟩
        clear gT15 gT14 hp5 hD15 z15 hq pr ul hD gT13 z14
        -- odd values
        refine ⟨_, rfl, (by show 1 ≤ sizeLine; decide), fun p6 hp6 p7 hp7 => ⟨(by show 5 ≤ sizeLine; decide), fun p8 hp8 => ⟨p8, rfl, ⟨_, SqL.of upd_same⟩, fun D hD => ?_⟩⟩⟩
        have h6 : SqT K (upd (upd (upd H16 p6 (.tup [vS (wr n ts)])) p7 (.dK [])) p8 (.lst [.non, .int 5, .ref p6, .bl true, .ref p7])) p6 [vS (wr n ts)] := (((Kp.refl _).new hp7 (o := .dK [])).new hp8 (o := .lst [.non, .int 5, .ref p6, .bl true, .ref p7])).sqT (SqT.of upd_same)
        have h7 : (upd (upd (upd H16 p6 (.tup [vS (wr n ts)])) p7 (.dK [])) p8 (.lst [.non, .int 5, .ref p6, .bl true, .ref p7])) p7 = some (.dK []) := ((Kp.refl _).new hp8 (o := .lst [.non, .int 5, .ref p6, .bl true, .ref p7])).k _ _ upd_same (fun _ e => by cases e)
        have gT17 := (((Kp.refl H16).new hp6 (o := .tup [vS (wr n ts)])).new hp7 (o := .dK [])).new hp8 (o := .lst [.non, .int 5, .ref p6, .bl true, .ref p7]) |>.tabG gT16
        have h8 : (upd (upd (upd H16 p6 (.tup [vS (wr n ts)])) p7 (.dK [])) p8 (.lst [.non, .int 5, .ref p6, .bl true, .ref p7])) p8 = some (.lst [.non, .int 5, .ref p6, .bl true, .ref p7]) := upd_same
        show ∃ W : Nat → Nat → Hp → Prop, (∃ m, W 0 m (upd (upd (upd (upd H16 p6 (.tup [vS (wr n ts)])) p7 (.dK [])) p8 (.lst [.non, .int 5, .ref p6, .bl true, .ref p7])) D (.lst []))) ∧ _
        generalize (upd (upd (upd H16 p6 (.tup [vS (wr n ts)])) p7 (.dK [])) p8 (.lst [.non, .int 5, .ref p6, .bl true, .ref p7])) = H17 at h6 h7 h8 gT17 hD ⊢
        have nt : ∀ x ∈ [V.non, .int 5, .ref p6, .bl true, .ref p7], NotTy K H17 x "str" := fun x hx => by
          simp only [List.mem_cons, List.not_mem_nil, or_false] at hx
          rcases hx with rfl | rfl | rfl | rfl | rfl
          · exact ⟨"NoneType", fun _ _ => .base .non, by decide +kernel⟩
          · exact ⟨"int", fun _ _ => .base (.int _), by decide +kernel⟩
          · exact ⟨"tuple", fun H' z => tyx_T (z.sqT h6), by decide +kernel⟩
          · exact ⟨"bool", fun _ _ => .base (.bl _), by decide +kernel⟩
          · exact ⟨"dict", fun H' z => .base (.dK (z.k _ _ h7 (fun _ e => by cases e))), by decide +kernel⟩
        refine lcF (Wlk.lst (SqL.of h8)) hD (by rw [sizeLine_eq]; show 5 < 16777216; decide) (fun i y _ => y = .str "text") (fun _ _ _ _ _ h => h) (fun i x H18 Q1 hi9 z18 hx q1 => ?_) (fun x H2 Q Q' h q => mono_name x _ H2 Q Q' h q) (fun ys H18 z18 hD18 hpr => ?_)
        · exact ⟨rfl, _, rfl, x, rfl, z18.tabG gT17, .inl ⟨(nt x (List.mem_of_getElem? hx)).kp z18, q1 _ _ (Kp.refl _) rfl⟩⟩
        · obtain rfl : ys = [.str "text", .str "text", .str "text", .str "text", .str "text"] := paired_map (f := fun _ => V.str "text") (fun _ _ e => e) hpr
          refine ⟨(by show 1 ≤ sizeLine; decide), fun p9 hp9 => ⟨p9, 5, _, rfl, rfl, upd_same, by decide, by decide, (by show 1 * 5 ≤ sizeLine; decide), fun p10 hp10 => ?_⟩⟩
          have dp : ∀ (Hx : Hp) (px : Addr), Hx px = some (.lst [.str "text", .str "text", .str "text", .str "text", .str "text"]) → Dp K Hx (.ref px) (.list [.str "text", .str "text", .str "text", .str "text", .str "text"]) := fun Hx px hx => .lst (SqL.of hx) (.cons (.str _) (.cons (.str _) (.cons (.str _) (.cons (.str _) (.cons (.str _) .nil)))))
          refine ⟨_, _, dp _ _ ((((Kp.refl H18).new hp9).new hp10).lst hD18), dp _ _ upd_same, by decide +kernel, by decide +kernel, ?_⟩
          exact q _
end
end NS
end
section
set_option maxHeartbeats 4000000
/-! N2: singles -/
namespace NS
open PySem PySem.Spec PyProof.Rows L2 ZS
section
variable {P : Program} {w : World} {K : PySem.W.Frag} {mg : Str → Option Value} {base : Heap} {f : Addr} {fd : FuncData} {pT pA C : Addr}
end
end NS
end
section
set_option maxHeartbeats 4000000
/-! X2: a dict of the module with whole numbers for keys, told by the head -/
namespace NS
open PySem PySem.Spec PyProof.Rows L2 ZS
section
variable {X : Cx}
end
end NS
end
section
set_option maxHeartbeats 4000000
/-! N9: sharps, of houses as they are -/
namespace NS
open PySem PySem.Spec PyProof.Rows L2 ZS
section
variable {P : Program} {w : World} {K : PySem.W.Frag} {mg : Str → Option Value} {base : Heap} {f : Addr} {fd : FuncData} {pT pA C : Addr}
end
end NS
end
section
set_option maxHeartbeats 4000000
/-! R3: reached where it stops at most -/
namespace NS
open PySem PySem.Spec PyProof.Rows L2 ZS
/-- ahead of each turn of the for -/
def FRL (lm : Nat) {K : PySem.W.Frag} {P : Program} {w : World} {α : Type} (R : Rep K P w α) (step : α → List Int → α) (ts : List (List Int)) (a0 : α) (U : List α) (H : Hp) (start : V) (tb fl : Addr) (most : V) (sa wa : Addr) (v : V) (a : α) (m : Nat) (i : Nat) (σ : L2.St) (H' : Hp) : Prop :=
  ∃ (L : List α) (ws : List V) (as : List α) (y z : Option V), σ = [some start, some (.ref tb), some (.ref fl), some most, some (.ref sa), some (.ref wa), some v, y, z] ∧ Kp H H' ∧ R.El H' v a ∧ a ∈ L ∧ R.St H' sa L ∧ H' wa = some (.lst ws) ∧ Paired (R.El H') ws as ∧
    (∀ a ∈ as, a ∈ L) ∧ (∀ a ∈ L, Rch step ts a0 a) ∧ a0 ∈ L ∧ (∀ b ∈ L, b ∉ as → b ≠ a → ∀ t ∈ ts, step b t ∈ L) ∧ (∀ j, j < i → ∀ t, ts[j]? = some t → step a t ∈ L) ∧ 2 * (U.length - L.length) + as.length < m ∧ L.length ≤ lm + i ∧ as.length + 1 ≤ L.length
theorem FRL.kp {lm : Nat} {K : PySem.W.Frag} {P : Program} {w : World} {α : Type} {R : Rep K P w α} {step : α → List Int → α} {ts : List (List Int)} {a0 : α} {U : List α} {H : Hp} {start : V} {tb fl : Addr} {most : V} {sa wa : Addr} {v : V} {a : α} {m i : Nat} {σ : L2.St} {H' : Hp} (h : FRL lm R step ts a0 U H start tb fl most sa wa v a m i σ H') : Kp H H' := by
  obtain ⟨L, ws, as, y, z, _, zk, _⟩ := h
  exact zk
section
variable {P : Program} {w : World} {K : PySem.W.Frag} {mg : Str → Option Value} {base : Heap} {f : Addr} {fd : FuncData}
end
end NS
end
section
set_option maxHeartbeats 4000000
/-! X3: a dict of the module with whole numbers for keys and turns for values, told by the head -/
namespace NS
open PySem PySem.Spec PyProof.Rows L2 ZS
section
variable {X : Cx}
end
end NS
end
section
set_option maxHeartbeats 4000000
/-! N12: sharps, of any value -/
namespace NS
open PySem PySem.Spec PyProof.Rows L2 ZS
section
variable {P : Program} {w : World} {K : PySem.W.Frag} {mg : Str → Option Value} {base : Heap} {f : Addr} {fd : FuncData} {pT pA C : Addr} {S : Addr → Option Sp}
theorem fault_house (h : Has P w K mg base "house_fault" 6 [] (spFaultX K pT pA)) : Has P w K mg base "house_fault" 6 [] (spHouse K pT pA) :=
  h.imp fun vs H Q E ⟨v, n, ts, e, hv, hi, gT, gA, q⟩ => ⟨v, .non, e, faultX_house hv hi, gT, gA, q⟩
end
end NS
end
section
set_option maxHeartbeats 4000000
/-! N14: seats -/
namespace NS
open PySem PySem.Spec PyProof.Rows L2 ZS
abbrev seatF (tv rw wv : V) : List (Str × V) := [("_turns", tv), ("_row", rw), ("_where", wv)]
section
variable {P : Program} {w : World} {K : PySem.W.Frag} {mg : Str → Option Value} {base : Heap} {f : Addr} {fd : FuncData} {pT pA C CB : Addr}
end
/-- seats of n halls with these turns: the line done, the hall of each -/
structure SeatsAt (K : PySem.W.Frag) (H : Hp) (a C rw : Addr) (n : Nat) (ts : List (List Int)) (line t : List Int) : Prop where
  ex : ∃ dx tv wv, H a = some (.ins C dx (seatF tv (.ref rw) wv)) ∧ PTS K H tv ts ∧ PT H wv t
  row : H rw = some (.lst (line.map V.int))
  it : IsT n t
  its : ∀ u ∈ ts, IsT n u
  n8 : n ≤ 8
/-- all but the seats and their row is kept -/
structure KpS (a rw : Addr) (H H' : Hp) : Prop where
  k : ∀ b o, H b = some o → (∀ ps, o ≠ .tbl ps) → b ≠ a → b ≠ rw → H' b = some o
  t : ∀ b ps, H b = some (.tbl ps) → ∃ ps' : Array Value, H' b = some (.tbl ps') ∧ TabUp ps ps'
section
variable {P : Program} {w : World} {K : PySem.W.Frag} {mg : Str → Option Value} {base : Heap} {f : Addr} {fd : FuncData} {C CN : Addr}
end
section
variable {P : Program} {w : World} {K : PySem.W.Frag} {mg : Str → Option Value} {base : Heap} {f : Addr} {fd : FuncData} {C CS : Addr}
end
section
variable {P : Program} {w : World} {K : PySem.W.Frag} {mg : Str → Option Value} {base : Heap} {f : Addr} {fd : FuncData} {C : Addr}
end
end NS
end
section
set_option maxHeartbeats 4000000
/-! M16: rings whose lengths are powers of one prime -/
namespace NS
open PySem PySem.Spec PyProof.Rows L2 ZS
section
variable {n : Nat} {ts W : List (List Int)} {t ls : List Int} {LLp : List (List (List Int))}
end
end NS
end
section
set_option maxHeartbeats 4000000
/-! M15: cores -/
namespace NS
open PySem PySem.Spec PyProof.Rows L2 ZS
section
variable {n : Nat} {ts W : List (List Int)} {LLp : List (List (List Int))}
end
/-! ### == of lists of whole numbers -/
end NS
end
section
set_option maxHeartbeats 4000000
/-! L9: the law's order and powers -/
namespace NS
open PySem PySem.Spec PyProof.Rows L2 ZS
section
variable {P : Program} {w : World} {K : PySem.W.Frag} {mg : Str → Option Value} {base : Heap} {f : Addr} {fd : FuncData}
end
end NS
end
section
set_option maxHeartbeats 4000000
/-! TSetD1: tables from which rows were taken (dummies) -/
namespace ZS
open PySem PySem.Spec PyProof.Rows L2 TS
/-- a table, maybe with dummies, in which each hash's own way leads to its slot over full slots and dummies -/
structure TabD (t : SetTable) (hs : List Int) : Prop where
  up : Ris t.place.toList
  dup : Ris t.dummies.toList
  dj : ∀ j ∈ t.dummies.toList, j ∉ t.place.toList
  len : t.place.size = hs.length
  msk : Msk t.mask
  fill : t.place.size + t.dummies.size ≤ t.mask
  found : ∀ (i : Nat) (h : Int) (j : Nat), hs[i]? = some h → t.place.toList[i]? = some j → ∃ k, way t.mask h k = j ∧ ∀ n, n < k → way t.mask h n ∈ t.place.toList ∨ way t.mask h n ∈ t.dummies.toList
theorem Tab.toD {t : SetTable} {hs : List Int} (T : Tab t hs) (room : hs.length ≤ t.mask) : TabD t hs :=
  ⟨T.up, (by rw [T.nod]; exact List.Pairwise.nil), fun j h => (by rw [T.nod] at h; cases h), T.len, T.msk, (by rw [T.nod, T.len]; exact room), fun i h j h1 h2 => let ⟨k, e, f⟩ := T.found i h j h1 h2; ⟨k, e, fun n hn => .inl (f n hn)⟩⟩
section
variable {t : SetTable} {hs : List Int}
theorem TabD.gap (T : TabD t hs) (h : Int) : ∃ N, N ≤ 10 * (t.place.size + t.dummies.size + 12) ∧ way t.mask h N ∉ t.place.toList ∧ way t.mask h N ∉ t.dummies.toList ∧ ∀ n, n < N → way t.mask h n ∈ t.place.toList ∨ way t.mask h n ∈ t.dummies.toList := by
  have full : (t.place.toList ++ t.dummies.toList).length = t.place.size + t.dummies.size := by rw [List.length_append, Array.length_toList, Array.length_toList]
  obtain ⟨k, hk, free⟩ := way_out T.msk h (t.place.toList ++ t.dummies.toList) (by rw [full]; exact T.fill)
  obtain ⟨N, a, b, c⟩ := st_least (p := fun n => way t.mask h n ∉ t.place.toList ++ t.dummies.toList) k free
  rw [full] at hk
  exact ⟨N, by omega, fun z => b (List.mem_append_left _ z), fun z => b (List.mem_append_right _ z), fun n hn => List.mem_append.mp (Classical.byContradiction fun z => c n hn z)⟩
theorem TabD.ahead (T : TabD t hs) {h : Int} {N i j : Nat} (hN : way t.mask h N ∉ t.place.toList) (hD : way t.mask h N ∉ t.dummies.toList) (hi : hs[i]? = some h) (hj : t.place.toList[i]? = some j) : ∃ n, n < N ∧ way t.mask h n = j := by
  obtain ⟨k, ek, full⟩ := T.found i h j hi hj
  refine ⟨k, Nat.lt_of_not_le fun z => ?_, ek⟩
  rcases Nat.lt_or_eq_of_le z with z | z
  · exact (full N z).elim hN hD
  · rw [z, ek] at hN
    exact hN (List.mem_of_getElem? hj)
theorem toList_eraseAt {α : Type} (xs : Array α) (p : Nat) : (SetTable.eraseAt xs p).toList = xs.toList.take p ++ xs.toList.drop (p + 1) := by
  unfold SetTable.eraseAt
  rw [Array.toList_append]
  simp
  exact List.take_of_length_le (by simp)
theorem erase_list {α : Type} (l : List α) (p : Nat) : l.take p ++ l.drop (p + 1) = l.eraseIdx p := List.eraseIdx_eq_take_drop_succ l p |>.symm
/-- a row taken out -/
theorem TabD.drop (T : TabD t hs) {i j : Nat} (hj : t.place.toList[i]? = some j) : TabD (t.drop i) (hs.eraseIdx i) ∧ (t.drop i).mask = t.mask ∧ (t.drop i).led = t.led ∧ (t.drop i).plain = t.plain ∧ (t.drop i).place.size + (t.drop i).dummies.size = t.place.size + t.dummies.size := by
  have hj2 : t.place[i]? = some j := by rw [← Array.getElem?_toList]; exact hj
  have il : i < t.place.toList.length := (List.getElem?_eq_some_iff.mp hj).1
  have e : t.drop i = { t with place := SetTable.eraseAt t.place i, dummies := SetTable.insertAt t.dummies (SetTable.below t.dummies j) j } := by
    unfold SetTable.drop
    rw [hj2]
  have jin : j ∈ t.place.toList := List.mem_of_getElem? hj
  have hnd : j ∉ t.dummies.toList := fun h => T.dj j h jin
  have ep : (SetTable.eraseAt t.place i).toList = t.place.toList.eraseIdx i := by rw [toList_eraseAt, erase_list]
  have ed := SetTable.toList_insertAt t.dummies (SetTable.below t.dummies j) j
  have hle : SetTable.below t.dummies j ≤ t.dummies.toList.length := by
    obtain ⟨c1, _, _⟩ := below_cut T.dup j
    rw [Array.length_toList]
    exact c1
  have pd := put_perm t.dummies.toList (SetTable.below t.dummies j) j
  rw [← ed] at pd
  have md : ∀ x, x ∈ (SetTable.insertAt t.dummies (SetTable.below t.dummies j) j).toList ↔ x = j ∨ x ∈ t.dummies.toList := fun x => by rw [pd.mem_iff, List.mem_cons]
  have ndp : t.place.toList.Nodup := T.up.imp fun h e => by omega
  have mp : ∀ x, x ∈ t.place.toList.eraseIdx i ↔ x ∈ t.place.toList ∧ x ≠ j := fun x => by
    rw [List.mem_eraseIdx_iff_getElem?]
    constructor
    · rintro ⟨k, hk, e2⟩
      refine ⟨List.mem_of_getElem? e2, fun q => hk ?_⟩
      rw [q] at e2
      rcases Nat.lt_trichotomy k i with c | c | c
      · exact absurd (ris_lt T.up e2 hj c) (Nat.lt_irrefl _)
      · exact c
      · exact absurd (ris_lt T.up hj e2 c) (Nat.lt_irrefl _)
    · rintro ⟨hx, hne⟩
      obtain ⟨k, hk, e2⟩ := List.getElem_of_mem hx
      have e3 : t.place.toList[k]? = some x := by rw [List.getElem?_eq_getElem hk, e2]
      refine ⟨k, fun q => hne ?_, e3⟩
      rw [q, hj] at e3
      exact (Option.some.inj e3).symm
  have un : ∀ x, (x ∈ t.place.toList ∨ x ∈ t.dummies.toList) → x ∈ t.place.toList.eraseIdx i ∨ x ∈ (SetTable.insertAt t.dummies (SetTable.below t.dummies j) j).toList := fun x hx => by
    by_cases q : x = j
    · exact .inr ((md x).mpr (.inl q))
    · rcases hx with h | h
      · exact .inl ((mp x).mpr ⟨h, q⟩)
      · exact .inr ((md x).mpr (.inr h))
  have sz1 : (SetTable.eraseAt t.place i).size = t.place.size - 1 := by
    rw [← Array.length_toList, ep, List.length_eraseIdx_of_lt il, Array.length_toList]
  have sz2 : (SetTable.insertAt t.dummies (SetTable.below t.dummies j) j).size = t.dummies.size + 1 := by
    rw [← Array.length_toList, pd.length_eq, List.length_cons, Array.length_toList]
  have sp : 0 < t.place.size := by rw [Array.length_toList] at il; omega
  have tot : (SetTable.eraseAt t.place i).size + (SetTable.insertAt t.dummies (SetTable.below t.dummies j) j).size = t.place.size + t.dummies.size := by omega
  rw [e]
  refine ⟨⟨?_, ris_insert T.dup fun h => hnd (List.mem_of_getElem? (by rw [Array.getElem?_toList]; exact h)), fun x hx => ?_, ?_, T.msk, ?_, fun i' h j' h1 h2 => ?_⟩, rfl, rfl, rfl, tot⟩
  · show Ris (SetTable.eraseAt t.place i).toList
    rw [ep]
    exact T.up.sublist (List.eraseIdx_sublist ..)
  · show x ∉ (SetTable.eraseAt t.place i).toList
    rw [ep, mp]
    rintro ⟨a, b⟩
    rcases (md x).mp hx with q | q
    · exact b q
    · exact T.dj x q a
  · show (SetTable.eraseAt t.place i).size = _
    have := T.len
    rw [sz1, List.length_eraseIdx_of_lt (by rw [← T.len]; rw [Array.length_toList] at il; exact il), T.len]
  · show (SetTable.eraseAt t.place i).size + (SetTable.insertAt t.dummies (SetTable.below t.dummies j) j).size ≤ t.mask
    rw [tot]
    exact T.fill
  · have h2 : (SetTable.eraseAt t.place i).toList[i']? = some j' := h2
    rw [ep, List.getElem?_eraseIdx] at h2
    rw [List.getElem?_eraseIdx] at h1
    have : ∃ i0 : Nat, hs[i0]? = some h ∧ t.place.toList[i0]? = some j' := by
      by_cases q : i' < i
      · rw [if_pos q] at h1 h2
        exact ⟨i', h1, h2⟩
      · rw [if_neg q] at h1 h2
        exact ⟨i' + 1, h1, h2⟩
    obtain ⟨i0, g1, g2⟩ := this
    obtain ⟨k, ek, f⟩ := T.found i0 h j' g1 g2
    refine ⟨k, ek, fun n hn => ?_⟩
    show _ ∈ (SetTable.eraseAt t.place i).toList ∨ _
    rw [ep]
    exact un _ (f n hn)
end
end ZS
end
section
set_option maxHeartbeats 4000000
/-! TSetD2: finding and discarding in a set from which rows were taken -/
namespace ZS
open PySem PySem.Spec PyProof.Rows L2 TS
structure SetD {P : Program} {w : World} {K : Type} [DecidableEq K] (Z : ZK P w K) (h : Heap) (a : Addr) (L : List (Addr × K)) (es : Array (Int × Value)) (ep : Nat) (t : SetTable) : Prop where
  obj : ∃ o, h.get? a = some o ∧ o.ExactSet ∧ o.data = .set es ep t
  row : es.toList = zrows Z L
  tab : TabD t (L.map fun p => Z.hash p.2)
  dif : (L.map (·.2)).Nodup
  tup : ∀ p ∈ L, Z.is h p.2 p.1
  pln : t.plain = true
  led : w.params.followText "set-order" = true ∨ t.led = true
  sum : t.place.size + t.dummies.size < zBound
section
variable {P : Program} {w : World} {K : Type} [DecidableEq K] {Z : ZK P w K} {A : Around} {E : Value → Shared → Prop} {s : Shared} {a : Addr} {L : List (Addr × K)} {es : Array (Int × Value)} {ep : Nat} {t : SetTable}
theorem SetZ.toD (R : SetZ Z s.heap a L es ep t) : SetD Z s.heap a L es ep t := ⟨R.obj, R.row, R.tab.toD (by have := R.room; rw [List.length_map]; omega), R.dif, R.tup, R.pln, R.led, (by have z := R.tab.len; have f := R.few; rw [List.length_map] at z; rw [R.tab.nod]; show t.place.size + 0 < _; omega)⟩
theorem SetD.size (R : SetD Z s.heap a L es ep t) : es.size = L.length := zrows_len R.row
theorem SetD.few (R : SetD Z s.heap a L es ep t) : L.length < zBound := by
  have z := R.tab.len
  have f := R.sum
  rw [List.length_map] at z
  omega
theorem SetD.fits (R : SetD Z s.heap a L es ep t) : t.fits es.size = true := by
  have h1 := R.tab.len
  have h2 := R.tab.fill
  rw [List.length_map] at h1
  unfold SetTable.fits SetTable.fill
  rw [R.size, ← h1]
  simp [h2]
theorem SetD.entry (R : SetD Z s.heap a L es ep t) {i : Nat} {p : Addr × K} (h : L[i]? = some p) : es[i]? = some (Z.hash p.2, Value.ref p.1) := by
  rw [← Array.getElem?_toList, R.row]
  show (L.map _)[i]? = _
  rw [List.getElem?_map, h]
  rfl
theorem SetD.steady (R : SetD Z s.heap a L es ep t) : ¬ t.gaveWay = true := by
  unfold SetTable.gaveWay
  rw [R.tab.msk.odd]
  decide
end
end ZS
end
section
set_option maxHeartbeats 4000000
/-! TSetD3: a set's copy, its walk, its tidying -/
namespace ZS
open PySem PySem.Spec PyProof.Rows L2 TS
section
variable {P : Program} {w : World} {K : Type} [DecidableEq K] {Z : ZK P w K} {A : Around} {E : Value → Shared → Prop} {s : Shared} {a : Addr} {L : List (Addr × K)} {es : Array (Int × Value)} {ep : Nat} {t : SetTable}
end
end ZS
end
section
set_option maxHeartbeats 4000000
/-! TSetD4: a set's copy -/
namespace ZS
open PySem PySem.Spec PyProof.Rows L2 TS
section
variable {P : Program} {w : World} {K : Type} [DecidableEq K] {Z : ZK P w K} {A : Around} {E : Value → Shared → Prop} {s : Shared} {a : Addr} {L : List (Addr × K)} {es : Array (Int × Value)} {ep : Nat} {t : SetTable}
theorem SetD.empty (Z : ZK P w K) {h : Heap} {r : Addr} (hr : h.get? r = some { cls := .type "set", dict := none, data := .set #[] 0 (.fresh 0 0 (!w.params.followText "set-order")) }) :
    SetD Z h r [] #[] 0 (.fresh 0 0 (!w.params.followText "set-order")) ∧ Tab (.fresh 0 0 (!w.params.followText "set-order")) [] := by
  have T : Tab (.fresh 0 0 (!w.params.followText "set-order")) [] := ⟨List.Pairwise.nil, rfl, rfl, ⟨3, by decide, by decide, rfl⟩, fun z hz => (by cases hz), fun i h j hi => (by simp at hi)⟩
  refine ⟨⟨⟨_, hr, ⟨rfl, rfl, rfl⟩, rfl⟩, rfl, T.toD (Nat.zero_le _), List.nodup_nil, fun p hp => (by cases hp), rfl, ?_, (by show 0 + 0 < 9000; decide)⟩, T⟩
  show _ ∨ (!w.params.followText "set-order") = true
  cases w.params.followText "set-order"
  · exact .inr rfl
  · exact .inl rfl
theorem SetZ.same (R : SetZ Z s.heap a L es ep t) {r : Addr} {h' : Heap} {o : Obj} {es1 : Array (Int × Value)} {ep1 : Nat} {t1 : SetTable} (hne : a ≠ r) (ho : s.heap.get? r = some o) (hd : o.data = .set es1 ep1 t1) (sb : Heap.SameBut r s.heap h') : SetZ Z h' a L es ep t := by
  obtain ⟨oa, hoa, he, hda⟩ := R.obj
  exact ⟨⟨oa, (sb.2 a hne).trans hoa, he, hda⟩, R.row, R.tab, R.dif, fun p hp => zsame (R.tup p hp) ho hd sb, R.pln, R.led, R.room, R.few⟩
end
end ZS
end
section
set_option maxHeartbeats 4000000
/-! TSetD5: the difference of two sets -/
namespace ZS
open PySem PySem.Spec PyProof.Rows L2 TS
theorem erase_map {α β : Type} (f : α → β) (l : List α) (i : Nat) : (l.eraseIdx i).map f = (l.map f).eraseIdx i := by
  rw [List.eraseIdx_eq_take_drop_succ, List.eraseIdx_eq_take_drop_succ, List.map_append, List.map_take, List.map_drop]
section
variable {P : Program} {w : World} {K : Type} [DecidableEq K] {Z : ZK P w K} {A : Around} {E : Value → Shared → Prop} {s : Shared} {a b : Addr} {La Lb L : List (Addr × K)} {esa esb es : Array (Int × Value)} {epa epb ep : Nat} {ta tb t : SetTable}
theorem SetD.type (R : SetD Z s.heap a L es ep t) : s.TypeIs (.ref a) "set" := by
  obtain ⟨o, ho, hex, hd⟩ := R.obj
  exact ⟨o, ho, hex.1⟩
end
end ZS
end
section
set_option maxHeartbeats 4000000
/-! TSetD6: the difference of two sets, as a whole -/
namespace ZS
open PySem PySem.Spec PyProof.Rows L2 TS
section
variable {P : Program} {w : World} {K : Type} [DecidableEq K] {Z : ZK P w K} {A : Around} {E : Value → Shared → Prop} {s : Shared} {a b : Addr} {La Lb L : List (Addr × K)} {esa esb es : Array (Int × Value)} {epa epb ep : Nat} {ta tb t : SetTable}
theorem SetZ.push (R : SetZ Z s.heap a L es ep t) (o : Obj) : SetZ Z (s.heap.push o) a L es ep t := by
  obtain ⟨oa, hoa, he, hda⟩ := R.obj
  exact ⟨⟨oa, Heap.get?_push_of_some _ hoa, he, hda⟩, R.row, R.tab, R.dif, fun p hp => Z.keep (R.tup p hp) fun c oc vs n hc _ => Heap.get?_push_of_some _ hc, R.pln, R.led, R.room, R.few⟩
theorem SetZ.off (R : SetZ Z s.heap a L es ep t) : s.heap.objs.size ≠ a := by
  obtain ⟨o, ho, _⟩ := R.obj
  exact Nat.ne_of_gt (Heap.lt_size ho)
end
end ZS
end
section
set_option maxHeartbeats 4000000
/-! TSetD7: what `a - b` gives as a tracked thing; its length, its sorting -/
namespace ZS
open PySem PySem.Spec PyProof.Rows L2 TS PpSet
/-- a set of which is known no more than its rows -/
structure SetW (P : Program) (w : World) (h : Heap) (a : Addr) (L : List (Addr × NK)) (es : Array (Int × Value)) (ep : Nat) (t : SetTable) : Prop where
  obj : ∃ o, h.get? a = some o ∧ o.ExactSet ∧ o.data = .set es ep t
  row : es.toList = zrows (zk P w) L
  up : Ris t.place.toList
  fits : t.fits es.size = true
  dif : (L.map (·.2)).Nodup
  led : w.params.followText "set-order" = true ∨ t.led = true
theorem SetW.size {P : Program} {w : World} {h : Heap} {a : Addr} {L : List (Addr × NK)} {es : Array (Int × Value)} {ep : Nat} {t : SetTable} (R : SetW P w h a L es ep t) : es.size = L.length := zrows_len R.row
def SetW0 (P : Program) (w : World) (h : Heap) (a : Addr) (L : List (Addr × NK)) : Prop := ∃ es ep t, SetW P w h a L es ep t
def WSet (P : Program) (w : World) (a : Addr) (L : List (Addr × NK)) : HO := .ext fun h => SetW0 P w h a L
theorem SetW0.laid {P : Program} {w : World} {h : Heap} {a : Addr} {L : List (Addr × NK)} (R : SetW0 P w h a L) (H : Hp) : ObjOk P w H h a (WSet P w a L) := by
  have ⟨es, ep, t, R0⟩ := R
  obtain ⟨o, ho, _⟩ := R0.obj
  refine ⟨R, ⟨o, ho⟩, fun h1 h2 p k => ?_⟩
  have ⟨es', ep', t', R'⟩ := (show SetW0 P w h1 a L from p)
  obtain ⟨o', ho', r'⟩ := R'.obj
  exact ⟨es', ep', t', ⟨o', k o' ho', r'⟩, R'.row, R'.up, R'.fits, R'.dif, R'.led⟩
section
variable {X : Cx} {pins : List (Addr × Obj)} {σ : L2.St} {H : Hp} {s : Shared} {a b : Addr} {L : List (Addr × NK)}
end
section
variable {X : Cx}
end
end ZS
end
section
set_option maxHeartbeats 4000000
/-! RSetT: set of a tuple of keys; set of nothing -/
namespace ZS
open PySem PySem.Spec PyProof.Rows L2 PpSet
section
variable {P : Program} {w : World} {A : Around} {E : Value → Shared → Prop} {s : Shared}
end
section
variable {X : Cx} {pins : List (Addr × Obj)} {σ : L2.St} {H : Hp}
end
end ZS
end
section
set_option maxHeartbeats 4000000
/-! N5: covers -/
namespace NS
open PySem PySem.Spec PyProof.Rows L2 ZS
theorem Kp.with {H H' : Hp} (z : Kp H H') {p : Addr} {o : HO} (h : H' p = some o) (n : ∀ ps, o ≠ .tbl ps) : Kp (upd H p o) H' := by
  refine ⟨fun b u e q => ?_, fun b ps e => ?_⟩
  · by_cases c : b = p
    · rw [c, upd_same] at e
      rw [c, h, e]
    · rw [upd_ne c] at e
      exact z.k b u e q
  · by_cases c : b = p
    · rw [c, upd_same] at e
      exact absurd (Option.some.inj e) (n ps)
    · rw [upd_ne c] at e
      exact z.t b ps e
section
variable {P : Program} {w : World} {K : PySem.W.Frag} {mg : Str → Option Value} {base : Heap} {f : Addr} {fd : FuncData} {pT pA C : Addr} {S : Addr → Option Sp}
end
end NS
end
section
set_option maxHeartbeats 4000000
/-! N6: covers, asked of houses -/
namespace NS
open PySem PySem.Spec PyProof.Rows L2 ZS
/-- a value that is no turn of n halls by its kind or its length -/
def OddV (K : PySem.W.Frag) (H : Hp) (n : Nat) (x : V) : Prop := (∃ T : String, (∀ H', Kp H H' → TyX K H' x (.type T)) ∧ kitB T "tuple" = some false) ∨ ∃ a ys, x = .ref a ∧ SqT K H a ys ∧ ys.length ≠ n
section
variable {P : Program} {w : World} {K : PySem.W.Frag} {mg : Str → Option Value} {base : Heap} {f : Addr} {fd : FuncData} {pT pA C : Addr} {S : Addr → Option Sp}
end
end NS
end
section
set_option maxHeartbeats 4000000
/-! N7: covers: counted, shown -/
namespace NS
open PySem PySem.Spec PyProof.Rows L2 ZS
theorem TupEl.kp {K : PySem.W.Frag} {H H' : Hp} (z : Kp H H') {r : V} {R : List (List Int)} (h : TupEl H (ElT K H) r R) : TupEl H' (ElT K H') r R := by
  obtain ⟨p1, o1, v1, e1, h1, d1, pr1⟩ := h
  exact ⟨p1, o1, v1, e1, z.k _ _ h1 (fun _ q => by cases q), d1, pr1.mono fun _ _ q => q.tup z.tup⟩
section
variable {P : Program} {w : World} {K : PySem.W.Frag} {mg : Str → Option Value} {base : Heap} {f : Addr} {fd : FuncData} {pT pA C : Addr} {S : Addr → Option Sp}
end
end NS
end
section
set_option maxHeartbeats 4000000
/-! N8: shows_uncovered -/
namespace NS
open PySem PySem.Spec PyProof.Rows L2 ZS
theorem OddV.kp {K : PySem.W.Frag} {H H' : Hp} (z : Kp H H') {n : Nat} {x : V} (h : OddV K H n x) : OddV K H' n x := by
  rcases h with ⟨T, h, k⟩ | ⟨a, ys, e, h, l⟩
  · exact .inl ⟨T, fun H2 z2 => h H2 (z.trans z2), k⟩
  · exact .inr ⟨a, ys, e, z.sqT h, l⟩
section
variable {P : Program} {w : World} {K : PySem.W.Frag} {mg : Str → Option Value} {base : Heap} {f : Addr} {fd : FuncData}
end
section
variable {P : Program} {w : World} {K : PySem.W.Frag} {mg : Str → Option Value} {base : Heap} {f : Addr} {fd : FuncData} {pT pA C : Addr} {S : Addr → Option Sp}
end
end NS
end
section
set_option maxHeartbeats 4000000
/-! L11: what law k12 wants besides -/
namespace NS
open PySem PySem.Spec PyProof.Rows L2 ZS
section
variable {P : Program} {w : World} {K : PySem.W.Frag} {mg : Str → Option Value} {base : Heap} {f : Addr} {fd : FuncData}
end
theorem TupEl.kpb {K : PySem.W.Frag} {r : Addr} {H H' : Hp} (z : KpB r H H') {x : V} {R : List (List Int)} (h : TupEl H (ElT K H) x R) : TupEl H' (ElT K H') x R := by
  obtain ⟨p1, o1, v1, e1, h1, d1, pr1⟩ := h
  exact ⟨p1, o1, v1, e1, z.k _ _ h1 (fun _ q => by cases q) (fun _ q => by cases q), d1, pr1.mono fun _ _ q => q.tup z.tup⟩
end NS
end
section
set_option maxHeartbeats 4000000
/-! N15: methods that may raise, a class made where it may raise; what the law keeps -/
namespace NS
open PySem PySem.Spec PyProof.Rows L2 ZS
section
variable {X : Cx} {CX : CXT} {k : Nat} {f C : Addr} {fd : FuncData} {ps : List Str} {sp : Sp} {E : L2.St → XK} {x m : Str} {p pos apos : Pos} {e o : Expr} {es : List Expr} {ta : TE} {t : TA}
end
section
variable {P : Program} {w : World} {K : PySem.W.Frag} {mg : Str → Option Value} {base : Heap} {k : Nat} {f : Addr} {fd : FuncData} {ps : List Str} {sp : Sp}
end
section
variable {X : Cx} {k j : Nat} {C : Addr} {m x : Str} {sp : Sp} {W : WX} {p pos apos : Pos} {e o : Expr} {es : List Expr} {ta : TE} {t : TA}
end
/-! ### what the law keeps -/
inductive Trk (n : Nat) (ts : List (List Int)) : List Int → List (List Int) → List Int → Prop
  | nil : Trk n ts [] [idt n] (idt n)
  | snoc {l : List Int} {ms : List (List Int)} {t : List Int} {i : Nat} {u : List Int} : Trk n ts l ms t → ts[i]? = some u → Trk n ts (l ++ [(i : Int)]) (ms ++ [comp t u]) (comp t u)
section
variable {n : Nat} {ts : List (List Int)} {l : List Int} {ms : List (List Int)} {t : List Int}
theorem Trk.len (h : Trk n ts l ms t) : ms.length = l.length + 1 := by
  induction h with
  | nil => rfl
  | snoc _ _ ih => rw [List.length_append, List.length_append, ih]; rfl
theorem Trk.is (h : Trk n ts l ms t) (its : ∀ u ∈ ts, IsT n u) : IsT n t := by
  induction h with
  | nil => exact idt_isT n
  | snoc _ hu ih => exact ih.comp (its _ (List.mem_of_getElem? hu))
theorem Trk.low (h : Trk n ts l ms t) : ∀ x ∈ l, 0 ≤ x ∧ x < (ts.length : Int) := by
  induction h with
  | nil => intro x hx; cases hx
  | @snoc l ms t i u _ hu ih =>
    intro x hx
    rcases List.mem_append.mp hx with hx | hx
    · exact ih x hx
    · have := (List.getElem?_eq_some_iff.mp hu).1
      rw [List.mem_singleton.mp hx]
      omega
theorem Trk.back {i : Nat} {u : List Int} (h : Trk n ts (l ++ [(i : Int)]) ms t) (its : ∀ u ∈ ts, IsT n u) (hu : ts[i]? = some u) : Trk n ts l ms.dropLast (comp t (inv u)) := by
  generalize e : l ++ [(i : Int)] = l' at h
  cases h with
  | nil => exact absurd e (by simp)
  | @snoc l0 ms0 t0 i0 u0 h0 hu0 =>
    obtain ⟨rfl, e2⟩ := List.append_inj' e rfl
    have e3 : (i : Int) = (i0 : Int) := List.head_eq_of_cons_eq e2
    have e4 : i = i0 := by omega
    subst e4
    rw [hu] at hu0
    cases hu0
    rw [List.dropLast_concat, comp_assoc (h0.is its) (its _ (List.mem_of_getElem? hu)), comp_inv (its _ (List.mem_of_getElem? hu)), comp_idt (h0.is its)]
    exact h0
end
section
variable {K : PySem.W.Frag} {H H' : Hp} {a rw C r sa pT pA ma : Addr} {n : Nat} {ts ms : List (List Int)} {line t : List Int} {v lv : V}
theorem SeatsAt.kp (h : SeatsAt K H a C rw n ts line t) (z : Kp H H') : SeatsAt K H' a C rw n ts line t := by
  obtain ⟨⟨dx, tv, wv, ha, hp, pw⟩, hrw, it, its, n8⟩ := h
  exact ⟨⟨dx, tv, wv, z.k _ _ ha (fun _ q => by cases q), z.pts hp, z.pt pw⟩, z.lst hrw, it, its, n8⟩
theorem SeatsAt.kpb (h : SeatsAt K H a C rw n ts line t) (z : KpB r H H') (ne : rw ≠ r) : SeatsAt K H' a C rw n ts line t := by
  obtain ⟨⟨dx, tv, wv, ha, hp, pw⟩, hrw, it, its, n8⟩ := h
  exact ⟨⟨dx, tv, wv, z.k _ _ ha (fun _ q => by cases q) (fun _ q => by cases q), NS.Tup.pts z.tup hp, NS.Tup.pt z.tup pw⟩, z.lst hrw ne, it, its, n8⟩
/-- the row of draws, the house, the seats, the law's own line and list -/
structure St8 (K : PySem.W.Frag) (H : Hp) (r sa : Addr) (v : V) (n : Nat) (ts : List (List Int)) (pT pA a C rw ma : Addr) (lv : V) (line : List Int) (ms : List (List Int)) (t : List Int) : Prop where
  sta : Sta K H r sa v n ts pT pA
  se : SeatsAt K H a C rw n ts line t
  hlv : TI K H lv line
  hma : ∃ us, H ma = some (.lst us) ∧ Paired (PT H) us ms
  trk : Trk n ts line ms t
  n1 : rw ≠ r
  n2 : sa ≠ rw ∨ ∃ ns : List Int, ∀ H, SqL K H sa (ns.map V.int)
  n3 : ma ≠ rw
  n4 : ma ≠ r
theorem St8.kp (h : St8 K H r sa v n ts pT pA a C rw ma lv line ms t) (z : Kp H H') : St8 K H' r sa v n ts pT pA a C rw ma lv line ms t := by
  obtain ⟨us, h1, h2⟩ := h.hma
  exact ⟨h.sta.kp z, h.se.kp z, z.ti h.hlv, ⟨us, z.lst h1, h2.mono fun _ _ q => z.pt q⟩, h.trk, h.n1, h.n2, h.n3, h.n4⟩
theorem St8.kpb (h : St8 K H r sa v n ts pT pA a C rw ma lv line ms t) (z : KpB r H H') (ra : RowAt H' r sa) : St8 K H' r sa v n ts pT pA a C rw ma lv line ms t := by
  obtain ⟨us, h1, h2⟩ := h.hma
  exact ⟨h.sta.kpb z ra, h.se.kpb z h.n1, z.tup.ti h.hlv, ⟨us, z.lst h1 h.n4, h2.mono fun _ _ q => NS.Tup.pt z.tup q⟩, h.trk, h.n1, h.n2, h.n3, h.n4⟩
theorem KpS.tup (z : KpS a rw H H') (ha : ∃ dx fs, H a = some (.ins C dx fs)) (hr : ∃ xs, H rw = some (.lst xs)) : Tup H H' := by
  obtain ⟨dx, fs, ha⟩ := ha
  obtain ⟨xs, hr⟩ := hr
  exact ⟨fun c ys e => z.k c _ e (fun _ q => by cases q) (fun q => by rw [q, ha] at e; cases e) (fun q => by rw [q, hr] at e; cases e),
    fun c o u e => z.k c _ e (fun _ q => by cases q) (fun q => by rw [q, ha] at e; cases e) (fun q => by rw [q, hr] at e; cases e)⟩
/-- what a step of the seats leaves of the rest -/
theorem St8.step (h : St8 K H r sa v n ts pT pA a C rw ma lv line ms t) (z : KpS a rw H H') : Sta K H' r sa v n ts pT pA ∧ TI K H' lv line ∧ ∃ us, H' ma = some (.lst us) ∧ Paired (PT H') us ms := by
  obtain ⟨us, h1, h2⟩ := h.hma
  obtain ⟨⟨dx, tv, wv, ha, _, _⟩, hrw, _⟩ := h.se
  have tz := z.tup ⟨_, _, ha⟩ ⟨_, hrw⟩
  have tab : ∀ {P : Addr}, GxR.TabG H P → GxR.TabG H' P := fun {P} g => by
    obtain ⟨ps, hP, hT⟩ := g
    obtain ⟨ps', h', u⟩ := z.t P ps hP
    exact ⟨ps', h', u.1 hT⟩
  have lst : ∀ {b : Addr} {xs : List V}, H b = some (.lst xs) → b ≠ rw → H' b = some (.lst xs) := fun {b xs} e ne => z.k b _ e (fun _ q => by cases q) (fun q => by rw [q, ha] at e; cases e) ne
  obtain ⟨⟨⟨i, sd, rest, hrow, hrest⟩, ns, hns⟩, hv, gT, gA⟩ := h.sta
  have dr : ∃ ns : List Int, SqL K H' sa (ns.map V.int) := by
    rcases h.n2 with ne | ⟨ns, e⟩
    · refine ⟨ns, ?_⟩
      rcases hns with (e | ⟨o, e⟩) | e
      · exact .inl (.inl (lst e ne))
      · exact .inl (.inr ⟨o, z.k _ _ e (fun _ q => by cases q) (fun q => by rw [q, ha] at e; cases e) (fun q => by rw [q, hrw] at e; cases e)⟩)
      · exact .inr e
    · exact ⟨ns, e H'⟩
  exact ⟨⟨⟨⟨i, sd, rest, lst hrow h.n1.symm, hrest⟩, dr⟩, NS.Tup.house tz hv, tab gT, tab gA⟩, tz.ti h.hlv, us, lst h1 h.n3, h2.mono fun _ _ q => NS.Tup.pt tz q⟩
end
end NS
end
section
set_option maxHeartbeats 4000000
/-! X4: what the head tells, properties' getters among it -/
namespace NS
open PySem PySem.Spec PyProof.Rows L2 ZS
section
variable {P : Program} {w : World} {K : PySem.W.Frag} {mg : Str → Option Value} {base : Heap} {pT pA C CB CN CS f1 f2 f3 f4 f5 p5 f6 p6 : Addr} {fd1 fd2 fd3 fd4 fd5 fd6 : FuncData}
end
end NS
end
section
set_option maxHeartbeats 4000000
/-! X6: what the head tells, the model's statics and tables with text keys among it -/
namespace NS
open PySem PySem.Spec PyProof.Rows L2 ZS
theorem says_tab {fa : List He.Fa} {fn : List He.DefD} {ts : List He.Tab} {w : World} {K : PySem.W.Frag} (c : He.SaysT fa fn ts w K) (i : Nat) {t : He.Tab} (h : ts[i]? = some t) : He.dicW K (t.1 K) = some (He.keysIn w.params t.2) := by
  have e : ts.map (fun t => He.dicW K (t.1 K)) = ts.map fun t => some (He.keysIn w.params t.2) := congrArg Prod.snd c
  have e2 := congrArg (fun l => l[i]?) e
  simp only [List.getElem?_map, h, Option.map_some] at e2
  exact Option.some.inj e2
theorem shareB_ok {K : PySem.W.Frag} (h : shareB K = true) : NoShare K := He.eqO_ok h
end NS
end
section
set_option maxHeartbeats 4000000
/-! HE: all the defs from the head's facts -/
namespace NS
open PySem PySem.Spec PyProof.Rows L2 ZS
section
variable {P : Program} {w : World} {K : PySem.W.Frag} {mg : Str → Option Value} {h base : Heap} {x : Str} {st : Stmt} {f : Addr} {fd : FuncData}
theorem code_ref (F : FnP K x st (He.ga K x) fd) : fd.code = .ref (He.codeOf K (x, none)) := by
  obtain ⟨oc, od, dV, kV, doc, pm, an, cdv, ct, osl, rfl, lk, hcd, _, _⟩ := F.ex
  obtain ⟨c, rfl⟩ := He.codeIn_ref hcd
  have e := He.codeOf_eq (p := (x, none)) (c := c) lk rfl
  rw [e]
theorem fnAt (c : He.SaysD fa fn K) (i : Nat) (e : fn[i]? = some (dd x st [])) : ∃ fd, FnP K x st (He.ga K x) fd := c.def_ i e
theorem tabG0 {H : Hp} {p : Addr} (e : H p = some (.tbl #[])) : GxR.TabG H p := ⟨#[], e, trivial⟩
theorem bl_of (X : K.In h) (G : h.Ns mainGlobals mg) (c : He.SaysD fa fn K) : Bl mg :=
  ⟨He.free_ok X G (c.fact 22 (f := .free "tuple") rfl), He.free_ok X G (c.fact 23 (f := .free "list") rfl), He.free_ok X G (c.fact 24 (f := .free "len") rfl), He.free_ok X G (c.fact 25 (f := .free "range") rfl), He.free_ok X G (c.fact 26 (f := .free "isinstance") rfl), He.free_ok X G (c.fact 27 (f := .free "set") rfl), He.free_ok X G (c.fact 28 (f := .free "sorted") rfl), He.free_ok X G (c.fact 29 (f := .free "all") rfl), He.free_ok X G (c.fact 30 (f := .free "sum") rfl), He.free_ok X G (c.fact 31 (f := .free "enumerate") rfl), He.free_ok X G (c.fact 32 (f := .free "int") rfl), He.free_ok X G (c.fact 33 (f := .free "bool") rfl), He.free_ok X G (c.fact 34 (f := .free "str") rfl), He.free_ok X G (c.fact 35 (f := .free "any") rfl), He.free_ok X G (c.fact 36 (f := .free "min") rfl)⟩
/-- the only lead that is asked for -/
def S1 (a : Addr) (sp : Sp) : Addr → Option Sp := fun b => if b = a then some sp else none
theorem s1_self {a : Addr} {sp : Sp} : S1 a sp a = some sp := if_pos rfl
theorem s1_held {a : Addr} {sp : Sp} {k : Nat} (h : Held P w K mg base k a sp) : ∀ f sp', S1 a sp f = some sp' → Held P w K mg base k f sp' := fun f sp' e => by
  unfold S1 at e
  split at e
  · rename_i q
    cases e
    rw [q]
    exact h
  · cases e
theorem Held.up {f : Addr} {sp : Sp} {j k : Nat} (hk : j ≤ k) (h : Has P w K mg base x j [] sp) (e : mg x = some (.ref f)) : Held P w K mg base k f sp := by
  obtain ⟨fd, ps, h5, h2, h3⟩ := h.held e
  exact ⟨fd, ps, h5.mono hk, h2, h3⟩
abbrev pTA (K : PySem.W.Frag) : Addr := (He.cT K ("is_turn", none)).2
abbrev pAA (K : PySem.W.Frag) : Addr := (He.cT K ("are_turns", none)).2
theorem law_all (X : K.In h) (G : h.Ns mainGlobals mg) (c : He.SaysD fa fn K) {base : Heap} {fd : FuncData} (FLaw : FnP K "law" sLaw (He.ga K "law") fd) (XB : exB K = true) (cT : He.SaysT fa fn ts w K) (T_is_turn : GxR.TabB base mg (He.codeOf K ("is_turn", none)) (pTA K)) (T_are_turns : GxR.TabB base mg (He.codeOf K ("are_turns", none)) (pAA K)) :
    FnOk P w K mg base CX0 10 (He.ga K "law") fd ["script"] (spLaw K (pTA K) (pAA K)) := by
  have B := bl_of X G c
  have g : ∀ {x : Str} (i : Nat), fa[i]? = some (.glo x) → mg x = some (.ref (He.ga K x)) := fun i e => He.glo_ok X G (c.fact i e)
  obtain ⟨t_MOST_HALLS, m_MOST_HALLS⟩ := He.int_ok X G (c.fact 37 (f := .int "MOST_HALLS" 8) rfl)
  have mi_MOST_HALLS : ∃ t, mg "MOST_HALLS" = some (.int 8 t) := ⟨_, m_MOST_HALLS⟩
  obtain ⟨t_MOST_TURNS, m_MOST_TURNS⟩ := He.int_ok X G (c.fact 38 (f := .int "MOST_TURNS" 6) rfl)
  have mi_MOST_TURNS : ∃ t, mg "MOST_TURNS" = some (.int 6 t) := ⟨_, m_MOST_TURNS⟩
  have e_BadText : ExcC K mg "BadText" (He.ga K "BadText") := by
    obtain ⟨x1, x2, x3, x4⟩ := He.exc_ok (c.fact 40 (f := .exc "BadText") rfl)
    exact ⟨g 39 rfl, x1, x2, x3, x4, of_decide_eq_true (c.fact 41 (f := .exm "BadText" "BadText" true) rfl)⟩
  obtain ⟨XB1, n_Share⟩ := He.ba XB
  obtain ⟨XB2, xf⟩ := He.ba XB1
  obtain ⟨XBD, XBO⟩ := He.ba XB2
  have n_Share := shareB_ok n_Share
  have xf_BadLine := xfB_ok xf
  have m_FIGURES : mg "FIGURES" = some (.ref (He.ga K "FIGURES")) := g 48 rfl
  have d_FIGURES : DicS K w (He.ga K "FIGURES") figs := dicS_of (says_tab cT 0 (t := (fun K => He.ga K "FIGURES", ["0", "1", "2", "3", "4", "5", "6", "7", "8"])) rfl) XBD
  have g_BadLine : mg "BadLine" = some (.ref (He.ga K "BadLine")) := g 42 rfl
  have x_BadLine : PySem.W.exmOne K (.ref (He.ga K "BadLine")) (.ref (He.ga K "BadLine")) = some true := He.exm_ok (c.fact 46 (f := .exm "BadLine" "BadLine" true) rfl)
  have x_TL : PySem.W.exmOne K (.ref (He.ga K "BadText")) (.ref (He.ga K "BadLine")) = some false := He.exm_ok (c.fact 47 (f := .exm "BadText" "BadLine" false) rfl)
  have no_line := He.noat_ok (c.fact 44 (f := .noat "BadLine" "line") rfl)
  have no_word := He.noat_ok (c.fact 45 (f := .noat "BadLine" "word") rfl)
  obtain ⟨_, F⟩ := c.def_ 22 (d := md "BadLine" "__init__" "BadLine.__init__" sLineInit) rfl
  have f_BadLine := errL_of (P := P) (w := w) (mg := mg) (base := base) g_BadLine XBO x_BadLine (He.meth_ok (c.fact 43 (f := .meth "BadLine" "__init__") rfl)) no_line no_word F
  clear F
  obtain ⟨_, F⟩ := fnAt c 0 (x := "is_number") (st := sNumber) rfl
  have h_is_number := has_numX (P := P) (w := w) (mg := mg) (base := base) F (g 0 rfl) B
  clear F
  obtain ⟨_, F⟩ := fnAt c 1 (x := "is_turn") (st := sIsTurn) rfl
  have h_is_turn := has_turnX (P := P) (w := w) (mg := mg) (base := base) F (g 1 rfl) B h_is_number (code_ref F) T_is_turn
  clear F
  obtain ⟨_, F⟩ := fnAt c 2 (x := "are_turns") (st := sAreTurns) rfl
  have h_are_turns := has_turnsX (P := P) (w := w) (mg := mg) (base := base) F (g 2 rfl) B mi_MOST_TURNS h_is_turn (code_ref F) T_are_turns
  clear F
  obtain ⟨_, F⟩ := fnAt c 3 (x := "house_fault") (st := sFault) rfl
  have h_house_fault := has_faultX (P := P) (w := w) (mg := mg) (base := base) F (g 3 rfl) B mi_MOST_HALLS h_is_number h_are_turns
  clear F
  obtain ⟨_, F⟩ := fnAt c 4 (x := "check_house") (st := sCheckHouse) rfl
  have h_check_house := has_checkhouse (P := P) (w := w) (mg := mg) (base := base) F (g 4 rfl) (fault_house h_house_fault)
  clear F
  obtain ⟨_, F⟩ := fnAt c 5 (x := "write_turn") (st := sWriteTurn) rfl
  have h_write_turn := has_wrturn (P := P) (w := w) (mg := mg) (base := base) F (g 5 rfl) B
  clear F
  obtain ⟨_, F⟩ := fnAt c 6 (x := "write_house") (st := sWriteHouse) rfl
  have h_write_house := has_wrhouse (P := P) (w := w) (mg := mg) (base := base) F (g 6 rfl) B h_check_house h_write_turn
  clear F
  obtain ⟨_, F⟩ := fnAt c 7 (x := "words_of") (st := sWordsOf) rfl
  have h_words_of := has_wordsof (P := P) (w := w) (mg := mg) (base := base) F (g 7 rfl)
  clear F
  obtain ⟨_, F⟩ := fnAt c 8 (x := "second_word") (st := sSecond) rfl
  have h_second_word := has_second (P := P) (w := w) (mg := mg) (base := base) F (g 8 rfl) B f_BadLine
  clear F
  obtain ⟨_, F⟩ := fnAt c 9 (x := "check_end") (st := sChkEnd) rfl
  have h_check_end := has_chkend (P := P) (w := w) (mg := mg) (base := base) F (g 9 rfl) B f_BadLine
  clear F
  obtain ⟨_, F⟩ := fnAt c 10 (x := "read_halls") (st := sReadHalls) rfl
  have h_read_halls := has_rdhalls (P := P) (w := w) (mg := mg) (base := base) F (g 10 rfl) mi_MOST_HALLS m_FIGURES d_FIGURES f_BadLine h_is_number h_second_word h_check_end
  clear F
  obtain ⟨_, F⟩ := fnAt c 11 (x := "read_turn") (st := sReadTurn) rfl
  have h_read_turn := has_rdturn (P := P) (w := w) (mg := mg) (base := base) F (g 11 rfl) B m_FIGURES d_FIGURES f_BadLine h_is_turn h_second_word h_check_end
  clear F
  obtain ⟨_, F⟩ := fnAt c 12 (x := "read_lines") (st := sReadLines) rfl
  have h_read_lines := has_rdlines (P := P) (w := w) (mg := mg) (base := base) F (g 12 rfl) B mi_MOST_TURNS f_BadLine h_words_of h_read_halls h_read_turn
  clear F
  obtain ⟨_, F⟩ := fnAt c 13 (x := "read_house") (st := sReadHouse) rfl
  have h_read_house := has_rdhouse (P := P) (w := w) (mg := mg) (base := base) F (g 13 rfl) B e_BadText f_BadLine h_read_lines
  clear F
  obtain ⟨_, F⟩ := fnAt c 14 (x := "_law_taken") (st := sTaken) rfl
  have h__law_taken := has_taken (P := P) (w := w) (mg := mg) (base := base) F (g 14 rfl) B
  clear F
  obtain ⟨_, F⟩ := fnAt c 15 (x := "_law_pick") (st := sPick) rfl
  have h__law_pick := has_pick (P := P) (w := w) (mg := mg) (base := base) F (g 15 rfl) B h__law_taken
  have r__law_pick := pick_raw (P := P) (w := w) (mg := mg) (base := base) F B h__law_taken
  have k__law_pick := F.kp
  clear F
  obtain ⟨_, F⟩ := fnAt c 16 (x := "_law_alike") (st := sAlike) rfl
  have h__law_alike := has_alikeT (P := P) (w := w) (mg := mg) (base := base) F (g 16 rfl) B 3
  clear F
  obtain ⟨_, F⟩ := fnAt c 17 (x := "_law_turn") (st := sLTurn) rfl
  have h__law_turn := has_lturn (P := P) (w := w) (mg := mg) (base := base) F (g 17 rfl) B h__law_taken
  clear F
  obtain ⟨_, F⟩ := fnAt c 18 (x := "_law_loose") (st := sLLoose) rfl
  have h__law_loose := has_lloose (P := P) (w := w) (mg := mg) (base := base) F (g 18 rfl) n_Share r__law_pick (g 15 rfl) k__law_pick
  clear F
  obtain ⟨_, F⟩ := fnAt c 19 (x := "_law_told") (st := sLTold) rfl
  have h__law_told := has_ltold (P := P) (w := w) (mg := mg) (base := base) F (g 19 rfl) h_read_house g_BadLine e_BadText.g x_BadLine x_TL e_BadText.m xf_BadLine no_line no_word
  clear F
  obtain ⟨_, F⟩ := fnAt c 20 (x := "_law_refused") (st := sLRefused) rfl
  have h__law_refused := has_lrefused (P := P) (w := w) (mg := mg) (base := base) F (g 20 rfl)
  clear F
  exact ok_law FLaw B ⟨h__law_taken, h__law_turn, h_write_house, h_read_house, h__law_loose, h__law_alike, h__law_told, h__law_refused⟩
end
end NS
open PySem PySem.W PySem.Calls PyProof.Rows
theorem PySem.Challenge.cw_nobodystays_k09_whole_texts_holds : PySem.Challenge.rw_nobodystays_k09_whole_texts.Holds := by
  w_on; o_law
  refine HandSHeadRun.head_any (r := OpenLaw.row PySem.Challenge.rw_nobodystays_k09_whole_texts) (q := view (OpenLaw.row PySem.Challenge.rw_nobodystays_k09_whole_texts).prog [32]) (H := NS.hk) (ob := NS.ob) (M := 16000) (loose := NS.names) (d := HandSHeadRun.topDef (OpenLaw.row PySem.Challenge.rw_nobodystays_k09_whole_texts).prog 32) (kwd := []) NS.ob_eq
    (by kernel_rfl) (fun s => by kernel_rfl) NS.run (by kernel_rfl) (by kernel_rfl) (by kernel_rfl) (by rfl) (by first | assumption | decide +kernel) (by decide +kernel) ⟨rfl, rfl, rfl, rfl, rfl, by decide +kernel⟩ ?hw ?hc
  case hw => w_witness2
  case hc =>
    refine LamX.walk_ofTsE (l := PySem.Challenge.rw_nobodystays_k09_whole_texts) (n := 63) (k := 10) (x := "script") (CX := fun _ => L2.CX0) rfl (by decide) (by kernel_rfl) ⟨rfl, by decide, by decide⟩ ?F (fun _ _ _ _ _ z => z)
    intro w mg fa h Y G hmg0
    obtain ⟨K, KX, c⟩ := Y
    have hmg : mg ("law" : PySem.Str) = some (.ref fa) := by
      have e : (HandSHeadRun.topDef (OpenLaw.row PySem.Challenge.rw_nobodystays_k09_whole_texts).prog 32).name = ("law" : PySem.Str) := by kernel_rfl
      rw [← e]
      exact hmg0
    have e := hmg.symm.trans (He.glo_ok KX G (c.t.d.fact 21 (f := .glo "law") rfl))
    cases e
    refine ⟨K, KX, ?_⟩
    obtain ⟨fd, FX⟩ := NS.fnAt c.t.d 21 (x := "law") (st := NS.sLaw) rfl
    have b := L2.FunD.bindsA (ps := ["script"]) FX fun _ _ _ _ _ _ us hl => match us, hl with | [_], _ => rfl
    refine ⟨fd, NS.tf.map (He.cT K), NS.spLaw K (NS.pTA K) (NS.pAA K), fun p hp => ?_, fun p hp => ?_, fun p hp => ?_, fun s v => b s [v] rfl, fun H a ns hl hb hT hS => ⟨a, ns, rfl, hS, NS.tabG0 (hT (He.cT K ("is_turn", none)) (List.mem_map.mpr ⟨_, List.mem_cons_self, rfl⟩)), NS.tabG0 (hT (He.cT K ("are_turns", none)) (List.mem_map.mpr ⟨_, List.mem_cons_of_mem _ List.mem_cons_self, rfl⟩)), fun _ => rfl⟩, fun base KB GB TB => ?_⟩
    · obtain ⟨d, hd, rfl⟩ := List.mem_map.mp hp
      exact c.empty d hd
    · obtain ⟨d, hd, rfl⟩ := List.mem_map.mp hp
      exact c.out d hd
    · obtain ⟨d, hd, rfl⟩ := List.mem_map.mp hp
      exact PySem.W.codeHd_of_K KX (c.hd d hd)
    · have z1 := TB (He.cT K ("is_turn", none)) (List.mem_map.mpr ⟨_, List.mem_cons_self, rfl⟩)
      have z2 := TB (He.cT K ("are_turns", none)) (List.mem_map.mpr ⟨_, List.mem_cons_of_mem _ List.mem_cons_self, rfl⟩)
      exact NS.law_all KX G c.t.d FX c.more c.t ⟨z1.code, z1.bm, z1.gP⟩ ⟨z2.code, z2.bm, z2.gP⟩
end
