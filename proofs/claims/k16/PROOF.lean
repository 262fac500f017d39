import PyProof.Rows.All
import Wide.All
import OpenK.AllK
import Wide.FinOn
import PySem.Challenge.RW_startbits_k16_safe_grains_waits_steps
import HandS.ForMost
import HandS.Wide
import HandS.IsInst
import HandS.Defaults
import HandS.HeadHook2
import HandS.HeadHook4
import HandS.HeadEnd
import HandS.Head0
import HandS.Head1
import HandS.Head2
import PyProof.ReprRoads
import PyProof.ReprLen
import HandS.Head3
import HandS.Evl
import HandS.Text
import HandS.Zip
import HandS.Style
import HandS.Conv
import HandS.ForExc
import HandS.ExcInit
import KE.KExcLine
import HandS.ExcSuper
import HandS.TryOnly
import HandS.Dict
import HandS.ExcField
import HandS.ExcIs
import KE.KExcHand
import KE.KExcIs
import KE.KIsAll
import HandS.Gcd
import HandS.SortInts
import HandS.Iter
import HandS.SortRule
set_option Elab.async false
set_option linter.all false
set_option maxRecDepth 100000
set_option maxHeartbeats 4000000
namespace SB
open PySem PySem.Spec PyProof.Rows L2
/-! powers of wide ints -/
def CPowB (i j : Int) : Prop := 0 ≤ j ∧ ((i.natAbs.log2 : Int) + 1) * j ≤ 134217728
theorem bits_le (i : Int) : (Builtin.Int.intBits i : Int) ≤ (i.natAbs.log2 : Int) + 1 := by
  unfold Builtin.Int.intBits
  split <;> omega
theorem op_powB {X : Cx} : OpR X (binaryOp .Pow) (rI CPowB fun i j => .int (i ^ j.toNat)) :=
  opI fun i j _ _ _ _ _ hc q => by
    refine pow_int hc.1 ?_ q
    have h2 := hc.2
    have h3 := Int.mul_le_mul_of_nonneg_right (bits_le i) hc.1
    have e : (2 : Int) ^ 27 = 134217728 := by decide
    omega
/-! repr of data -/
def rRp (K : PySem.W.Frag) : List V → Hp → VK → Prop := fun xs H Q => ∃ v d, xs = [v] ∧ Dp K H v d ∧ d.showable = true ∧ d.hasDict = false ∧ d.depth ≤ 60 ∧ d.shown.length ≤ sizeLine ∧ Q (.str d.shown) H
theorem call_rp {X : Cx} (hg : X.A.guards = some []) (hu : X.A.units + 64 < cLine) : CallR X (.builtin "repr") (rRp X.K) := by
  intro pins s σ H xs us Q I r h
  obtain ⟨v, d, rfl, hd, h1, h2, h3, h4, q⟩ := h
  obtain ⟨u, rfl, ru⟩ := vals1 r
  cases hd with
  | non =>
    obtain rfl : u = Value.none := ru
    exact PySem.P.repr_of_none ⟨.str "None", H, I.tok _, ⟨_, rfl⟩, q⟩
  | bl b =>
    obtain rfl : u = Value.bool b := ru
    cases b with
    | true => exact PySem.P.repr_of_bool ⟨.str "True", H, I.tok _, ⟨_, rfl⟩, q⟩
    | false => exact PySem.P.repr_of_bool ⟨.str "False", H, I.tok _, ⟨_, rfl⟩, q⟩
  | int i =>
    obtain ⟨t, rfl⟩ := ru
    exact PySem.P.repr_of_int (of_decide_eq_true h1) ⟨.str (toString i), H, I.tok _, ⟨_, rfl⟩, q⟩
  | str x =>
    obtain ⟨t, rfl⟩ := ru
    exact PySem.P.repr_of_str ⟨.str (reprText x), H, I.tok _, ⟨_, rfl⟩, q⟩ h4
  | lst hs ha =>
    obtain ⟨as, rd⟩ := Dp.reads I _ _ u (.lst hs ha) ru
    cases (show u = Value.ref _ from ru)
    exact PySem.repr_of_reads' rd h1 (PyData.noDict_hsm h2) hg (by omega) (fun _ _ e => e) (fun h' u tk hk => ⟨.str _, H, I.kept hk, ⟨_, rfl⟩, q⟩) h4
  | tup hs ha =>
    obtain ⟨as, rd⟩ := Dp.reads I _ _ u (.tup hs ha) ru
    cases (show u = Value.ref _ from ru)
    exact PySem.repr_of_reads' rd h1 (PyData.noDict_hsm h2) hg (by omega) (fun _ _ e => e) (fun h' u tk hk => ⟨.str _, H, I.kept hk, ⟨_, rfl⟩, q⟩) h4
/-! defs that are run where no repr is under way: the promise holds for such surroundings alone -/
structure FnG (P : Program) (w : World) (K : PySem.W.Frag) (mg : Str → Option Value) (base : Heap) (CX : CXT) (k : Nat)
    (f : Addr) (fd : FuncData) (ps : List Str) (sp : Sp) : Prop where
  len : ∀ vs H Q E, sp vs H Q E → vs.length = ps.length
  go : ∀ (A : Around) (out : List Env) (s : Shared) (H : Hp) (ar : Args) (us : List Value) (vs : List V) (Q : VK) (E : XK),
    Room k A → A.guards = some [] → Env0 P w K mg base A out s H → BindsTo s fd ar (ps.zip us) → Vals vs us → sp vs H Q E →
    codeAny (model P w) A (.call (.ref f) ar) (CR CX out P w H s Q E) s
section
variable {P : Program} {w : World} {K : PySem.W.Frag} {mg : Str → Option Value} {base : Heap} {CX : CXT} {k : Nat}
  {f : Addr} {fd : FuncData} {ps : List Str} {sp : Sp}
theorem FnG.of (F : FnOk P w K mg base CX k f fd ps sp) : FnG P w K mg base CX k f fd ps sp :=
  ⟨F.len, fun A out s H ar us vs Q E r _ e b v h => F.run A out s H ar us vs Q E r e b v h⟩
theorem FnG.mono {j : Nat} (F : FnG P w K mg base CX j f fd ps sp) (h : j ≤ k) : FnG P w K mg base CX k f fd ps sp :=
  ⟨F.len, fun A out s H ar us vs Q E r g e b v z => F.go A out s H ar us vs Q E (r.mono h) g e b v z⟩
theorem FnG.body {x qual : Str} {params : Arguments} {bd : List Stmt} {scope : Scope} {dvs : List V} {kws : List (Str × V)} {N : List Str}
    (F : FunD K x qual params bd scope dvs kws f fd) (S : FnScope N ps scope) (len : ∀ vs H Q E, sp vs H Q E → vs.length = ps.length)
    (hb : ∀ (cdv : Value) (A : Around) (out : List Env) (s : Shared) (H : Hp) (vs : List V) (Q : VK) (E : XK),
      Room k (A.deeper (envOfC qual scope s.heap.objs.size f cdv)) → A.guards = some [] → sp vs H Q E →
      ∃ t, PSs (cxOf CX P w K mg base N qual scope f cdv A out s H E) bd t ∧ t { nx := fun _ H' => Q .non H', rt := Q } (start N vs) H) :
    FnG P w K mg base CX (k + 1) f fd ps sp := by
  obtain ⟨oc, od, dV, kV, doc, pm, an, cdv, ct, osl, rfl, lk, hcd, _, _⟩ := F.ex
  refine ⟨len, ?_⟩
  intro A out s H ar us vs Q E room gd e0 bnd vls pr
  have inS : K.In s.heap := e0.mod.kin.keeps fun b o z => (e0.bs b o z).1
  have nl : s.heap.NoLimit := e0.mod.nolimit.keeps fun b o z => (e0.bs b o z).1
  refine codeAny_call_function room.depth (inS _ _ lk) rfl S.co S.gen rfl (PySem.W.codeRec_of inS hcd) (bnd _ _ _ _ ?_)
  refine wpAny_newFunctionEnv_cells S.kind ?_ ?_
  · intro ⟨n, v⟩ hy
    cases S.par n (List.of_mem_zip hy).1 with
    | inl q => exact .inl q
    | inr q => exact .inr ⟨q, PySem.W.cellsFrom_some _ _ _ (.inl q)⟩
  intro env he s1 x
  subst he
  refine ⟨nl.keeps x.toInCall.keep, codeAny_func ?_⟩
  obtain ⟨t, der, rd⟩ := hb cdv A out s H vs Q E (room.deeper _) gd pr
  have I0 := inv_start (CX := CX) (P := P) (w := w) (K := K) (mg := mg) (base := base) (cd := cdv) (f := f) (E := E)
    (qual := qual) S room.hd e0 (len _ _ _ _ pr) vls x
  refine wpAny_mono (der.run [] s1 (start N vs) H _ I0 rd) ?_ (fun _ _ z => z)
  intro fl s' z
  cases fl with
  | ret u =>
    obtain ⟨v, σ', H', J, rv, q⟩ := z
    exact ⟨v, H', J.os, J.bare, J.base, J.hok, rv, q⟩
  | next =>
    obtain ⟨σ', H', J, q⟩ := z
    exact ⟨V.non, H', J.os, J.bare, J.base, J.hok, rfl, q⟩
  | brk =>
    obtain ⟨_, _, _, q⟩ := z
    exact q.elim
  | cont =>
    obtain ⟨_, _, _, q⟩ := z
    exact q.elim
end
section
variable {X : Cx} {CX : CXT} {k : Nat} {f : Addr} {fd : FuncData} {ps : List Str} {sp : Sp} {dvs : List V} {ds : List Value} {E : XK}
  {x : Str} {p pos : Pos} {e : Expr} {es : List Expr} {t : TA}
theorem runG {pins : List (Addr × Obj)} {σ : L2.St} {H : Hp} {s : Shared} {Q : VK} {us : List Value} {vs : List V}
    (F : FnG X.prog X.w X.K X.mg X.base CX k f fd ps sp) (hr : Room k X.A) (hg : X.A.guards = some []) (hb : Binds X.K fd ps ds) (hd : Vals dvs ds) (hx : Passes CX X E)
    (I : Inv X pins σ H s) (r : Vals vs us) (h : sp (vs ++ dvs) H Q E) : wpAny (model X.prog X.w) X.A (call (.ref f) us) (EP X pins σ Q) X.xe s := by
  have rr : Vals (vs ++ dvs) (us ++ ds) := r.append hd
  have ll : (us ++ ds).length = ps.length := rr.length.symm.trans (F.len _ _ _ _ h)
  have go := F.go X.A X.stack s H ⟨us, []⟩ (us ++ ds) (vs ++ dvs) Q E hr hg I.env0 (hb s us I.kIn ll) rr h
  refine wpAny_call (codeAny_mono go ?_)
  intro r s' z
  match r, z with
  | .error e, z => exact hx pins σ H s e s' I z
  | .ok (.ret u), z => exact I.after z
  | .ok .next, z => exact False.elim z
  | .ok .brk, z => exact False.elim z
  | .ok .cont, z => exact False.elim z
theorem pe_callG (F : FnG X.prog X.w X.K X.mg X.base CX k f fd ps sp) (hr : Room k X.A) (gd : X.A.guards = some []) (hg : Gl X x) (hm : X.mg x = some (.ref f))
    (hk : PySem.W.keepIn X.K (.ref f) = true) (hb : Binds X.K fd ps ds) (hd : Vals dvs ds) (hx : Passes CX X E)
    (ha : PA X (e :: es) t) (hdb : (x == ("__debug__" : Str)) = false := by decide)
    (he : starEach (e :: es) X.env = (false, eval e X.env) :: starEach es X.env := by rfl) (hpl : (backTo pos (starEach es X.env)).any (·.1) = false := by rfl) :
    PE X (.Call (.Name x p) (e :: es) [] pos) (tCall sp dvs E t) := by
  constructor
  intro pins s σ H Q I h
  refine wpAny_Call_Name_kw (ld_glob I hg hm ?_ hdb)
  refine PySem.W.callWith_K (h₀ := X.base) I.ok.mod.kin hk (thn (ha.run pos pins s σ H _ I h) ?_) he hpl
  intro us s1 ⟨vs, H1, I1, r, q⟩
  exact ⟨I1.kIn, runG F hr gd hb hd hx I1 r q⟩
end
/-! the end of a law over such a def -/
theorem callG {P : Program} {w : World} {K : PySem.W.Frag} {mg mb : Str → Option Value} {CX : CXT} {k : Nat} {fa a : Addr} {fd : FuncData} {x : Str} {sp : Sp} {s₁ : Shared}
    {vs : List Value} {ns : List Int}
    (KX : K.In s₁.heap) (hns : s₁.heap.Ns mainGlobals mg) (hb : s₁.heap.Ns builtinsNs mb) (hbb : ∀ x : Str, x ≠ "__name__" → mb x = bootBuiltins x) (hlim : s₁.heap.NoLimit) (hg : s₁.gens = #[])
    (ha : s₁.heap.get? a = some { cls := .type "list", data := .seq vs.toArray }) (hi : IntsAre vs ns) (hl : ns.length ≤ sizeLine) (hr : Room k callerA)
    (F : ∀ base : Heap, K.In base → base.Ns mainGlobals mg → FnG P w K mg base CX k fa fd [x] sp)
    (hbind : ∀ (s : Shared) (u : Value), BindsTo s fd ⟨[u], []⟩ [(x, u)])
    (hsp : ∀ H : Hp, Only H → SqL K H a (ns.map V.int) → sp [.ref a] H (fun v _ => v = .bl true) fun _ _ _ => False)
    (hCX : ∀ H e s', CX [] H s₁ (fun _ _ _ => False) e s' → False) :
    codeAny (model P w) callerA (.call (.ref fa) ⟨[.ref a], []⟩) (fun r s' => r = .ok (.ret (.bool true)) ∧ OldK s₁.heap s'.heap ∧ s'.os = s₁.os ∧ AllBare s'.gens) s₁ := by
  -- whatever is tracked at the entry is the script alone
  have main : ∀ T : Hp, Only T → SqL K T a (ns.map V.int) → HOk P w T s₁.heap → (∀ b, T b ≠ none → b = a ∧ K.lookup a = none) →
      codeAny (model P w) callerA (.call (.ref fa) ⟨[.ref a], []⟩) (fun r s' => r = .ok (.ret (.bool true)) ∧ OldK s₁.heap s'.heap ∧ s'.os = s₁.os ∧ AllBare s'.gens) s₁ := by
    intro T only sq hok alone
    have B : ∀ {b : Addr} {o : Obj}, s₁.heap.get? b = some o → T b = none → (hidT s₁.heap T).get? b = some o := fun e n => hidT_get e n
    have notD : ∀ {b : Addr} {o : Obj} {es : Array DictEntry} {n : Nat}, s₁.heap.get? b = some o → o.data = .dict es n → T b = none := by
      intro b o es n e d
      by_cases q : T b = none
      · exact q
      · have z := (alone b q).1
        subst z
        rw [ha] at e
        cases e
        cases (show Data.seq vs.toArray _ = Data.dict es n from d)
    have nsB : ∀ {b : Addr} {m : Str → Option Value}, s₁.heap.Ns b m → (hidT s₁.heap T).Ns b m :=
      fun ⟨o, es, n, e, d, r⟩ => ⟨o, es, n, B e (notD e d), d, r⟩
    have inB : K.In (hidT s₁.heap T) := by
      intro b o e
      refine B (KX b o e) ?_
      by_cases q : T b = none
      · exact q
      · obtain ⟨z1, z2⟩ := alone b q
        subst z1
        rw [z2] at e
        cases e
    have modB : Mod K mg (hidT s₁.heap T) := by
      obtain ⟨mc, l1, l2⟩ := hlim
      exact ⟨inB, nsB hns, ⟨mb, nsB hb, hbb⟩, mc, nsB l1, l2⟩
    have e0 : Env0 P w K mg (hidT s₁.heap T) callerA [] s₁ T := by
      refine ⟨rfl, modB, fun b o z => of_hidT z, Nat.le_of_eq (hidT_size _ _), trivial, ?_, hok, .of_eq hg⟩
      intro b z
      exact absurd (show b ∈ ([] : List Addr) from z) (by simp)
    have run := (F _ inB (nsB hns)).go callerA [] s₁ T ⟨[.ref a], []⟩ [.ref a] [.ref a] _ _ hr rfl e0 (hbind s₁ (.ref a)) (.cons rfl .nil) (hsp T only sq)
    refine codeAny_mono run ?_
    intro r s' z
    match r, z with
    | .error e, z => exact (hCX T e s' z).elim
    | .ok .next, z => exact False.elim z
    | .ok .brk, z => exact False.elim z
    | .ok .cont, z => exact False.elim z
    | .ok (.ret u), ⟨v, T', os, bare, un, hok', rel, q⟩ =>
      cases (show v = .bl true from q)
      cases (show u = Value.bool true from rel)
      refine ⟨rfl, OldK.of_keep ?_, os, bare⟩
      intro b o e
      cases q : T b with
      | none =>
        refine un.keep b o e q ?_ (by simp)
        intro z
        exact absurd (show b ∈ ([] : List Addr) from z) (by simp)
      | some u =>
        rcases only b with z | ⟨ob, ys, z⟩
        · rw [q] at z
          cases z
        · obtain ⟨e1, _⟩ := hok b _ z
          obtain ⟨e2, _⟩ := hok' b _ (un.frzs b ob _ z)
          rw [e] at e1
          cases e1
          exact e2
  cases hk : K.lookup a with
  | some o =>
    have e := KX a o hk
    rw [ha] at e
    cases e
    refine main (fun _ => none) (fun _ => .inl rfl) ?_ (fun b u z => nomatch (show (none : Option HO) = some u from z)) (fun b z => absurd rfl z)
    exact .inr ⟨_, vs.toArray, _, hk, rfl, rfl, rfl, by rw [List.size_toArray, hi.length]; exact hl, by simpa using vals_ints hi⟩
  | none =>
    obtain ⟨T, yes, no⟩ : ∃ T : Hp, (∀ b : Addr, b = a → T b = some (.frz { cls := .type "list", data := .seq vs.toArray } (.lst (ns.map V.int)))) ∧ (∀ b : Addr, b ≠ a → T b = none) :=
      ⟨fun c => if c = a then some (.frz { cls := .type "list", data := .seq vs.toArray } (.lst (ns.map V.int))) else none, fun b h => if_pos h, fun b h => if_neg h⟩
    refine main T ?_ (.inl (.inr ⟨_, yes a rfl⟩)) ?_ ?_
    · intro b
      by_cases h : b = a
      · exact .inr ⟨_, _, yes b h⟩
      · exact .inl (no b h)
    · intro b u z
      by_cases h : b = a
      · have z' := (yes b h).symm.trans z
        cases z'
        subst h
        exact ⟨ha, by rw [List.length_map]; exact hl, vs, _, vals_ints hi, ha⟩
      · have z' := (no b h).symm.trans z
        cases z'
    · intro b z
      by_cases h : b = a
      · exact ⟨h, hk⟩
      · exact absurd (no b h) z
theorem walkG {l : PySem.W.OpenLaw} {n k : Nat} {q : Program} {loose : List Str} {XP : (Str → Option Value) → Heap → Prop} {YP : World → Heap → Prop} {d : DefRec} {CX : CXT} {x : Str}
    (hn : l.most = some n) (hn2 : n ≤ sizeLine) (hdf : d.params.defaults = []) (hr : Room k callerA)
    (F : ∀ (w : World) (mg : Str → Option Value) (fa : Addr) (h : Heap), YP w h → h.Ns mainGlobals mg → mg d.name = some (.ref fa) →
      ∃ (K : PySem.W.Frag) (fd : FuncData) (sp : Sp), K.In h ∧ (∀ (s : Shared) (u : Value), BindsTo s fd ⟨[u], []⟩ [(x, u)]) ∧
        (∀ (H : Hp) (a : Addr) (ns : List Int), ns.length ≤ n → Only H → SqL K H a (ns.map V.int) → sp [.ref a] H (fun v _ => v = .bl true) fun _ _ _ => False) ∧
        ∀ base : Heap, K.In base → base.Ns mainGlobals mg → FnG l.prog w K mg base CX k fa fd [x] sp)
    (hCX : ∀ (H : Hp) (s : Shared) (e : Value) (s' : Shared), CX [] H s (fun _ _ _ => False) e s' → False) :
    PySem.W.WalkO q loose XP YP l.row.toRowW d [] (fun f vs => PySem.call f vs) := by
  apply Att.attach_call hn hdf
  intro w s₀ s₁ mg mb fa o pm cd doc a vs ns G Y ho hd hcd hmg hobj hints hlen hg
  obtain ⟨K, fd, sp, KX, bnd, say, prom⟩ := F w mg fa _ Y G.T.g hmg
  exact callG KX G.T.g G.T.b G.T.builtins G.T.nolimit hg hobj hints (Nat.le_trans hlen hn2) hr prom bnd (fun H hO hS => say H a ns hlen hO hS) (fun H e s' => hCX H s₁ e s')
end SB
namespace LW
open PySem PySem.Spec PyProof.Rows L2 SB
def topS (i : Nat) : Stmt := PySem.Challenge.pw_startbits_k16_safe_grains_waits_steps.main.body.getD i (.Pass ⟨0, 0, 0, 0⟩)
abbrev s_is_int : Stmt := topS 9
abbrev s_is_int_from : Stmt := topS 10
abbrev s_is_int_between : Stmt := topS 11
abbrev s_is_parity : Stmt := topS 12
abbrev s_check_shape : Stmt := topS 13
abbrev s_check_int_from : Stmt := topS 14
abbrev s_check_length : Stmt := topS 15
abbrev s_size_of : Stmt := topS 17
abbrev s_ceiling : Stmt := topS 19
abbrev s_windows_of : Stmt := topS 20
abbrev s_stretch : Stmt := topS 21
abbrev s_safe_grains : Stmt := topS 23
abbrev s_safe_waits : Stmt := topS 24
abbrev s_safe_steps : Stmt := topS 25
abbrev s_waits_for_span : Stmt := topS 26
abbrev s_law_pool : Stmt := topS 28
abbrev s_law_draw : Stmt := topS 29
abbrev s_law_form : Stmt := topS 30
abbrev s_law_size : Stmt := topS 31
abbrev s_law_clock : Stmt := topS 32
abbrev s_law_rows : Stmt := topS 33
abbrev s_law_is_good : Stmt := topS 34
abbrev s_law_bounds : Stmt := topS 35
abbrev s_law_is_fine : Stmt := topS 36
abbrev s_law_ends : Stmt := topS 37
abbrev s_law_tried : Stmt := topS 38
abbrev s_law_between : Stmt := topS 39
abbrev s_law_reckoned : Stmt := topS 40
abbrev s_law_span : Stmt := topS 41
abbrev s_law_right : Stmt := topS 42
abbrev s_law : Stmt := topS 43
def fnL : List He.DefD := [⟨("is_int", none), "is_int", "is_int", defArgs s_is_int, defBody s_is_int, defScope s_is_int, [], []⟩,
  ⟨("is_int_from", none), "is_int_from", "is_int_from", defArgs s_is_int_from, defBody s_is_int_from, defScope s_is_int_from, [], []⟩,
  ⟨("is_int_between", none), "is_int_between", "is_int_between", defArgs s_is_int_between, defBody s_is_int_between, defScope s_is_int_between, [], []⟩,
  ⟨("is_parity", none), "is_parity", "is_parity", defArgs s_is_parity, defBody s_is_parity, defScope s_is_parity, [], []⟩,
  ⟨("check_shape", none), "check_shape", "check_shape", defArgs s_check_shape, defBody s_check_shape, defScope s_check_shape, [], []⟩,
  ⟨("check_int_from", none), "check_int_from", "check_int_from", defArgs s_check_int_from, defBody s_check_int_from, defScope s_check_int_from, [], []⟩,
  ⟨("check_length", none), "check_length", "check_length", defArgs s_check_length, defBody s_check_length, defScope s_check_length, [], []⟩,
  ⟨("size_of", none), "size_of", "size_of", defArgs s_size_of, defBody s_size_of, defScope s_size_of, [], []⟩,
  ⟨("ceiling", none), "ceiling", "ceiling", defArgs s_ceiling, defBody s_ceiling, defScope s_ceiling, [], []⟩,
  ⟨("windows_of", none), "windows_of", "windows_of", defArgs s_windows_of, defBody s_windows_of, defScope s_windows_of, [], []⟩,
  ⟨("stretch", none), "stretch", "stretch", defArgs s_stretch, defBody s_stretch, defScope s_stretch, [], []⟩,
  ⟨("safe_grains", none), "safe_grains", "safe_grains", defArgs s_safe_grains, defBody s_safe_grains, defScope s_safe_grains, [], []⟩,
  ⟨("safe_waits", none), "safe_waits", "safe_waits", defArgs s_safe_waits, defBody s_safe_waits, defScope s_safe_waits, [], []⟩,
  ⟨("safe_steps", none), "safe_steps", "safe_steps", defArgs s_safe_steps, defBody s_safe_steps, defScope s_safe_steps, [], []⟩,
  ⟨("_waits_for_span", none), "_waits_for_span", "_waits_for_span", defArgs s_waits_for_span, defBody s_waits_for_span, defScope s_waits_for_span, [], []⟩,
  ⟨("_law_pool", none), "_law_pool", "_law_pool", defArgs s_law_pool, defBody s_law_pool, defScope s_law_pool, [], []⟩,
  ⟨("_law_draw", none), "_law_draw", "_law_draw", defArgs s_law_draw, defBody s_law_draw, defScope s_law_draw, [], []⟩,
  ⟨("_law_form", none), "_law_form", "_law_form", defArgs s_law_form, defBody s_law_form, defScope s_law_form, [], []⟩,
  ⟨("_law_size", none), "_law_size", "_law_size", defArgs s_law_size, defBody s_law_size, defScope s_law_size, [], []⟩,
  ⟨("_law_clock", none), "_law_clock", "_law_clock", defArgs s_law_clock, defBody s_law_clock, defScope s_law_clock, [], []⟩,
  ⟨("_law_rows", none), "_law_rows", "_law_rows", defArgs s_law_rows, defBody s_law_rows, defScope s_law_rows, [], []⟩,
  ⟨("_law_is_good", none), "_law_is_good", "_law_is_good", defArgs s_law_is_good, defBody s_law_is_good, defScope s_law_is_good, [], []⟩,
  ⟨("_law_bounds", none), "_law_bounds", "_law_bounds", defArgs s_law_bounds, defBody s_law_bounds, defScope s_law_bounds, [], []⟩,
  ⟨("_law_is_fine", none), "_law_is_fine", "_law_is_fine", defArgs s_law_is_fine, defBody s_law_is_fine, defScope s_law_is_fine, [], []⟩,
  ⟨("_law_ends", none), "_law_ends", "_law_ends", defArgs s_law_ends, defBody s_law_ends, defScope s_law_ends, [], []⟩,
  ⟨("_law_tried", none), "_law_tried", "_law_tried", defArgs s_law_tried, defBody s_law_tried, defScope s_law_tried, [], []⟩,
  ⟨("_law_between", none), "_law_between", "_law_between", defArgs s_law_between, defBody s_law_between, defScope s_law_between, [], []⟩,
  ⟨("_law_reckoned", none), "_law_reckoned", "_law_reckoned", defArgs s_law_reckoned, defBody s_law_reckoned, defScope s_law_reckoned, [], []⟩,
  ⟨("_law_span", none), "_law_span", "_law_span", defArgs s_law_span, defBody s_law_span, defScope s_law_span, [], []⟩,
  ⟨("_law_right", none), "_law_right", "_law_right", defArgs s_law_right, defBody s_law_right, defScope s_law_right, [], []⟩,
  ⟨("law", none), "law", "law", defArgs s_law, defBody s_law, defScope s_law, [], []⟩]
def faL : List He.Fa := [.free "abs", .free "bool", .free "int", .free "isinstance", .free "len", .free "max", .free "min", .free "range", .free "repr", .free "str", .free "tuple", .glo "PARITIES", .int "MOST_BITS" (9), .int "MOST_STOPS" (2), .glo "is_int", .glo "is_int_from", .glo "is_int_between", .glo "is_parity", .glo "check_shape", .glo "check_int_from", .glo "check_length", .glo "size_of", .glo "ceiling", .glo "windows_of", .glo "stretch", .glo "safe_grains", .glo "safe_waits", .glo "safe_steps", .glo "_waits_for_span", .glo "_law_pool", .glo "_law_draw", .glo "_law_form", .glo "_law_size", .glo "_law_clock", .glo "_law_rows", .glo "_law_is_good", .glo "_law_bounds", .glo "_law_is_fine", .glo "_law_ends", .glo "_law_tried", .glo "_law_between", .glo "_law_reckoned", .glo "_law_span", .glo "_law_right", .glo "law"]
def exL (K : PySem.W.Frag) : Bool := He.tupB K "PARITIES" [.str "none", .str "even", .str "odd"]
def looseL : List Str := (["LineError", "InvalidNumber", "InvalidLength", "InvalidShape", "PARITIES", "MOST_BITS", "MOST_STOPS", "is_int", "is_int_from", "is_int_between", "is_parity", "check_shape", "check_int_from", "check_length", "size_of", "ceiling", "windows_of", "stretch", "safe_grains", "safe_waits", "safe_steps", "_waits_for_span", "_law_pool", "_law_draw", "_law_form", "_law_size", "_law_clock", "_law_rows", "_law_is_good", "_law_bounds"] : List Str) ++ (["_law_is_fine", "_law_ends", "_law_tried", "_law_between", "_law_reckoned", "_law_span", "_law_right"] : List Str)
abbrev RW : PySem.W.OpenRow := PySem.W.OpenLaw.row PySem.Challenge.rw_startbits_k16_safe_grains_waits_steps
abbrev hk : PySem.W.Hook := He.hookX 5 faL fnL [] [] exL
def obL (s : PySem.W.SharedT) : He.AlX := He.obsX 5 faL fnL [] [] exL (HandSHeadRun.getT s)
theorem obL_eq (s : PySem.W.SharedT) : obL s = hk.obs s.abs := He.obsX_eq (HandSHeadRun.getT_eq s)
theorem runL (w : World) : HandSHeadRun.RunEq RW (PySem.W.view RW.prog [43]) hk obL 6000 looseL w := by
  intro os
  kernel_rfl
end LW
open PySem PySem.W PySem.Calls PyProof.Rows L2 SB in
set_option maxHeartbeats 0 in
theorem LW.pre (FF : ∀ (P : Program) (w : World) (K : PySem.W.Frag) (mg : PySem.Str → Option Value) (h : Heap) (fa : Addr), K.In h → h.Ns mainGlobals mg → He.SaysX LW.faL LW.fnL [] [] LW.exL w h K → mg ("law" : PySem.Str) = some (.ref fa) → ∃ (K' : PySem.W.Frag) (fd : FuncData) (sp : Sp), K'.In h ∧ (∀ (s : Shared) (u : Value), BindsTo s fd ⟨[u], []⟩ [(("_law_script" : Str), u)]) ∧
        (∀ (H : Hp) (a : Addr) (ns : List Int), ns.length ≤ 63 → Only H → SqL K' H a (ns.map V.int) → sp [.ref a] H (fun v _ => v = .bl true) fun _ _ _ => False) ∧
        ∀ base : Heap, K'.In base → base.Ns mainGlobals mg → FnG P w K' mg base L2.CX0 9 fa fd ["_law_script"] sp) : PySem.Challenge.rw_startbits_k16_safe_grains_waits_steps.Holds := by
  w_on; o_law
  refine HandSHeadRun.head_any (r := OpenLaw.row PySem.Challenge.rw_startbits_k16_safe_grains_waits_steps) (q := view (OpenLaw.row PySem.Challenge.rw_startbits_k16_safe_grains_waits_steps).prog [43]) (H := LW.hk) (ob := LW.obL) (M := 6000) (loose := LW.looseL) (d := HandSHeadRun.topDef (OpenLaw.row PySem.Challenge.rw_startbits_k16_safe_grains_waits_steps).prog 43) (kwd := []) LW.obL_eq
    (by kernel_rfl) (fun s => by kernel_rfl) LW.runL (by kernel_rfl) (by kernel_rfl) (by kernel_rfl) (by rfl) (by first | assumption | decide +kernel) (by decide +kernel) ⟨rfl, rfl, rfl, rfl, rfl, by decide +kernel⟩ ?hw ?hc
  case hw => w_witness2
  case hc =>
    refine SB.walkG (l := PySem.Challenge.rw_startbits_k16_safe_grains_waits_steps) (n := 63) (k := 9) (x := "_law_script") (CX := L2.CX0) rfl (by decide) (by kernel_rfl) ⟨rfl, by decide, by decide⟩ ?F (fun _ _ _ _ z => z)
    intro w mg fa h Y G hmg0
    obtain ⟨K, KX, c⟩ := Y
    have hmg : mg ("law" : PySem.Str) = some (.ref fa) := by
      have e : (HandSHeadRun.topDef (OpenLaw.row PySem.Challenge.rw_startbits_k16_safe_grains_waits_steps).prog 43).name = ("law" : PySem.Str) := by kernel_rfl
      rw [← e]
      exact hmg0
    exact FF _ _ _ _ _ _ KX G c hmg
namespace LW
end LW
namespace SB
open PySem PySem.Spec PyProof.Rows L2
/-! a def of the text, where it stands; what a caller has of it -/
def GInt (mg : Str → Option Value) (x : Str) (i : Int) : Prop := ∃ t, mg x = some (.int i t)
def Df (K : PySem.W.Frag) (mg : Str → Option Value) (x : Str) (st : Stmt) : Prop :=
  mg x = some (.ref (He.ga K x)) ∧ ∃ fd, FunD K x x (defArgs st) (defBody st) (defScope st) [] [] (He.fAd K (x, none)) fd
theorem pe_gi {X : Cx} {x : Str} {i : Int} {pos : Pos} (h : GInt X.mg x i) (hg : Gl X x := by rfl) (hdb : (x == ("__debug__" : Str)) = false := by decide) : PE X (.Name x pos) (tC (.int i)) := by
  obtain ⟨t, e⟩ := h
  exact pe_glob hg e ⟨_, rfl⟩ hdb
structure Cal (P : Program) (w : World) (K : PySem.W.Frag) (mg : Str → Option Value) (base : Heap) (CX : CXT) (k : Nat) (x : Str) (ps : List Str) (sp : Sp) : Prop where
  ex : ∃ f fd, mg x = some (.ref f) ∧ PySem.W.keepIn K (.ref f) = true ∧ Binds K fd ps [] ∧ FnOk P w K mg base CX k f fd ps sp
structure CalG (P : Program) (w : World) (K : PySem.W.Frag) (mg : Str → Option Value) (base : Heap) (CX : CXT) (k : Nat) (x : Str) (ps : List Str) (sp : Sp) : Prop where
  ex : ∃ f fd, mg x = some (.ref f) ∧ PySem.W.keepIn K (.ref f) = true ∧ Binds K fd ps [] ∧ FnG P w K mg base CX k f fd ps sp
/-- called by keywords alone -/
structure CalK (P : Program) (w : World) (K : PySem.W.Frag) (mg : Str → Option Value) (base : Heap) (CX : CXT) (k : Nat) (x : Str) (ks ps : List Str) (gV : List V → List V → List V) (sp : Sp) : Prop where
  ex : ∃ f fd g, mg x = some (.ref f) ∧ PySem.W.keepIn K (.ref f) = true ∧ KBinds K fd ps ks g gV ∧ FnOk P w K mg base CX k f fd ps sp
section
variable {X : Cx} {CX : CXT} {k j : Nat} {ps ks : List Str} {sp : Sp} {E : XK} {x : Str} {p pos : Pos} {e : Expr} {es : List Expr} {kws : List Keyword} {t tk : TA} {gV : List V → List V → List V}
theorem pe_cal (F : Cal X.prog X.w X.K X.mg X.base CX k x ps sp) (hr : Room k X.A) (hx : Passes CX X E) (ha : PA X (e :: es) t) (hg : Gl X x := by rfl) (hdb : (x == ("__debug__" : Str)) = false := by decide)
    (he : starEach (e :: es) X.env = (false, eval e X.env) :: starEach es X.env := by rfl) (hpl : (backTo pos (starEach es X.env)).any (·.1) = false := by rfl) :
    PE X (.Call (.Name x p) (e :: es) [] pos) (tCall sp [] E t) := by
  obtain ⟨f, fd, e1, e2, e3, e4⟩ := F.ex
  exact pe_call e4 hr hg e1 e2 e3 .nil hx ha hdb he hpl
theorem pe_cal0 (F : Cal X.prog X.w X.K X.mg X.base CX k x ps sp) (hr : Room k X.A) (hx : Passes CX X E) (hg : Gl X x := by rfl) (hdb : (x == ("__debug__" : Str)) = false := by decide) :
    PE X (.Call (.Name x p) [] [] pos) (tCall sp [] E tNil) := by
  obtain ⟨f, fd, e1, e2, e3, e4⟩ := F.ex
  exact pe_call0 e4 hr hg e1 e2 e3 .nil hx hdb
theorem pe_calG (F : CalG X.prog X.w X.K X.mg X.base CX k x ps sp) (hr : Room k X.A) (gd : X.A.guards = some []) (hx : Passes CX X E) (ha : PA X (e :: es) t) (hg : Gl X x := by rfl) (hdb : (x == ("__debug__" : Str)) = false := by decide)
    (he : starEach (e :: es) X.env = (false, eval e X.env) :: starEach es X.env := by rfl) (hpl : (backTo pos (starEach es X.env)).any (·.1) = false := by rfl) :
    PE X (.Call (.Name x p) (e :: es) [] pos) (tCall sp [] E t) := by
  obtain ⟨f, fd, e1, e2, e3, e4⟩ := F.ex
  exact pe_callG e4 hr gd hg e1 e2 e3 .nil hx ha hdb he hpl
theorem pe_calK (F : CalK X.prog X.w X.K X.mg X.base CX k x ks ps gV sp) (hr : Room k X.A) (hx : Passes CX X E) (hkw : PK X kws tk) (hg : Gl X x := by rfl)
    (hall : (backToKw pos (keywordEach kws X.env)).all (·.1.isSome) = true := by rfl) (hks : (backToKw pos (keywordEach kws X.env)).filterMap (·.1) = ks := by rfl)
    (hdb : (x == ("__debug__" : Str)) = false := by decide)
    (hpl : ((backTo pos (starEach [] X.env)).any (·.1) || (backToKw pos (keywordEach kws X.env)).any (·.1.isNone)) = false := by rfl) :
    PE X (.Call (.Name x p) [] kws pos) (tCallK sp gV E tNil tk) := by
  obtain ⟨f, fd, g, e1, e2, e3, e4⟩ := F.ex
  constructor
  intro pins s σ H Q I h
  refine wpAny_Call_Name_kw (ld_glob I hg e1 ?_ hdb)
  refine PySem.W.callWith_KW0 (h₀ := X.base) I.ok.mod.kin e2 hall (thn (hkw.run pos pins s σ H _ I h) ?_) hpl
  intro ws s2 ⟨zs, H2, I2, rz, q2⟩
  refine ⟨I2.kIn, ?_⟩
  rw [hks]
  exact run_fnk (us := []) (vs := []) e4 hr e3 hx I2 .nil rz q2
end
section
variable {P : Program} {w : World} {K : PySem.W.Frag} {mg : Str → Option Value} {base : Heap}
theorem Df.cal {CX : CXT} {k : Nat} {x : Str} {st : Stmt} {N ps : List Str} {sp : Sp} (D : Df K mg x st) (S : FnScope N ps (defScope st)) (len : ∀ vs H Q E, sp vs H Q E → vs.length = ps.length)
    (hb : ∀ (kV doc pm : Value) (an : Option Addr) (cdv ct : Value) (us : List Value), us.length = ps.length → bindArgs (PySem.W.fnOf x x (defArgs st) (defBody st) (defScope st) .none kV doc pm an cdv ct) ⟨us, []⟩ = pure (ps.zip us))
    (body : ∀ (f : Addr) (cdv : Value) (A : Around) (outer : List Env) (s : Shared) (H : Hp) (vs : List V) (Q : VK) (E : XK), Room k (A.deeper (envOfC x (defScope st) s.heap.objs.size f cdv)) → sp vs H Q E →
      ∃ t, PSs (cxOf CX P w K mg base N x (defScope st) f cdv A outer s H E).nox (defBody st) t ∧ t { nx := fun _ H' => Q .non H', rt := Q } (start N vs) H) :
    Cal P w K mg base CX (k + 1) x ps sp := by
  obtain ⟨e, fd, F⟩ := D
  exact ⟨_, fd, e, F.kp, FunD.bindsN F hb, FunD.ok F S len (fun cdv A outer s H vs Q E hr h => let ⟨t, a, b⟩ := body _ cdv A outer s H vs Q E hr h; ⟨t, a.nox, b⟩)⟩
theorem Df.calG {CX : CXT} {k : Nat} {x : Str} {st : Stmt} {N ps : List Str} {sp : Sp} (D : Df K mg x st) (S : FnScope N ps (defScope st)) (len : ∀ vs H Q E, sp vs H Q E → vs.length = ps.length)
    (hb : ∀ (kV doc pm : Value) (an : Option Addr) (cdv ct : Value) (us : List Value), us.length = ps.length → bindArgs (PySem.W.fnOf x x (defArgs st) (defBody st) (defScope st) .none kV doc pm an cdv ct) ⟨us, []⟩ = pure (ps.zip us))
    (body : ∀ (f : Addr) (cdv : Value) (A : Around) (outer : List Env) (s : Shared) (H : Hp) (vs : List V) (Q : VK) (E : XK), Room k (A.deeper (envOfC x (defScope st) s.heap.objs.size f cdv)) → A.guards = some [] → sp vs H Q E →
      ∃ t, PSs (cxOf CX P w K mg base N x (defScope st) f cdv A outer s H E).nox (defBody st) t ∧ t { nx := fun _ H' => Q .non H', rt := Q } (start N vs) H) :
    CalG P w K mg base CX (k + 1) x ps sp := by
  obtain ⟨e, fd, F⟩ := D
  exact ⟨_, fd, e, F.kp, FunD.bindsN F hb, FnG.body F S len (fun cdv A outer s H vs Q E hr g h => let ⟨t, a, b⟩ := body _ cdv A outer s H vs Q E hr g h; ⟨t, a.nox, b⟩)⟩
/-- a def with the promise that its positional callers have, called by keywords -/
theorem Df.calK {CX : CXT} {k : Nat} {x : Str} {st : Stmt} {N ks ps : List Str} {sp : Sp} {gV : List V → List V → List V} (D : Df K mg x st)
    (g : List Value → List Value → List Value)
    (hb : ∀ (kV doc pm : Value) (an : Option Addr) (cdv ct : Value) (us ws : List Value), (g us ws).length = ps.length → bindArgs (PySem.W.fnOf x x (defArgs st) (defBody st) (defScope st) .none kV doc pm an cdv ct) ⟨us, ks.zip ws⟩ = pure (ps.zip (g us ws)))
    (rel : ∀ {vs : List V} {us : List Value} {zs : List V} {ws : List Value}, Vals vs us → Vals zs ws → Vals (gV vs zs) (g us ws))
    (S : FnScope N ps (defScope st)) (len : ∀ vs H Q E, sp vs H Q E → vs.length = ps.length)
    (body : ∀ (f : Addr) (cdv : Value) (A : Around) (outer : List Env) (s : Shared) (H : Hp) (vs : List V) (Q : VK) (E : XK), Room k (A.deeper (envOfC x (defScope st) s.heap.objs.size f cdv)) → sp vs H Q E →
      ∃ t, PSs (cxOf CX P w K mg base N x (defScope st) f cdv A outer s H E).nox (defBody st) t ∧ t { nx := fun _ H' => Q .non H', rt := Q } (start N vs) H) :
    CalK P w K mg base CX (k + 1) x ks ps gV sp := by
  obtain ⟨e, fd, F⟩ := D
  have F2 := F
  obtain ⟨oc, od, dV, kV, doc, pm, an, cdv, ct, osl, rfl, lk, hcd, hD, hK⟩ := F2.ex
  refine ⟨_, _, g, e, F.kp, ⟨fun s us ws _ l => ?_, rel⟩, FunD.ok F S len (fun cdv A outer s H vs Q E hr h => let ⟨t, a, b⟩ := body _ cdv A outer s H vs Q E hr h; ⟨t, a.nox, b⟩)⟩
  rcases hD with ⟨_, rfl⟩ | ⟨z, _⟩
  · exact .of_eq (hb kV doc pm an cdv ct us ws l)
  · exact absurd rfl z
end
/-! values by their types -/
inductive TyN (K : PySem.W.Frag) (H : Hp) : V → String → Prop where
  | non : TyN K H .non "NoneType"
  | bl (b : Bool) : TyN K H (.bl b) "bool"
  | int (i : Int) : TyN K H (.int i) "int"
  | str (x : Str) : TyN K H (.str x) "str"
  | lst {a : Addr} {xs : List V} (h : SqL K H a xs) : TyN K H (.ref a) "list"
  | tup {a : Addr} {xs : List V} (h : SqT K H a xs) : TyN K H (.ref a) "tuple"
  | dct {a : Addr} {kvs : List (Key × V)} (h : H a = some (.dK kvs)) : TyN K H (.ref a) "dict"
theorem TyN.x {K : PySem.W.Frag} {H : Hp} {v : V} {n : String} (h : TyN K H v n) : TyX K H v (.type n) := by
  cases h with
  | non => exact .base .non
  | bl b => exact .base (.bl b)
  | int i => exact .base (.int i)
  | str x => exact .base (.str x)
  | lst h =>
    rcases h with (h | ⟨o, h⟩) | ⟨o, its, n, h, c, _⟩
    · exact .base (.lst h)
    · exact .base (.frz h)
    · exact .kList h c
  | tup h =>
    rcases h with (h | ⟨o, h⟩) | ⟨o, its, n, h, c, _⟩
    · exact .base (.tup h)
    · exact .fTuple h
    · exact .kTuple h c
  | dct h => exact .base (.dK h)
theorem TyN.kit {K : PySem.W.Frag} {H : Hp} {v : V} {n m : String} (h : TyN K H v n) (hm : m = "int" ∨ m = "bool" ∨ m = "str" ∨ m = "list" ∨ m = "tuple") :
    PySem.W.kitOne K (.type n) (.type m) = some (decide (n = m ∨ n = "bool" ∧ m = "int")) := by
  cases h <;> (rcases hm with rfl | rfl | rfl | rfl | rfl) <;> exact kit_ty (by decide +kernel)
theorem same_upd {H : Hp} {p : Addr} {o : HO} (h : H p = none) : Same H (upd H p o) := fun b x e => by
  rw [upd_ne (ne_of_none e h)]
  exact e
end SB
namespace SB
open PySem PySem.Spec PyProof.Rows L2 Evl
/-! shapes, frames: the mathematics -/
inductive Pa where
  | no | ev | od
def Pa.s : Pa → Str
  | .no => "none"
  | .ev => "even"
  | .od => "odd"
def bits (b : Nat) (x : Int) : List Int := (List.range b).map fun i => x / 2 ^ i % 2
def parL (b : Nat) (p : Pa) (x : Int) : List Int := match p with
  | .no => []
  | .ev => [(bits b x).sum % 2]
  | .od => [1 - (bits b x).sum % 2]
def frm (b : Nat) (p : Pa) (s : Nat) (x : Int) : List Int := 0 :: (bits b x ++ (parL b p x ++ List.replicate s 1))
def frms (b : Nat) (p : Pa) (s : Nat) (ns : List Int) : List Int := (ns.map (frm b p s)).flatten
theorem bits_len (b : Nat) (x : Int) : (bits b x).length = b := by simp [bits]
theorem bits_succ (b : Nat) (x : Int) : bits (b + 1) x = bits b x ++ [x / 2 ^ b % 2] := by
  simp [bits, List.range_succ]
theorem parL_len (b : Nat) (p : Pa) (x : Int) : (parL b p x).length ≤ 1 := by cases p <;> simp [parL]
theorem frm_len (b : Nat) (p : Pa) (s : Nat) (x : Int) : (frm b p s x).length = 1 + b + (parL b p x).length + s := by
  simp [frm, bits_len]; omega
theorem frm_le (b : Nat) (p : Pa) (s : Nat) (x : Int) : (frm b p s x).length ≤ 2 + b + s := by
  have := frm_len b p s x
  have := parL_len b p x
  omega
theorem bits_01 {b : Nat} {x y : Int} (h : y ∈ bits b x) : y = 0 ∨ y = 1 := by
  unfold bits at h
  obtain ⟨i, _, rfl⟩ := List.mem_map.mp h
  omega
theorem frm_01 {b : Nat} {p : Pa} {s : Nat} {x y : Int} (h : y ∈ frm b p s x) : y = 0 ∨ y = 1 := by
  unfold frm at h
  rcases List.mem_cons.mp h with h | h
  · exact .inl h
  rcases List.mem_append.mp h with h | h
  · exact bits_01 h
  rcases List.mem_append.mp h with h | h
  · cases p with
    | no => cases h
    | ev =>
      have := List.mem_singleton.mp h
      omega
    | od =>
      have := List.mem_singleton.mp h
      omega
  · exact .inr (List.eq_of_mem_replicate h)
theorem frms_01 {b : Nat} {p : Pa} {s : Nat} {ns : List Int} {y : Int} (h : y ∈ frms b p s ns) : y = 0 ∨ y = 1 := by
  unfold frms at h
  obtain ⟨l, hl, hy⟩ := List.mem_flatten.mp h
  obtain ⟨x, _, rfl⟩ := List.mem_map.mp hl
  exact frm_01 hy
theorem frms_snoc (b : Nat) (p : Pa) (s : Nat) (ns : List Int) (n : Int) : frms b p s (ns ++ [n]) = frms b p s ns ++ frm b p s n := by simp [frms]
theorem frms_le (b : Nat) (p : Pa) (s : Nat) : ∀ ns : List Int, (frms b p s ns).length ≤ ns.length * (2 + b + s)
  | [] => by simp [frms]
  | n :: ns => by
    have h := frms_le b p s ns
    have h2 := frm_le b p s n
    have e : frms b p s (n :: ns) = frm b p s n ++ frms b p s ns := by simp [frms]
    rw [e, List.length_append, List.length_cons, Nat.add_mul]
    omega
theorem div_step (x : Int) (i : Nat) : x / 2 ^ i / 2 = x / 2 ^ (i + 1) := by
  rw [Int.pow_succ, Int.ediv_ediv_of_nonneg (Int.pow_nonneg (by decide))]
/-! data -/
def dI (ns : List Int) : List PyData := ns.map PyData.int
theorem dp_ints {K : PySem.W.Frag} {H : Hp} : ∀ ns : List Int, DpAll K H (ns.map V.int) (dI ns)
  | [] => .nil
  | n :: ns => .cons (.int n) (dp_ints ns)
theorem int_log {i : Int} {k : Nat} (hk : 0 < k) (h : i.natAbs < 2 ^ k) : i.natAbs.log2 < k := PySem.Flt.log2_lt_of hk h
/-- a list of small ints can be shown -/
theorem show_ints (ns : List Int) (h : ∀ n ∈ ns, n.natAbs < 2 ^ 200) : PyData.showableAll (dI ns) = true ∧ PyData.hasDictAll (dI ns) = false ∧ PyData.depthAll (dI ns) = 0 ∧
    ((PyData.shownAll (dI ns)).map (·.length)).sum ≤ 201 * ns.length ∧ (PyData.shownAll (dI ns)).length = ns.length := by
  induction ns with
  | nil => simp [dI, PyData.showableAll, PyData.hasDictAll, PyData.depthAll, PyData.shownAll]
  | cons n ns ih =>
    obtain ⟨h1, h2, h3, h4, h5⟩ := ih fun m hm => h m (List.mem_cons_of_mem _ hm)
    have hn := h n (List.mem_cons_self ..)
    have hl : n.natAbs.log2 < 200 := int_log (by decide) hn
    have ht : (Str.ofString (toString n)).length ≤ 201 := by
      rw [PySem.ofString_length]
      exact int_text_length_le (k := 200) (by decide) hl
    have e : dI (n :: ns) = PyData.int n :: dI ns := rfl
    rw [e]
    refine ⟨?_, ?_, ?_, ?_, ?_⟩
    · simp only [PyData.showableAll, PyData.showable, h1, Bool.and_true, decide_eq_true_eq]
      omega
    · simp only [PyData.hasDictAll, PyData.hasDict, h2, Bool.false_or]
    · simp only [PyData.depthAll, PyData.depth, h3]
      rfl
    · simp only [PyData.shownAll, PyData.shown, List.map_cons, List.sum_cons, List.length_cons]
      omega
    · simp only [PyData.shownAll, List.length_cons, h5]
theorem show_list {ns : List Int} (h : ∀ n ∈ ns, n.natAbs < 2 ^ 200) (hl : ns.length ≤ 10000) :
    (PyData.list (dI ns)).showable = true ∧ (PyData.list (dI ns)).hasDict = false ∧ (PyData.list (dI ns)).depth ≤ 60 ∧ (PyData.list (dI ns)).shown.length ≤ sizeLine := by
  obtain ⟨h1, h2, h3, h4, h5⟩ := show_ints ns h
  refine ⟨?_, ?_, ?_, ?_⟩
  · simp only [PyData.showable, h1]
  · simp only [PyData.hasDict, h2]
  · simp only [PyData.depth, h3]
    omega
  · simp only [PyData.shown]
    have := listText_len_le (PyData.shownAll (dI ns))
    rw [sizeLine_eq]
    omega
/-- the reading of repr(xs), xs a list of ints -/
theorem rp_list {K : PySem.W.Frag} {H : Hp} {a : Addr} {ns : List Int} {Q : VK} (hs : SqL K H a (ns.map V.int)) (h : ∀ n ∈ ns, n.natAbs < 2 ^ 200) (hl : ns.length ≤ 10000)
    (q : Q (.str (PyData.list (dI ns)).shown) H) : rRp K [.ref a] H Q := by
  obtain ⟨h1, h2, h3, h4⟩ := show_list h hl
  exact ⟨_, _, rfl, .lst hs (dp_ints ns), h1, h2, h3, h4, q⟩
/-! heaps -/
def Kp (a : Addr) (H H' : Hp) : Prop := ∀ b o, b ≠ a → H b = some o → H' b = some o
theorem Ex.kp {a : Addr} {H H' : Hp} (e : Ex H H') : Kp a H H' := fun b o _ h => e b o h
theorem Kp.trans {a : Addr} {H H1 H2 : Hp} (x : Kp a H H1) (y : Kp a H1 H2) : Kp a H H2 := fun b o n h => y b o n (x b o n h)
theorem Kp.refl {a : Addr} {H : Hp} : Kp a H H := fun _ _ _ h => h
theorem Kp.upd {a : Addr} {H : Hp} {o : HO} : Kp a H (upd H a o) := fun b u n h => by
  rw [upd_ne n]
  exact h
theorem Kp.tup {K : PySem.W.Frag} {a t : Addr} {H H' : Hp} {xs ys : List V} (k : Kp a H H') (ha : H a = some (.lst ys)) (h : SqT K H t xs) : SqT K H' t xs := by
  rcases h with (h | ⟨o, h⟩) | h
  · exact .inl (.inl (k t _ (fun e => by rw [e, ha] at h; cases h) h))
  · exact .inl (.inr ⟨o, k t _ (fun e => by rw [e, ha] at h; cases h) h⟩)
  · exact .inr h
theorem Kp.free {a p : Addr} {H H' : Hp} (k : Kp a H H') (hp : H' p = none) (ha : p ≠ a) : H p = none := by
  cases h : H p with
  | none => rfl
  | some o =>
    rw [k p o ha h] at hp
    cases hp
/-! shapes as values -/
def IsSh (K : PySem.W.Frag) (H : Hp) (v : V) (b : Nat) (p : Pa) (s : Nat) : Prop :=
  ∃ t, v = .ref t ∧ SqT K H t [.int b, .str p.s, .int s] ∧ 1 ≤ b ∧ b ≤ 9 ∧ 1 ≤ s ∧ s ≤ 2
theorem IsSh.ex {K : PySem.W.Frag} {H H' : Hp} {v : V} {b : Nat} {p : Pa} {s : Nat} (e : Ex H H') (h : IsSh K H v b p s) : IsSh K H' v b p s := by
  obtain ⟨t, e1, e2, r⟩ := h
  exact ⟨t, e1, ex_t e e2, r⟩
theorem IsSh.kp {K : PySem.W.Frag} {H H' : Hp} {v : V} {b : Nat} {p : Pa} {s : Nat} {a : Addr} {ys : List V} (e : Kp a H H') (ha : H a = some (.lst ys)) (h : IsSh K H v b p s) : IsSh K H' v b p s := by
  obtain ⟨t, e1, e2, r⟩ := h
  exact ⟨t, e1, e.tup ha e2, r⟩
theorem no_is (p : Pa) : decide (V.str p.s = V.str "none") = match p with | .no => true | _ => false := by cases p <;> decide +kernel
theorem ev_is' (p : Pa) : decide (V.str p.s = V.str "even") = match p with | .ev => true | _ => false := by cases p <;> decide +kernel
theorem od_is (p : Pa) : decide (V.str p.s = V.str "odd") = match p with | .od => true | _ => false := by cases p <;> decide +kernel
theorem pa_in (p : Pa) : inV (.str p.s) [.str "none", .str "even", .str "odd"] = true := by cases p <;> decide +kernel
theorem atI_i {xs : List V} {v : V} (i : Int) (j : Nat) (e : i = (j : Int)) (h : xs[j]? = some v) : atI xs i = some v := by
  rw [e]
  exact atI_nat h
/-! isinstance of the kinds -/
section
variable {K : PySem.W.Frag}
theorem ki {n m : String} {b : Bool} (h : kitB n m = some b := by decide +kernel) : PySem.W.kitOne K (.type n) (.type m) = some b := kit_ty h
end
/-! a draw's source -/
def Src (H : Hp) (a : Addr) (n : Nat) : Prop := ∃ l sd c : Int, H a = some (.lst [.int l, .int sd, .int c]) ∧ 0 ≤ sd ∧ sd < 4611686018427387904 ∧ 0 ≤ c ∧ c ≤ n
theorem Src.mono {H : Hp} {a : Addr} {n m : Nat} (h : Src H a n) (e : n ≤ m) : Src H a m := by
  obtain ⟨l, sd, c, h1, h2, h3, h4, h5⟩ := h
  exact ⟨l, sd, c, h1, h2, h3, h4, by omega⟩
theorem Src.ex {H H' : Hp} {a : Addr} {n : Nat} (h : Src H a n) (e : Ex H H') : Src H' a n := by
  obtain ⟨l, sd, c, h1, h2⟩ := h
  exact ⟨l, sd, c, e _ _ h1, h2⟩
theorem cpow3 {i : Int} (h0 : 0 ≤ i) (h : i < 2 ^ 250) : CPowB i 3 := by
  have h1 : i.natAbs < 2 ^ 250 := by
    have e : (2 : Int) ^ 250 = ((2 ^ 250 : Nat) : Int) := by norm_cast
    omega
  have h2 := int_log (by decide) h1
  exact ⟨by decide, by omega⟩
theorem cpow10 (k : Int) (h0 : 0 ≤ k) (h : k ≤ 1000) : CPowB 10 k := by
  refine ⟨h0, ?_⟩
  have e : ((10 : Int).natAbs.log2 : Int) + 1 = 4 := by decide
  rw [e]
  omega
end SB
namespace SB
open PySem PySem.Spec PyProof.Rows L2 Evl
/-! lists that are made of lists -/
def EvX (te : TE) (σ : L2.St) (H : Hp) (xs : List V) : Prop := ∀ H1, Ex H H1 → ∀ Q : VK, (∀ p H2, Ex H1 H2 → H2 p = some (.lst xs) → Q (.ref p) H2) → te σ H1 Q
section
variable {σ : L2.St} {H : Hp} {ta tb te : TE} {xs ys : List V} {K : PySem.W.Frag}
theorem evx_var {i : Nat} {a : Addr} (h : σ[i]? = some (some (.ref a))) (ha : H a = some (.lst xs)) : EvX (tVar i) σ H xs := fun H1 e Q q => ⟨_, h, q a H1 (Ex.refl H1) (e a _ ha)⟩
theorem evx_new (h : EvL te σ H xs) : EvX te σ H xs := fun H1 e Q q => h H1 e Q fun p H2 _ e2 h2 => q p H2 e2 h2
theorem el_cat (ha : EvX ta σ H xs) (hb : EvX tb σ H ys) (hl : xs.length + ys.length ≤ 100000) : EvL (tOp rCat ta tb) σ H (xs ++ ys) := fun H1 e Q q =>
  ha H1 e _ fun p H2 e2 h2 => hb H2 (e.trans e2) _ fun r H3 e3 h3 => ⟨p, r, xs, ys, rfl, rfl, e3 _ _ h2, h3, sz_of hl, fun l nl =>
    q l _ (fresh_back (e2.trans e3) nl) ((e2.trans e3).trans (Ex.new nl)) upd_same⟩
theorem el_rep {k : Int} (ha : EvX ta σ H xs) (hb : Ev tb σ H (.int k)) (h0 : -(2 ^ 63) ≤ k) (h1 : k < 2 ^ 63) (hl : xs.length * k.toNat ≤ 100000) : EvL (tOp rRep ta tb) σ H (List.replicate k.toNat xs).flatten := fun H1 e Q q =>
  ha H1 e _ fun p H2 e2 h2 => hb H2 (e.trans e2) _ fun H3 e3 => ⟨p, k, xs, rfl, rfl, e3 _ _ h2, h0, h1, sz_of hl, fun l nl =>
    q l _ (fresh_back (e2.trans e3) nl) ((e2.trans e3).trans (Ex.new nl)) upd_same⟩
theorem el_call {sp : Sp} {E : XK} {t : TA} {vs : List V} (ha : EvA t σ H vs) (h : ∀ H1, Ex H H1 → ∀ Q : VK, RetL xs H1 Q → sp (vs ++ []) H1 Q E) : EvL (tCall sp [] E t) σ H xs := fun H1 e Q q =>
  ha H1 e _ fun H2 e2 => h H2 (e.trans e2) Q fun p H3 n e3 h3 => q p H3 (fresh_back e2 n) (e2.trans e3) h3
theorem ev_call {sp : Sp} {E : XK} {t : TA} {vs : List V} {v : V} (ha : EvA t σ H vs) (h : ∀ H1, Ex H H1 → ∀ Q : VK, RetV v H1 Q → sp (vs ++ []) H1 Q E) : Ev (tCall sp [] E t) σ H v := fun H1 e Q q =>
  ha H1 e _ fun H2 e2 => h H2 (e.trans e2) Q fun H3 e3 => q H3 (e2.trans e3)
theorem ev_ixT {t : Addr} {i : Int} {v : V} (ha : Ev ta σ H (.ref t)) (hb : Ev tb σ H (.int i)) (h : SqT K H t xs) (hi : atI xs i = some v) : Ev (tOp (rIxT K) ta tb) σ H v := ev_op ha hb (rv_ixT h hi)
end
theorem rep_one (k : Nat) (i : Int) : (List.replicate (k : Int).toNat [V.int i]).flatten = (List.replicate k i).map V.int := by
  rw [Int.toNat_natCast, List.map_replicate]
  simp
theorem ints_at {ns : List Int} {i : Nat} {y : V} (hi : (ns.map V.int)[i]? = some y) : ∃ z, ns[i]? = some z ∧ y = V.int z := by
  rw [List.getElem?_map] at hi
  cases e : ns[i]? with
  | none =>
    rw [e] at hi
    cases hi
  | some z =>
    rw [e] at hi
    exact ⟨z, rfl, (Option.some.inj hi).symm⟩
theorem Kp.new {a : Addr} {H H1 H2 : Hp} (e : Ex H H1) (k : Kp a H1 H2) (h : H a = none) : Ex H H2 := fun b o hb =>
  k b o (ne_of_none hb h) (e b o hb)
theorem Src.at {H : Hp} {a : Addr} {n : Nat} (h : Src H a n) : ∃ ys, H a = some (.lst ys) := by
  obtain ⟨l, sd, c, e, _⟩ := h
  exact ⟨_, e⟩
theorem Src.ne {H : Hp} {a p : Addr} {n : Nat} (h : Src H a n) (hp : H p = none) : p ≠ a := by
  obtain ⟨ys, e⟩ := h.at
  exact fun z => by rw [z, e] at hp; cases hp
end SB
namespace SB
open PySem PySem.Spec PyProof.Rows L2 Evl
theorem seq_any {te : TE} {i : Nat} {u : TS} {D : L2.Ends} {σ : L2.St} {H : Hp} {P : V → Prop} (h : ∀ Q' : VK, (∀ v, P v → Q' v H) → te σ H Q') (k : ∀ v, P v → u D (σ.set i (some v)) H) :
    tSeq (tAsg te (gName i)) u D σ H := h _ k
end SB
namespace SB
open PySem PySem.Spec PyProof.Rows L2 Evl
theorem Kp.mut {a p : Addr} {H H' : Hp} {o : HO} (k : Kp a H H') (h : H p = none) : Kp a H (L2.upd H' p o) := fun b u n hb => by
  rw [upd_ne (ne_of_none hb h)]
  exact k b u n hb
theorem Src.upd {H : Hp} {a p : Addr} {n : Nat} {o : HO} (h : Src H a n) (ne : p ≠ a) : Src (L2.upd H p o) a n := by
  obtain ⟨l, sd, c, e, r⟩ := h
  refine ⟨l, sd, c, ?_, r⟩
  rw [upd_ne (Ne.symm ne)]
  exact e
end SB
namespace SB
open PySem PySem.Spec PyProof.Rows L2 Evl
/-- a loop over enumerate of a list -/
theorem for_enum {K : PySem.W.Frag} {a : Addr} {xs : List V} {g : TG} {tb : TS} {D : L2.Ends} {σ : L2.St} {H : Hp} (Pv : Nat → L2.St → Hp → Prop) (h0 : Pv 0 σ H)
    (hq : ∀ i σ H, i ≤ xs.length → Pv i σ H → SqL K H a xs)
    (hs : ∀ (i : Nat) (x : V) (T : Addr) (σ : L2.St) (H : Hp), xs[i]? = some x → Pv i σ H → H T = none →
      g (.ref T) σ (L2.upd H T (.tup [.int (i : Nat), x])) fun σ2 H2 => tb { D with nx := Pv (i + 1), ct := Pv (i + 1), bk := D.nx } σ2 H2)
    (hd : ∀ σ H, Pv xs.length σ H → D.nx σ H) :
    ∃ W : Nat → Nat → L2.St → Hp → Prop, (∃ m, W 0 m σ H) ∧ ∀ i m σ H, W i m σ H →
      ((Ite K a).stop i H ∧ D.nx σ H) ∨ ((Ite K a).go i H ∧ ∃ N : L2.St → Hp → Prop, (∀ σ' H', N σ' H' → ∃ m', m' < m ∧ W (i + 1) m' σ' H') ∧
        ∀ v H', (Ite K a).yld i H v H' → g v σ H' fun σ2 H2 => tb { D with nx := N, ct := N, bk := D.nx } σ2 H2) := by
  refine ⟨fun i m σ H => m + i = xs.length ∧ Pv i σ H, ⟨xs.length, by omega, h0⟩, ?_⟩
  rintro i m σ H ⟨e, pv⟩
  have sq := hq i σ H (by omega) pv
  by_cases lt : i < xs.length
  · have hx : xs[i]? = some xs[i] := List.getElem?_eq_getElem lt
    refine .inr ⟨⟨xs, xs[i], sq, hx⟩, Pv (i + 1), fun σ' H' p' => ⟨m - 1, by omega, by omega, p'⟩, ?_⟩
    intro v H' y
    obtain ⟨T, x, rfl, nT, rfl, fx⟩ := y
    exact hs i x T σ H (fx xs sq) pv nT
  · obtain rfl : i = xs.length := by omega
    exact .inl ⟨⟨xs, sq, Nat.le_refl _⟩, hd σ H pv⟩
/-! keyword calls: the values in the parameters' order -/
def gPm {α : Type} (perm : List Nat) (us ws : List α) : List α := if us.length = 0 ∧ ws.length = perm.length then perm.filterMap fun i => ws[i]? else []
theorem rel_pick {zs : List V} {ws : List Value} (r : Vals zs ws) : ∀ perm : List Nat, Vals (perm.filterMap fun i => zs[i]?) (perm.filterMap fun i => ws[i]?)
  | [] => .nil
  | i :: perm => by
    have ih := rel_pick r perm
    have hl := r.length
    rw [List.filterMap_cons, List.filterMap_cons]
    cases e : zs[i]? with
    | none =>
      have e2 : ws[i]? = none := by
        rw [List.getElem?_eq_none_iff] at e ⊢
        omega
      rw [e2]
      exact ih
    | some v =>
      obtain ⟨u, hu, rv⟩ := r.get e
      rw [hu]
      exact .cons rv ih
theorem rel_gPm (perm : List Nat) {vs : List V} {us : List Value} {zs : List V} {ws : List Value} (r : Vals vs us) (rz : Vals zs ws) : Vals (gPm perm vs zs) (gPm perm us ws) := by
  unfold gPm
  rw [r.length, rz.length]
  split
  · exact rel_pick rz perm
  · exact .nil
/-! where a line of levels changes: the level ahead of all is 1, the i-th level begins at T i -/
def pvl (ls : List Int) : Nat → Int
  | 0 => 1
  | i + 1 => ls.getD i 1
def ch (ls : List Int) (T : Nat → Int) : Nat → List Int
  | 0 => []
  | i + 1 => ch ls T i ++ (if ls.getD i 1 = pvl ls i then [] else [T i])
theorem ch_len (ls : List Int) (T : Nat → Int) : ∀ n, (ch ls T n).length ≤ n
  | 0 => Nat.le_refl _
  | n + 1 => by
    have := ch_len ls T n
    unfold ch
    rw [List.length_append]
    split
    · simp
      omega
    · simp
      omega
theorem ch_congr {ls : List Int} {T U : Nat → Int} : ∀ {n : Nat}, (∀ i, i < n → T i = U i) → ch ls T n = ch ls U n
  | 0, _ => rfl
  | n + 1, h => by
    unfold ch
    rw [ch_congr fun i hi => h i (by omega), h n (by omega)]
theorem ch_mem {ls : List Int} {T : Nat → Int} {y : Int} : ∀ {n : Nat}, y ∈ ch ls T n → ∃ i, i < n ∧ y = T i
  | 0, h => by cases h
  | n + 1, h => by
    unfold ch at h
    rcases List.mem_append.mp h with h | h
    · obtain ⟨i, hi, e⟩ := ch_mem h
      exact ⟨i, by omega, e⟩
    · split at h
      · cases h
      · exact ⟨n, by omega, List.mem_singleton.mp h⟩
/-- a line behind another one that ends at 1 -/
theorem ch_app {A B : List Int} {T : Nat → Int} (h1 : pvl A A.length = 1) : ∀ k, k ≤ B.length → ch (A ++ B) T (A.length + k) = ch A T A.length ++ ch B (fun i => T (A.length + i)) k
  | 0, _ => by
    have : ∀ n, n ≤ A.length → ch (A ++ B) T n = ch A T n := by
      intro n
      induction n with
      | zero => intro _; rfl
      | succ n ih =>
        intro hn
        unfold ch
        rw [ih (by omega)]
        have e1 : (A ++ B).getD n 1 = A.getD n 1 := by
          rw [List.getD_eq_getElem?_getD, List.getD_eq_getElem?_getD, List.getElem?_append_left (by omega)]
        have e2 : pvl (A ++ B) n = pvl A n := by
          cases n with
          | zero => rfl
          | succ m =>
            show (A ++ B).getD m 1 = A.getD m 1
            rw [List.getD_eq_getElem?_getD, List.getD_eq_getElem?_getD, List.getElem?_append_left (by omega)]
        rw [e1, e2]
    rw [Nat.add_zero, this A.length (Nat.le_refl _)]
    simp [ch]
  | k + 1, hk => by
    have ih := ch_app (A := A) (B := B) (T := T) h1 k (by omega)
    have e1 : (A ++ B).getD (A.length + k) 1 = B.getD k 1 := by
      rw [List.getD_eq_getElem?_getD, List.getD_eq_getElem?_getD, List.getElem?_append_right (by omega), Nat.add_sub_cancel_left]
    have e2 : pvl (A ++ B) (A.length + k) = pvl B k := by
      cases k with
      | zero =>
        rw [Nat.add_zero]
        show _ = 1
        rw [← h1]
        generalize hA : A.length = n
        cases n with
        | zero => rfl
        | succ m =>
          show (A ++ B).getD m 1 = A.getD m 1
          have hm : m < A.length := by omega
          rw [List.getD_eq_getElem?_getD, List.getD_eq_getElem?_getD, List.getElem?_append_left hm]
      | succ m =>
        show (A ++ B).getD (A.length + m) 1 = B.getD m 1
        rw [List.getD_eq_getElem?_getD, List.getD_eq_getElem?_getD, List.getElem?_append_right (by omega), Nat.add_sub_cancel_left]
    show ch (A ++ B) T (A.length + k) ++ (if (A ++ B).getD (A.length + k) 1 = pvl (A ++ B) (A.length + k) then [] else [T (A.length + k)]) = _
    rw [ih, e1, e2, List.append_assoc]
    rfl
def plen : Pa → Nat
  | .no => 0
  | _ => 1
def sz (b : Nat) (p : Pa) (s : Nat) : Nat := 1 + b + plen p + s
theorem frm_sz (b : Nat) (p : Pa) (s : Nat) (x : Int) : (frm b p s x).length = sz b p s := by
  rw [frm_len]
  cases p <;> rfl
/-- a frame ends at 1 -/
theorem frm_end {b : Nat} {p : Pa} {s : Nat} (x : Int) (hs : 1 ≤ s) : pvl (frm b p s x) (frm b p s x).length = 1 := by
  have hl := frm_len b p s x
  generalize hn : (frm b p s x).length = n at hl
  cases n with
  | zero => omega
  | succ m =>
    show (frm b p s x).getD m 1 = 1
    rw [List.getD_eq_getElem?_getD]
    unfold frm
    have hp : (parL b p x).length ≤ 1 := parL_len b p x
    rw [show m = ((bits b x).length + (parL b p x).length + (s - 1)) + 1 by rw [bits_len]; omega, List.getElem?_cons_succ, ← List.append_assoc, List.getElem?_append_right (by rw [List.length_append]; omega), List.length_append, Nat.add_sub_cancel_left,
      List.getElem?_replicate]
    rw [if_pos (by omega)]
    rfl
/-- a text's levels are sent from the ticks of its sending -/
def sig (b : Nat) (p : Pa) (s : Nat) (ln : Int) (snd : List (Int × Int)) : List Int := (snd.map fun q => ch (frm b p s q.2) (fun i => q.1 + (i : Int) * ln) (sz b p s)).flatten
def tks (n : Nat) (ln : Int) (snd : List (Int × Int)) : List Int := (snd.map fun q => (List.range n).map fun i : Nat => q.1 + (i : Int) * ln).flatten
theorem tks_len (n : Nat) (ln : Int) : ∀ snd : List (Int × Int), (tks n ln snd).length = snd.length * n
  | [] => by simp [tks]
  | q :: r => by
    have ih := tks_len n ln r
    have e : tks n ln (q :: r) = ((List.range n).map fun i : Nat => q.1 + (i : Int) * ln) ++ tks n ln r := by simp [tks]
    rw [e, List.length_append, ih, List.length_map, List.length_range, List.length_cons, Nat.add_mul]
    omega
theorem frms_sz (b : Nat) (p : Pa) (s : Nat) : ∀ ns : List Int, (frms b p s ns).length = ns.length * sz b p s
  | [] => by simp [frms]
  | n :: ns => by
    have ih := frms_sz b p s ns
    have e : frms b p s (n :: ns) = frm b p s n ++ frms b p s ns := by simp [frms]
    rw [e, List.length_append, ih, frm_sz, List.length_cons, Nat.add_mul]
    omega
theorem ch_sig {b : Nat} {p : Pa} {s : Nat} {ln : Int} (hs : 1 ≤ s) : ∀ snd : List (Int × Int), ch (frms b p s (snd.map (·.2))) (fun i => (tks (sz b p s) ln snd).getD i 0) (frms b p s (snd.map (·.2))).length = sig b p s ln snd
  | [] => rfl
  | q :: r => by
    have ih := ch_sig (b := b) (p := p) (s := s) (ln := ln) hs r
    have e1 : frms b p s ((q :: r).map (·.2)) = frm b p s q.2 ++ frms b p s (r.map (·.2)) := by simp [frms]
    have e2 : tks (sz b p s) ln (q :: r) = ((List.range (sz b p s)).map fun i : Nat => q.1 + (i : Int) * ln) ++ tks (sz b p s) ln r := by simp [tks]
    have e3 : sig b p s ln (q :: r) = ch (frm b p s q.2) (fun i => q.1 + (i : Int) * ln) (sz b p s) ++ sig b p s ln r := by simp [sig]
    rw [e1, List.length_append, ch_app (frm_end q.2 hs) _ (Nat.le_refl _), e3, ← ih, frm_sz]
    congr 1
    · refine ch_congr fun i hi => ?_
      show (tks (sz b p s) ln (q :: r)).getD i 0 = _
      rw [e2, List.getD_eq_getElem?_getD, List.getElem?_append_left (by simpa using hi), List.getElem?_map, List.getElem?_range hi]
      rfl
    · refine ch_congr fun i hi => ?_
      show (tks (sz b p s) ln (q :: r)).getD (sz b p s + i) 0 = _
      rw [e2, List.getD_eq_getElem?_getD, List.getElem?_append_right (by simp), List.length_map, List.length_range, Nat.add_sub_cancel_left, ← List.getD_eq_getElem?_getD]
/-! lists of pairs -/
def Snd (K : PySem.W.Frag) (H : Hp) (xs : List V) (snd : List (Int × Int)) : Prop := xs.length = snd.length ∧ ∀ (k : Nat) (x : V) (q : Int × Int), xs[k]? = some x → snd[k]? = some q → ∃ t, x = .ref t ∧ SqT K H t [.int q.1, .int q.2]
theorem Snd.ex {K : PySem.W.Frag} {H H' : Hp} {xs : List V} {snd : List (Int × Int)} (e : Ex H H') (h : Snd K H xs snd) : Snd K H' xs snd :=
  ⟨h.1, fun k x q h1 h2 => let ⟨t, a, b⟩ := h.2 k x q h1 h2; ⟨t, a, ex_t e b⟩⟩
theorem Snd.kp {K : PySem.W.Frag} {H H' : Hp} {a : Addr} {ys : List V} {xs : List V} {snd : List (Int × Int)} (e : Kp a H H') (ha : H a = some (.lst ys)) (h : Snd K H xs snd) : Snd K H' xs snd :=
  ⟨h.1, fun k x q h1 h2 => let ⟨t, u, b⟩ := h.2 k x q h1 h2; ⟨t, u, e.tup ha b⟩⟩
theorem Snd.nil {K : PySem.W.Frag} {H : Hp} : Snd K H [] [] := ⟨rfl, fun k x q h _ => by simp at h⟩
theorem Snd.snoc {K : PySem.W.Frag} {H : Hp} {xs : List V} {snd : List (Int × Int)} {t : Addr} {q : Int × Int} (h : Snd K H xs snd) (ht : SqT K H t [.int q.1, .int q.2]) : Snd K H (xs ++ [.ref t]) (snd ++ [q]) := by
  refine ⟨by rw [List.length_append, List.length_append, h.1]; rfl, fun k x q' h1 h2 => ?_⟩
  by_cases hk : k < xs.length
  · rw [List.getElem?_append_left hk] at h1
    rw [List.getElem?_append_left (by rw [← h.1]; exact hk)] at h2
    exact h.2 k x q' h1 h2
  · have hk2 : k = xs.length := by
      have := (List.getElem?_eq_some_iff.mp h1).1
      rw [List.length_append] at this
      simp at this
      omega
    subst hk2
    rw [List.getElem?_append_right (Nat.le_refl _), Nat.sub_self] at h1
    rw [h.1, List.getElem?_append_right (Nat.le_refl _), Nat.sub_self] at h2
    obtain rfl : V.ref t = x := Option.some.inj h1
    obtain rfl : q = q' := Option.some.inj h2
    exact ⟨t, rfl, ht⟩
def dP (snd : List (Int × Int)) : List PyData := snd.map fun q => PyData.tuple [.int q.1, .int q.2]
theorem Snd.dp {K : PySem.W.Frag} {H : Hp} : ∀ {xs : List V} {snd : List (Int × Int)}, Snd K H xs snd → DpAll K H xs (dP snd)
  | [], [], _ => .nil
  | [], q :: r, h => by have := h.1; simp at this
  | x :: xs, [], h => by have := h.1; simp at this
  | x :: xs, q :: r, h => by
    obtain ⟨t, rfl, ht⟩ := h.2 0 x q rfl rfl
    exact .cons (.tup ht (.cons (.int _) (.cons (.int _) .nil))) (Snd.dp ⟨by have := h.1; simpa using this, fun k y q' h1 h2 => h.2 (k + 1) y q' h1 h2⟩)
theorem dP_ok : ∀ snd : List (Int × Int), PyData.canLayAll0 (dP snd) = true ∧ PyData.depthAll (dP snd) ≤ 1
  | [] => ⟨rfl, Nat.zero_le _⟩
  | q :: r => by
    obtain ⟨h1, h2⟩ := dP_ok r
    have e : dP (q :: r) = PyData.tuple [.int q.1, .int q.2] :: dP r := rfl
    rw [e]
    refine ⟨?_, ?_⟩
    · simp only [PyData.canLayAll0, PyData.canLay0, h1, Bool.and_true]
    · simp only [PyData.depthAll, PyData.depth]
      omega
theorem dP_shaped (snd : List (Int × Int)) : SeqAt.shaped (.list (dP snd)) = true := by
  obtain ⟨h1, h2⟩ := dP_ok snd
  unfold SeqAt.shaped
  rw [Bool.and_eq_true]
  refine ⟨?_, decide_eq_true ?_⟩
  · simp only [PyData.canLay0, h1]
  · simp only [PyData.depth]
    omega
theorem dI_ok : ∀ ns : List Int, PyData.canLayAll0 (dI ns) = true ∧ PyData.depthAll (dI ns) ≤ 1
  | [] => ⟨rfl, Nat.zero_le _⟩
  | q :: r => by
    obtain ⟨h1, h2⟩ := dI_ok r
    have e : dI (q :: r) = PyData.int q :: dI r := rfl
    rw [e]
    refine ⟨?_, ?_⟩
    · simp only [PyData.canLayAll0, PyData.canLay0, h1, Bool.and_true]
    · simp only [PyData.depthAll, PyData.depth]
      omega
theorem dI_shaped (ns : List Int) : SeqAt.shaped (.list (dI ns)) = true := by
  obtain ⟨h1, h2⟩ := dI_ok ns
  unfold SeqAt.shaped
  rw [Bool.and_eq_true]
  refine ⟨?_, decide_eq_true ?_⟩
  · simp only [PyData.canLay0, h1]
  · simp only [PyData.depth]
    omega
theorem eqv_sh {d : PyData} (h : SeqAt.shaped d = true) : PyData.eqv d d = true := SeqAt.eqv_refl d (SeqAt.canLay_of_shaped h)
end SB
namespace SB
open PySem PySem.Spec PyProof.Rows L2 Evl
def Kp2 (a b : Addr) (H H' : Hp) : Prop := ∀ c o, c ≠ a → c ≠ b → H c = some o → H' c = some o
theorem Kp2.refl {a b : Addr} {H : Hp} : Kp2 a b H H := fun _ _ _ _ h => h
theorem Kp2.ex {a b : Addr} {H H1 H2 : Hp} (k : Kp2 a b H H1) (e : Ex H1 H2) : Kp2 a b H H2 := fun c o n1 n2 h => e c o (k c o n1 n2 h)
theorem Kp2.updA {a b : Addr} {H H1 : Hp} {o : HO} (k : Kp2 a b H H1) : Kp2 a b H (L2.upd H1 a o) := fun c u n1 n2 h => by
  rw [upd_ne n1]
  exact k c u n1 n2 h
theorem Kp2.updB {a b : Addr} {H H1 : Hp} {o : HO} (k : Kp2 a b H H1) : Kp2 a b H (L2.upd H1 b o) := fun c u n1 n2 h => by
  rw [upd_ne n2]
  exact k c u n1 n2 h
theorem Kp2.tup {K : PySem.W.Frag} {a b t : Addr} {H H' : Hp} {xs ys zs : List V} (k : Kp2 a b H H') (ha : H a = some (.lst ys)) (hb : H b = some (.lst zs)) (h : SqT K H t xs) : SqT K H' t xs := by
  rcases h with (h | ⟨o, h⟩) | h
  · exact .inl (.inl (k t _ (fun e => by rw [e, ha] at h; cases h) (fun e => by rw [e, hb] at h; cases h) h))
  · exact .inl (.inr ⟨o, k t _ (fun e => by rw [e, ha] at h; cases h) (fun e => by rw [e, hb] at h; cases h) h⟩)
  · exact .inr h
theorem Snd.kp2 {K : PySem.W.Frag} {H H' : Hp} {a b : Addr} {ys zs : List V} {xs : List V} {snd : List (Int × Int)} (e : Kp2 a b H H') (ha : H a = some (.lst ys)) (hb : H b = some (.lst zs)) (h : Snd K H xs snd) : Snd K H' xs snd :=
  ⟨h.1, fun k x q h1 h2 => let ⟨t, u, c⟩ := h.2 k x q h1 h2; ⟨t, u, e.tup ha hb c⟩⟩
theorem Kp2.kp {a b S : Addr} {H0 H H' : Hp} (k : Kp2 a b H H') (k0 : Kp S H0 H) (ha : H0 a = none) (hb : H0 b = none) : Kp S H0 H' := fun c o n h =>
  k c o (ne_of_none h ha) (ne_of_none h hb) (k0 c o n h)
theorem Src.kp2 {a b S : Addr} {n : Nat} {H H' : Hp} (h : Src H S n) (k : Kp2 a b H H') (ha : S ≠ a) (hb : S ≠ b) : Src H' S n := by
  obtain ⟨l, sd, c, e, r⟩ := h
  exact ⟨l, sd, c, k _ _ ha hb e, r⟩
theorem tks_snoc (n : Nat) (ln : Int) (snd : List (Int × Int)) (q : Int × Int) : tks n ln (snd ++ [q]) = tks n ln snd ++ (List.range n).map fun i : Nat => q.1 + (i : Int) * ln := by simp [tks]
end SB
namespace SB
open PySem PySem.Spec PyProof.Rows L2 Evl
/-- a target of several names in a list comprehension: its reading speaks of nothing that the block has of its own -/
theorem pg_tupK {X : Cx} {K0 : PySem.W.Frag} {n0 k : Nat} {elts : List Expr} {pos : Pos} {gs : TGs} (hK : X.K = K0) (hc : X.calm = true) (hn : (assignEach elts X.env).length = n0) (h : PGs X elts gs)
    (hst : List.findIdx? (fun x => x.fst) (assignEach elts X.env) = none := by rfl) : PG X (.Tuple elts k pos) (gTup K0 n0 gs) := by
  subst hK
  subst hn
  exact pg_tup hc h rfl hst
end SB
namespace SB
open PySem PySem.Spec PyProof.Rows L2 Evl
/-! a draw's source with a wider seed -/
def Pool (H : Hp) (a : Addr) (n : Nat) : Prop := ∃ l sd c : Int, H a = some (.lst [.int l, .int sd, .int c]) ∧ 0 ≤ sd ∧ sd < 1208925819614629174706176 ∧ 0 ≤ c ∧ c ≤ n
theorem Pool.mono {H : Hp} {a : Addr} {n m : Nat} (h : Pool H a n) (e : n ≤ m) : Pool H a m := by
  obtain ⟨l, sd, c, h1, h2, h3, h4, h5⟩ := h
  exact ⟨l, sd, c, h1, h2, h3, h4, by omega⟩
theorem Pool.ex {H H' : Hp} {a : Addr} {n : Nat} (h : Pool H a n) (e : Ex H H') : Pool H' a n := by
  obtain ⟨l, sd, c, h1, h2⟩ := h
  exact ⟨l, sd, c, e _ _ h1, h2⟩
theorem Pool.at {H : Hp} {a : Addr} {n : Nat} (h : Pool H a n) : ∃ ys, H a = some (.lst ys) := by
  obtain ⟨l, sd, c, e, _⟩ := h
  exact ⟨_, e⟩
theorem Pool.ne {H : Hp} {a p : Addr} {n : Nat} (h : Pool H a n) (hp : H p = none) : p ≠ a := by
  obtain ⟨ys, e⟩ := h.at
  exact fun z => by rw [z, e] at hp; cases hp
theorem Pool.upd {H : Hp} {a p : Addr} {n : Nat} {o : HO} (h : Pool H a n) (ne : p ≠ a) : Pool (L2.upd H p o) a n := by
  obtain ⟨l, sd, c, e, r⟩ := h
  refine ⟨l, sd, c, ?_, r⟩
  rw [upd_ne (Ne.symm ne)]
  exact e
/-! lists of related things -/
def LR {α : Type} (R : V → α → Prop) (xs : List V) (as : List α) : Prop := xs.length = as.length ∧ ∀ (k : Nat) (x : V) (a : α), xs[k]? = some x → as[k]? = some a → R x a
section
variable {α β : Type} {R S : V → α → Prop} {xs ys : List V} {as bs : List α}
theorem LR.nil : LR R [] [] := ⟨rfl, fun k x a h _ => by simp at h⟩
theorem LR.imp (h : LR R xs as) (f : ∀ x a, R x a → S x a) : LR S xs as := ⟨h.1, fun k x a h1 h2 => f x a (h.2 k x a h1 h2)⟩
theorem LR.snoc {y : V} {b : α} (h : LR R xs as) (hy : R y b) : LR R (xs ++ [y]) (as ++ [b]) := by
  refine ⟨by rw [List.length_append, List.length_append, h.1]; rfl, fun k x a h1 h2 => ?_⟩
  by_cases hk : k < xs.length
  · rw [List.getElem?_append_left hk] at h1
    rw [List.getElem?_append_left (by rw [← h.1]; exact hk)] at h2
    exact h.2 k x a h1 h2
  · have hk2 : k = xs.length := by
      have := (List.getElem?_eq_some_iff.mp h1).1
      rw [List.length_append] at this
      simp at this
      omega
    subst hk2
    rw [List.getElem?_append_right (Nat.le_refl _), Nat.sub_self] at h1
    rw [h.1, List.getElem?_append_right (Nat.le_refl _), Nat.sub_self] at h2
    obtain rfl : y = x := Option.some.inj h1
    obtain rfl : b = a := Option.some.inj h2
    exact hy
theorem LR.append (h : LR R xs as) (h' : LR R ys bs) : LR R (xs ++ ys) (as ++ bs) := by
  refine ⟨by rw [List.length_append, List.length_append, h.1, h'.1], fun k x a h1 h2 => ?_⟩
  by_cases hk : k < xs.length
  · rw [List.getElem?_append_left hk] at h1
    rw [List.getElem?_append_left (by rw [← h.1]; exact hk)] at h2
    exact h.2 k x a h1 h2
  · rw [List.getElem?_append_right (by omega)] at h1
    rw [List.getElem?_append_right (by rw [← h.1]; omega), ← h.1] at h2
    exact h'.2 _ x a h1 h2
theorem LR.get (h : LR R xs as) {k : Nat} {x : V} (hx : xs[k]? = some x) : ∃ a, as[k]? = some a ∧ R x a := by
  have hk := (List.getElem?_eq_some_iff.mp hx).1
  have e : as[k]? = some (as[k]'(by rw [← h.1]; exact hk)) := List.getElem?_eq_getElem _
  exact ⟨_, e, h.2 k x _ hx e⟩
theorem LR.get' (h : LR R xs as) {k : Nat} {a : α} (ha : as[k]? = some a) : ∃ x, xs[k]? = some x ∧ R x a := by
  have hk := (List.getElem?_eq_some_iff.mp ha).1
  have e : xs[k]? = some (xs[k]'(by rw [h.1]; exact hk)) := List.getElem?_eq_getElem _
  exact ⟨_, e, h.2 k _ a e ha⟩
end
def isI : V → Int → Prop := fun v i => v = .int i
theorem LR.ints : ∀ {xs : List V} {ns : List Int}, LR isI xs ns → xs = ns.map V.int
  | [], [], _ => rfl
  | [], _ :: _, h => by have := h.1; simp at this
  | _ :: _, [], h => by have := h.1; simp at this
  | x :: xs, n :: ns, h => by
    have h1 : x = .int n := h.2 0 x n rfl rfl
    have h2 : LR isI xs ns := ⟨by have := h.1; simpa using this, fun k y m a b => h.2 (k + 1) y m a b⟩
    rw [h1, h2.ints]
    rfl
theorem LR.of_ints (ns : List Int) : LR isI (ns.map V.int) ns := by
  refine ⟨List.length_map _, fun k x a h1 h2 => ?_⟩
  rw [List.getElem?_map, h2] at h1
  exact (Option.some.inj h1).symm
/-- what lasts while new things come and while a list is written -/
structure Lasts {α : Type} (R : Hp → V → α → Prop) : Prop where
  ex : ∀ {H H' : Hp} {v : V} {x : α}, Ex H H' → R H v x → R H' v x
  kp : ∀ {a : Addr} {H H' : Hp} {ys : List V} {v : V} {x : α}, Kp a H H' → H a = some (.lst ys) → R H v x → R H' v x
def RI : Hp → V → Int → Prop := fun _ => isI
theorem RI.lasts : Lasts RI := ⟨fun _ h => h, fun _ _ h => h⟩
/-- a tuple of whole numbers -/
def RT (K : PySem.W.Frag) : Hp → V → List Int → Prop := fun H v r => ∃ t, v = .ref t ∧ SqT K H t (r.map V.int)
theorem RT.lasts {K : PySem.W.Frag} : Lasts (RT K) := ⟨fun e ⟨t, h1, h2⟩ => ⟨t, h1, ex_t e h2⟩, fun k ha ⟨t, h1, h2⟩ => ⟨t, h1, k.tup ha h2⟩⟩
/-! comprehensions -/
theorem fm_congr {α β : Type} {f g : α → Option β} : ∀ {l : List α}, (∀ x ∈ l, f x = g x) → l.filterMap f = l.filterMap g
  | [], _ => rfl
  | x :: l, h => by
    rw [List.filterMap_cons, List.filterMap_cons, h x (List.mem_cons_self ..), fm_congr (l := l) fun y hy => h y (List.mem_cons_of_mem _ hy)]
theorem range_fm_succ {β : Type} (f : Nat → Option β) (i : Nat) : (List.range (i + 1)).filterMap f = (List.range i).filterMap f ++ (match f i with | none => [] | some b => [b]) := by
  rw [List.range_succ, List.filterMap_append]
  cases h : f i <;> simp [h]
theorem take_fm_succ {α β : Type} (f : α → Option β) {as : List α} {i : Nat} {a : α} (h : as[i]? = some a) : (as.take (i + 1)).filterMap f = (as.take i).filterMap f ++ (match f a with | none => [] | some b => [b]) := by
  rw [List.take_add_one, h, List.filterMap_append]
  cases h : f a <;> simp [h]
theorem lcR {β : Type} {R : Hp → V → β → Prop} (la : Lasts R) {lo : Int} {n : Nat} {g : TG} {tt : TT} {te : TE} {vs : List Nat} {σ : L2.St} {H : Hp} {D : Addr} {Qd : Hp → Prop} (hD : H D = none) (hn : n ≤ 100000) (f : Nat → Option β)
    (hs : ∀ (i : Nat) (H' : Hp), i < n → Ex H H' → ∀ (Kt : VK) (Kf : Hp → Prop), (∀ b y H4, f i = some b → Ex H' H4 → R H4 y b → Kt y H4) → (∀ H3, f i = none → Ex H' H3 → Kf H3) →
      g (.int (lo + i)) (wipe σ vs) H' fun σ2 H2 => wipe σ2 vs = wipe σ vs ∧ tt σ2 H2 fun b H3 => if b = true then te σ2 H3 Kt else Kf H3)
    (hd : ∀ H' xs, Ex H H' → H' D = some (.lst xs) → LR (R H') xs ((List.range n).filterMap f) → Qd H') :
    ∃ W : Nat → Nat → Hp → Prop, (∃ m, W 0 m (L2.upd H D (.lst []))) ∧ ∀ i m H, W i m H →
      ((Itr lo n).stop i H ∧ Qd H) ∨ ((Itr lo n).go i H ∧ ∃ Nx : Hp → Prop, (∀ H', Nx H' → ∃ m', m' < m ∧ W (i + 1) m' H') ∧ ∀ x H', (Itr lo n).yld i H x H' → g x (wipe σ vs) H' fun σ2 H2 => wipe σ2 vs = wipe σ vs ∧ tt σ2 H2 fun b H3 =>
        if b = true then te σ2 H3 fun y H4 => ∃ acc, H4 D = some (.lst acc) ∧ acc.length < sizeLine ∧ Nx (L2.upd H4 D (.lst (acc ++ [y]))) else Nx H3) := by
  refine lc_range (fun i H' => ∃ xs, Ex H H' ∧ H' D = some (.lst xs) ∧ LR (R H') xs ((List.range i).filterMap f)) ⟨[], Ex.new hD, upd_same, LR.nil⟩ (fun i H' hi ⟨xs, e, hL, lr⟩ => hs i H' hi e _ _ (fun b y H4 fb e4 r => ?_) fun H3 fb e3 => ?_) fun H' ⟨xs, e, h, lr⟩ => hd H' xs e h lr
  · have hL4 := e4 _ _ hL
    have hlen : xs.length ≤ i := by
      rw [lr.1]
      have := List.length_filterMap_le f (List.range i)
      rw [List.length_range] at this
      exact this
    refine ⟨xs, hL4, Nat.lt_of_le_of_lt (show xs.length ≤ 100000 by omega) (by decide), xs ++ [y], (e.trans e4).mut hD, upd_same, ?_⟩
    rw [range_fm_succ, fb]
    exact LR.snoc (lr.imp fun x a h => la.kp (a := D) Kp.upd hL4 (la.ex e4 h)) (la.kp (a := D) Kp.upd hL4 r)
  · refine ⟨xs, e.trans e3, e3 _ _ hL, ?_⟩
    rw [range_fm_succ, fb, List.append_nil]
    exact lr.imp fun x a h => la.ex e3 h
theorem lcL {α β : Type} {R0 : Hp → V → α → Prop} {R : Hp → V → β → Prop} (la0 : Lasts R0) (la : Lasts R) {K : PySem.W.Frag} {A : Addr} {xs : List V} {as : List α} {g : TG} {tt : TT} {te : TE} {vs : List Nat} {σ : L2.St} {H : Hp} {D : Addr} {Qd : Hp → Prop} (hD : H D = none)
    (sq : SqL K H A xs) (lr0 : LR (R0 H) xs as) (hn : xs.length ≤ 100000) (f : α → Option β)
    (hs : ∀ (i : Nat) (x : V) (a : α) (H' : Hp), as[i]? = some a → Ex H H' → R0 H' x a → ∀ (Kt : VK) (Kf : Hp → Prop), (∀ b y H4, f a = some b → Ex H' H4 → R H4 y b → Kt y H4) → (∀ H3, f a = none → Ex H' H3 → Kf H3) →
      g x (wipe σ vs) H' fun σ2 H2 => wipe σ2 vs = wipe σ vs ∧ tt σ2 H2 fun b H3 => if b = true then te σ2 H3 Kt else Kf H3)
    (hd : ∀ H' ys, Ex H H' → H' D = some (.lst ys) → LR (R H') ys (as.filterMap f) → Qd H') :
    ∃ W : Nat → Nat → Hp → Prop, (∃ m, W 0 m (L2.upd H D (.lst []))) ∧ ∀ i m H, W i m H →
      ((Itl K A).stop i H ∧ Qd H) ∨ ((Itl K A).go i H ∧ ∃ Nx : Hp → Prop, (∀ H', Nx H' → ∃ m', m' < m ∧ W (i + 1) m' H') ∧ ∀ x H', (Itl K A).yld i H x H' → g x (wipe σ vs) H' fun σ2 H2 => wipe σ2 vs = wipe σ vs ∧ tt σ2 H2 fun b H3 =>
        if b = true then te σ2 H3 fun y H4 => ∃ acc, H4 D = some (.lst acc) ∧ acc.length < sizeLine ∧ Nx (L2.upd H4 D (.lst (acc ++ [y]))) else Nx H3) := by
  refine lc_list (xs := xs) (fun i H' => ∃ ys, Ex H H' ∧ H' D = some (.lst ys) ∧ LR (R H') ys ((as.take i).filterMap f)) ⟨[], Ex.new hD, upd_same, LR.nil⟩ (fun i H' _ ⟨_, e, _⟩ => ex_l e sq) (fun i x H' hx ⟨ys, e, hL, lr⟩ => ?_) fun H' ⟨ys, e, h, lr⟩ => hd H' ys e h (by rw [lr0.1, List.take_length] at lr; exact lr)
  obtain ⟨a, ha, r0⟩ := lr0.get hx
  refine hs i x a H' ha e (la0.ex e r0) _ _ (fun b y H4 fb e4 r => ?_) fun H3 fb e3 => ?_
  · have hL4 := e4 _ _ hL
    have hlen : ys.length ≤ xs.length := by
      rw [lr.1, lr0.1]
      have h1 := List.length_filterMap_le f (as.take i)
      rw [List.length_take] at h1
      omega
    refine ⟨ys, hL4, Nat.lt_of_le_of_lt (show ys.length ≤ 100000 by omega) (by decide), ys ++ [y], (e.trans e4).mut hD, upd_same, ?_⟩
    rw [take_fm_succ f ha, fb]
    exact LR.snoc (lr.imp fun x a h => la.kp (a := D) Kp.upd hL4 (la.ex e4 h)) (la.kp (a := D) Kp.upd hL4 r)
  · refine ⟨ys, e.trans e3, e3 _ _ hL, ?_⟩
    rw [take_fm_succ f ha, fb, List.append_nil]
    exact lr.imp fun x a h => la.ex e3 h
/-- a list of related things, new -/
def RetR {α : Type} (R : Hp → V → α → Prop) (as : List α) (H : Hp) (Q : VK) : Prop := ∀ p H2 xs, H p = none → Ex H H2 → H2 p = some (.lst xs) → LR (R H2) xs as → Q (.ref p) H2
def RetU (xs : List V) (H : Hp) (Q : VK) : Prop := ∀ p H2, H p = none → Ex H H2 → H2 p = some (.tup xs) → Q (.ref p) H2
/-! greatest and least -/
def Mx (L : List Int) (m : Int) : Prop := m ∈ L ∧ ∀ y ∈ L, y ≤ m
def Mi (L : List Int) (m : Int) : Prop := m ∈ L ∧ ∀ y ∈ L, m ≤ y
theorem Mx.uniq {L : List Int} {m n : Int} (h : Mx L m) (h' : Mx L n) : m = n := Int.le_antisymm (h'.2 m h.1) (h.2 n h'.1)
theorem Mi.uniq {L : List Int} {m n : Int} (h : Mi L m) (h' : Mi L n) : m = n := Int.le_antisymm (h.2 n h'.1) (h'.2 m h.1)
theorem Mx.exists : ∀ {L : List Int}, L ≠ [] → ∃ m, Mx L m
  | [x], _ => ⟨x, List.mem_cons_self .., fun y hy => by rw [List.mem_singleton.mp hy]; exact Int.le_refl _⟩
  | x :: y :: r, _ => by
    obtain ⟨m, h1, h2⟩ := Mx.exists (L := y :: r) (by simp)
    by_cases h : m ≤ x
    · refine ⟨x, List.mem_cons_self .., fun z hz => ?_⟩
      rcases List.mem_cons.mp hz with rfl | hz
      · exact Int.le_refl _
      · exact Int.le_trans (h2 z hz) h
    · refine ⟨m, List.mem_cons_of_mem _ h1, fun z hz => ?_⟩
      rcases List.mem_cons.mp hz with rfl | hz
      · omega
      · exact h2 z hz
theorem Mi.exists : ∀ {L : List Int}, L ≠ [] → ∃ m, Mi L m
  | [x], _ => ⟨x, List.mem_cons_self .., fun y hy => by rw [List.mem_singleton.mp hy]; exact Int.le_refl _⟩
  | x :: y :: r, _ => by
    obtain ⟨m, h1, h2⟩ := Mi.exists (L := y :: r) (by simp)
    by_cases h : x ≤ m
    · refine ⟨x, List.mem_cons_self .., fun z hz => ?_⟩
      rcases List.mem_cons.mp hz with rfl | hz
      · exact Int.le_refl _
      · exact Int.le_trans h (h2 z hz)
    · refine ⟨m, List.mem_cons_of_mem _ h1, fun z hz => ?_⟩
      rcases List.mem_cons.mp hz with rfl | hz
      · omega
      · exact h2 z hz
/-! more data that can be shown -/
theorem rp_bl {K : PySem.W.Frag} {H : Hp} {b : Bool} {Q : VK} (q : Q (.str (PyData.bool b).shown) H) : rRp K [.bl b] H Q := by
  refine ⟨_, .bool b, rfl, .bl b, rfl, rfl, Nat.zero_le _, ?_, q⟩
  cases b <;> decide +kernel
theorem rp_non {K : PySem.W.Frag} {H : Hp} {Q : VK} (q : Q (.str PyData.none.shown) H) : rRp K [.non] H Q :=
  ⟨_, .none, rfl, .non, rfl, rfl, Nat.zero_le _, by decide +kernel, q⟩
theorem show_tup {ns : List Int} (h : ∀ n ∈ ns, n.natAbs < 2 ^ 200) (hl : ns.length ≤ 10000) :
    (PyData.tuple (dI ns)).showable = true ∧ (PyData.tuple (dI ns)).hasDict = false ∧ (PyData.tuple (dI ns)).depth ≤ 60 ∧ (PyData.tuple (dI ns)).shown.length ≤ sizeLine := by
  obtain ⟨h1, h2, h3, h4, h5⟩ := show_ints ns h
  refine ⟨?_, ?_, ?_, ?_⟩
  · simp only [PyData.showable, h1]
  · simp only [PyData.hasDict, h2]
  · simp only [PyData.depth, h3]
    omega
  · simp only [PyData.shown]
    have := tupleText_len_le (PyData.shownAll (dI ns))
    rw [sizeLine_eq]
    omega
theorem rp_tup {K : PySem.W.Frag} {H : Hp} {a : Addr} {ns : List Int} {Q : VK} (hs : SqT K H a (ns.map V.int)) (h : ∀ n ∈ ns, n.natAbs < 2 ^ 200) (hl : ns.length ≤ 10000)
    (q : Q (.str (PyData.tuple (dI ns)).shown) H) : rRp K [.ref a] H Q := by
  obtain ⟨h1, h2, h3, h4⟩ := show_tup h hl
  exact ⟨_, _, rfl, .tup hs (dp_ints ns), h1, h2, h3, h4, q⟩
end SB
namespace SB
open PySem PySem.Spec PyProof.Rows L2 Evl
/-! receivers, windows -/
def IsRc (K : PySem.W.Frag) (H : Hp) (v : V) (gr w s : Int) : Prop :=
  ∃ t, v = .ref t ∧ SqT K H t [.int gr, .int w, .int s] ∧ 1 ≤ gr ∧ 0 ≤ w ∧ 1 ≤ s ∧ gr < 1237940039285380274899124224 ∧ w < 1237940039285380274899124224 ∧ s < 1237940039285380274899124224
theorem IsRc.ex {K : PySem.W.Frag} {H H' : Hp} {v : V} {gr w s : Int} (e : Ex H H') (h : IsRc K H v gr w s) : IsRc K H' v gr w s := by
  obtain ⟨t, e1, e2, r⟩ := h
  exact ⟨t, e1, ex_t e e2, r⟩
theorem IsRc.kp {K : PySem.W.Frag} {H H' : Hp} {v : V} {gr w s : Int} {a : Addr} {ys : List V} (e : Kp a H H') (ha : H a = some (.lst ys)) (h : IsRc K H v gr w s) : IsRc K H' v gr w s := by
  obtain ⟨t, e1, e2, r⟩ := h
  exact ⟨t, e1, e.tup ha e2, r⟩
theorem sz_bd {K : PySem.W.Frag} {H : Hp} {g : V} {b : Nat} {p : Pa} {s : Nat} (h : IsSh K H g b p s) : 1 ≤ b ∧ b ≤ 9 ∧ 1 ≤ s ∧ s ≤ 2 ∧ s + 2 ≤ sz b p s ∧ sz b p s ≤ 13 := by
  obtain ⟨t, _, _, h1, h2, h3, h4⟩ := h
  have hp : plen p ≤ 1 := by cases p <;> simp [plen]
  unfold sz
  omega
/-- the windows of a shape whose frames have n places, the last s of them stops -/
def win (n s : Nat) : List (List Int) := (List.range (n - s)).map (fun i : Nat => [(i : Int), (i : Int), (i : Int) + 1]) ++ (List.range s).map fun i : Nat => [((n - s + i : Nat) : Int), ((n - s : Nat) : Int), (n : Int)]
theorem win_eq {n s : Nat} (h : s + 2 ≤ n ∧ n ≤ 13) : win n s = (List.range ((n : Int) - s).toNat).filterMap (fun i : Nat => some [(0 : Int) + (i : Nat), (0 : Int) + (i : Nat), (0 : Int) + (i : Nat) + 1]) ++
    (List.range ((n : Int) - ((n : Int) - s)).toNat).filterMap (fun i : Nat => some [(n : Int) - s + (i : Nat), (n : Int) - s, (n : Int)]) := by
  unfold win
  have e1 : ((n : Int) - s).toNat = n - s := by omega
  have e2 : ((n : Int) - ((n : Int) - s)).toNat = s := by omega
  rw [e1, e2, List.filterMap_eq_map', List.filterMap_eq_map']
  congr 1
  · refine List.map_congr_left fun i _ => ?_
    rw [Int.zero_add]
  · refine List.map_congr_left fun i hi => ?_
    have e3 : ((n - s + i : Nat) : Int) = (n : Int) - s + (i : Nat) := by omega
    have e4 : ((n - s : Nat) : Int) = (n : Int) - s := by omega
    rw [e3, e4]
theorem win_len {n s : Nat} (h : s ≤ n) : (win n s).length = n := by
  unfold win
  simp
  omega
theorem win_mem {n s : Nat} (h : s + 2 ≤ n) {r : List Int} : r ∈ win n s ↔ ∃ p f l : Nat, r = [(p : Int), (f : Int), (l : Int)] ∧ p < n ∧ ((p < n - s ∧ f = p ∧ l = p + 1) ∨ (n - s ≤ p ∧ f = n - s ∧ l = n)) := by
  unfold win
  rw [List.mem_append, List.mem_map, List.mem_map]
  constructor
  · rintro (⟨i, hi, rfl⟩ | ⟨i, hi, rfl⟩)
    · have := List.mem_range.mp hi
      exact ⟨i, i, i + 1, by simp, by omega, .inl ⟨by omega, rfl, rfl⟩⟩
    · have := List.mem_range.mp hi
      exact ⟨n - s + i, n - s, n, rfl, by omega, .inr ⟨by omega, rfl, rfl⟩⟩
  · rintro ⟨p, f, l, rfl, hp, ⟨h1, rfl, rfl⟩ | ⟨h1, h2, h3⟩⟩
    · exact .inl ⟨f, List.mem_range.mpr h1, by simp⟩
    · refine .inr ⟨p - (n - s), List.mem_range.mpr (by omega), ?_⟩
      have : n - s + (p - (n - s)) = p := by omega
      rw [this, h2, h3]
end SB
namespace SB
open PySem PySem.Spec PyProof.Rows L2 Evl
theorem set_comm_none {σ : L2.St} {i v : Nat} {x : Option V} (h : i ≠ v) : (σ.set i x).set v none = (σ.set v none).set i x := List.set_comm x none h
theorem wipe_set {σ : L2.St} {i : Nat} {x : Option V} : ∀ {vs : List Nat}, i ∈ vs → wipe (σ.set i x) vs = wipe σ vs
  | v :: vs, h => by
    show (wipe (σ.set i x) vs).set v none = (wipe σ vs).set v none
    by_cases e : i ∈ vs
    · rw [wipe_set e]
    · have ev : i = v := by
        rcases List.mem_cons.mp h with h | h
        · exact h
        · exact absurd h e
      subst ev
      have out : ∀ {vs : List Nat}, ¬ i ∈ vs → wipe (σ.set i x) vs = (wipe σ vs).set i x := by
        intro vs
        induction vs with
        | nil => intro _; rfl
        | cons u us ih =>
          intro hu
          show (wipe (σ.set i x) us).set u none = ((wipe σ us).set u none).set i x
          rw [ih fun z => hu (List.mem_cons_of_mem _ z), set_comm_none fun z => hu (by rw [z]; exact List.mem_cons_self ..)]
      rw [out e, List.set_set]
theorem wipe_wipe {σ : L2.St} (vs : List Nat) : wipe (wipe σ vs) vs = wipe σ vs := by
  have key : ∀ (us : List Nat), (∀ u ∈ us, u ∈ vs) → wipe (wipe σ us) vs = wipe σ vs := by
    intro us
    induction us with
    | nil => intro _; rfl
    | cons u us ih =>
      intro h
      show wipe ((wipe σ us).set u none) vs = wipe σ vs
      rw [wipe_set (h u (List.mem_cons_self ..)), ih fun z hz => h z (List.mem_cons_of_mem _ hz)]
  exact key vs fun _ h => h
/-- a comprehension over a list of tuples of three whole numbers -/
theorem lcL3 {β : Type} {R : Hp → V → β → Prop} (la : Lasts R) {K : PySem.W.Frag} {A : Addr} {xs : List V} {as : List (List Int)} {i j k : Nat} {tt : TT} {te : TE} {vs : List Nat} {σ : L2.St} {H : Hp} {D : Addr} {Qd : Hp → Prop} (hD : H D = none)
    (sq : SqL K H A xs) (lr0 : LR (RT K H) xs as) (hn : xs.length ≤ 100000) (f : List Int → Option β) (h3 : ∀ r ∈ as, ∃ x y z, r = [x, y, z]) (hi : i ∈ vs) (hj : j ∈ vs) (hk : k ∈ vs)
    (hs : ∀ (x y z : Int) (H' : Hp), [x, y, z] ∈ as → Ex H H' → ∀ (Kt : VK) (Kf : Hp → Prop), (∀ b v H4, f [x, y, z] = some b → Ex H' H4 → R H4 v b → Kt v H4) → (∀ H3, f [x, y, z] = none → Ex H' H3 → Kf H3) →
      tt ((((wipe σ vs).set i (some (.int x))).set j (some (.int y))).set k (some (.int z))) H' fun b H3 => if b = true then te ((((wipe σ vs).set i (some (.int x))).set j (some (.int y))).set k (some (.int z))) H3 Kt else Kf H3)
    (hd : ∀ H' ys, Ex H H' → H' D = some (.lst ys) → LR (R H') ys (as.filterMap f) → Qd H') :
    ∃ W : Nat → Nat → Hp → Prop, (∃ m, W 0 m (L2.upd H D (.lst []))) ∧ ∀ i1 m H, W i1 m H →
      ((Itl K A).stop i1 H ∧ Qd H) ∨ ((Itl K A).go i1 H ∧ ∃ Nx : Hp → Prop, (∀ H', Nx H' → ∃ m', m' < m ∧ W (i1 + 1) m' H') ∧ ∀ x H', (Itl K A).yld i1 H x H' → gTup K 3 (gCons (gName i) (gCons (gName j) (gCons (gName k) gNil))) x (wipe σ vs) H' fun σ2 H2 => wipe σ2 vs = wipe σ vs ∧ tt σ2 H2 fun b H3 =>
        if b = true then te σ2 H3 fun y H4 => ∃ acc, H4 D = some (.lst acc) ∧ acc.length < sizeLine ∧ Nx (L2.upd H4 D (.lst (acc ++ [y]))) else Nx H3) := by
  refine lcL (RT.lasts (K := K)) la hD sq lr0 hn f (fun n v r H' hr e r0 Kt Kf kt kf => ?_) hd
  obtain ⟨x, y, z, rfl⟩ := h3 r (List.mem_of_getElem? hr)
  obtain ⟨t, rfl, st⟩ := r0
  refine ⟨t, _, rfl, st, rfl, _, _, rfl, _, _, rfl, _, _, rfl, rfl, ?_, hs x y z H' (List.mem_of_getElem? hr) e Kt Kf kt kf⟩
  rw [wipe_set hk, wipe_set hj, wipe_set hi, wipe_wipe]
end SB
namespace SB
open PySem PySem.Spec PyProof.Rows L2 Evl
theorem sh_bl (b : Bool) : (PyData.bool b).shown.length ≤ sizeLine := by cases b <;> decide +kernel
end SB
namespace SB
open PySem PySem.Spec PyProof.Rows L2 Evl
/-! safe lengths: the mathematics -/
def r3 {α : Type} (k : Int → Int → Int → α) (d : α) : List Int → α
  | [a, b, c] => k a b c
  | _ => d
theorem r3_mk {α : Type} (k : Int → Int → Int → α) (d : α) (a b c : Int) : r3 k d [a, b, c] = k a b c := rfl
def ceilI (x l : Int) : Int := -((-x) / l)
theorem ceil_le {x l y : Int} (h : 0 < l) : ceilI x l ≤ y ↔ x ≤ y * l := by
  unfold ceilI
  have h1 := Int.le_ediv_iff_mul_le (a := -y) (b := -x) h
  rw [Int.neg_mul] at h1
  omega
theorem le_ceil {x l y : Int} (h : 0 < l) : y ≤ ceilI x l ↔ (y - 1) * l < x := by
  have := ceil_le (x := x) (y := y - 1) h
  omega
theorem ceil_bd {x l : Int} (h : 0 < l) (hx : 0 ≤ x) : 0 ≤ ceilI x l ∧ ceilI x l ≤ x := by
  constructor
  · refine (le_ceil h).mpr ?_
    omega
  · refine (ceil_le h).mpr ?_
    have := Int.mul_le_mul_of_nonneg_left (show 1 ≤ l by omega) hx
    omega
def lookI (gr w st p : Int) : Int := gr * (w + st * p)
def loL (n s : Nat) (gr w st : Int) : List Int := (win n s).map (r3 (fun p _ l => ceilI (gr * (w + st * p + 1)) l) 0)
def hiL (n s : Nat) (gr w st : Int) : List Int := (win n s).filterMap (r3 (fun p f _ => if 0 < f then some (lookI gr w st p / f) else none) none)
theorem loL_mem {n s : Nat} {gr w st y : Int} (h : s + 2 ≤ n) : y ∈ loL n s gr w st ↔ ∃ p f l : Nat, p < n ∧ ((p < n - s ∧ f = p ∧ l = p + 1) ∨ (n - s ≤ p ∧ f = n - s ∧ l = n)) ∧ y = ceilI (gr * (w + st * p + 1)) l := by
  unfold loL
  rw [List.mem_map]
  constructor
  · rintro ⟨r, hr, rfl⟩
    obtain ⟨p, f, l, rfl, h1, h2⟩ := (win_mem h).mp hr
    exact ⟨p, f, l, h1, h2, rfl⟩
  · rintro ⟨p, f, l, h1, h2, rfl⟩
    exact ⟨_, (win_mem h).mpr ⟨p, f, l, rfl, h1, h2⟩, rfl⟩
theorem hiL_mem {n s : Nat} {gr w st y : Int} (h : s + 2 ≤ n) : y ∈ hiL n s gr w st ↔ ∃ p f l : Nat, p < n ∧ ((p < n - s ∧ f = p ∧ l = p + 1) ∨ (n - s ≤ p ∧ f = n - s ∧ l = n)) ∧ 0 < f ∧ y = lookI gr w st p / (f : Int) := by
  unfold hiL
  rw [List.mem_filterMap]
  constructor
  · rintro ⟨r, hr, e⟩
    obtain ⟨p, f, l, rfl, h1, h2⟩ := (win_mem h).mp hr
    rw [r3_mk] at e
    split at e
    · rename_i hf
      exact ⟨p, f, l, h1, h2, by omega, (Option.some.inj e).symm⟩
    · cases e
  · rintro ⟨p, f, l, h1, h2, hf, rfl⟩
    refine ⟨_, (win_mem h).mpr ⟨p, f, l, rfl, h1, h2⟩, ?_⟩
    rw [r3_mk, if_pos (by omega)]
structure Clk (gr w st : Int) : Prop where
  g1 : 1 ≤ gr
  w0 : 0 ≤ w
  s1 : 1 ≤ st
theorem Clk.look0 {gr w st : Int} (c : Clk gr w st) (p : Nat) : 0 ≤ lookI gr w st p := by
  have h1 := c.g1
  have h2 := c.w0
  have h3 : 0 ≤ st * (p : Int) := Int.mul_nonneg (by have := c.s1; omega) (by omega)
  exact Int.mul_nonneg (by omega) (by omega)
theorem Clk.lookp {gr w st : Int} (c : Clk gr w st) (p : Nat) : (p : Int) ≤ lookI gr w st p := by
  have h1 := c.g1
  have h2 := c.w0
  have h3 : 1 * (p : Int) ≤ st * (p : Int) := Int.mul_le_mul_of_nonneg_right c.s1 (by omega)
  have h4 : 1 * (w + st * (p : Int)) ≤ gr * (w + st * (p : Int)) := Int.mul_le_mul_of_nonneg_right h1 (by omega)
  unfold lookI
  omega
theorem look_next (gr w st p : Int) : gr * (w + st * p + 1) = lookI gr w st p + gr := by
  unfold lookI
  rw [Int.mul_add, Int.mul_one]
/-- what the bounds say of a length -/
def Fits (n s : Nat) (gr w st x : Int) (p f l : Nat) : Prop := p < n ∧ ((p < n - s ∧ f = p ∧ l = p + 1) ∨ (n - s ≤ p ∧ f = n - s ∧ l = n))
theorem lo_iff {n s : Nat} {gr w st lo x : Int} (h : s + 2 ≤ n) (hs : 1 ≤ s) (m : Mx (loL n s gr w st) lo) : lo ≤ x ↔ ∀ p f l : Nat, p < n → ((p < n - s ∧ f = p ∧ l = p + 1) ∨ (n - s ≤ p ∧ f = n - s ∧ l = n)) → lookI gr w st p + gr ≤ x * l := by
  constructor
  · intro hx p f l h1 h2
    have h3 := m.2 _ ((loL_mem h).mpr ⟨p, f, l, h1, h2, rfl⟩)
    have hl : (0 : Int) < l := by omega
    have := (ceil_le hl).mp (Int.le_trans h3 hx)
    rw [look_next] at this
    exact this
  · intro hx
    obtain ⟨p, f, l, h1, h2, e⟩ := (loL_mem h).mp m.1
    have hl : (0 : Int) < l := by omega
    rw [e]
    refine (ceil_le hl).mpr ?_
    rw [look_next]
    exact hx p f l h1 h2
theorem hi_iff {n s : Nat} {gr w st hi x : Int} (h : s + 2 ≤ n) (c : Clk gr w st) (m : Mi (hiL n s gr w st) hi) : x ≤ hi ↔ ∀ p f l : Nat, p < n → ((p < n - s ∧ f = p ∧ l = p + 1) ∨ (n - s ≤ p ∧ f = n - s ∧ l = n)) → x * f ≤ lookI gr w st p := by
  constructor
  · intro hx p f l h1 h2
    by_cases hf : 0 < f
    · have h3 := m.2 _ ((hiL_mem h).mpr ⟨p, f, l, h1, h2, hf, rfl⟩)
      exact (Int.le_ediv_iff_mul_le (show (0 : Int) < f by omega)).mp (Int.le_trans hx h3)
    · obtain rfl : f = 0 := by omega
      have := c.look0 p
      rw [show ((0 : Nat) : Int) = 0 from rfl, Int.mul_zero]
      exact this
  · intro hx
    obtain ⟨p, f, l, h1, h2, hf, e⟩ := (hiL_mem h).mp m.1
    rw [e]
    exact (Int.le_ediv_iff_mul_le (show (0 : Int) < f by omega)).mpr (hx p f l h1 h2)
theorem lo_ge {n s : Nat} {gr w st lo : Int} (h : s + 2 ≤ n) (c : Clk gr w st) (m : Mx (loL n s gr w st) lo) : 1 ≤ lo := by
  have h1 := m.2 _ ((loL_mem h).mpr ⟨0, 0, 1, by omega, .inl ⟨by omega, rfl, rfl⟩, rfl⟩)
  refine Int.le_trans ((le_ceil (by decide)).mpr ?_) h1
  rw [look_next]
  have := c.look0 0
  have := c.g1
  omega
theorem hi_ge {n s : Nat} {gr w st hi : Int} (h : s + 2 ≤ n) (c : Clk gr w st) (m : Mi (hiL n s gr w st) hi) : 1 ≤ hi := by
  obtain ⟨p, f, l, h1, h2, hf, e⟩ := (hiL_mem h).mp m.1
  rw [e]
  refine (Int.le_ediv_iff_mul_le (show (0 : Int) < f by omega)).mpr ?_
  have := c.lookp p
  omega
theorem lo_ex {n s : Nat} (gr w st : Int) (h : s + 2 ≤ n) : ∃ lo, Mx (loL n s gr w st) lo := by
  refine Mx.exists fun z => ?_
  have h1 : ceilI (gr * (w + st * (0 : Nat) + 1)) (1 : Nat) ∈ loL n s gr w st := (loL_mem h).mpr ⟨0, 0, 1, by omega, .inl ⟨by omega, rfl, rfl⟩, rfl⟩
  rw [z] at h1
  cases h1
theorem hi_ex {n s : Nat} (gr w st : Int) (h : s + 2 ≤ n) : ∃ hi, Mi (hiL n s gr w st) hi := by
  refine Mi.exists fun z => ?_
  have h1 : lookI gr w st (1 : Nat) / ((1 : Nat) : Int) ∈ hiL n s gr w st := (hiL_mem h).mpr ⟨1, 1, 2, by omega, .inl ⟨by omega, rfl, rfl⟩, by omega, rfl⟩
  rw [z] at h1
  cases h1
/-- sizes -/
structure Clb (gr w st : Int) : Prop extends Clk gr w st where
  gb : gr < 1237940039285380274899124224
  wb : w < 1237940039285380274899124224
  sb : st < 1237940039285380274899124224
theorem IsRc.clb {K : PySem.W.Frag} {H : Hp} {v : V} {gr w s : Int} (h : IsRc K H v gr w s) : Clb gr w s := by
  obtain ⟨t, _, _, h1, h2, h3, h4, h5, h6⟩ := h
  exact ⟨⟨h1, h2, h3⟩, h4, h5, h6⟩
theorem Clb.sp {gr w st : Int} (c : Clb gr w st) {p : Nat} (hp : p ≤ 13) : 0 ≤ st * (p : Int) ∧ st * (p : Int) ≤ 13 * 1237940039285380274899124224 := by
  have h1 := c.s1
  have h2 := c.sb
  refine ⟨Int.mul_nonneg (by omega) (by omega), ?_⟩
  have h3 : st * (p : Int) ≤ st * 13 := Int.mul_le_mul_of_nonneg_left (by omega) (by omega)
  omega
theorem Clb.mul {gr w st x : Int} (c : Clb gr w st) (h0 : 0 ≤ x) (hx : x ≤ 20 * 1237940039285380274899124224) : 0 ≤ gr * x ∧ gr * x < 2 ^ 185 := by
  have h1 := c.g1
  have h2 := c.gb
  refine ⟨Int.mul_nonneg (by omega) (by omega), ?_⟩
  have h3 : gr * x ≤ 1237940039285380274899124224 * x := Int.mul_le_mul_of_nonneg_right (by omega) h0
  have h4 : (1237940039285380274899124224 : Int) * x ≤ 1237940039285380274899124224 * (20 * 1237940039285380274899124224) := Int.mul_le_mul_of_nonneg_left hx (by decide)
  have h5 : (1237940039285380274899124224 : Int) * (20 * 1237940039285380274899124224) < 2 ^ 185 := by decide
  omega
theorem Clb.look {gr w st : Int} (c : Clb gr w st) {p : Nat} (hp : p ≤ 13) : 0 ≤ lookI gr w st p ∧ lookI gr w st p < 2 ^ 185 := by
  have h1 := c.sp hp
  have h2 := c.w0
  have h3 := c.wb
  exact c.mul (by omega) (by omega)
theorem lo_lt {n s : Nat} {gr w st lo : Int} (h : s + 2 ≤ n ∧ n ≤ 13) (c : Clb gr w st) (m : Mx (loL n s gr w st) lo) : lo < 2 ^ 186 := by
  obtain ⟨p, f, l, h1, h2, e⟩ := (loL_mem h.1).mp m.1
  rw [e, look_next]
  have h3 := c.look (p := p) (by omega)
  have h4 := c.g1
  have h5 := c.gb
  have h6 := (ceil_bd (x := lookI gr w st p + gr) (show (0 : Int) < l by omega) (by omega)).2
  have h7 : (2 : Int) ^ 186 = 2 ^ 185 + 2 ^ 185 := by decide
  have h8 : (1237940039285380274899124224 : Int) < 2 ^ 185 := by decide
  omega
theorem hi_lt {n s : Nat} {gr w st hi : Int} (h : s + 2 ≤ n ∧ n ≤ 13) (c : Clb gr w st) (m : Mi (hiL n s gr w st) hi) : hi < 2 ^ 185 := by
  obtain ⟨p, f, l, h1, h2, hf, e⟩ := (hiL_mem h.1).mp m.1
  rw [e]
  have h3 := c.look (p := p) (by omega)
  have h4 : lookI gr w st p / (f : Int) ≤ lookI gr w st p := Int.ediv_le_self _ h3.1
  omega
/-- an offset's looks lie in their windows -/
def goodB (rs : List (List Int)) (gr w st x off : Int) : Bool := rs.all (r3 (fun p f l => decide (x * f ≤ off + gr * (w + st * p)) && decide (off + gr * (w + st * p) < x * l)) true)
theorem good_iff {n s : Nat} {gr w st x off : Int} (h : s + 2 ≤ n) : goodB (win n s) gr w st x off = true ↔ ∀ p f l : Nat, p < n → ((p < n - s ∧ f = p ∧ l = p + 1) ∨ (n - s ≤ p ∧ f = n - s ∧ l = n)) → x * f ≤ off + lookI gr w st p ∧ off + lookI gr w st p < x * l := by
  unfold goodB
  rw [List.all_eq_true]
  constructor
  · intro hx p f l h1 h2
    have := hx _ ((win_mem h).mpr ⟨p, f, l, rfl, h1, h2⟩)
    rw [r3_mk, Bool.and_eq_true, decide_eq_true_eq, decide_eq_true_eq] at this
    exact this
  · intro hx r hr
    obtain ⟨p, f, l, rfl, h1, h2⟩ := (win_mem h).mp hr
    rw [r3_mk, Bool.and_eq_true, decide_eq_true_eq, decide_eq_true_eq]
    exact hx p f l h1 h2
/-- all offsets are good just for the lengths between the bounds -/
theorem fine_iff {n s : Nat} {gr w st lo hi x : Int} (h : s + 2 ≤ n) (hs : 1 ≤ s) (c : Clk gr w st) (m : Mx (loL n s gr w st) lo) (m' : Mi (hiL n s gr w st) hi) :
    (∀ i : Nat, (i : Int) < gr → goodB (win n s) gr w st x (i : Int) = true) ↔ lo ≤ x ∧ x ≤ hi := by
  rw [lo_iff h hs m, hi_iff h c m']
  have g1 := c.g1
  constructor
  · intro hx
    constructor
    · intro p f l h1 h2
      have := ((good_iff h).mp (hx (gr - 1).toNat (by omega)) p f l h1 h2).2
      omega
    · intro p f l h1 h2
      have := ((good_iff h).mp (hx 0 (by omega)) p f l h1 h2).1
      omega
  · intro ⟨ha, hb⟩ i hi
    refine (good_iff h).mpr fun p f l h1 h2 => ?_
    have := ha p f l h1 h2
    have := hb p f l h1 h2
    omega
/-! the numbers of a stretch among those from 1 on -/
theorem given_between (lo hi : Int) : ∀ m : Nat, 1 ≤ lo → (List.range m).filterMap (fun i : Nat => if lo ≤ 1 + (i : Int) ∧ 1 + (i : Int) ≤ hi then some (1 + (i : Int)) else none) = (List.range (min (m : Int) hi - lo + 1).toNat).map fun i : Nat => lo + (i : Int)
  | 0, h => by
    have : (min ((0 : Nat) : Int) hi - lo + 1).toNat = 0 := by omega
    rw [this]
    rfl
  | m + 1, h => by
    rw [range_fm_succ, given_between lo hi m h]
    by_cases h1 : lo ≤ 1 + (m : Int) ∧ 1 + (m : Int) ≤ hi
    · rw [if_pos h1]
      have e : (min ((m + 1 : Nat) : Int) hi - lo + 1).toNat = (min (m : Int) hi - lo + 1).toNat + 1 := by omega
      rw [e, List.range_succ, List.map_append]
      congr 1
      show [1 + (m : Int)] = [lo + _]
      congr 1
      omega
    · rw [if_neg h1]
      have e : (min ((m + 1 : Nat) : Int) hi - lo + 1).toNat = (min (m : Int) hi - lo + 1).toNat := by omega
      rw [e, List.append_nil]
theorem str_ne_iff (x y : Str) : (!decide (V.str x = V.str y)) = !decide (x = y) := by
  congr 1
  exact decide_eq_decide.mpr ⟨fun h => by injection h, fun h => by rw [h]⟩
end SB
namespace SB
theorem win_three {n s : Nat} {r : List Int} (h : r ∈ win n s) : ∃ p f l : Int, r = [p, f, l] := by
  unfold win at h
  rw [List.mem_append, List.mem_map, List.mem_map] at h
  rcases h with ⟨i, hi, rfl⟩ | ⟨i, hi, rfl⟩
  · exact ⟨_, _, _, rfl⟩
  · exact ⟨_, _, _, rfl⟩
end SB
namespace SB
open PySem PySem.Spec PyProof.Rows L2 Evl
theorem inV_ints (x : Int) (ns : List Int) : inV (.int x) (ns.map V.int) = decide (x ∈ ns) := by
  unfold inV
  rw [List.any_map]
  induction ns with
  | nil => rfl
  | cons n ns ih =>
    rw [List.any_cons, ih]
    have e : ((fun y => eqV y (.int x)) ∘ V.int) n = decide (n = x) := rfl
    rw [e]
    by_cases h : n = x
    · subst h
      simp
    · have h' : ¬ x = n := fun z => h z.symm
      simp [h, h', List.mem_cons]
theorem flat_ints (ns : List Int) : (ns.map V.int).all flatV = true := by
  rw [List.all_map, List.all_eq_true]
  intro x _
  rfl
theorem eqv_nil (ns : List Int) : PyData.eqv (.list (dI ns)) (.list []) = ns.isEmpty := by
  cases ns with
  | nil => decide +kernel
  | cons n ns => rfl
/-! None, or a tuple of whole numbers -/
def optT (lo hi : Int) : Option (List Int) := if lo ≤ hi then some [lo, hi] else none
def IsO (K : PySem.W.Frag) (H : Hp) (v : V) : Option (List Int) → Prop
  | none => v = .non
  | some r => RT K H v r
theorem IsO.ex {K : PySem.W.Frag} {H H' : Hp} {v : V} {o : Option (List Int)} (e : Ex H H') (h : IsO K H v o) : IsO K H' v o := by
  cases o with
  | none => exact h
  | some r => exact RT.lasts.ex e h
theorem IsO.kp {K : PySem.W.Frag} {H H' : Hp} {v : V} {o : Option (List Int)} {a : Addr} {ys : List V} (e : Kp a H H') (ha : H a = some (.lst ys)) (h : IsO K H v o) : IsO K H' v o := by
  cases o with
  | none => exact h
  | some r => exact RT.lasts.kp e ha h
def optD : Option (List Int) → PyData
  | none => .none
  | some r => .tuple (dI r)
theorem IsO.dp {K : PySem.W.Frag} {H : Hp} {v : V} {o : Option (List Int)} (h : IsO K H v o) : Dp K H v (optD o) := by
  cases o with
  | none =>
    cases (show v = .non from h)
    exact .non
  | some r =>
    obtain ⟨t, rfl, ht⟩ := h
    exact .tup ht (dp_ints r)
def Ok200 (o : Option (List Int)) : Prop := ∀ r, o = some r → r.length ≤ 10 ∧ ∀ y ∈ r, y.natAbs < 2 ^ 200
theorem show_opt {o : Option (List Int)} (h : Ok200 o) : (optD o).showable = true ∧ (optD o).hasDict = false ∧ (optD o).depth ≤ 60 ∧ (optD o).shown.length ≤ sizeLine := by
  cases o with
  | none => exact ⟨rfl, rfl, Nat.zero_le _, by decide +kernel⟩
  | some r =>
    obtain ⟨h1, h2⟩ := h r rfl
    exact show_tup h2 (by omega)
theorem rp_opt {K : PySem.W.Frag} {H : Hp} {v : V} {o : Option (List Int)} {Q : VK} (h : IsO K H v o) (k : Ok200 o) (q : Q (.str (optD o).shown) H) : rRp K [v] H Q := by
  obtain ⟨h1, h2, h3, h4⟩ := show_opt k
  exact ⟨_, _, rfl, h.dp, h1, h2, h3, h4, q⟩
theorem ok_optT {lo hi : Int} (h1 : lo.natAbs < 2 ^ 200) (h2 : hi.natAbs < 2 ^ 200) : Ok200 (optT lo hi) := by
  intro r hr
  unfold optT at hr
  split at hr
  · cases hr
    refine ⟨by show 2 ≤ 10; omega, fun y hy => ?_⟩
    rcases List.mem_cons.mp hy with rfl | hy
    · exact h1
    · rw [List.mem_singleton.mp hy]
      exact h2
  · cases hr
theorem stretch_at {lo hi : Int} (h : lo ≤ hi) : ((List.range (hi - lo + 1).toNat).map fun i : Nat => lo + (i : Int)) = lo :: ((List.range (hi - lo).toNat).map fun i : Nat => lo + 1 + (i : Int)) := by
  have e : (hi - lo + 1).toNat = (hi - lo).toNat + 1 := by omega
  rw [e, List.range_succ_eq_map, List.map_cons, List.map_map]
  congr 1
  · simp
  · refine List.map_congr_left fun i _ => ?_
    show lo + ((i + 1 : Nat) : Int) = lo + 1 + (i : Int)
    omega
theorem stretch_end {lo hi : Int} (h : lo ≤ hi) : ((List.range (hi - lo + 1).toNat).map fun i : Nat => lo + (i : Int)) = ((List.range (hi - lo).toNat).map fun i : Nat => lo + (i : Int)) ++ [hi] := by
  have e : (hi - lo + 1).toNat = (hi - lo).toNat + 1 := by omega
  rw [e, List.range_succ, List.map_append]
  congr 1
  show [lo + (((hi - lo).toNat : Nat) : Int)] = [hi]
  congr 1
  omega
theorem stretch_mem {lo hi x : Int} : x ∈ ((List.range (hi - lo + 1).toNat).map fun i : Nat => lo + (i : Int)) ↔ lo ≤ x ∧ x ≤ hi := by
  rw [List.mem_map]
  constructor
  · rintro ⟨i, hi, rfl⟩
    have := List.mem_range.mp hi
    omega
  · intro h
    exact ⟨(x - lo).toNat, List.mem_range.mpr (by omega), by omega⟩
theorem stretch_nil {lo hi : Int} (h : ¬ lo ≤ hi) : ((List.range (hi - lo + 1).toNat).map fun i : Nat => lo + (i : Int)) = [] := by
  have e : (hi - lo + 1).toNat = 0 := by omega
  rw [e]
  rfl
end SB
namespace SB
open PySem PySem.Spec PyProof.Rows L2 Evl
/-! good offsets -/
def gdL (n s : Nat) (gr w st x : Int) : List Int := (win n s).map (r3 (fun p f _ => f * x - gr * (w + st * p)) 0)
def gdH (n s : Nat) (gr w st x : Int) : List Int := (win n s).map (r3 (fun p _ l => l * x - 1 - gr * (w + st * p)) 0)
theorem gdL_pos {n s : Nat} {gr w st x : Int} (h : s + 2 ≤ n) : 0 < (gdL n s gr w st x).length := by
  unfold gdL
  rw [List.length_map, win_len (by omega)]
  omega
theorem gdH_pos {n s : Nat} {gr w st x : Int} (h : s + 2 ≤ n) : 0 < (gdH n s gr w st x).length := by
  unfold gdH
  rw [List.length_map, win_len (by omega)]
  omega
theorem Mx.cons {a m k : Int} {L : List Int} (h : Mx (a :: L) k) (h' : Mx L m) : k = if a > m then a else m := by
  refine h.uniq ?_
  by_cases c : a > m
  · rw [if_pos c]
    refine ⟨List.mem_cons_self .., fun y hy => ?_⟩
    rcases List.mem_cons.mp hy with rfl | hy
    · exact Int.le_refl _
    · have := h'.2 y hy
      omega
  · rw [if_neg c]
    refine ⟨List.mem_cons_of_mem _ h'.1, fun y hy => ?_⟩
    rcases List.mem_cons.mp hy with rfl | hy
    · omega
    · exact h'.2 y hy
theorem Mi.cons {a m k : Int} {L : List Int} (h : Mi (a :: L) k) (h' : Mi L m) : k = if a < m then a else m := by
  refine h.uniq ?_
  by_cases c : a < m
  · rw [if_pos c]
    refine ⟨List.mem_cons_self .., fun y hy => ?_⟩
    rcases List.mem_cons.mp hy with rfl | hy
    · exact Int.le_refl _
    · have := h'.2 y hy
      omega
  · rw [if_neg c]
    refine ⟨List.mem_cons_of_mem _ h'.1, fun y hy => ?_⟩
    rcases List.mem_cons.mp hy with rfl | hy
    · omega
    · exact h'.2 y hy
/-- an offset is good just between the bounds -/
theorem gd_iff {n s : Nat} {gr w st x lo hi off : Int} (m1 : Mx (0 :: gdL n s gr w st x) lo) (m2 : Mi ((gr - 1) :: gdH n s gr w st x) hi) (h0 : 0 ≤ off) (h1 : off < gr) : goodB (win n s) gr w st x off = true ↔ lo ≤ off ∧ off ≤ hi := by
  unfold goodB
  rw [List.all_eq_true]
  constructor
  · intro hx
    constructor
    · rcases List.mem_cons.mp m1.1 with h | h
      · omega
      · unfold gdL at h
        obtain ⟨r, hr, e⟩ := List.mem_map.mp h
        obtain ⟨p, f, l, rfl⟩ := win_three hr
        have := hx _ hr
        rw [r3_mk, Bool.and_eq_true, decide_eq_true_eq, decide_eq_true_eq] at this
        rw [r3_mk, Int.mul_comm f x] at e
        omega
    · rcases List.mem_cons.mp m2.1 with h | h
      · omega
      · unfold gdH at h
        obtain ⟨r, hr, e⟩ := List.mem_map.mp h
        obtain ⟨p, f, l, rfl⟩ := win_three hr
        have := hx _ hr
        rw [r3_mk, Bool.and_eq_true, decide_eq_true_eq, decide_eq_true_eq] at this
        rw [r3_mk, Int.mul_comm l x] at e
        omega
  · intro ⟨ha, hb⟩ r hr
    obtain ⟨p, f, l, rfl⟩ := win_three hr
    have a1 := m1.2 _ (List.mem_cons_of_mem _ (List.mem_map.mpr ⟨_, hr, rfl⟩))
    have a2 := m2.2 _ (List.mem_cons_of_mem _ (List.mem_map.mpr ⟨_, hr, rfl⟩))
    rw [r3_mk, Int.mul_comm f x] at a1
    rw [r3_mk, Int.mul_comm l x] at a2
    rw [r3_mk, Bool.and_eq_true, decide_eq_true_eq, decide_eq_true_eq]
    omega
end SB
namespace SB
open PySem PySem.Spec PyProof.Rows L2 Evl
theorem sh_int {i : Int} (h : i.natAbs < 2 ^ 200) : (PyData.int i).showable = true ∧ (PyData.int i).shown.length ≤ sizeLine := by
  have hl : i.natAbs.log2 < 200 := int_log (by decide) h
  have ht : (Str.ofString (toString i)).length ≤ 201 := by
    rw [PySem.ofString_length]
    exact int_text_length_le (k := 200) (by decide) hl
  refine ⟨?_, ?_⟩
  · simp only [PyData.showable, decide_eq_true_eq]
    omega
  · show (Str.ofString (toString i)).length ≤ sizeLine
    rw [sizeLine_eq]
    omega
theorem nat_abs_lt {x : Int} {k : Nat} (h0 : 0 ≤ x) (h1 : x < 2 ^ k) : x.natAbs < 2 ^ k := by
  have e : (2 : Int) ^ k = ((2 ^ k : Nat) : Int) := by norm_cast
  omega
theorem emod_small {i g : Int} (h : 1 ≤ g) (hg : g < 1237940039285380274899124224) : (i % g).natAbs < 2 ^ 200 := by
  have h1 := Int.emod_nonneg i (show g ≠ 0 by omega)
  have h2 := Int.emod_lt_of_pos i (show 0 < g by omega)
  omega
end SB
namespace SB
open PySem PySem.Spec PyProof.Rows L2 Evl
theorem given_from (c lo hi : Int) : ∀ m : Nat, c ≤ lo → (List.range m).filterMap (fun i : Nat => if lo ≤ c + (i : Int) ∧ c + (i : Int) ≤ hi then some (c + (i : Int)) else none) = (List.range (min (c + (m : Int) - 1) hi - lo + 1).toNat).map fun i : Nat => lo + (i : Int)
  | 0, h => by
    have : (min (c + ((0 : Nat) : Int) - 1) hi - lo + 1).toNat = 0 := by omega
    rw [this]
    rfl
  | m + 1, h => by
    rw [range_fm_succ, given_from c lo hi m h]
    by_cases h1 : lo ≤ c + (m : Int) ∧ c + (m : Int) ≤ hi
    · rw [if_pos h1]
      have e : (min (c + ((m + 1 : Nat) : Int) - 1) hi - lo + 1).toNat = (min (c + (m : Int) - 1) hi - lo + 1).toNat + 1 := by omega
      rw [e, List.range_succ, List.map_append]
      congr 1
      show [c + (m : Int)] = [lo + _]
      congr 1
      omega
    · rw [if_neg h1]
      have e : (min (c + ((m + 1 : Nat) : Int) - 1) hi - lo + 1).toNat = (min (c + (m : Int) - 1) hi - lo + 1).toNat := by omega
      rw [e, List.append_nil]
theorem rgV_stretch (lo hi : Int) : rgV lo (hi + 1) = ((List.range (hi - lo + 1).toNat).map fun i : Nat => lo + (i : Int)).map V.int := by
  unfold rgV
  rw [List.map_map, show hi + 1 - lo = hi - lo + 1 by omega]
  rfl
theorem gd_ex {n s : Nat} (gr w st x : Int) : (∃ lo, Mx (0 :: gdL n s gr w st x) lo) ∧ ∃ hi, Mi ((gr - 1) :: gdH n s gr w st x) hi :=
  ⟨Mx.exists (by simp), Mi.exists (by simp)⟩
theorem gd_bd {n s : Nat} {gr w st x lo hi : Int} (h : s + 2 ≤ n ∧ n ≤ 13) (c : Clb gr w st) (x1 : 1 ≤ x) (x2 : x < 2 ^ 190) (m1 : Mx (0 :: gdL n s gr w st x) lo) (m2 : Mi ((gr - 1) :: gdH n s gr w st x) hi) :
    0 ≤ lo ∧ hi ≤ gr - 1 ∧ lo.natAbs < 2 ^ 200 ∧ hi.natAbs < 2 ^ 200 := by
  have l0 := m1.2 0 (List.mem_cons_self ..)
  have h0 := m2.2 (gr - 1) (List.mem_cons_self ..)
  have g1 := c.g1
  have gb := c.gb
  have p1 : (2 : Int) ^ 200 = ((2 ^ 200 : Nat) : Int) := by norm_cast
  have p2 : (13 : Int) * 2 ^ 190 + 2 ^ 185 < 2 ^ 200 := by decide
  have p3 : (1237940039285380274899124224 : Int) < 2 ^ 185 := by decide
  refine ⟨l0, h0, ?_, ?_⟩
  · rcases List.mem_cons.mp m1.1 with e | e
    · rw [e]
      decide
    · obtain ⟨r, hr, e⟩ := List.mem_map.mp e
      obtain ⟨p, f, l, rfl, h1, h2⟩ := (win_mem h.1).mp hr
      rw [r3_mk] at e
      have lk := c.look (p := p) (by omega)
      have e2 : lookI gr w st p = gr * (w + st * (p : Int)) := rfl
      have fx : (f : Int) * x ≤ 13 * x := Int.mul_le_mul_of_nonneg_right (by omega) (by omega)
      omega
  · rcases List.mem_cons.mp m2.1 with e | e
    · omega
    · obtain ⟨r, hr, e⟩ := List.mem_map.mp e
      obtain ⟨p, f, l, rfl, h1, h2⟩ := (win_mem h.1).mp hr
      rw [r3_mk] at e
      have lk := c.look (p := p) (by omega)
      have e2 : lookI gr w st p = gr * (w + st * (p : Int)) := rfl
      have fx : 0 ≤ (l : Int) * x := Int.mul_nonneg (by omega) (by omega)
      omega
end SB
namespace SB
open PySem PySem.Spec PyProof.Rows L2 Evl
/-! places of receivers -/
def stp (n s : Nat) (pl lv : Int) : Int := if pl = -1 then (if lv = 1 then 0 else -1) else if pl = 0 then (if lv = 1 then 0 else 1) else if lv = 0 ∧ pl ≥ (n : Int) - s then -1 else (pl + 1) % (n : Int)
def plc (n s : Nat) (pl : Int) (ls : List Int) : Int := ls.foldl (stp n s) pl
theorem plc_app (n s : Nat) (pl : Int) (A B : List Int) : plc n s pl (A ++ B) = plc n s (plc n s pl A) B := List.foldl_append ..
theorem plc_succ {n s : Nat} {pl l : Int} {ls : List Int} {i : Nat} (h : ls[i]? = some l) : plc n s pl (ls.take (i + 1)) = stp n s (plc n s pl (ls.take i)) l := by
  rw [List.take_add_one, h, plc_app]
  rfl
/-- the place behind a text -/
def pat (b : Nat) (p : Pa) (s : Nat) (pl : Int) (ns : List Int) : Int := ns.foldl (fun q x => plc (sz b p s) s q (frm b p s x)) pl
def pls (b : Nat) (p : Pa) (s : Nat) (pl : Int) (ns : List Int) : List Int := (List.range (ns.length + 1)).map fun i => pat b p s pl (ns.take i)
theorem pls_len (b : Nat) (p : Pa) (s : Nat) (pl : Int) (ns : List Int) : (pls b p s pl ns).length = ns.length + 1 := by simp [pls]
theorem pls_last (b : Nat) (p : Pa) (s : Nat) (pl : Int) (ns : List Int) : pls b p s pl ns = ((List.range ns.length).map fun i => pat b p s pl (ns.take i)) ++ [pat b p s pl ns] := by
  unfold pls
  rw [List.range_succ, List.map_append]
  simp
theorem pat_succ {b : Nat} {p : Pa} {s : Nat} {pl x : Int} {ns : List Int} {i : Nat} (h : ns[i]? = some x) : pat b p s pl (ns.take (i + 1)) = plc (sz b p s) s (pat b p s pl (ns.take i)) (frm b p s x) := by
  unfold pat
  rw [List.take_add_one, h, List.foldl_append]
  rfl
theorem pls_succ {b : Nat} {p : Pa} {s : Nat} {pl x : Int} {ns : List Int} {i : Nat} (h : ns[i]? = some x) : pls b p s pl (ns.take (i + 1)) = pls b p s pl (ns.take i) ++ [plc (sz b p s) s (pat b p s pl (ns.take i)) (frm b p s x)] := by
  have hi := (List.getElem?_eq_some_iff.mp h).1
  have l1 : (ns.take (i + 1)).length = i + 1 := by rw [List.length_take]; omega
  have l0 : (ns.take i).length = i := by rw [List.length_take]; omega
  rw [pls_last b p s pl (ns.take (i + 1)), l1, pat_succ h]
  congr 1
  unfold pls
  rw [l0]
  refine List.map_congr_left fun j hj => ?_
  have := List.mem_range.mp hj
  rw [List.take_take, List.take_take, Nat.min_eq_left (by omega), Nat.min_eq_left (by omega)]
theorem pat_app (b : Nat) (p : Pa) (s : Nat) (pl : Int) (A B : List Int) : pat b p s pl (A ++ B) = pat b p s (pat b p s pl A) B := List.foldl_append ..
theorem stp_bd {n s : Nat} {pl lv : Int} (hn : 2 ≤ n) (h0 : -1 ≤ pl) (h1 : pl < n) : -1 ≤ stp n s pl lv ∧ stp n s pl lv < n := by
  unfold stp
  have e1 := Int.emod_nonneg (pl + 1) (show (n : Int) ≠ 0 by omega)
  have e2 := Int.emod_lt_of_pos (pl + 1) (show (0 : Int) < n by omega)
  split
  · split <;> omega
  · split
    · split <;> omega
    · split <;> omega
theorem plc_bd {n s : Nat} (hn : 2 ≤ n) : ∀ {ls : List Int} {pl : Int}, -1 ≤ pl → pl < n → -1 ≤ plc n s pl ls ∧ plc n s pl ls < n
  | [], pl, h0, h1 => ⟨h0, h1⟩
  | l :: ls, pl, h0, h1 => by
    have h := stp_bd (s := s) (lv := l) hn h0 h1
    exact plc_bd (ls := ls) hn h.1 h.2
/-- behind a 1 a receiver is not waiting -/
theorem stp_one {n s : Nat} {pl : Int} (hn : 2 ≤ n) (h0 : -1 ≤ pl) (h1 : pl < n) : 0 ≤ stp n s pl 1 ∧ stp n s pl 1 < n := by
  unfold stp
  have e1 := Int.emod_nonneg (pl + 1) (show (n : Int) ≠ 0 by omega)
  have e2 := Int.emod_lt_of_pos (pl + 1) (show (0 : Int) < n by omega)
  split
  · simp
    omega
  · split
    · simp
      omega
    · simp
      omega
theorem frm_last {b : Nat} {p : Pa} {s : Nat} (x : Int) (hs : 1 ≤ s) : ∃ ls, frm b p s x = ls ++ [1] := by
  obtain ⟨m, rfl⟩ : ∃ m, s = m + 1 := ⟨s - 1, by omega⟩
  refine ⟨0 :: (bits b x ++ (parL b p x ++ List.replicate m 1)), ?_⟩
  unfold frm
  rw [List.replicate_succ']
  simp
theorem plc_frm_bd {b : Nat} {p : Pa} {s : Nat} {x pl : Int} (hs : 1 ≤ s) (h0 : 0 ≤ pl) (h1 : pl < (sz b p s : Nat)) : 0 ≤ plc (sz b p s) s pl (frm b p s x) ∧ plc (sz b p s) s pl (frm b p s x) < (sz b p s : Nat) := by
  have hn : 2 ≤ sz b p s := by
    unfold sz
    omega
  obtain ⟨ls, e⟩ := frm_last (b := b) (p := p) x hs
  rw [e, plc_app]
  have h := plc_bd (s := s) (ls := ls) hn (show -1 ≤ pl by omega) h1
  exact stp_one hn h.1 h.2
theorem pat_bd {b : Nat} {p : Pa} {s : Nat} (hs : 1 ≤ s) : ∀ {ns : List Int} {pl : Int}, 0 ≤ pl → pl < (sz b p s : Nat) → 0 ≤ pat b p s pl ns ∧ pat b p s pl ns < (sz b p s : Nat)
  | [], pl, h0, h1 => ⟨h0, h1⟩
  | x :: ns, pl, h0, h1 => by
    have h := plc_frm_bd (x := x) hs h0 h1
    exact pat_bd (ns := ns) hs h.1 h.2
/-- a receiver in step stays so -/
theorem plc_frm0 {b : Nat} {p : Pa} {s : Nat} {x : Int} (hs : 1 ≤ s) : plc (sz b p s) s 0 (frm b p s x) = 0 := by
  have len := frm_sz b p s x
  have key : ∀ k, k ≤ sz b p s → plc (sz b p s) s 0 ((frm b p s x).take k) = if k = sz b p s then 0 else (k : Int) := by
    intro k
    induction k with
    | zero =>
      intro _
      rw [if_neg (by unfold sz; omega)]
      rfl
    | succ k ih =>
      intro hk
      have hg : (frm b p s x)[k]? = some ((frm b p s x)[k]'(by rw [len]; omega)) := List.getElem?_eq_getElem _
      rw [plc_succ hg, ih (by omega), if_neg (by omega)]
      have l01 : (frm b p s x)[k]'(by rw [len]; omega) = 0 ∨ (frm b p s x)[k]'(by rw [len]; omega) = 1 := frm_01 (List.getElem_mem _)
      have stop : sz b p s - s ≤ k → (frm b p s x)[k]'(by rw [len]; omega) = 1 := by
        intro h
        have hb := bits_len b x
        have hp : (parL b p x).length = plen p := by cases p <;> rfl
        have e : (frm b p s x)[k]? = some 1 := by
          unfold frm
          obtain ⟨j, rfl⟩ : ∃ j, k = j + 1 := ⟨k - 1, by unfold sz at *; omega⟩
          rw [List.getElem?_cons_succ, ← List.append_assoc, List.getElem?_append_right (by rw [List.length_append, hb, hp]; unfold sz at *; omega), List.getElem?_replicate, if_pos (by rw [List.length_append, hb, hp]; unfold sz at *; omega)]
        rw [e] at hg
        exact (Option.some.inj hg).symm
      generalize (frm b p s x)[k]'(by rw [len]; omega) = l at l01 stop hg
      unfold stp
      rw [if_neg (by omega)]
      by_cases k0 : k = 0
      · subst k0
        have l0 : l = 0 := by
          have e : (frm b p s x)[0]? = some 0 := rfl
          rw [e] at hg
          exact (Option.some.inj hg).symm
        rw [if_pos (show ((0 : Nat) : Int) = 0 from rfl), l0, if_neg (by decide), if_neg (by unfold sz; omega)]
        rfl
      · rw [if_neg (by omega)]
        have no : ¬ (l = 0 ∧ (k : Int) ≥ ((sz b p s : Nat) : Int) - s) := fun ⟨c1, c2⟩ => by
          have := stop (by omega)
          omega
        rw [if_neg no]
        by_cases ke : k + 1 = sz b p s
        · rw [if_pos ke, ← ke]
          exact Int.emod_self
        · rw [if_neg ke]
          exact Int.emod_eq_of_lt (by omega) (by omega)
  have := key (sz b p s) (Nat.le_refl _)
  rw [if_pos rfl, List.take_of_length_le (by omega)] at this
  exact this
theorem pat_0 {b : Nat} {p : Pa} {s : Nat} (hs : 1 ≤ s) : ∀ ns : List Int, pat b p s 0 ns = 0
  | [] => rfl
  | x :: ns => by
    show pat b p s (plc (sz b p s) s 0 (frm b p s x)) ns = 0
    rw [plc_frm0 hs, pat_0 hs ns]
theorem pls_0 {b : Nat} {p : Pa} {s : Nat} (hs : 1 ≤ s) (ns : List Int) : pls b p s 0 ns = List.replicate (ns.length + 1) 0 := by
  unfold pls
  refine List.ext_getElem (by simp) fun i h1 h2 => ?_
  simp [pat_0 hs]
/-- a comprehension of draws -/
theorem lcD {lo : Int} {n j : Nat} {te : TE} {vs : List Nat} {σ : L2.St} {H : Hp} {S D : Addr} {n0 c : Nat} {Qd : Hp → Prop} (Ok : Int → Prop) (hD : H D = none) (src : Pool H S n0) (hn : n ≤ 100000) (hj : j ∈ vs)
    (hs : ∀ (i : Nat) (H' : Hp), i < n → Kp S H H' → Pool H' S (n0 + c * i) → ∀ (Kt : VK), (∀ x H4, Ok x → Kp S H' H4 → Pool H4 S (n0 + c * (i + 1)) → Kt (.int x) H4) → te ((wipe σ vs).set j (some (.int (lo + i)))) H' Kt)
    (hd : ∀ (H' : Hp) (ns : List Int), Kp S H H' → Pool H' S (n0 + c * n) → ns.length = n → (∀ x ∈ ns, Ok x) → H' D = some (.lst (ns.map V.int)) → Qd H') :
    ∃ W : Nat → Nat → Hp → Prop, (∃ m, W 0 m (L2.upd H D (.lst []))) ∧ ∀ i m H, W i m H →
      ((Itr lo n).stop i H ∧ Qd H) ∨ ((Itr lo n).go i H ∧ ∃ Nx : Hp → Prop, (∀ H', Nx H' → ∃ m', m' < m ∧ W (i + 1) m' H') ∧ ∀ x H', (Itr lo n).yld i H x H' → gName j x (wipe σ vs) H' fun σ2 H2 => wipe σ2 vs = wipe σ vs ∧ tYes σ2 H2 fun b H3 =>
        if b = true then te σ2 H3 fun y H4 => ∃ acc, H4 D = some (.lst acc) ∧ acc.length < sizeLine ∧ Nx (L2.upd H4 D (.lst (acc ++ [y]))) else Nx H3) := by
  have DS : D ≠ S := src.ne hD
  refine lc_range (fun i H' => ∃ ns : List Int, Kp S H H' ∧ Pool H' S (n0 + c * i) ∧ ns.length = i ∧ (∀ x ∈ ns, Ok x) ∧ H' D = some (.lst (ns.map V.int))) ⟨[], Ex.kp (Ex.new hD), src.ex (Ex.new hD), rfl, (fun _ h => by cases h), upd_same⟩ (fun i H' hi ⟨ns, k, pl, hl, ok, hL⟩ => ?_) fun H' ⟨ns, k, pl, hl, ok, hL⟩ => hd H' ns k pl hl ok hL
  have key := hs i H' hi k pl (fun y H4 => ∃ acc, H4 D = some (.lst acc) ∧ acc.length < sizeLine ∧ ∃ ns : List Int, Kp S H (L2.upd H4 D (.lst (acc ++ [y]))) ∧ Pool (L2.upd H4 D (.lst (acc ++ [y]))) S (n0 + c * (i + 1)) ∧ ns.length = i + 1 ∧ (∀ x ∈ ns, Ok x) ∧ (L2.upd H4 D (.lst (acc ++ [y]))) D = some (.lst (ns.map V.int)))
  refine ⟨by rw [wipe_set hj, wipe_wipe], key fun x H4 okx k4 pl4 => ?_⟩
  refine ⟨_, k4 D _ DS hL, ?_, ns ++ [x], (k.trans k4).mut hD, pl4.upd DS, by rw [List.length_append, hl]; rfl, ?_, ?_⟩
  · rw [List.length_map]
    exact Nat.lt_of_le_of_lt (show ns.length ≤ 100000 by omega) (by decide)
  · intro z hz
    rcases List.mem_append.mp hz with h | h
    · exact ok z h
    · rw [List.mem_singleton.mp h]
      exact okx
  · rw [upd_same, List.map_append]
    rfl
end SB
namespace SB
open PySem PySem.Spec PyProof.Rows L2 Evl
theorem seq_any' {te : TE} {i : Nat} {u : TS} {D : L2.Ends} {σ : L2.St} {H : Hp} {P : V → Hp → Prop} (h : ∀ Q' : VK, (∀ v H', P v H' → Q' v H') → te σ H Q') (k : ∀ v H', P v H' → u D (σ.set i (some v)) H') :
    tSeq (tAsg te (gName i)) u D σ H := h _ k
end SB
/-! PL: what defs do, told of data alone: slots hold data (shared, never changed again) or lists of their own (changed by this def alone) -/
namespace PL
open PySem PySem.Spec PyProof.Rows L2 Evl SB
mutual
inductive Vd (K : PySem.W.Frag) (H : Hp) : V → PyData → Prop
  | non : Vd K H .non .none
  | bl (b : Bool) : Vd K H (.bl b) (.bool b)
  | int (i : Int) : Vd K H (.int i) (.int i)
  | str (x : Str) : Vd K H (.str x) (.str x)
  | lst {a : Addr} {xs : List V} {ds : List PyData} : H a = some (.lst xs) → VdAll K H xs ds → Vd K H (.ref a) (.list ds)
  | tup {a : Addr} {xs : List V} {ds : List PyData} : SqT K H a xs → VdAll K H xs ds → Vd K H (.ref a) (.tuple ds)
  | dic0 {a : Addr} : H a = some (.dK []) → Vd K H (.ref a) (.dict [])
  | dicI {a : Addr} {i j : Int} : H a = some (.dK [(.inl i, .int j)]) → Vd K H (.ref a) (.dict [(.int i, .int j)])
  | dicS {a : Addr} {i : Int} {x : Str} : H a = some (.dK [(.inl i, .str x)]) → Vd K H (.ref a) (.dict [(.int i, .str x)])
inductive VdAll (K : PySem.W.Frag) (H : Hp) : List V → List PyData → Prop
  | nil : VdAll K H [] []
  | cons {v : V} {vs : List V} {d : PyData} {ds : List PyData} : Vd K H v d → VdAll K H vs ds → VdAll K H (v :: vs) (d :: ds)
end
section
variable {K : PySem.W.Frag} {H H' : Hp}
mutual
theorem Vd.ex (e : Ex H H') : ∀ {d : PyData} {v : V}, Vd K H v d → Vd K H' v d
  | .none, _, h => by cases h; exact .non
  | .bool b, _, h => by cases h; exact .bl b
  | .int i, _, h => by cases h; exact .int i
  | .str x, _, h => by cases h; exact .str x
  | .list ds, _, h => by
    cases h with
    | lst h1 h2 => exact .lst (e _ _ h1) (VdAll.ex e h2)
  | .tuple ds, _, h => by
    cases h with
    | tup h1 h2 => exact .tup (ex_t e h1) (VdAll.ex e h2)
  | .dict _, _, h => by
    cases h with
    | dic0 h => exact .dic0 (e _ _ h)
    | dicI h => exact .dicI (e _ _ h)
    | dicS h => exact .dicS (e _ _ h)
theorem VdAll.ex (e : Ex H H') : ∀ {ds : List PyData} {vs : List V}, VdAll K H vs ds → VdAll K H' vs ds
  | [], _, h => by cases h; exact .nil
  | d :: ds, _, h => by
    cases h with
    | cons h1 h2 => exact .cons (Vd.ex e h1) (VdAll.ex e h2)
end
mutual
theorem Vd.dp : ∀ {d : PyData} {v : V}, d.hasDict = false → Vd K H v d → Dp K H v d
  | .none, _, _, h => by cases h; exact .non
  | .bool b, _, _, h => by cases h; exact .bl b
  | .int i, _, _, h => by cases h; exact .int i
  | .str x, _, _, h => by cases h; exact .str x
  | .list ds, _, n, h => by
    cases h with
    | lst h1 h2 => exact .lst (sq_of h1) (VdAll.dp (by simpa [PyData.hasDict] using n) h2)
  | .tuple ds, _, n, h => by
    cases h with
    | tup h1 h2 => exact .tup h1 (VdAll.dp (by simpa [PyData.hasDict] using n) h2)
  | .dict _, _, n, h => by simp [PyData.hasDict] at n
theorem VdAll.dp : ∀ {ds : List PyData} {vs : List V}, PyData.hasDictAll ds = false → VdAll K H vs ds → DpAll K H vs ds
  | [], _, _, h => by cases h; exact .nil
  | d :: ds, _, n, h => by
    have n : d.hasDict = false ∧ PyData.hasDictAll ds = false := by simpa [PyData.hasDictAll] using n
    cases h with
    | cons h1 h2 => exact .cons (Vd.dp n.1 h1) (VdAll.dp n.2 h2)
end
theorem Vd.int_inv {v : V} {i : Int} (h : Vd K H v (.int i)) : v = .int i := by cases h; rfl
theorem Vd.bool_inv {v : V} {b : Bool} (h : Vd K H v (.bool b)) : v = .bl b := by cases h; rfl
theorem Vd.str_inv {v : V} {x : Str} (h : Vd K H v (.str x)) : v = .str x := by cases h; rfl
theorem Vd.none_inv {v : V} (h : Vd K H v .none) : v = .non := by cases h; rfl
theorem Vd.list_inv {v : V} {ds : List PyData} (h : Vd K H v (.list ds)) : ∃ a xs, v = .ref a ∧ H a = some (.lst xs) ∧ VdAll K H xs ds := by
  cases h with
  | lst h1 h2 => exact ⟨_, _, rfl, h1, h2⟩
theorem Vd.tup_inv {v : V} {ds : List PyData} (h : Vd K H v (.tuple ds)) : ∃ a xs, v = .ref a ∧ SqT K H a xs ∧ VdAll K H xs ds := by
  cases h with
  | tup h1 h2 => exact ⟨_, _, rfl, h1, h2⟩
theorem VdAll.len : ∀ {ds : List PyData} {vs : List V}, VdAll K H vs ds → vs.length = ds.length
  | [], _, h => by cases h; rfl
  | d :: ds, _, h => by
    cases h with
    | cons h1 h2 => rw [List.length_cons, List.length_cons, h2.len]
theorem VdAll.app : ∀ {ds es : List PyData} {vs us : List V}, VdAll K H vs ds → VdAll K H us es → VdAll K H (vs ++ us) (ds ++ es)
  | [], _, _, _, h, g => by cases h; exact g
  | d :: ds, _, _, _, h, g => by
    cases h with
    | cons h1 h2 => exact .cons h1 (h2.app g)
theorem VdAll.get : ∀ {ds : List PyData} {vs : List V} {i : Nat} {d : PyData}, VdAll K H vs ds → ds[i]? = some d → ∃ v, vs[i]? = some v ∧ Vd K H v d
  | [], _, _, _, _, e => by simp at e
  | d :: ds, _, 0, _, h, e => by
    cases h with
    | cons h1 h2 =>
      cases e
      exact ⟨_, rfl, h1⟩
  | d :: ds, _, i + 1, _, h, e => by
    cases h with
    | cons h1 h2 =>
      obtain ⟨v, a, b⟩ := h2.get (i := i) (by simpa using e)
      exact ⟨v, by simpa using a, b⟩
theorem VdAll.take : ∀ {ds : List PyData} {vs : List V} (n : Nat), VdAll K H vs ds → VdAll K H (vs.take n) (ds.take n)
  | [], _, n, h => by cases h; simp; exact .nil
  | d :: ds, _, 0, h => by simp; exact .nil
  | d :: ds, _, n + 1, h => by
    cases h with
    | cons h1 h2 => exact .cons h1 (h2.take n)
theorem VdAll.drop : ∀ {ds : List PyData} {vs : List V} (n : Nat), VdAll K H vs ds → VdAll K H (vs.drop n) (ds.drop n)
  | [], _, n, h => by cases h; simp; exact .nil
  | d :: ds, _, 0, h => h
  | d :: ds, _, n + 1, h => by
    cases h with
    | cons h1 h2 => exact h2.drop n
theorem VdAll.set : ∀ {ds : List PyData} {vs : List V} (n : Nat) {v : V} {d : PyData}, VdAll K H vs ds → Vd K H v d → VdAll K H (vs.set n v) (ds.set n d)
  | [], _, n, _, _, h, g => by cases h; exact .nil
  | d :: ds, _, 0, _, _, h, g => by
    cases h with
    | cons h1 h2 => exact .cons g h2
  | d :: ds, _, n + 1, _, _, h, g => by
    cases h with
    | cons h1 h2 => exact .cons h1 (h2.set n g)
theorem VdAll.rep {v : V} {d : PyData} (h : Vd K H v d) : ∀ n : Nat, VdAll K H (List.replicate n v) (List.replicate n d)
  | 0 => .nil
  | n + 1 => .cons h (VdAll.rep h n)
theorem VdAll.reps {vs : List V} {ds : List PyData} (h : VdAll K H vs ds) : ∀ n : Nat, VdAll K H (List.replicate n vs).flatten (List.replicate n ds).flatten
  | 0 => .nil
  | n + 1 => by
    rw [List.replicate_succ, List.replicate_succ, List.flatten_cons, List.flatten_cons]
    exact h.app (VdAll.reps h n)
theorem VdAll.rev : ∀ {ds : List PyData} {vs : List V}, VdAll K H vs ds → VdAll K H vs.reverse ds.reverse
  | [], _, h => by cases h; exact .nil
  | d :: ds, _, h => by
    cases h with
    | cons h1 h2 =>
      rw [List.reverse_cons, List.reverse_cons]
      exact h2.rev.app (.cons h1 .nil)
theorem VdAll.dropLast : ∀ {ds : List PyData} {vs : List V}, VdAll K H vs ds → VdAll K H vs.dropLast ds.dropLast := by
  intro ds vs h
  rw [List.dropLast_eq_take, List.dropLast_eq_take, h.len]
  exact h.take _
theorem VdAll.ints : ∀ ns : List Int, VdAll K H (ns.map V.int) (dI ns)
  | [] => .nil
  | n :: ns => .cons (.int n) (VdAll.ints ns)
theorem VdAll.ints_inv : ∀ {ns : List Int} {vs : List V}, VdAll K H vs (dI ns) → vs = ns.map V.int
  | [], _, h => by cases h; rfl
  | n :: ns, _, h => by
    cases h with
    | cons h1 h2 => rw [h1.int_inv, VdAll.ints_inv h2]; rfl
theorem VdAll.bools_inv : ∀ {bs : List Bool} {vs : List V}, VdAll K H vs (bs.map PyData.bool) → vs = bs.map V.bl
  | [], _, h => by cases h; rfl
  | n :: ns, _, h => by
    cases h with
    | cons h1 h2 => rw [h1.bool_inv, VdAll.bools_inv h2]; rfl
/-- flat data as values -/
def flv : PyData → V
  | .bool b => .bl b
  | .int i => .int i
  | .str x => .str x
  | _ => .non
def flt : PyData → Bool
  | .none => true
  | .bool _ => true
  | .int _ => true
  | .str _ => true
  | _ => false
theorem Vd.flat {v : V} {d : PyData} (h : Vd K H v d) (f : flt d = true) : v = flv d := by
  cases h <;> first | rfl | cases f
theorem Vd.of_flat {d : PyData} (f : flt d = true) : Vd K H (flv d) d := by
  cases d <;> first | exact .non | exact .bl _ | exact .int _ | exact .str _ | cases f
theorem VdAll.flat : ∀ {ds : List PyData} {vs : List V}, VdAll K H vs ds → ds.all flt = true → vs = ds.map flv
  | [], _, h, _ => by cases h; rfl
  | d :: ds, _, h, f => by
    cases h with
    | cons h1 h2 =>
      rw [List.all_cons, Bool.and_eq_true] at f
      rw [h1.flat f.1, VdAll.flat h2 f.2]
      rfl
theorem VdAll.of_flat : ∀ {ds : List PyData}, ds.all flt = true → VdAll K H (ds.map flv) ds
  | [], _ => .nil
  | d :: ds, f => by
    rw [List.all_cons, Bool.and_eq_true] at f
    exact .cons (.of_flat f.1) (VdAll.of_flat f.2)
end
/-! heaps that grow: F what is shared, H all -/
structure Gr (F H F' H' : Hp) : Prop where
  ff : Ex F F'
  fh : Ex F' H'
  hh : Ex H H'
  fr : ∀ p, H p ≠ none → F p = none → F' p = none
theorem Gr.refl {F H : Hp} (e : Ex F H) : Gr F H F H := ⟨Ex.refl F, e, Ex.refl H, fun _ _ h => h⟩
theorem ne_ex {H H' : Hp} {p : Addr} (e : Ex H H') (h : H p ≠ none) : H' p ≠ none := by
  cases q : H p with
  | none => exact absurd q h
  | some o => rw [e p o q]; exact fun z => nomatch z
theorem Gr.trans {F H F1 H1 F2 H2 : Hp} (a : Gr F H F1 H1) (b : Gr F1 H1 F2 H2) : Gr F H F2 H2 :=
  ⟨a.ff.trans b.ff, b.fh, a.hh.trans b.hh, fun p h1 h2 => b.fr p (ne_ex a.hh h1) (a.fr p h1 h2)⟩
theorem ex_upd2 {F H : Hp} {p : Addr} {o : HO} (e : Ex F H) : Ex (upd F p o) (upd H p o) := fun q u h => by
  by_cases c : q = p
  · subst c
    rw [upd_same] at h ⊢
    exact h
  · rw [upd_ne c] at h ⊢
    exact e q u h
/-- a new thing, shared -/
theorem Gr.new {F H : Hp} {p : Addr} {o : HO} (e : Ex F H) (n : H p = none) : Gr F H (upd F p o) (upd H p o) :=
  ⟨Ex.new (fresh_back e n), ex_upd2 e, Ex.new n, fun q h1 h2 => by
    by_cases c : q = p
    · subst c
      exact absurd n h1
    · rw [upd_ne c]
      exact h2⟩
/-- a new thing, not shared -/
theorem Gr.own {F H : Hp} {p : Addr} {o : HO} (e : Ex F H) (n : H p = none) : Gr F H F (upd H p o) :=
  ⟨Ex.refl F, e.mut (fresh_back e n), Ex.new n, fun q _ h2 => h2⟩
/-- a new thing that becomes shared later -/
theorem Gr.freeze {F H F1 H1 : Hp} {p : Addr} {o : HO} (g : Gr F H F1 H1) (n : H p = none) (f : F1 p = none) (h : H1 p = some o) : Gr F H (upd F1 p o) H1 :=
  ⟨g.ff.trans (Ex.new f), fun q u z => by
    by_cases c : q = p
    · subst c
      rw [upd_same] at z
      rw [h]
      exact z
    · rw [upd_ne c] at z
      exact g.fh q u z, g.hh, fun q h1 h2 => by
    by_cases c : q = p
    · subst c
      exact absurd n h1
    · rw [upd_ne c]
      exact g.fr q h1 h2⟩
/-! slots -/
inductive Sl where
  | un
  | sh (d : PyData)
  | ow (b : Bool) (ds : List PyData)
  | scr (ns : List Int)
  | xo (a : Addr) (o : Option (Addr × Str × PyData))
structure Cn where
  A : Addr → Prop
  F0 : Hp
  H0 : Hp
/-- a caught error: its object, and the field that its dict keeps -/
def XoR (K : PySem.W.Frag) (F : Hp) (a : Addr) (o : Option (Addr × Str × PyData)) (v : Option V) : Prop := v = some (.ref a) ∧ ∀ dx fld d, o = some (dx, fld, d) → ∃ x, F dx = some (.xd [(fld, x)]) ∧ Vd K F x d
theorem XoR.ex {K : PySem.W.Frag} {F F' : Hp} {a : Addr} {o : Option (Addr × Str × PyData)} {v : Option V} (h : XoR K F a o v) (e : Ex F F') : XoR K F' a o v :=
  ⟨h.1, fun dx fld d z => let ⟨x, h1, h2⟩ := h.2 dx fld d z; ⟨x, e _ _ h1, h2.ex e⟩⟩
def SlR (K : PySem.W.Frag) (c : Cn) (F H : Hp) (v : Option V) : Sl → Prop
  | .un => True
  | .sh d => ∃ x, v = some x ∧ Vd K F x d
  | .scr ns => ∃ a, v = some (.ref a) ∧ SqL K F a (ns.map V.int)
  | .xo a o => XoR K F a o v
  | .ow b ds => ∃ p xs, v = some (.ref p) ∧ (b = true → c.H0 p = none) ∧ ((b = true ∧ c.H0 p = none) ∨ (b = false ∧ c.A p)) ∧ F p = none ∧ H p = some (.lst xs) ∧ VdAll K F xs ds
structure Env (K : PySem.W.Frag) (c : Cn) (F H : Hp) (σ : L2.St) (ρ : List Sl) : Prop where
  len : σ.length = ρ.length
  sl : ∀ (i : Nat) (s : Sl) (v : Option V), ρ[i]? = some s → σ[i]? = some v → SlR K c F H v s
  inj : ∀ (i j : Nat) (p : Addr) (b b' : Bool) (ds ds' : List PyData), ρ[i]? = some (.ow b ds) → ρ[j]? = some (.ow b' ds') → σ[i]? = some (some (.ref p)) → σ[j]? = some (some (.ref p)) → i = j
structure Sta (c : Cn) (F H : Hp) : Prop where
  ff : Ex c.F0 F
  fh : Ex F H
  hh : ∀ p o, ¬ c.A p → c.H0 p = some o → H p = some o
  dm : ∀ p, c.H0 p ≠ none → H p ≠ none
  fr : ∀ p, c.H0 p ≠ none → c.F0 p = none → F p = none
section
variable {K : PySem.W.Frag} {c : Cn} {F H F' H' : Hp} {σ : L2.St} {ρ : List Sl}
theorem Env.at (E : Env K c F H σ ρ) {i : Nat} {s : Sl} (h : ρ[i]? = some s) : ∃ v, σ[i]? = some v ∧ SlR K c F H v s := by
  have l := (List.getElem?_eq_some_iff.mp h).1
  have e : σ[i]? = some (σ[i]'(by rw [E.len]; exact l)) := List.getElem?_eq_getElem _
  exact ⟨_, e, E.sl i s _ h e⟩
theorem Env.sh (E : Env K c F H σ ρ) {i : Nat} {d : PyData} (h : ρ[i]? = some (.sh d)) : ∃ v, σ[i]? = some (some v) ∧ Vd K F v d := by
  obtain ⟨v, h1, x, rfl, h2⟩ := E.at h
  exact ⟨x, h1, h2⟩
theorem Env.ow (E : Env K c F H σ ρ) {i : Nat} {b : Bool} {ds : List PyData} (h : ρ[i]? = some (.ow b ds)) :
    ∃ p xs, σ[i]? = some (some (.ref p)) ∧ (b = true → c.H0 p = none) ∧ ((b = true ∧ c.H0 p = none) ∨ (b = false ∧ c.A p)) ∧ F p = none ∧ H p = some (.lst xs) ∧ VdAll K F xs ds := by
  obtain ⟨v, h1, p, xs, rfl, h2⟩ := E.at h
  exact ⟨p, xs, h1, h2⟩
theorem Env.scr (E : Env K c F H σ ρ) {i : Nat} {ns : List Int} (h : ρ[i]? = some (.scr ns)) : ∃ a, σ[i]? = some (some (.ref a)) ∧ SqL K F a (ns.map V.int) := by
  obtain ⟨v, h1, a, rfl, h2⟩ := E.at h
  exact ⟨a, h1, h2⟩
theorem Env.gr (E : Env K c F H σ ρ) (g : Gr F H F' H') : Env K c F' H' σ ρ := by
  refine ⟨E.len, fun i s v h1 h2 => ?_, E.inj⟩
  have r := E.sl i s v h1 h2
  cases s with
  | un => trivial
  | scr ns => exact (let ⟨a, e, h⟩ := r; ⟨a, e, ex_l g.ff h⟩)
  | xo a o => exact r.ex g.ff
  | sh d =>
    obtain ⟨x, e, h⟩ := r
    exact ⟨x, e, h.ex g.ff⟩
  | ow b ds =>
    obtain ⟨p, xs, e, n, a, f, h, d⟩ := r
    exact ⟨p, xs, e, n, a, g.fr p (by rw [h]; exact fun z => nomatch z) f, g.hh p _ h, d.ex g.ff⟩
theorem Sta.gr (s : Sta c F H) (g : Gr F H F' H') : Sta c F' H' :=
  ⟨s.ff.trans g.ff, g.fh, fun p o h1 h2 => g.hh p o (s.hh p o h1 h2), fun p h => ne_ex g.hh (s.dm p h), fun p h1 h2 => g.fr p (s.dm p h1) (s.fr p h1 h2)⟩
theorem Sta.init {A : Addr → Prop} (e : Ex F H) : Sta ⟨A, F, H⟩ F H := ⟨Ex.refl F, e, fun _ _ _ h => h, fun _ h => h, fun _ _ h => h⟩
theorem Sta.to_gr (s : Sta ⟨fun _ => False, F, H⟩ F' H') : Gr F H F' H' := ⟨s.ff, s.fh, fun p o h => s.hh p o (fun z => z) h, s.fr⟩
theorem Env.set_sh (E : Env K c F H σ ρ) {i : Nat} {v : V} {d : PyData} (h : Vd K F v d) : Env K c F H (σ.set i (some v)) (ρ.set i (.sh d)) := by
  refine ⟨by rw [List.length_set, List.length_set, E.len], fun j s u h1 h2 => ?_, fun j k p b b' ds ds' h1 h2 h3 h4 => ?_⟩
  · by_cases q : i = j
    · subst q
      rw [List.getElem?_set] at h1 h2
      simp only [if_true] at h1 h2
      split at h1
      · cases h1
        split at h2
        · cases h2
          exact ⟨v, rfl, h⟩
        · cases h2
      · cases h1
    · rw [List.getElem?_set_ne q] at h1 h2
      exact E.sl j s u h1 h2
  · by_cases q : i = j
    · subst q
      rw [List.getElem?_set] at h1
      simp only [if_true] at h1
      split at h1 <;> cases h1
    by_cases q2 : i = k
    · subst q2
      rw [List.getElem?_set] at h2
      simp only [if_true] at h2
      split at h2 <;> cases h2
    rw [List.getElem?_set_ne q] at h1 h3
    rw [List.getElem?_set_ne q2] at h2 h4
    exact E.inj j k p b b' ds ds' h1 h2 h3 h4
/-- slots about which nothing more is told -/
theorem Env.set_un (E : Env K c F H σ ρ) (i : Nat) (v : Option V) : Env K c F H (σ.set i v) (ρ.set i .un) := by
  refine ⟨by rw [List.length_set, List.length_set, E.len], fun j s u h1 h2 => ?_, fun j k p b b' ds ds' h1 h2 h3 h4 => ?_⟩
  · by_cases q : i = j
    · subst q
      rw [List.getElem?_set] at h1
      simp only [if_true] at h1
      split at h1 <;> cases h1
      trivial
    · rw [List.getElem?_set_ne q] at h1 h2
      exact E.sl j s u h1 h2
  · by_cases q : i = j
    · subst q
      rw [List.getElem?_set] at h1
      simp only [if_true] at h1
      split at h1 <;> cases h1
    by_cases q2 : i = k
    · subst q2
      rw [List.getElem?_set] at h2
      simp only [if_true] at h2
      split at h2 <;> cases h2
    rw [List.getElem?_set_ne q] at h1 h3
    rw [List.getElem?_set_ne q2] at h2 h4
    exact E.inj j k p b b' ds ds' h1 h2 h3 h4
theorem Env.drop_un (E : Env K c F H σ ρ) (i : Nat) : Env K c F H σ (ρ.set i .un) := by
  refine ⟨by rw [List.length_set, E.len], fun j s u h1 h2 => ?_, fun j k p b b' ds ds' h1 h2 h3 h4 => ?_⟩
  · by_cases q : i = j
    · subst q
      rw [List.getElem?_set] at h1
      simp only [if_true] at h1
      split at h1 <;> cases h1
      trivial
    · rw [List.getElem?_set_ne q] at h1
      exact E.sl j s u h1 h2
  · by_cases q : i = j
    · subst q
      rw [List.getElem?_set] at h1
      simp only [if_true] at h1
      split at h1 <;> cases h1
    by_cases q2 : i = k
    · subst q2
      rw [List.getElem?_set] at h2
      simp only [if_true] at h2
      split at h2 <;> cases h2
    rw [List.getElem?_set_ne q] at h1
    rw [List.getElem?_set_ne q2] at h2
    exact E.inj j k p b b' ds ds' h1 h2 h3 h4
def Apart (σ : L2.St) (ρ : List Sl) (p : Addr) : Prop := ∀ (i : Nat) (b : Bool) (ds : List PyData), ρ[i]? = some (.ow b ds) → σ[i]? ≠ some (some (.ref p))
theorem Env.apart (E : Env K c F H σ ρ) {p : Addr} (n : H p = none) : Apart σ ρ p := fun i b ds h1 h2 => by
  obtain ⟨q, xs, e, _, _, _, h, _⟩ := E.ow h1
  rw [h2] at e
  cases e
  rw [h] at n
  cases n
theorem Env.set_ow (E : Env K c F H σ ρ) {i : Nat} {p : Addr} {xs : List V} {ds : List PyData} (ap : Apart σ ρ p) (n : c.H0 p = none) (f : F p = none) (h : H p = some (.lst xs)) (d : VdAll K F xs ds) :
    Env K c F H (σ.set i (some (.ref p))) (ρ.set i (.ow true ds)) := by
  refine ⟨by rw [List.length_set, List.length_set, E.len], fun j s u h1 h2 => ?_, fun j k q b b' es es' h1 h2 h3 h4 => ?_⟩
  · by_cases q : i = j
    · subst q
      rw [List.getElem?_set] at h1 h2
      simp only [if_true] at h1 h2
      split at h1
      · cases h1
        split at h2
        · cases h2
          exact ⟨p, xs, rfl, fun _ => n, .inl ⟨rfl, n⟩, f, h, d⟩
        · cases h2
      · cases h1
    · rw [List.getElem?_set_ne q] at h1 h2
      exact E.sl j s u h1 h2
  · by_cases q1 : i = j
    · by_cases q2 : i = k
      · rw [← q1, ← q2]
      · subst q1
        rw [List.getElem?_set_ne q2] at h2 h4
        rw [List.getElem?_set] at h3
        simp only [if_true] at h3
        split at h3
        · cases h3
          exact absurd h4 (ap k b' es' h2)
        · cases h3
    · by_cases q2 : i = k
      · subst q2
        rw [List.getElem?_set_ne q1] at h1 h3
        rw [List.getElem?_set] at h4
        simp only [if_true] at h4
        split at h4
        · cases h4
          exact absurd h3 (ap j b es h1)
        · cases h4
      · rw [List.getElem?_set_ne q1] at h1 h3
        rw [List.getElem?_set_ne q2] at h2 h4
        exact E.inj j k q b b' es es' h1 h2 h3 h4
/-- a list of its own is changed -/
theorem Env.mut (E : Env K c F H σ ρ) {i : Nat} {b : Bool} {ds es : List PyData} {p : Addr} {ys : List V} (h : ρ[i]? = some (.ow b ds)) (hp : σ[i]? = some (some (.ref p))) (d : VdAll K F ys es) :
    Env K c F (upd H p (.lst ys)) σ (ρ.set i (.ow b es)) := by
  obtain ⟨p', xs, e, nb, na, f, hl, _⟩ := E.ow h
  rw [hp] at e
  cases e
  have lt := (List.getElem?_eq_some_iff.mp h).1
  refine ⟨by rw [List.length_set, E.len], fun j s u h1 h2 => ?_, fun j k q b1 b2 e1 e2 h1 h2 h3 h4 => ?_⟩
  · by_cases q : i = j
    · subst q
      rw [List.getElem?_set_self lt] at h1
      cases h1
      rw [hp] at h2
      cases h2
      exact ⟨p, ys, rfl, nb, na, f, upd_same, d⟩
    · rw [List.getElem?_set_ne q] at h1
      have r := E.sl j s u h1 h2
      cases s with
      | un => trivial
      | scr ns => exact r
      | xo a o => exact r
      | sh d => exact r
      | ow b' ds' =>
        obtain ⟨p2, xs2, rfl, n2, a2, f2, hl2, d2⟩ := r
        have ne : p2 ≠ p := fun z => by
          subst z
          exact q (E.inj i j p2 b b' ds ds' h h1 hp h2)
        exact ⟨p2, xs2, rfl, n2, a2, f2, by rw [upd_ne ne]; exact hl2, d2⟩
  · have red : ∀ (m : Nat) (b0 : Bool) (e0 : List PyData), (ρ.set i (.ow b es))[m]? = some (.ow b0 e0) → ∃ b3 e3, ρ[m]? = some (.ow b3 e3) := fun m b0 e0 hm => by
      by_cases q : i = m
      · subst q
        exact ⟨_, _, h⟩
      · rw [List.getElem?_set_ne q] at hm
        exact ⟨_, _, hm⟩
    obtain ⟨b3, e3, g1⟩ := red j b1 e1 h1
    obtain ⟨b4, e4, g2⟩ := red k b2 e2 h2
    exact E.inj j k q b3 b4 e3 e4 g1 g2 h3 h4
theorem Sta.mut (s : Sta c F H) {b : Bool} {p : Addr} {o : HO} (f : F p = none) (a : (b = true ∧ c.H0 p = none) ∨ (b = false ∧ c.A p)) : Sta c F (upd H p o) := by
  refine ⟨s.ff, s.fh.mut f, fun q u h1 h2 => ?_, fun q h => ?_, s.fr⟩
  · by_cases z : q = p
    · subst z
      rcases a with ⟨_, a⟩ | ⟨_, a⟩
      · rw [a] at h2
        cases h2
      · exact absurd a h1
    · rw [upd_ne z]
      exact s.hh q u h1 h2
  · by_cases z : q = p
    · subst z
      rw [upd_same]
      exact fun y => nomatch y
    · rw [upd_ne z]
      exact s.dm q h
/-- a list of its own becomes shared -/
theorem Env.freeze (E : Env K c F H σ ρ) {i : Nat} {ds : List PyData} {p : Addr} {xs : List V} (h : ρ[i]? = some (.ow true ds)) (hp : σ[i]? = some (some (.ref p))) (hl : H p = some (.lst xs)) :
    Env K c (upd F p (.lst xs)) H σ (ρ.set i (.sh (.list ds))) := by
  obtain ⟨p', xs', e, nb, na, f, hl', dd⟩ := E.ow h
  rw [hp] at e
  cases e
  rw [hl] at hl'
  cases hl'
  have ff : Ex F (upd F p (.lst xs)) := Ex.new f
  have lt := (List.getElem?_eq_some_iff.mp h).1
  refine ⟨by rw [List.length_set, E.len], fun j s u h1 h2 => ?_, fun j k q b1 b2 e1 e2 h1 h2 h3 h4 => ?_⟩
  · by_cases q : i = j
    · subst q
      rw [List.getElem?_set_self lt] at h1
      cases h1
      rw [hp] at h2
      cases h2
      exact ⟨_, rfl, .lst upd_same (dd.ex ff)⟩
    · rw [List.getElem?_set_ne q] at h1
      have r := E.sl j s u h1 h2
      cases s with
      | un => trivial
      | scr ns => exact (let ⟨a, e, h⟩ := r; ⟨a, e, ex_l ff h⟩)
      | xo a o => exact r.ex ff
      | sh d =>
        obtain ⟨x, e, hx⟩ := r
        exact ⟨x, e, hx.ex ff⟩
      | ow b' ds' =>
        obtain ⟨p2, xs2, rfl, n2, a2, f2, hl2, d2⟩ := r
        have ne : p2 ≠ p := fun z => by
          subst z
          exact q (E.inj i j p2 true b' ds ds' h h1 hp h2)
        exact ⟨p2, xs2, rfl, n2, a2, by rw [upd_ne ne]; exact f2, hl2, d2.ex ff⟩
  · by_cases q1 : i = j
    · subst q1
      rw [List.getElem?_set_self lt] at h1
      cases h1
    · by_cases q2 : i = k
      · subst q2
        rw [List.getElem?_set_self lt] at h2
        cases h2
      · rw [List.getElem?_set_ne q1] at h1
        rw [List.getElem?_set_ne q2] at h2
        exact E.inj j k q b1 b2 e1 e2 h1 h2 h3 h4
theorem Sta.freeze (s : Sta c F H) {p : Addr} {o : HO} (n : c.H0 p = none) (f : F p = none) (h : H p = some o) : Sta c (upd F p o) H :=
  ⟨s.ff.trans (Ex.new f), fun q u z => by
    by_cases e : q = p
    · subst e
      rw [upd_same] at z
      rw [h]
      exact z
    · rw [upd_ne e] at z
      exact s.fh q u z, s.hh, s.dm, fun q h1 h2 => by
    by_cases e : q = p
    · subst e
      exact absurd n h1
    · rw [upd_ne e]
      exact s.fr q h1 h2⟩
/-! a look at lists of its own as if they were shared -/
def fz : Sl → Sl
  | .ow _ ds => .sh (.list ds)
  | s => s
theorem Env.look (E : Env K c F H σ ρ) (e : Ex F H) : Env K ⟨fun _ => False, H, H⟩ H H σ (ρ.map fz) := by
  refine ⟨by rw [List.length_map, E.len], fun i s v h1 h2 => ?_, fun i j p b b' ds ds' h1 _ _ _ => ?_⟩
  · rw [List.getElem?_map] at h1
    cases q : ρ[i]? with
    | none => rw [q] at h1; cases h1
    | some t =>
      rw [q] at h1
      cases h1
      have r := E.sl i t v q h2
      cases t with
      | un => trivial
      | scr ns => exact (let ⟨a, ex, h⟩ := r; ⟨a, ex, ex_l e h⟩)
      | xo a o => exact r.ex e
      | sh d =>
        obtain ⟨x, ex, hx⟩ := r
        exact ⟨x, ex, hx.ex e⟩
      | ow b ds =>
        obtain ⟨p, xs, ex, _, _, f, hl, d⟩ := r
        exact ⟨_, ex, .lst hl (d.ex e)⟩
  · rw [List.getElem?_map] at h1
    cases q : ρ[i]? with
    | none => rw [q] at h1; cases h1
    | some t =>
      rw [q] at h1
      cases t <;> cases h1
end
end PL
/-! PL1: expressions -/
namespace PL
open PySem PySem.Spec PyProof.Rows L2 Evl SB
def E (K : PySem.W.Frag) (te : TE) (ρ : List Sl) (d : PyData) : Prop := ∀ c F H σ, Env K c F H σ ρ → Ex F H → ∀ Q : VK, (∀ v F2 H2, Gr F H F2 H2 → Vd K F2 v d → Q v H2) → te σ H Q
def EA (K : PySem.W.Frag) (ta : TA) (ρ : List Sl) (ds : List PyData) : Prop := ∀ c F H σ, Env K c F H σ ρ → Ex F H → ∀ Q : List V → Hp → Prop, (∀ vs F2 H2, Gr F H F2 H2 → VdAll K F2 vs ds → Q vs H2) → ta σ H Q
def ET (K : PySem.W.Frag) (tt : TT) (ρ : List Sl) (b : Bool) : Prop := ∀ c F H σ, Env K c F H σ ρ → Ex F H → ∀ Q : Bool → Hp → Prop, (∀ F2 H2, Gr F H F2 H2 → Q b H2) → tt σ H Q
/-- a new list, of its own -/
def EO (K : PySem.W.Frag) (te : TE) (ρ : List Sl) (ds : List PyData) : Prop := ∀ c F H σ, Env K c F H σ ρ → Ex F H → ∀ Q : VK, (∀ p xs F2 H2, Gr F H F2 H2 → H p = none → F2 p = none → H2 p = some (.lst xs) → VdAll K F2 xs ds → Q (.ref p) H2) → te σ H Q
def EP (K : PySem.W.Frag) (to : TO) (ρ : List Sl) (o : Option Int) : Prop := ∀ c F H σ, Env K c F H σ ρ → Ex F H → ∀ Q : Option Int → Hp → Prop, (∀ F2 H2, Gr F H F2 H2 → Q o H2) → to σ H Q
structure ItOk (K : PySem.W.Frag) (J : It) (items : List PyData) (F0 : Hp) : Prop where
  go : ∀ i H, Ex F0 H → i < items.length → J.go i H
  yl : ∀ i F H d, Ex F0 F → Ex F H → items[i]? = some d → ∀ x H', J.yld i H x H' → ∃ F', Gr F H F' H' ∧ Vd K F' x d
  st : ∀ i H, Ex F0 H → items.length ≤ i → J.stop i H
def EI (K : PySem.W.Frag) (wi : TI) (ρ : List Sl) (items : List PyData) : Prop := ∀ c F H σ, Env K c F H σ ρ → Ex F H → ∀ R : It → Hp → Prop, (∀ J F2 H2, Gr F H F2 H2 → ItOk K J items F2 → R J H2) → wi σ H R
def OpE (K : PySem.W.Frag) (r : R2) (x y z : PyData) : Prop := ∀ F H u v, Ex F H → Vd K F u x → Vd K F v y → ∀ Q : VK, (∀ w F2 H2, Gr F H F2 H2 → Vd K F2 w z → Q w H2) → r u v H Q
def OpO (K : PySem.W.Frag) (r : R2) (x y : PyData) (ds : List PyData) : Prop := ∀ F H u v, Ex F H → Vd K F u x → Vd K F v y → ∀ Q : VK, (∀ p xs F2 H2, Gr F H F2 H2 → H p = none → F2 p = none → H2 p = some (.lst xs) → VdAll K F2 xs ds → Q (.ref p) H2) → r u v H Q
/-- a call of a built-in by values -/
def CbE (K : PySem.W.Frag) (r : List V → Hp → VK → Prop) (ds : List PyData) (z : PyData) : Prop := ∀ F H vs, Ex F H → VdAll K F vs ds → ∀ Q : VK, (∀ w F2 H2, Gr F H F2 H2 → Vd K F2 w z → Q w H2) → r vs H Q
def CbO (K : PySem.W.Frag) (r : List V → Hp → VK → Prop) (ds : List PyData) (es : List PyData) : Prop := ∀ F H vs, Ex F H → VdAll K F vs ds → ∀ Q : VK, (∀ p xs F2 H2, Gr F H F2 H2 → H p = none → F2 p = none → H2 p = some (.lst xs) → VdAll K F2 xs es → Q (.ref p) H2) → r vs H Q
/-- a call of a def -/
def CE (K : PySem.W.Frag) (sp : Sp) (ds : List PyData) (d : PyData) : Prop := ∀ F H vs Q X, Ex F H → VdAll K F vs ds → (∀ v F2 H2, Gr F H F2 H2 → Vd K F2 v d → Q v H2) → sp vs H Q X
def CO (K : PySem.W.Frag) (sp : Sp) (ds : List PyData) (es : List PyData) : Prop := ∀ F H vs Q X, Ex F H → VdAll K F vs ds → (∀ p xs F2 H2, Gr F H F2 H2 → H p = none → F2 p = none → H2 p = some (.lst xs) → VdAll K F2 xs es → Q (.ref p) H2) → sp vs H Q X
section
variable {K : PySem.W.Frag} {ρ : List Sl} {ta tb te tc : TE} {x y z d : PyData} {ds es : List PyData} {r r' : R2} {tt tu : TT} {a b : Bool}
theorem e_eq (h : E K te ρ x) (e : x = y) : E K te ρ y := e ▸ h
theorem eo_eq (h : EO K te ρ ds) (e : ds = es) : EO K te ρ es := e ▸ h
theorem et_eq (h : ET K tt ρ a) (e : a = b) : ET K tt ρ b := e ▸ h
theorem e_var {i : Nat} (h : ρ[i]? = some (.sh d)) : E K (tVar i) ρ d := fun c F H σ en ex Q q => let ⟨v, h1, h2⟩ := en.sh h; ⟨v, h1, q v F H (Gr.refl ex) h2⟩
theorem e_int {i : Int} : E K (tC (.int i)) ρ (.int i) := fun c F H σ en ex Q q => q _ F H (Gr.refl ex) (.int i)
theorem e_bl {b : Bool} : E K (tC (.bl b)) ρ (.bool b) := fun c F H σ en ex Q q => q _ F H (Gr.refl ex) (.bl b)
theorem e_str {s : Str} : E K (tC (.str s)) ρ (.str s) := fun c F H σ en ex Q q => q _ F H (Gr.refl ex) (.str s)
theorem e_non : E K (tC .non) ρ .none := fun c F H σ en ex Q q => q _ F H (Gr.refl ex) .non
theorem e_con {t : Addr} {xs : List V} (h : ∀ H, SqT K H t xs) (hd : ∀ F, VdAll K F xs ds) : E K (tC (.ref t)) ρ (.tuple ds) := fun c F H σ en ex Q q => q _ F H (Gr.refl ex) (.tup (h F) (hd F))
theorem e_op (ha : E K ta ρ x) (hb : E K tb ρ y) (hr : OpE K r x y z) : E K (tOp r ta tb) ρ z := fun c F H σ en ex Q q =>
  ha c F H σ en ex _ fun u F1 H1 g1 du => hb c F1 H1 σ (en.gr g1) g1.fh _ fun v F2 H2 g2 dv => hr F2 H2 u v g2.fh (du.ex g2.ff) dv Q fun w F3 H3 g3 dw => q w F3 H3 ((g1.trans g2).trans g3) dw
theorem eo_op (ha : E K ta ρ x) (hb : E K tb ρ y) (hr : OpO K r x y ds) : EO K (tOp r ta tb) ρ ds := fun c F H σ en ex Q q =>
  ha c F H σ en ex _ fun u F1 H1 g1 du => hb c F1 H1 σ (en.gr g1) g1.fh _ fun v F2 H2 g2 dv => hr F2 H2 u v g2.fh (du.ex g2.ff) dv Q fun p xs F3 H3 g3 n f h dw => q p xs F3 H3 ((g1.trans g2).trans g3) (fresh_back (g1.trans g2).hh n) f h dw
theorem eo_e (h : EO K te ρ ds) : E K te ρ (.list ds) := fun c F H σ en ex Q q =>
  h c F H σ en ex Q fun p xs F2 H2 g n f hl d => q _ _ H2 (g.freeze n f hl) (.lst upd_same (d.ex (Ex.new f)))
/-- a look at lists of one's own, where what comes out is flat -/
theorem e_fz (h : E K te (ρ.map fz) d) (f : flt d = true) : E K te ρ d := fun c F H σ en ex Q q =>
  h _ H H σ (en.look ex) (Ex.refl H) Q fun v F2 H2 g dv => q v F H2 ⟨Ex.refl F, ex.trans g.hh, g.hh, fun _ _ z => z⟩ (by rw [dv.flat f]; exact .of_flat f)
theorem et_fz (h : ET K tt (ρ.map fz) b) : ET K tt ρ b := fun c F H σ en ex Q q =>
  h _ H H σ (en.look ex) (Ex.refl H) Q fun F2 H2 g => q F H2 ⟨Ex.refl F, ex.trans g.hh, g.hh, fun _ _ z => z⟩
/-- .. or a new list of flat things -/
theorem eo_fz (h : EO K te (ρ.map fz) ds) (f : ds.all flt = true) : EO K te ρ ds := fun c F H σ en ex Q q =>
  h _ H H σ (en.look ex) (Ex.refl H) Q fun p xs F2 H2 g n fn hl dv => q p xs F H2 ⟨Ex.refl F, ex.trans g.hh, g.hh, fun _ _ z => z⟩ n (fresh_back ex n) hl (by rw [dv.flat f]; exact .of_flat f)
theorem oe_i {f : Int → Int → Int} {i j : Int} : OpE K (rI0 fun i j => V.int (f i j)) (.int i) (.int j) (.int (f i j)) := fun F H u v ex hu hv Q q => by
  cases hu; cases hv
  exact ⟨i, j, rfl, rfl, q _ F H (Gr.refl ex) (.int _)⟩
theorem oe_c {f : Int → Int → Bool} {i j : Int} : OpE K (rI0 fun i j => V.bl (f i j)) (.int i) (.int j) (.bool (f i j)) := fun F H u v ex hu hv Q q => by
  cases hu; cases hv
  exact ⟨i, j, rfl, rfl, q _ F H (Gr.refl ex) (.bl _)⟩
theorem oe_iC {C : Int → Int → Prop} {f : Int → Int → Int} {i j : Int} (hc : C i j) : OpE K (rI C fun i j => V.int (f i j)) (.int i) (.int j) (.int (f i j)) := fun F H u v ex hu hv Q q => by
  cases hu; cases hv
  exact ⟨i, j, rfl, rfl, hc, q _ F H (Gr.refl ex) (.int _)⟩
def flE : PyData → PyData → Bool
  | .none, .none => true
  | .bool a, .bool b => a == b
  | .int a, .int b => decide (a = b)
  | .str a, .str b => decide (a = b)
  | _, _ => false
theorem oe_eqI {i j : Int} : OpE K rEq (.int i) (.int j) (.bool (decide (i = j))) := fun F H u v ex hu hv Q q => by
  cases hu; cases hv
  refine ⟨rfl, q _ F H (Gr.refl ex) ?_⟩
  rw [show decide (V.int i = V.int j) = decide (i = j) from decide_eq_decide.mpr ⟨fun h => by injection h, fun h => by rw [h]⟩]
  exact .bl _
theorem oe_neI {i j : Int} : OpE K rNe (.int i) (.int j) (.bool (!decide (i = j))) := fun F H u v ex hu hv Q q => by
  cases hu; cases hv
  refine ⟨rfl, q _ F H (Gr.refl ex) ?_⟩
  rw [show decide (V.int i = V.int j) = decide (i = j) from decide_eq_decide.mpr ⟨fun h => by injection h, fun h => by rw [h]⟩]
  exact .bl _
theorem oe_eqS {i j : Str} : OpE K rEq (.str i) (.str j) (.bool (decide (i = j))) := fun F H u v ex hu hv Q q => by
  cases hu; cases hv
  refine ⟨rfl, q _ F H (Gr.refl ex) ?_⟩
  rw [show decide (V.str i = V.str j) = decide (i = j) from decide_eq_decide.mpr ⟨fun h => by injection h, fun h => by rw [h]⟩]
  exact .bl _
theorem oe_neS {i j : Str} : OpE K rNe (.str i) (.str j) (.bool (!decide (i = j))) := fun F H u v ex hu hv Q q => by
  cases hu; cases hv
  refine ⟨rfl, q _ F H (Gr.refl ex) ?_⟩
  rw [show decide (V.str i = V.str j) = decide (i = j) from decide_eq_decide.mpr ⟨fun h => by injection h, fun h => by rw [h]⟩]
  exact .bl _
/-- == of bools -/
theorem oe_eqB {i j : Bool} : OpE K rEq (.bool i) (.bool j) (.bool (i == j)) := fun F H u v ex hu hv Q q => by
  cases hu; cases hv
  refine ⟨rfl, q _ F H (Gr.refl ex) ?_⟩
  have e : decide (V.bl i = V.bl j) = (i == j) := by cases i <;> cases j <;> rfl
  rw [e]
  exact .bl _
theorem oe_neB {i j : Bool} : OpE K rNe (.bool i) (.bool j) (.bool (!(i == j))) := fun F H u v ex hu hv Q q => by
  cases hu; cases hv
  refine ⟨rfl, q _ F H (Gr.refl ex) ?_⟩
  have e : decide (V.bl i = V.bl j) = (i == j) := by cases i <;> cases j <;> rfl
  rw [e]
  exact .bl _
def isNo : PyData → Bool
  | .none => true
  | _ => false
theorem isNo_v {F : Hp} {v : V} {d : PyData} (h : Vd K F v d) : decide (v = .non) = isNo d := by
  cases h <;> first | rfl | (refine decide_eq_false ?_; intro h; cases h)
theorem oe_is : OpE K (fun x y H Q => y = V.non ∧ Q (V.bl (decide (x = V.non))) H) x .none (.bool (isNo x)) := fun F H u v ex hu hv Q q => by
  cases hv
  refine ⟨rfl, q _ F H (Gr.refl ex) ?_⟩
  rw [isNo_v hu]
  exact .bl _
theorem oe_isnot : OpE K (fun x y H Q => y = V.non ∧ Q (V.bl !decide (x = V.non)) H) x .none (.bool (!isNo x)) := fun F H u v ex hu hv Q q => by
  cases hv
  refine ⟨rfl, q _ F H (Gr.refl ex) ?_⟩
  rw [isNo_v hu]
  exact .bl _
theorem oe_eqD (h1 : SeqAt.shaped x = true) (h2 : SeqAt.shaped y = true) : OpE K (rEqD K) x y (.bool (PyData.eqv x y)) := fun F H u v ex hu hv Q q =>
  ⟨x, y, (hu.ex ex).dp (PyData.hasDict_of_canLay _ (SeqAt.canLay_of_shaped h1)), (hv.ex ex).dp (PyData.hasDict_of_canLay _ (SeqAt.canLay_of_shaped h2)), h1, h2, q _ F H (Gr.refl ex) (.bl _)⟩
theorem oe_neD (h1 : SeqAt.shaped x = true) (h2 : SeqAt.shaped y = true) : OpE K (rNeD K) x y (.bool (!PyData.eqv x y)) := fun F H u v ex hu hv Q q =>
  ⟨x, y, (hu.ex ex).dp (PyData.hasDict_of_canLay _ (SeqAt.canLay_of_shaped h1)), (hv.ex ex).dp (PyData.hasDict_of_canLay _ (SeqAt.canLay_of_shaped h2)), h1, h2, q _ F H (Gr.refl ex) (.bl _)⟩
theorem atI_vd {F : Hp} {vs : List V} (h : VdAll K F vs ds) {i : Int} (e : atI ds i = some d) : ∃ v, atI vs i = some v ∧ Vd K F v d := by
  unfold atI at e ⊢
  rw [h.len]
  cases q : ixN ds.length i with
  | none => rw [q] at e; cases e
  | some j =>
    rw [q] at e
    exact h.get e
theorem oe_ixL {i : Int} (e : atI ds i = some d) : OpE K (rIxL K) (.list ds) (.int i) d := fun F H u v ex hu hv Q q => by
  cases hv
  obtain ⟨a, xs, rfl, hl, da⟩ := hu.list_inv
  obtain ⟨w, e2, dw⟩ := atI_vd da e
  exact ⟨a, xs, i, w, rfl, rfl, sq_of (ex _ _ hl), e2, q w F H (Gr.refl ex) dw⟩
theorem oe_ixT {i : Int} (e : atI ds i = some d) : OpE K (rIxT K) (.tuple ds) (.int i) d := fun F H u v ex hu hv Q q => by
  cases hv
  obtain ⟨a, xs, rfl, hl, da⟩ := hu.tup_inv
  obtain ⟨w, e2, dw⟩ := atI_vd da e
  exact ⟨a, xs, i, w, rfl, rfl, ex_t ex hl, e2, q w F H (Gr.refl ex) dw⟩
theorem flv_flat {d : PyData} (h : flt d = true) : flatV (flv d) = true := by cases d <;> first | rfl | cases h
theorem flv_all : ∀ {ds : List PyData}, ds.all flt = true → (ds.map flv).all flatV = true
  | [], _ => rfl
  | d :: ds, h => by
    rw [List.all_cons, Bool.and_eq_true] at h
    rw [List.map_cons, List.all_cons, flv_flat h.1, flv_all h.2]
    rfl
theorem oe_inL {neg : Bool} (h1 : flt x = true) (h2 : ds.all flt = true) : OpE K (rIn K neg) x (.list ds) (.bool (if neg then !inV (flv x) (ds.map flv) else inV (flv x) (ds.map flv))) := fun F H u v ex hu hv Q q => by
  obtain ⟨a, xs, rfl, hl, da⟩ := hv.list_inv
  refine ⟨a, xs, rfl, .inl (sq_of (ex _ _ hl)), ?_, ?_, ?_⟩
  · rw [hu.flat h1]; exact flv_flat h1
  · rw [da.flat h2]; exact flv_all h2
  · rw [hu.flat h1, da.flat h2]; exact q _ F H (Gr.refl ex) (.bl _)
theorem oe_inT {neg : Bool} (h1 : flt x = true) (h2 : ds.all flt = true) : OpE K (rIn K neg) x (.tuple ds) (.bool (if neg then !inV (flv x) (ds.map flv) else inV (flv x) (ds.map flv))) := fun F H u v ex hu hv Q q => by
  obtain ⟨a, xs, rfl, hl, da⟩ := hv.tup_inv
  refine ⟨a, xs, rfl, .inr (ex_t ex hl), ?_, ?_, ?_⟩
  · rw [hu.flat h1]; exact flv_flat h1
  · rw [da.flat h2]; exact flv_all h2
  · rw [hu.flat h1, da.flat h2]; exact q _ F H (Gr.refl ex) (.bl _)
theorem oo_cat (h : ds.length + es.length ≤ 100000) : OpO K rCat (.list ds) (.list es) (ds ++ es) := fun F H u v ex hu hv Q q => by
  obtain ⟨a, xs, rfl, hl, da⟩ := hu.list_inv
  obtain ⟨b, ys, rfl, hm, db⟩ := hv.list_inv
  exact ⟨a, b, xs, ys, rfl, rfl, ex _ _ hl, ex _ _ hm, by rw [da.len, db.len]; exact sz_of h, fun p n => q p _ F _ (Gr.own ex n) n (fresh_back ex n) upd_same (da.app db)⟩
theorem oo_rep {k : Int} (h0 : -(2 ^ 63) ≤ k) (h1 : k < 2 ^ 63) (h : ds.length * k.toNat ≤ 100000) : OpO K rRep (.list ds) (.int k) (List.replicate k.toNat ds).flatten := fun F H u v ex hu hv Q q => by
  obtain ⟨a, xs, rfl, hl, da⟩ := hu.list_inv
  cases hv
  exact ⟨a, k, xs, rfl, rfl, ex _ _ hl, h0, h1, by rw [da.len]; exact sz_of h, fun p n => q p _ F _ (Gr.own ex n) n (fresh_back ex n) upd_same (VdAll.reps da _)⟩
theorem oe_catT (hn : ds ≠ []) (h : ds.length + es.length ≤ 100000) : OpE K (rCatT K) (.tuple ds) (.tuple es) (.tuple (ds ++ es)) := fun F H u v ex hu hv Q q => by
  obtain ⟨a, xs, rfl, hl, da⟩ := hu.tup_inv
  obtain ⟨b, ys, rfl, hm, db⟩ := hv.tup_inv
  refine ⟨a, b, xs, ys, rfl, rfl, ex_t ex hl, ex_t ex hm, ?_, by rw [da.len, db.len]; exact sz_of h, fun e => ?_, fun e p n => ?_⟩
  · intro z
    subst z
    cases da
    exact hn rfl
  · subst e
    cases db
    exact q _ F H (Gr.refl ex) (by rw [List.append_nil]; exact .tup hl da)
  · have g := Gr.new (o := .tup (xs ++ ys)) ex n
    exact q _ _ _ g (.tup (st_of upd_same) ((da.ex g.ff).app (db.ex g.ff)))
theorem oe_addS {i j : Str} (h : i.length + j.length ≤ sizeLine) : OpE K (fun x y H Q => ∃ i j, x = V.str i ∧ y = V.str j ∧ i.length + j.length ≤ sizeLine ∧ Q (V.str (i ++ j)) H) (.str i) (.str j) (.str (i ++ j)) := fun F H u v ex hu hv Q q => by
  cases hu; cases hv
  exact ⟨i, j, rfl, rfl, h, q _ F H (Gr.refl ex) (.str _)⟩
theorem e_neg {f : Int → Int} {i : Int} (ha : E K ta ρ (.int i)) : E K (tUn (rU fun i => V.int (f i)) ta) ρ (.int (f i)) := fun c F H σ en ex Q q =>
  ha c F H σ en ex _ fun u F1 H1 g1 du => by
    cases du
    exact ⟨i, rfl, q _ F1 H1 g1 (.int _)⟩
theorem e_chain (ha : E K ta ρ x) (hb : E K tb ρ y) (hc : E K tc ρ z) (h1 : OpE K r x y (.bool a)) (h2 : OpE K r' y z (.bool b)) : E K (tChain r r' ta tb tc) ρ (.bool (a && b)) := fun c F H σ en ex Q q =>
  ha c F H σ en ex _ fun u F1 H1 g1 du => hb c F1 H1 σ (en.gr g1) g1.fh _ fun v F2 H2 g2 dv => h1 F2 H2 u v g2.fh (du.ex g2.ff) dv _ fun w F3 H3 g3 dw => by
    cases dw
    refine ⟨a, rfl, ?_⟩
    cases a with
    | true =>
      refine (show (if true = true then _ else _) from ?_)
      rw [if_pos rfl]
      exact hc c F3 H3 σ (((en.gr g1).gr g2).gr g3) g3.fh _ fun w4 F4 H4 g4 d4 => h2 F4 H4 v w4 g4.fh ((dv.ex g3.ff).ex g4.ff) d4 Q fun w5 F5 H5 g5 d5 => by
        exact q w5 F5 H5 ((((g1.trans g2).trans g3).trans g4).trans g5) d5
    | false =>
      refine (show (if false = true then _ else _) from ?_)
      rw [if_neg Bool.false_ne_true]
      exact q _ F3 H3 ((g1.trans g2).trans g3) (.bl _)
theorem e_andV (h1 : E K ta ρ (.bool a)) (h2 : a = true → E K tb ρ (.bool b)) : E K (tAndV ta tb) ρ (.bool (a && b)) := fun c F H σ en ex Q q =>
  h1 c F H σ en ex _ fun u F1 H1 g1 du => by
    cases du
    refine ⟨a, rfl, ?_⟩
    cases a with
    | true =>
      rw [if_pos rfl]
      exact h2 rfl c F1 H1 σ (en.gr g1) g1.fh Q fun v F2 H2 g2 dv => q v F2 H2 (g1.trans g2) dv
    | false =>
      rw [if_neg Bool.false_ne_true]
      exact q _ F1 H1 g1 (.bl _)
theorem e_orV (h1 : E K ta ρ (.bool a)) (h2 : a = false → E K tb ρ (.bool b)) : E K (tOrV ta tb) ρ (.bool (a || b)) := fun c F H σ en ex Q q =>
  h1 c F H σ en ex _ fun u F1 H1 g1 du => by
    cases du
    refine ⟨a, rfl, ?_⟩
    cases a with
    | true =>
      rw [if_pos rfl]
      exact q _ F1 H1 g1 (.bl _)
    | false =>
      rw [if_neg Bool.false_ne_true]
      exact h2 rfl c F1 H1 σ (en.gr g1) g1.fh Q fun v F2 H2 g2 dv => q v F2 H2 (g1.trans g2) dv
theorem e_notV (h1 : E K ta ρ (.bool a)) : E K (tNotV ta) ρ (.bool (!a)) := fun c F H σ en ex Q q =>
  h1 c F H σ en ex _ fun u F1 H1 g1 du => by
    cases du
    exact ⟨a, rfl, q _ F1 H1 g1 (.bl _)⟩
theorem e_if (h : ET K tt ρ a) (h1 : a = true → E K ta ρ d) (h2 : a = false → E K tb ρ d) : E K (tIf tt ta tb) ρ d := fun c F H σ en ex Q q =>
  h c F H σ en ex _ fun F1 H1 g1 => by
    cases a with
    | true =>
      rw [if_pos rfl]
      exact h1 rfl c F1 H1 σ (en.gr g1) g1.fh Q fun v F2 H2 g2 dv => q v F2 H2 (g1.trans g2) dv
    | false =>
      rw [if_neg Bool.false_ne_true]
      exact h2 rfl c F1 H1 σ (en.gr g1) g1.fh Q fun v F2 H2 g2 dv => q v F2 H2 (g1.trans g2) dv
theorem eo_if (h : ET K tt ρ a) (h1 : a = true → EO K ta ρ ds) (h2 : a = false → EO K tb ρ ds) : EO K (tIf tt ta tb) ρ ds := fun c F H σ en ex Q q =>
  h c F H σ en ex _ fun F1 H1 g1 => by
    cases a with
    | true =>
      rw [if_pos rfl]
      exact h1 rfl c F1 H1 σ (en.gr g1) g1.fh Q fun p xs F2 H2 g2 n f hl dv => q p xs F2 H2 (g1.trans g2) (fresh_back g1.hh n) f hl dv
    | false =>
      rw [if_neg Bool.false_ne_true]
      exact h2 rfl c F1 H1 σ (en.gr g1) g1.fh Q fun p xs F2 H2 g2 n f hl dv => q p xs F2 H2 (g1.trans g2) (fresh_back g1.hh n) f hl dv
/-! tests -/
theorem et_test (h : E K te ρ (.bool b)) : ET K (tTest te) ρ b := fun c F H σ en ex Q q => h c F H σ en ex _ fun v F2 H2 g dv => by
  cases dv
  exact ⟨b, rfl, q F2 H2 g⟩
theorem et_B (h : E K te ρ (.bool b)) : ET K (tB te) ρ b := fun c F H σ en ex Q q => h c F H σ en ex _ fun v F2 H2 g dv => by
  cases dv
  exact ⟨b, rfl, q F2 H2 g⟩
theorem et_and (h1 : ET K tt ρ a) (h2 : a = true → ET K tu ρ b) : ET K (tAnd tt tu) ρ (a && b) := fun c F H σ en ex Q q => h1 c F H σ en ex _ fun F1 H1 g1 => by
  cases a with
  | true =>
    rw [if_pos rfl]
    exact h2 rfl c F1 H1 σ (en.gr g1) g1.fh Q fun F2 H2 g2 => q F2 H2 (g1.trans g2)
  | false =>
    rw [if_neg Bool.false_ne_true]
    exact q F1 H1 g1
theorem et_or (h1 : ET K tt ρ a) (h2 : a = false → ET K tu ρ b) : ET K (tOr tt tu) ρ (a || b) := fun c F H σ en ex Q q => h1 c F H σ en ex _ fun F1 H1 g1 => by
  cases a with
  | true =>
    rw [if_pos rfl]
    exact q F1 H1 g1
  | false =>
    rw [if_neg Bool.false_ne_true]
    exact h2 rfl c F1 H1 σ (en.gr g1) g1.fh Q fun F2 H2 g2 => q F2 H2 (g1.trans g2)
theorem et_not (h1 : ET K tt ρ a) : ET K (tNot tt) ρ (!a) := fun c F H σ en ex Q q => h1 c F H σ en ex _ fun F1 H1 g1 => q F1 H1 g1
/-- truth -/
def tru : PyData → Bool
  | .none => false
  | .bool b => b
  | .int i => i != 0
  | .str s => s.length != 0
  | .list ds => !ds.isEmpty
  | .tuple ds => !ds.isEmpty
  | .dict ds => !ds.isEmpty
theorem et_truL (h : E K te ρ (.list ds)) : ET K (fun σ H Q => te σ H fun x H' => ∃ k, TruV K x H' k ∧ Q k H') ρ (!ds.isEmpty) := fun c F H σ en ex Q q => h c F H σ en ex _ fun v F2 H2 g dv => by
  obtain ⟨a, xs, rfl, hl, da⟩ := dv.list_inv
  refine ⟨_, .inl ⟨xs, sq_of (g.fh _ _ hl), rfl⟩, ?_⟩
  have e : xs.isEmpty = ds.isEmpty := by
    cases da <;> rfl
  rw [e]
  exact q F2 H2 g
/-! arguments, displays -/
theorem ea_nil : EA K tNil ρ [] := fun c F H σ en ex Q q => q [] F H (Gr.refl ex) .nil
theorem ea_cons {tr : TA} (h : E K te ρ d) (hr : EA K tr ρ ds) : EA K (tCons te tr) ρ (d :: ds) := fun c F H σ en ex Q q =>
  h c F H σ en ex _ fun v F1 H1 g1 dv => hr c F1 H1 σ (en.gr g1) g1.fh _ fun vs F2 H2 g2 dvs => q _ F2 H2 (g1.trans g2) (.cons (dv.ex g2.ff) dvs)
variable {t tk : TA}
theorem e_tup (h : EA K t ρ ds) (hl : ds.length ≤ 100000 := by first | decide | simp | (simp [SB.dI, SB.parL])) : E K (tTup t) ρ (.tuple ds) := fun c F H σ en ex Q q =>
  h c F H σ en ex _ fun vs F1 H1 g1 dvs => ⟨by rw [dvs.len]; exact sz_of hl, fun p n => by
    have g := Gr.new (o := .tup vs) g1.fh n
    exact q _ _ _ (g1.trans g) (.tup (st_of upd_same) (dvs.ex g.ff))⟩
theorem eo_lst (h : EA K t ρ ds) (hl : ds.length ≤ 100000 := by first | decide | simp | (simp [SB.dI, SB.parL])) : EO K (tLst t) ρ ds := fun c F H σ en ex Q q =>
  h c F H σ en ex _ fun vs F1 H1 g1 dvs => ⟨by rw [dvs.len]; exact sz_of hl, fun p n => q p vs F1 _ (g1.trans (Gr.own g1.fh n)) (fresh_back g1.hh n) (fresh_back g1.fh n) upd_same dvs⟩
theorem e_lst (h : EA K t ρ ds) (hl : ds.length ≤ 100000 := by first | decide | simp | (simp [SB.dI, SB.parL])) : E K (tLst t) ρ (.list ds) := eo_e (eo_lst h hl)
/-! calls -/
theorem e_cb {rr : List V → Hp → VK → Prop} (h : EA K t ρ ds) (hr : CbE K rr ds d) : E K (tCB rr t) ρ d := fun c F H σ en ex Q q =>
  h c F H σ en ex _ fun vs F1 H1 g1 dvs => hr F1 H1 vs g1.fh dvs Q fun v F2 H2 g2 dv => q v F2 H2 (g1.trans g2) dv
theorem eo_cb {rr : List V → Hp → VK → Prop} (h : EA K t ρ ds) (hr : CbO K rr ds es) : EO K (tCB rr t) ρ es := fun c F H σ en ex Q q =>
  h c F H σ en ex _ fun vs F1 H1 g1 dvs => hr F1 H1 vs g1.fh dvs Q fun p xs F2 H2 g2 n f hl dv => q p xs F2 H2 (g1.trans g2) (fresh_back g1.hh n) f hl dv
theorem e_call {sp : Sp} {X : XK} (h : EA K t ρ ds) (hs : CE K sp ds d) : E K (tCall sp [] X t) ρ d := fun c F H σ en ex Q q =>
  h c F H σ en ex _ fun vs F1 H1 g1 dvs => by
    rw [List.append_nil]
    exact hs F1 H1 vs Q X g1.fh dvs fun v F2 H2 g2 dv => q v F2 H2 (g1.trans g2) dv
theorem eo_call {sp : Sp} {X : XK} (h : EA K t ρ ds) (hs : CO K sp ds es) : EO K (tCall sp [] X t) ρ es := fun c F H σ en ex Q q =>
  h c F H σ en ex _ fun vs F1 H1 g1 dvs => by
    rw [List.append_nil]
    exact hs F1 H1 vs Q X g1.fh dvs fun p xs F2 H2 g2 n f hl dv => q p xs F2 H2 (g1.trans g2) (fresh_back g1.hh n) f hl dv
theorem e_callK {sp : Sp} {X : XK} {gV : List V → List V → List V} (h : EA K tk ρ ds) (hp : ∀ F vs, VdAll K F vs ds → VdAll K F (gV [] vs) es) (hs : CE K sp es d) : E K (tCallK sp gV X tNil tk) ρ d := fun c F H σ en ex Q q =>
  h c F H σ en ex _ fun vs F1 H1 g1 dvs => hs F1 H1 _ Q X g1.fh (hp F1 vs dvs) fun v F2 H2 g2 dv => q v F2 H2 (g1.trans g2) dv
theorem eo_callK {sp : Sp} {X : XK} {gV : List V → List V → List V} {fs : List PyData} (h : EA K tk ρ ds) (hp : ∀ F vs, VdAll K F vs ds → VdAll K F (gV [] vs) es) (hs : CO K sp es fs) : EO K (tCallK sp gV X tNil tk) ρ fs := fun c F H σ en ex Q q =>
  h c F H σ en ex _ fun vs F1 H1 g1 dvs => hs F1 H1 _ Q X g1.fh (hp F1 vs dvs) fun p xs F2 H2 g2 n f hl dv => q p xs F2 H2 (g1.trans g2) (fresh_back g1.hh n) f hl dv
theorem co_ce {sp : Sp} (h : CO K sp ds es) : CE K sp ds (.list es) := fun F H vs Q X ex dvs q => h F H vs Q X ex dvs fun p xs F2 H2 g n f hl d => q _ _ H2 (g.freeze n f hl) (.lst upd_same (d.ex (Ex.new f)))
/-! built-ins -/
theorem cb_lenL : CbE K (fun xs H Q => ∃ p ys, xs = [V.ref p] ∧ (SqL K H p ys ∨ SqT K H p ys) ∧ Q (V.int (ys.length : Int)) H) [.list ds] (.int (ds.length : Int)) := fun F H vs ex dvs Q q => by
  cases dvs with
  | cons h1 h2 =>
    cases h2
    obtain ⟨a, xs, rfl, hl, da⟩ := h1.list_inv
    refine ⟨a, xs, rfl, .inl (sq_of (ex _ _ hl)), ?_⟩
    rw [da.len]
    exact q _ F H (Gr.refl ex) (.int _)
theorem cb_lenT : CbE K (fun xs H Q => ∃ p ys, xs = [V.ref p] ∧ (SqL K H p ys ∨ SqT K H p ys) ∧ Q (V.int (ys.length : Int)) H) [.tuple ds] (.int (ds.length : Int)) := fun F H vs ex dvs Q q => by
  cases dvs with
  | cons h1 h2 =>
    cases h2
    obtain ⟨a, xs, rfl, hl, da⟩ := h1.tup_inv
    refine ⟨a, xs, rfl, .inr (ex_t ex hl), ?_⟩
    rw [da.len]
    exact q _ F H (Gr.refl ex) (.int _)
theorem cb_int {i : Int} : CbE K (fun xs H Q => (∃ i, xs = [V.int i] ∧ Q (V.int i) H) ∨ ∃ k, xs = [V.bl k] ∧ Q (V.int (if k = true then 1 else 0)) H) [.int i] (.int i) := fun F H vs ex dvs Q q => by
  cases dvs with
  | cons h1 h2 =>
    cases h2
    cases h1
    exact .inl ⟨i, rfl, q _ F H (Gr.refl ex) (.int _)⟩
theorem cb_intB {b : Bool} : CbE K (fun xs H Q => (∃ i, xs = [V.int i] ∧ Q (V.int i) H) ∨ ∃ k, xs = [V.bl k] ∧ Q (V.int (if k = true then 1 else 0)) H) [.bool b] (.int (if b = true then 1 else 0)) := fun F H vs ex dvs Q q => by
  cases dvs with
  | cons h1 h2 =>
    cases h2
    cases h1
    exact .inr ⟨b, rfl, q _ F H (Gr.refl ex) (.int _)⟩
theorem cb_abs {i : Int} : CbE K (fun xs H Q => ∃ i, xs = [V.int i] ∧ Q (V.int (if i < 0 then -i else i)) H) [.int i] (.int (if i < 0 then -i else i)) := fun F H vs ex dvs Q q => by
  cases dvs with
  | cons h1 h2 =>
    cases h2
    cases h1
    exact ⟨i, rfl, q _ F H (Gr.refl ex) (.int _)⟩
/-- max, min of two -/
theorem cb_2 {f : Int → Int → Int} {i j : Int} : CbE K (fun xs H Q => ∃ i j, xs = [V.int i, V.int j] ∧ Q (V.int (f i j)) H) [.int i, .int j] (.int (f i j)) := fun F H vs ex dvs Q q => by
  cases dvs with
  | cons h1 h2 =>
    cases h2 with
    | cons h3 h4 =>
      cases h4
      cases h1
      cases h3
      exact ⟨i, j, rfl, q _ F H (Gr.refl ex) (.int _)⟩
theorem cb_max {ns : List Int} {m : Int} (h : Mx ns m) : CbE K (rMax K) [.list (dI ns)] (.int m) := fun F H vs ex dvs Q q => by
  cases dvs with
  | cons h1 h2 =>
    cases h2
    obtain ⟨a, xs, rfl, hl, da⟩ := h1.list_inv
    have e := da.ints_inv
    subst e
    refine ⟨a, ns, rfl, sq_of (ex _ _ hl), List.length_pos_of_mem h.1, fun k h1 h2 => ?_⟩
    rw [Mx.uniq ⟨h1, h2⟩ h]
    exact q _ F H (Gr.refl ex) (.int _)
theorem cb_min {ns : List Int} {m : Int} (h : Mi ns m) : CbE K (rMin K) [.list (dI ns)] (.int m) := fun F H vs ex dvs Q q => by
  cases dvs with
  | cons h1 h2 =>
    cases h2
    obtain ⟨a, xs, rfl, hl, da⟩ := h1.list_inv
    have e := da.ints_inv
    subst e
    refine ⟨a, ns, rfl, sq_of (ex _ _ hl), List.length_pos_of_mem h.1, fun k h1 h2 => ?_⟩
    rw [Mi.uniq ⟨h1, h2⟩ h]
    exact q _ F H (Gr.refl ex) (.int _)
theorem cb_sum {ns : List Int} : CbE K (rSum K) [.list (dI ns)] (.int ns.sum) := fun F H vs ex dvs Q q => by
  cases dvs with
  | cons h1 h2 =>
    cases h2
    obtain ⟨a, xs, rfl, hl, da⟩ := h1.list_inv
    have e := da.ints_inv
    subst e
    exact ⟨a, ns, rfl, sq_of (ex _ _ hl), q _ F H (Gr.refl ex) (.int _)⟩
theorem cb_all {bs : List Bool} : CbE K (rAll K) [.list (bs.map PyData.bool)] (.bool (bs.all id)) := fun F H vs ex dvs Q q => by
  cases dvs with
  | cons h1 h2 =>
    cases h2
    obtain ⟨a, xs, rfl, hl, da⟩ := h1.list_inv
    have e := da.bools_inv
    subst e
    exact ⟨a, bs, rfl, sq_of (ex _ _ hl), q _ F H (Gr.refl ex) (.bl _)⟩
theorem cb_any {bs : List Bool} : CbE K (rAny K) [.list (bs.map PyData.bool)] (.bool (bs.any id)) := fun F H vs ex dvs Q q => by
  cases dvs with
  | cons h1 h2 =>
    cases h2
    obtain ⟨a, xs, rfl, hl, da⟩ := h1.list_inv
    have e := da.bools_inv
    subst e
    exact ⟨a, bs, rfl, sq_of (ex _ _ hl), q _ F H (Gr.refl ex) (.bl _)⟩
theorem co_list : CbO K (fun xs H Q => ∃ p ys, xs = [V.ref p] ∧ (SqL K H p ys ∨ SqT K H p ys) ∧ ∀ (l : Addr), H l = none → Q (V.ref l) (upd H l (HO.lst ys))) [.list ds] ds := fun F H vs ex dvs Q q => by
  cases dvs with
  | cons h1 h2 =>
    cases h2
    obtain ⟨a, xs, rfl, hl, da⟩ := h1.list_inv
    exact ⟨a, xs, rfl, .inl (sq_of (ex _ _ hl)), fun l n => q l xs F _ (Gr.own ex n) n (fresh_back ex n) upd_same da⟩
theorem co_listT : CbO K (fun xs H Q => ∃ p ys, xs = [V.ref p] ∧ (SqL K H p ys ∨ SqT K H p ys) ∧ ∀ (l : Addr), H l = none → Q (V.ref l) (upd H l (HO.lst ys))) [.tuple ds] ds := fun F H vs ex dvs Q q => by
  cases dvs with
  | cons h1 h2 =>
    cases h2
    obtain ⟨a, xs, rfl, hl, da⟩ := h1.tup_inv
    exact ⟨a, xs, rfl, .inr (ex_t ex hl), fun l n => q l xs F _ (Gr.own ex n) n (fresh_back ex n) upd_same da⟩
theorem cb_tuple : CbE K (fun xs H Q => ∃ p ys, xs = [V.ref p] ∧ ((SqL K H p ys ∧ ∀ (l : Addr), H l = none → Q (V.ref l) (upd H l (HO.tup ys))) ∨ SqT K H p ys ∧ Q (V.ref p) H)) [.list ds] (.tuple ds) := fun F H vs ex dvs Q q => by
  cases dvs with
  | cons h1 h2 =>
    cases h2
    obtain ⟨a, xs, rfl, hl, da⟩ := h1.list_inv
    refine ⟨a, xs, rfl, .inl ⟨sq_of (ex _ _ hl), fun l n => ?_⟩⟩
    have g := Gr.new (o := .tup xs) ex n
    exact q _ _ _ g (.tup (st_of upd_same) (da.ex g.ff))
/-- repr -/
structure Shw (d : PyData) : Prop where
  s : d.showable = true
  n : d.hasDict = false
  dp : d.depth ≤ 60
  l : d.shown.length ≤ sizeLine
theorem cb_repr (h : Shw d) : CbE K (rRp K) [d] (.str d.shown) := fun F H vs ex dvs Q q => by
  cases dvs with
  | cons h1 h2 =>
    cases h2
    exact ⟨_, d, rfl, (h1.ex ex).dp h.n, h.s, h.n, h.dp, h.l, q _ F H (Gr.refl ex) (.str _)⟩
/-! slices -/
theorem ep_none {to : TO} (h : to = fun _ H Q => Q none H) : EP K to ρ none := fun c F H σ en ex Q q => by
  subst h
  exact q F H (Gr.refl ex)
theorem ep_some {i : Int} (h : E K te ρ (.int i)) : EP K (tPart te) ρ (some i) := fun c F H σ en ex Q q => h c F H σ en ex _ fun v F2 H2 g dv => by
  cases dv
  exact ⟨i, rfl, q F2 H2 g⟩
def cutD (ds : List PyData) (lo hi : Option Int) : List PyData := (ds.drop (HT.sIx ds.length 0 lo)).take (HT.sIx ds.length ds.length hi - HT.sIx ds.length 0 lo)
theorem cut_vd {F : Hp} {vs : List V} (h : VdAll K F vs ds) (lo hi : Option Int) : VdAll K F (cutV vs lo hi) (cutD ds lo hi) := by
  unfold cutV cutD
  rw [h.len]
  exact (h.drop _).take _
variable {tl th : TO} {lo hi : Option Int}
theorem eo_slL (h : E K te ρ (.list ds)) (hl : EP K tl ρ lo) (hh : EP K th ρ hi) : EO K (tSl (rSlL K) te tl th) ρ (cutD ds lo hi) := fun c F H σ en ex Q q =>
  h c F H σ en ex _ fun v F1 H1 g1 dv => hl c F1 H1 σ (en.gr g1) g1.fh _ fun F2 H2 g2 => hh c F2 H2 σ ((en.gr g1).gr g2) g2.fh _ fun F3 H3 g3 => by
    obtain ⟨a, xs, rfl, hl, da⟩ := dv.list_inv
    have ff := g2.ff.trans g3.ff
    refine ⟨a, xs, rfl, sq_of (g3.fh _ _ (ff _ _ hl)), fun p n => ?_⟩
    have g := (g1.trans g2).trans g3
    exact q p _ F3 _ (g.trans (Gr.own g3.fh n)) (fresh_back g.hh n) (fresh_back g3.fh n) upd_same (cut_vd (da.ex ff) _ _)
end
end PL
namespace PL
open PySem PySem.Spec PyProof.Rows L2 Evl SB
section
variable {K : PySem.W.Frag} {ρ : List Sl} {te ta tb tc : TE} {x y z d : PyData} {ds es : List PyData} {tt tu : TT} {a b : Bool} {t : TA}
theorem e_ifD (h : ET K tt ρ a) (h1 : a = true → E K ta ρ x) (h2 : a = false → E K tb ρ y) : E K (tIf tt ta tb) ρ (if a = true then x else y) :=
  e_if h (fun e => by subst e; exact h1 rfl) (fun e => by subst e; exact h2 rfl)
theorem e_ifI {i j : Int} (h : ET K tt ρ a) (h1 : a = true → E K ta ρ (.int i)) (h2 : a = false → E K tb ρ (.int j)) : E K (tIf tt ta tb) ρ (.int (if a = true then i else j)) :=
  e_if h (fun e => by subst e; exact h1 rfl) (fun e => by subst e; exact h2 rfl)
theorem e_ifS {i j : Str} (h : ET K tt ρ a) (h1 : a = true → E K ta ρ (.str i)) (h2 : a = false → E K tb ρ (.str j)) : E K (tIf tt ta tb) ρ (.str (if a = true then i else j)) :=
  e_if h (fun e => by subst e; exact h1 rfl) (fun e => by subst e; exact h2 rfl)
theorem e_ifB {i j : Bool} (h : ET K tt ρ a) (h1 : a = true → E K ta ρ (.bool i)) (h2 : a = false → E K tb ρ (.bool j)) : E K (tIf tt ta tb) ρ (.bool (if a = true then i else j)) :=
  e_if h (fun e => by subst e; exact h1 rfl) (fun e => by subst e; exact h2 rfl)
theorem e_ifL (h : ET K tt ρ a) (h1 : a = true → E K ta ρ (.list ds)) (h2 : a = false → E K tb ρ (.list es)) : E K (tIf tt ta tb) ρ (.list (if a = true then ds else es)) :=
  e_if h (fun e => by subst e; exact h1 rfl) (fun e => by subst e; exact h2 rfl)
/-! isinstance -/
def tyD : PyData → String
  | .none => "NoneType"
  | .bool _ => "bool"
  | .int _ => "int"
  | .str _ => "str"
  | .list _ => "list"
  | .tuple _ => "tuple"
  | .dict _ => "dict"
theorem Vd.ty {F : Hp} {v : V} {d : PyData} (h : Vd K F v d) : TyN K F v (tyD d) := by
  cases h with
  | non => exact .non
  | bl b => exact .bl b
  | int i => exact .int i
  | str x => exact .str x
  | lst h _ => exact .lst (sq_of h)
  | tup h _ => exact .tup h
  | dic0 h => exact .dct h
  | dicI h => exact .dct h
  | dicS h => exact .dct h
theorem e_isi {T : String} (h : E K te ρ d) (hm : T = "int" ∨ T = "bool" ∨ T = "str" ∨ T = "list" ∨ T = "tuple") : E K (tCB (rIsi K) (tCons te (tCons (tC (.ty T)) tNil))) ρ (.bool (decide (tyD d = T ∨ tyD d = "bool" ∧ T = "int"))) := fun c F H σ en ex Q q =>
  h c F H σ en ex _ fun v F1 H1 g dv => ⟨v, .ty T, _, _, _, rfl, .ty _, (dv.ex g.fh).ty.x, (dv.ex g.fh).ty.kit hm, q _ F1 H1 g (.bl _)⟩
theorem eo_rev (h : E K te ρ (.list ds)) : EO K (tRevL K te) ρ ds.reverse := fun c F H σ en ex Q q => h c F H σ en ex _ fun v F1 H1 g dv => by
  obtain ⟨a, xs, rfl, hl, da⟩ := dv.list_inv
  exact ⟨a, xs, rfl, sq_of (g.fh _ _ hl), fun p n => q p _ F1 _ (g.trans (Gr.own g.fh n)) (fresh_back g.hh n) (fresh_back g.fh n) upd_same da.rev⟩
end
/-! products and quotients of wide ints -/
theorem abs_lt {x : Int} (h : -(2 ^ 240) < x ∧ x < 2 ^ 240) : x.natAbs < 2 ^ 240 := by
  have e : (2 : Int) ^ 240 = ((2 ^ 240 : Nat) : Int) := by norm_cast
  omega
theorem wmul {i j : Int} (hi : -(2 ^ 240) < i ∧ i < 2 ^ 240) (hj : -(2 ^ 240) < j ∧ j < 2 ^ 240) : CMulW i j := wide_mul (abs_lt hi) (abs_lt hj) (by decide) (by decide) (by decide)
theorem wdiv {i j : Int} (h : 0 < j) (hj : j < 2 ^ 240) : CDivW i j := wide_div h (abs_lt ⟨by omega, hj⟩) (by decide) (by decide)
end PL
/-! PL2: expressions that change lists of one's own; statements; loops -/
namespace PL
open PySem PySem.Spec PyProof.Rows L2 Evl SB
/-- what no slot owns stays; no more is owned -/
structure Kpt (σ : L2.St) (ρ : List Sl) (F H : Hp) (ρ2 : List Sl) (F2 H2 : Hp) : Prop where
  kp : ∀ p o, Apart σ ρ p → H p = some o → H2 p = some o
  os : ∀ (i : Nat) (b : Bool) (ds : List PyData), ρ2[i]? = some (.ow b ds) → ∃ ds', ρ[i]? = some (.ow b ds')
  dm : ∀ p, H p ≠ none → H2 p ≠ none
  fr : ∀ p, H p ≠ none → F p = none → F2 p = none
theorem Kpt.back {σ : L2.St} {ρ ρ2 : List Sl} {F F2 H H2 : Hp} {p : Addr} (k : Kpt σ ρ F H ρ2 F2 H2) (n : H2 p = none) : H p = none := by
  cases e : H p with
  | none => rfl
  | some o => exact absurd n (k.dm p (by rw [e]; exact fun z => nomatch z))
theorem Kpt.ap {σ : L2.St} {ρ ρ2 : List Sl} {F F2 H H2 : Hp} {p : Addr} (k : Kpt σ ρ F H ρ2 F2 H2) (a : Apart σ ρ p) : Apart σ ρ2 p := fun i b ds h1 h2 => by
  obtain ⟨ds', g⟩ := k.os i b ds h1
  exact a i b ds' g h2
theorem Kpt.trans {σ : L2.St} {ρ ρ1 ρ2 : List Sl} {F F1 F2 H H1 H2 : Hp} (a : Kpt σ ρ F H ρ1 F1 H1) (b : Kpt σ ρ1 F1 H1 ρ2 F2 H2) : Kpt σ ρ F H ρ2 F2 H2 :=
  ⟨fun p o h1 h2 => b.kp p o (a.ap h1) (a.kp p o h1 h2), fun i f ds h => by
    obtain ⟨d1, h1⟩ := b.os i f ds h
    exact a.os i f d1 h1, fun p h => b.dm p (a.dm p h), fun p h1 h2 => b.fr p (a.dm p h1) (a.fr p h1 h2)⟩
theorem Kpt.gr {σ : L2.St} {ρ : List Sl} {F H F2 H2 : Hp} (g : Gr F H F2 H2) : Kpt σ ρ F H ρ F2 H2 := ⟨fun p o _ h => g.hh p o h, fun i b ds h => ⟨ds, h⟩, fun p h => ne_ex g.hh h, g.fr⟩
def W (K : PySem.W.Frag) (te : TE) (ρ : List Sl) (Q : PyData → List Sl → Prop) : Prop := ∀ c F H σ, Sta c F H → Env K c F H σ ρ → ∀ Q' : VK,
  (∀ v F2 H2 d ρ2, Ex F F2 → Sta c F2 H2 → Env K c F2 H2 σ ρ2 → Kpt σ ρ F H ρ2 F2 H2 → Vd K F2 v d → Q d ρ2 → Q' v H2) → te σ H Q'
def WA (K : PySem.W.Frag) (ta : TA) (ρ : List Sl) (Q : List PyData → List Sl → Prop) : Prop := ∀ c F H σ, Sta c F H → Env K c F H σ ρ → ∀ Q' : List V → Hp → Prop,
  (∀ vs F2 H2 ds ρ2, Ex F F2 → Sta c F2 H2 → Env K c F2 H2 σ ρ2 → Kpt σ ρ F H ρ2 F2 H2 → VdAll K F2 vs ds → Q ds ρ2 → Q' vs H2) → ta σ H Q'
def WT (K : PySem.W.Frag) (tt : TT) (ρ : List Sl) (Q : Bool → List Sl → Prop) : Prop := ∀ c F H σ, Sta c F H → Env K c F H σ ρ → ∀ Q' : Bool → Hp → Prop,
  (∀ b F2 H2 ρ2, Ex F F2 → Sta c F2 H2 → Env K c F2 H2 σ ρ2 → Kpt σ ρ F H ρ2 F2 H2 → Q b ρ2 → Q' b H2) → tt σ H Q'
/-- a new list, of its own -/
def WO (K : PySem.W.Frag) (te : TE) (ρ : List Sl) (Q : List PyData → List Sl → Prop) : Prop := ∀ c F H σ, Sta c F H → Env K c F H σ ρ → ∀ Q' : VK,
  (∀ p xs F2 H2 ds ρ2, Ex F F2 → Sta c F2 H2 → Env K c F2 H2 σ ρ2 → Kpt σ ρ F H ρ2 F2 H2 → H p = none → F2 p = none → H2 p = some (.lst xs) → VdAll K F2 xs ds → Q ds ρ2 → Q' (.ref p) H2) → te σ H Q'
/-- a def whose first argument is a list that it changes -/
def CT (K : PySem.W.Frag) (sp : Sp) (T ds : List PyData) (R : PyData → List PyData → Prop) : Prop := ∀ F H a xs vs Q X, Ex F H → F a = none → H a = some (.lst xs) → VdAll K F xs T → VdAll K F vs ds →
  (∀ v F2 H2 d ys T', Sta ⟨fun q => q = a, F, H⟩ F2 H2 → H2 a = some (.lst ys) → F2 a = none → VdAll K F2 ys T' → Vd K F2 v d → R d T' → Q v H2) → sp (.ref a :: vs) H Q X
def CTO (K : PySem.W.Frag) (sp : Sp) (T ds : List PyData) (R : List PyData → List PyData → Prop) : Prop := ∀ F H a xs vs Q X, Ex F H → F a = none → H a = some (.lst xs) → VdAll K F xs T → VdAll K F vs ds →
  (∀ p zs F2 H2 es ys T', Sta ⟨fun q => q = a, F, H⟩ F2 H2 → H2 a = some (.lst ys) → F2 a = none → VdAll K F2 ys T' → H p = none → F2 p = none → H2 p = some (.lst zs) → VdAll K F2 zs es → R es T' → Q (.ref p) H2) → sp (.ref a :: vs) H Q X
/-- a def that tells some value -/
def CN (K : PySem.W.Frag) (sp : Sp) (ds : List PyData) (R : PyData → Prop) : Prop := ∀ F H vs Q X, Ex F H → VdAll K F vs ds → (∀ v F2 H2 d, Gr F H F2 H2 → Vd K F2 v d → R d → Q v H2) → sp vs H Q X
def CNO (K : PySem.W.Frag) (sp : Sp) (ds : List PyData) (R : List PyData → Prop) : Prop := ∀ F H vs Q X, Ex F H → VdAll K F vs ds → (∀ p xs F2 H2 es, Gr F H F2 H2 → H p = none → F2 p = none → H2 p = some (.lst xs) → VdAll K F2 xs es → R es → Q (.ref p) H2) → sp vs H Q X
section
variable {K : PySem.W.Frag} {c : Cn} {F H F' H' : Hp} {σ : L2.St} {ρ : List Sl}
theorem Env.share (E : Env K c F H σ ρ) {p : Addr} {xs : List V} (ap : Apart σ ρ p) (f : F p = none) : Env K c (upd F p (.lst xs)) H σ ρ := by
  have ff : Ex F (upd F p (.lst xs)) := Ex.new f
  refine ⟨E.len, fun j s u h1 h2 => ?_, E.inj⟩
  have r := E.sl j s u h1 h2
  cases s with
  | un => trivial
  | scr ns => exact (let ⟨a, e, h⟩ := r; ⟨a, e, ex_l ff h⟩)
  | xo a o => exact r.ex ff
  | sh d =>
    obtain ⟨x, e, hx⟩ := r
    exact ⟨x, e, hx.ex ff⟩
  | ow b' ds' =>
    obtain ⟨p2, xs2, rfl, n2, a2, f2, hl2, d2⟩ := r
    have ne : p2 ≠ p := fun z => by
      subst z
      exact ap j b' ds' h1 h2
    exact ⟨p2, xs2, rfl, n2, a2, by rw [upd_ne ne]; exact f2, hl2, d2.ex ff⟩
theorem Sta.none (s : Sta c F H) {p : Addr} (n : H p = none) : c.H0 p = none := by
  cases q : c.H0 p with
  | none => rfl
  | some o => exact absurd n (s.dm p (by rw [q]; exact fun z => nomatch z))
/-- what a def with a list of its caller's leaves -/
theorem Sta.comp (s : Sta c F H) {a : Addr} (h : Sta ⟨fun q => q = a, F, H⟩ F' H') {b : Bool} (ca : (b = true ∧ c.H0 a = Option.none) ∨ (b = false ∧ c.A a)) : Sta c F' H' := by
  refine ⟨s.ff.trans h.ff, h.fh, fun p o h1 h2 => ?_, fun p h1 => h.dm p (s.dm p h1), fun p h1 h2 => h.fr p (s.dm p h1) (s.fr p h1 h2)⟩
  by_cases e : p = a
  · subst e
    rcases ca with ⟨_, ca⟩ | ⟨_, ca⟩
    · rw [ca] at h2
      cases h2
    · exact absurd ca h1
  · exact h.hh p o e (s.hh p o h1 h2)
theorem Env.comp (E : Env K c F H σ ρ) {i : Nat} {b : Bool} {ds es : List PyData} {a : Addr} {ys : List V} (h : ρ[i]? = some (.ow b ds)) (hp : σ[i]? = some (some (.ref a))) (st : Sta ⟨fun q => q = a, F, H⟩ F' H') (hl : H' a = some (.lst ys)) (f : F' a = none) (d : VdAll K F' ys es) :
    Env K c F' H' σ (ρ.set i (.ow b es)) := by
  obtain ⟨p', xs', e, nb, na, f0, hl', dd⟩ := E.ow h
  rw [hp] at e
  cases e
  have lt := (List.getElem?_eq_some_iff.mp h).1
  refine ⟨by rw [List.length_set, E.len], fun j s u h1 h2 => ?_, fun j k q b1 b2 e1 e2 h1 h2 h3 h4 => ?_⟩
  · by_cases q : i = j
    · subst q
      rw [List.getElem?_set_self lt] at h1
      cases h1
      rw [hp] at h2
      cases h2
      exact ⟨a, ys, rfl, nb, na, f, hl, d⟩
    · rw [List.getElem?_set_ne q] at h1
      have r := E.sl j s u h1 h2
      cases s with
      | un => trivial
      | scr ns => exact (let ⟨a, e, h⟩ := r; ⟨a, e, ex_l st.ff h⟩)
      | xo a o => exact r.ex st.ff
      | sh d =>
        obtain ⟨x, e, hx⟩ := r
        exact ⟨x, e, hx.ex st.ff⟩
      | ow b' ds' =>
        obtain ⟨p2, xs2, rfl, n2, a2, f2, hl2, d2⟩ := r
        have ne : p2 ≠ a := fun z => by
          subst z
          exact q (E.inj i j p2 b b' ds ds' h h1 hp h2)
        exact ⟨p2, xs2, rfl, n2, a2, st.fr p2 (by show H p2 ≠ Option.none; rw [hl2]; exact fun z => nomatch z) f2, st.hh p2 _ ne hl2, d2.ex st.ff⟩
  · have red : ∀ (m : Nat) (b0 : Bool) (e0 : List PyData), (ρ.set i (.ow b es))[m]? = some (.ow b0 e0) → ∃ b3 e3, ρ[m]? = some (.ow b3 e3) := fun m b0 e0 hm => by
      by_cases q : i = m
      · subst q
        exact ⟨_, _, h⟩
      · rw [List.getElem?_set_ne q] at hm
        exact ⟨_, _, hm⟩
    obtain ⟨b3, e3, g1⟩ := red j b1 e1 h1
    obtain ⟨b4, e4, g2⟩ := red k b2 e2 h2
    exact E.inj j k q b3 b4 e3 e4 g1 g2 h3 h4
theorem Kpt.comp {i : Nat} {b : Bool} {ds es : List PyData} {a : Addr} (h : ρ[i]? = some (.ow b ds)) (hp : σ[i]? = some (some (.ref a))) (st : Sta ⟨fun q => q = a, F, H⟩ F' H') : Kpt σ ρ F H (ρ.set i (.ow b es)) F' H' :=
  ⟨fun p o ap hl => st.hh p o (fun z => by
    have z : p = a := z
    subst z
    exact ap i b ds h hp) hl, fun j b' ds' h1 => by
    by_cases q : i = j
    · subst q
      rw [List.getElem?_set_self (List.getElem?_eq_some_iff.mp h).1] at h1
      cases h1
      exact ⟨ds, h⟩
    · rw [List.getElem?_set_ne q] at h1
      exact ⟨ds', h1⟩, st.dm, st.fr⟩
end
section
variable {K : PySem.W.Frag} {ρ : List Sl} {te ta tb tc : TE} {t tr : TA} {tt tu : TT} {r : R2} {Q : PyData → List Sl → Prop} {QA : List PyData → List Sl → Prop} {QT : Bool → List Sl → Prop} {d : PyData} {ds : List PyData}
theorem w_e (h : E K te ρ d) (q : Q d ρ) : W K te ρ Q := fun c F H σ st en Q' k => h c F H σ en st.fh Q' fun v F2 H2 g dv => k v F2 H2 d ρ g.ff (st.gr g) (en.gr g) (.gr g) dv q
theorem w_mono {Q2 : PyData → List Sl → Prop} (h : W K te ρ Q) (m : ∀ d ρ2, Q d ρ2 → Q2 d ρ2) : W K te ρ Q2 := fun c F H σ st en Q' k => h c F H σ st en Q' fun v F2 H2 d ρ2 a b e f g q => k v F2 H2 d ρ2 a b e f g (m d ρ2 q)
theorem wo_e (h : EO K te ρ ds) (q : QA ds ρ) : WO K te ρ QA := fun c F H σ st en Q' k => h c F H σ en st.fh Q' fun p xs F2 H2 g n f hl dv => k p xs F2 H2 ds ρ g.ff (st.gr g) (en.gr g) (.gr g) n f hl dv q
theorem wa_e (h : EA K t ρ ds) (q : QA ds ρ) : WA K t ρ QA := fun c F H σ st en Q' k => h c F H σ en st.fh Q' fun v F2 H2 g dv => k v F2 H2 ds ρ g.ff (st.gr g) (en.gr g) (.gr g) dv q
theorem wt_e {b : Bool} (h : ET K tt ρ b) (q : QT b ρ) : WT K tt ρ QT := fun c F H σ st en Q' k => h c F H σ en st.fh Q' fun F2 H2 g => k b F2 H2 ρ g.ff (st.gr g) (en.gr g) (.gr g) q
theorem w_wo (h : WO K te ρ fun ds ρ2 => Q (.list ds) ρ2) : W K te ρ Q := fun c F H σ st en Q' k => h c F H σ st en Q' fun p xs F2 H2 ds ρ2 a b e f n fn hl dv q => by
  have c0 := st.none n
  refine k _ _ H2 _ ρ2 (a.trans (Ex.new fn)) (b.freeze c0 fn hl) (e.share (f.ap (en.apart n)) fn) ⟨f.kp, f.os, f.dm, fun q h1 h2 => ?_⟩ (.lst upd_same (dv.ex (Ex.new fn))) q
  by_cases z : q = p
  · subst z
    exact absurd n h1
  · rw [upd_ne z]
    exact f.fr q h1 h2
theorem w_op (h : W K ta ρ fun d1 ρ1 => W K tb ρ1 fun d2 ρ2 => ∃ z, OpE K r d1 d2 z ∧ Q z ρ2) : W K (tOp r ta tb) ρ Q := fun c F H σ st en Q' k =>
  h c F H σ st en _ fun u F1 H1 d1 ρ1 e1 s1 n1 k1 v1 q1 => q1 c F1 H1 σ s1 n1 _ fun v F2 H2 d2 ρ2 e2 s2 n2 k2 v2 q2 => by
    obtain ⟨z, hz, q⟩ := q2
    exact hz F2 H2 u v s2.fh (v1.ex e2) v2 Q' fun w F3 H3 g dw => k w F3 H3 z ρ2 ((e1.trans e2).trans g.ff) (s2.gr g) (n2.gr g) ((k1.trans k2).trans (.gr g)) dw q
theorem wo_op (h : W K ta ρ fun d1 ρ1 => W K tb ρ1 fun d2 ρ2 => ∃ es, OpO K r d1 d2 es ∧ QA es ρ2) : WO K (tOp r ta tb) ρ QA := fun c F H σ st en Q' k =>
  h c F H σ st en _ fun u F1 H1 d1 ρ1 e1 s1 n1 k1 v1 q1 => q1 c F1 H1 σ s1 n1 _ fun v F2 H2 d2 ρ2 e2 s2 n2 k2 v2 q2 => by
    obtain ⟨z, hz, q⟩ := q2
    exact hz F2 H2 u v s2.fh (v1.ex e2) v2 Q' fun p xs F3 H3 g n f hl dw => k p xs F3 H3 z ρ2 ((e1.trans e2).trans g.ff) (s2.gr g) (n2.gr g) ((k1.trans k2).trans (.gr g)) ((k1.trans k2).back n) f hl dw q
/-- own[i], the place told by something that may change other lists -/
theorem w_ixOw {i : Nat} {b : Bool} {ds : List PyData} (h0 : ρ[i]? = some (.ow b ds)) (h : W K tb ρ fun d2 ρ2 => ∃ k z, d2 = .int k ∧ ρ2[i]? = some (.ow b ds) ∧ atI ds k = some z ∧ Q z ρ2) : W K (tOp (rIxL K) (tVar i) tb) ρ Q := fun c F H σ st en Q' k => by
  obtain ⟨p, xs, e, _⟩ := en.ow h0
  refine ⟨_, e, h c F H σ st en _ fun v F2 H2 d2 ρ2 e2 s2 n2 k2 v2 q2 => ?_⟩
  obtain ⟨j, z, rfl, hs, ha, q⟩ := q2
  obtain ⟨p', xs', e', _, _, _, hl, dd⟩ := n2.ow hs
  rw [e] at e'
  cases e'
  obtain ⟨w, hw, dw⟩ := atI_vd dd ha
  exact ⟨p, xs', j, w, rfl, v2.int_inv, sq_of hl, hw, k w F2 H2 z ρ2 e2 s2 n2 k2 dw q⟩
theorem w_if {a : Bool} (h : ET K tt ρ a) (h1 : a = true → W K ta ρ Q) (h2 : a = false → W K tb ρ Q) : W K (tIf tt ta tb) ρ Q := fun c F H σ st en Q' k => h c F H σ en st.fh _ fun F1 H1 g1 => by
  cases a with
  | true =>
    rw [if_pos rfl]
    exact h1 rfl c F1 H1 σ (st.gr g1) (en.gr g1) Q' fun v F2 H2 d ρ2 e2 s2 n2 k2 v2 q2 => k v F2 H2 d ρ2 (g1.ff.trans e2) s2 n2 ((Kpt.gr g1).trans k2) v2 q2
  | false =>
    rw [if_neg Bool.false_ne_true]
    exact h2 rfl c F1 H1 σ (st.gr g1) (en.gr g1) Q' fun v F2 H2 d ρ2 e2 s2 n2 k2 v2 q2 => k v F2 H2 d ρ2 (g1.ff.trans e2) s2 n2 ((Kpt.gr g1).trans k2) v2 q2
theorem wo_if {a : Bool} (h : ET K tt ρ a) (h1 : a = true → WO K ta ρ QA) (h2 : a = false → WO K tb ρ QA) : WO K (tIf tt ta tb) ρ QA := fun c F H σ st en Q' k => h c F H σ en st.fh _ fun F1 H1 g1 => by
  cases a with
  | true =>
    rw [if_pos rfl]
    exact h1 rfl c F1 H1 σ (st.gr g1) (en.gr g1) Q' fun p xs F2 H2 d ρ2 e2 s2 n2 k2 n f hl v2 q2 => k p xs F2 H2 d ρ2 (g1.ff.trans e2) s2 n2 ((Kpt.gr g1).trans k2) (fresh_back g1.hh n) f hl v2 q2
  | false =>
    rw [if_neg Bool.false_ne_true]
    exact h2 rfl c F1 H1 σ (st.gr g1) (en.gr g1) Q' fun p xs F2 H2 d ρ2 e2 s2 n2 k2 n f hl v2 q2 => k p xs F2 H2 d ρ2 (g1.ff.trans e2) s2 n2 ((Kpt.gr g1).trans k2) (fresh_back g1.hh n) f hl v2 q2
theorem w_neg {f : Int → Int} (h : W K ta ρ fun d ρ2 => ∃ i, d = .int i ∧ Q (.int (f i)) ρ2) : W K (tUn (rU fun i => V.int (f i)) ta) ρ Q := fun c F H σ st en Q' k =>
  h c F H σ st en _ fun v F2 H2 d ρ2 e2 s2 n2 k2 v2 q2 => by
    obtain ⟨i, rfl, q⟩ := q2
    cases v2
    exact ⟨i, rfl, k _ F2 H2 _ ρ2 e2 s2 n2 k2 (.int _) q⟩
theorem w_notV (h : W K ta ρ fun d ρ2 => ∃ b, d = .bool b ∧ Q (.bool (!b)) ρ2) : W K (tNotV ta) ρ Q := fun c F H σ st en Q' k =>
  h c F H σ st en _ fun v F2 H2 d ρ2 e2 s2 n2 k2 v2 q2 => by
    obtain ⟨i, rfl, q⟩ := q2
    cases v2
    exact ⟨i, rfl, k _ F2 H2 _ ρ2 e2 s2 n2 k2 (.bl _) q⟩
theorem wa_nil (q : QA [] ρ) : WA K tNil ρ QA := wa_e ea_nil q
theorem wa_cons (h : W K te ρ fun d ρ1 => WA K tr ρ1 fun ds ρ2 => QA (d :: ds) ρ2) : WA K (tCons te tr) ρ QA := fun c F H σ st en Q' k =>
  h c F H σ st en _ fun u F1 H1 d1 ρ1 e1 s1 n1 k1 v1 q1 => q1 c F1 H1 σ s1 n1 _ fun vs F2 H2 d2 ρ2 e2 s2 n2 k2 v2 q2 => k _ F2 H2 _ ρ2 (e1.trans e2) s2 n2 (k1.trans k2) (.cons (v1.ex e2) v2) q2
theorem w_tup (h : WA K t ρ fun ds ρ2 => ds.length ≤ 100000 ∧ Q (.tuple ds) ρ2) : W K (tTup t) ρ Q := fun c F H σ st en Q' k =>
  h c F H σ st en _ fun vs F2 H2 ds ρ2 e2 s2 n2 k2 v2 q2 => ⟨by rw [v2.len]; exact sz_of q2.1, fun p n => by
    have g := Gr.new (o := .tup vs) s2.fh n
    exact k _ _ _ _ ρ2 (e2.trans g.ff) (s2.gr g) (n2.gr g) (k2.trans (.gr g)) (.tup (st_of upd_same) (v2.ex g.ff)) q2.2⟩
theorem wo_lst (h : WA K t ρ fun ds ρ2 => ds.length ≤ 100000 ∧ QA ds ρ2) : WO K (tLst t) ρ QA := fun c F H σ st en Q' k =>
  h c F H σ st en _ fun vs F2 H2 ds ρ2 e2 s2 n2 k2 v2 q2 => ⟨by rw [v2.len]; exact sz_of q2.1, fun p n => by
    have g := Gr.own (o := .lst vs) s2.fh n
    exact k p vs F2 _ ds ρ2 (e2.trans g.ff) (s2.gr g) (n2.gr g) (k2.trans (.gr g)) (k2.back n) (fresh_back s2.fh n) upd_same v2 q2.2⟩
theorem w_cb {rr : List V → Hp → VK → Prop} (h : WA K t ρ fun ds ρ2 => ∃ z, CbE K rr ds z ∧ Q z ρ2) : W K (tCB rr t) ρ Q := fun c F H σ st en Q' k =>
  h c F H σ st en _ fun vs F2 H2 ds ρ2 e2 s2 n2 k2 v2 q2 => by
    obtain ⟨z, hz, q⟩ := q2
    exact hz F2 H2 vs s2.fh v2 Q' fun w F3 H3 g dw => k w F3 H3 z ρ2 (e2.trans g.ff) (s2.gr g) (n2.gr g) (k2.trans (.gr g)) dw q
theorem w_call {sp : Sp} {X : XK} (h : WA K t ρ fun ds ρ2 => CN K sp ds fun z => Q z ρ2) : W K (tCall sp [] X t) ρ Q := fun c F H σ st en Q' k =>
  h c F H σ st en _ fun vs F2 H2 ds ρ2 e2 s2 n2 k2 v2 q2 => by
    rw [List.append_nil]
    exact q2 F2 H2 vs Q' X s2.fh v2 fun w F3 H3 z g dw rz => k w F3 H3 z ρ2 (e2.trans g.ff) (s2.gr g) (n2.gr g) (k2.trans (.gr g)) dw rz
theorem wo_call {sp : Sp} {X : XK} (h : WA K t ρ fun ds ρ2 => CNO K sp ds fun z => QA z ρ2) : WO K (tCall sp [] X t) ρ QA := fun c F H σ st en Q' k =>
  h c F H σ st en _ fun vs F2 H2 ds ρ2 e2 s2 n2 k2 v2 q2 => by
    rw [List.append_nil]
    exact q2 F2 H2 vs Q' X s2.fh v2 fun p xs F3 H3 z g n f hl dw rz => k p xs F3 H3 z ρ2 (e2.trans g.ff) (s2.gr g) (n2.gr g) (k2.trans (.gr g)) (k2.back n) f hl dw rz
theorem ce_cn {sp : Sp} {ds : List PyData} {d : PyData} (h : CE K sp ds d) : CN K sp ds fun z => z = d := fun F H vs Q X ex dv q => h F H vs Q X ex dv fun v F2 H2 g d2 => q v F2 H2 d g d2 rfl
theorem co_cno {sp : Sp} {ds es : List PyData} (h : CO K sp ds es) : CNO K sp ds fun z => z = es := fun F H vs Q X ex dv q => h F H vs Q X ex dv fun p xs F2 H2 g n f hl d2 => q p xs F2 H2 es g n f hl d2 rfl
theorem cno_cn {sp : Sp} {ds : List PyData} {R : PyData → Prop} (h : CNO K sp ds fun es => R (.list es)) : CN K sp ds R := fun F H vs Q X ex dv q => h F H vs Q X ex dv fun p xs F2 H2 es g n f hl d2 r => q _ _ H2 _ (g.freeze n f hl) (.lst upd_same (d2.ex (Ex.new f))) r
theorem cn_mono {sp : Sp} {ds : List PyData} {R R2 : PyData → Prop} (h : CN K sp ds R) (m : ∀ d, R d → R2 d) : CN K sp ds R2 := fun F H vs Q X ex dv q => h F H vs Q X ex dv fun v F2 H2 d g d2 r => q v F2 H2 d g d2 (m d r)
/-- a call of a def that changes the list in slot i -/
theorem w_tank {i : Nat} {b : Bool} {T : List PyData} {sp : Sp} {X : XK} (h0 : ρ[i]? = some (.ow b T))
    (h : WA K t ρ fun ds ρ1 => ∃ T1, ρ1[i]? = some (.ow b T1) ∧ CT K sp T1 ds fun d T2 => Q d (ρ1.set i (.ow b T2))) : W K (tCall sp [] X (tCons (tVar i) t)) ρ Q := fun c F H σ st en Q' k => by
  obtain ⟨a, xs, e, _⟩ := en.ow h0
  refine ⟨_, e, h c F H σ st en _ fun vs F2 H2 ds ρ2 e2 s2 n2 k2 v2 q2 => ?_⟩
  obtain ⟨T1, h1, hR⟩ := q2
  obtain ⟨a', xs', e', _, ca, f, hl, dd⟩ := n2.ow h1
  rw [e] at e'
  cases e'
  rw [List.append_nil]
  exact hR F2 H2 a xs' vs Q' X s2.fh f hl dd v2 fun v F3 H3 d ys T2 s3 hl3 f3 dd3 dv r => k v F3 H3 d _ (e2.trans s3.ff) (s2.comp s3 ca) (n2.comp h1 e s3 hl3 f3 dd3) (k2.trans (.comp h1 e s3)) dv r
theorem wo_tank {i : Nat} {b : Bool} {T : List PyData} {sp : Sp} {X : XK} (h0 : ρ[i]? = some (.ow b T))
    (h : WA K t ρ fun ds ρ1 => ∃ T1, ρ1[i]? = some (.ow b T1) ∧ CTO K sp T1 ds fun es T2 => QA es (ρ1.set i (.ow b T2))) : WO K (tCall sp [] X (tCons (tVar i) t)) ρ QA := fun c F H σ st en Q' k => by
  obtain ⟨a, xs, e, _⟩ := en.ow h0
  refine ⟨_, e, h c F H σ st en _ fun vs F2 H2 ds ρ2 e2 s2 n2 k2 v2 q2 => ?_⟩
  obtain ⟨T1, h1, hR⟩ := q2
  obtain ⟨a', xs', e', _, ca, f, hl, dd⟩ := n2.ow h1
  rw [e] at e'
  cases e'
  rw [List.append_nil]
  exact hR F2 H2 a xs' vs Q' X s2.fh f hl dd v2 fun p zs F3 H3 es ys T2 s3 hl3 f3 dd3 n fp hp dv r => k p zs F3 H3 es _ (e2.trans s3.ff) (s2.comp s3 ca) (n2.comp h1 e s3 hl3 f3 dd3) (k2.trans (.comp h1 e s3)) (k2.back n) fp hp dv r
theorem cto_ct {sp : Sp} {T ds : List PyData} {R : PyData → List PyData → Prop} (h : CTO K sp T ds fun es T2 => R (.list es) T2) : CT K sp T ds R := fun F H a xs vs Q X ex f hl d1 d2 q => h F H a xs vs Q X ex f hl d1 d2 fun p zs F2 H2 es ys T2 st hl2 f2 d3 n fp hp d4 r => by
  have ne : p ≠ a := fun z => by
    subst z
    rw [hl] at n
    cases n
  have ff : Ex F2 (upd F2 p (.lst zs)) := Ex.new fp
  exact q _ _ H2 _ ys T2 (st.freeze n fp hp) hl2 (by rw [upd_ne (Ne.symm ne)]; exact f2) (d3.ex ff) (.lst upd_same (d4.ex ff)) r
/-! statements -/
structure En where
  nx : List Sl → Prop := fun _ => False
  rt : PyData → List Sl → Prop := fun _ _ => False
  ro : List PyData → List Sl → Prop := fun _ _ => False
  bk : List Sl → Prop := fun _ => False
  ct : List Sl → Prop := fun _ => False
structure DOk (K : PySem.W.Frag) (c : Cn) (F : Hp) (D : L2.Ends) (e : En) : Prop where
  nx : ∀ σ F' H' ρ, Ex F F' → Sta c F' H' → Env K c F' H' σ ρ → e.nx ρ → D.nx σ H'
  bk : ∀ σ F' H' ρ, Ex F F' → Sta c F' H' → Env K c F' H' σ ρ → e.bk ρ → D.bk σ H'
  ct : ∀ σ F' H' ρ, Ex F F' → Sta c F' H' → Env K c F' H' σ ρ → e.ct ρ → D.ct σ H'
  rt : ∀ v σ F' H' d ρ, Ex F F' → Sta c F' H' → Env K c F' H' σ ρ → Vd K F' v d → e.rt d ρ → D.rt v H'
  ro : ∀ p xs σ F' H' ds ρ, Ex F F' → Sta c F' H' → Env K c F' H' σ ρ → c.H0 p = none → F' p = none → Apart σ ρ p ∨ True → H' p = some (.lst xs) → VdAll K F' xs ds → e.ro ds ρ → D.rt (.ref p) H'
theorem DOk.ex {c : Cn} {F F' : Hp} {D : L2.Ends} {e : En} (h : DOk K c F D e) (x : Ex F F') : DOk K c F' D e :=
  ⟨fun σ F2 H2 ρ a => h.nx σ F2 H2 ρ (x.trans a), fun σ F2 H2 ρ a => h.bk σ F2 H2 ρ (x.trans a), fun σ F2 H2 ρ a => h.ct σ F2 H2 ρ (x.trans a), fun v σ F2 H2 d ρ a => h.rt v σ F2 H2 d ρ (x.trans a), fun p xs σ F2 H2 d ρ a => h.ro p xs σ F2 H2 d ρ (x.trans a)⟩
def XS (K : PySem.W.Frag) (ts : TS) (ρ : List Sl) (e : En) : Prop := ∀ c F H σ D, Sta c F H → Env K c F H σ ρ → DOk K c F D e → ts D σ H
variable {ts tu : TS} {e : En} {i : Nat}
theorem x_seq (h : XS K ts ρ { e with nx := fun ρ2 => XS K tu ρ2 e }) : XS K (tSeq ts tu) ρ e := fun c F H σ D st en ok =>
  h c F H σ { D with nx := tu D } st en ⟨fun σ2 F2 H2 ρ2 a b n q => q c F2 H2 σ2 D b n (ok.ex a), ok.bk, ok.ct, ok.rt, ok.ro⟩
theorem x_nil (h : e.nx ρ) : XS K tNext ρ e := fun c F H σ D st en ok => ok.nx σ F H ρ (Ex.refl F) st en h
theorem x_asg (h : W K te ρ fun d ρ2 => e.nx (ρ2.set i (.sh d))) : XS K (tAsg te (gName i)) ρ e := fun c F H σ D st en ok =>
  h c F H σ st en _ fun v F2 H2 d ρ2 a s2 n2 k2 dv q => ok.nx _ F2 H2 _ a s2 (n2.set_sh dv) q
theorem x_asgO (h : WO K te ρ fun ds ρ2 => e.nx (ρ2.set i (.ow true ds))) : XS K (tAsg te (gName i)) ρ e := fun c F H σ D st en ok =>
  h c F H σ st en _ fun p xs F2 H2 d ρ2 a s2 n2 k2 n f hl dv q => ok.nx _ F2 H2 _ a s2 (n2.set_ow (k2.ap (en.apart n)) (st.none n) f hl dv) q
theorem x_if {b : Bool} (h : ET K tt ρ b) (h1 : b = true → XS K ts ρ e) (h2 : b = false → XS K tu ρ e) : XS K (tIfS tt ts tu) ρ e := fun c F H σ D st en ok =>
  h c F H σ en st.fh _ fun F1 H1 g => by
    cases b with
    | true =>
      rw [if_pos rfl]
      exact h1 rfl c F1 H1 σ D (st.gr g) (en.gr g) (ok.ex g.ff)
    | false =>
      rw [if_neg Bool.false_ne_true]
      exact h2 rfl c F1 H1 σ D (st.gr g) (en.gr g) (ok.ex g.ff)
theorem x_ifW (h : WT K tt ρ fun b ρ2 => (b = true → XS K ts ρ2 e) ∧ (b = false → XS K tu ρ2 e)) : XS K (tIfS tt ts tu) ρ e := fun c F H σ D st en ok =>
  h c F H σ st en _ fun b F1 H1 ρ2 a s2 n2 k2 q => by
    cases b with
    | true =>
      rw [if_pos rfl]
      exact q.1 rfl c F1 H1 σ D s2 n2 (ok.ex a)
    | false =>
      rw [if_neg Bool.false_ne_true]
      exact q.2 rfl c F1 H1 σ D s2 n2 (ok.ex a)
theorem x_ret (h : W K te ρ fun d ρ2 => e.rt d ρ2) : XS K (tRet te) ρ e := fun c F H σ D st en ok =>
  h c F H σ st en _ fun v F2 H2 d ρ2 a s2 n2 k2 dv q => ok.rt v σ F2 H2 d ρ2 a s2 n2 dv q
theorem x_retO (h : WO K te ρ fun ds ρ2 => e.ro ds ρ2) : XS K (tRet te) ρ e := fun c F H σ D st en ok =>
  h c F H σ st en _ fun p xs F2 H2 d ρ2 a s2 n2 k2 n f hl dv q => ok.ro p xs σ F2 H2 d ρ2 a s2 n2 (st.none n) f (.inr trivial) hl dv q
/-- return x, x a list of one's own -/
theorem x_retV {ds : List PyData} (h : ρ[i]? = some (.ow true ds)) (q : e.ro ds ρ) : XS K (tRet (tVar i)) ρ e := fun c F H σ D st en ok => by
  obtain ⟨p, xs, e1, n0, _, f, hl, dd⟩ := en.ow h
  exact ⟨_, e1, ok.ro p xs σ F H ds ρ (Ex.refl F) st en (n0 rfl) f (.inr trivial) hl dd q⟩
theorem x_retN (h : e.rt .none ρ) : XS K tRetN ρ e := fun c F H σ D st en ok => ok.rt .non σ F H .none ρ (Ex.refl F) st en .non h
theorem x_drop (h : W K te ρ fun _ ρ2 => e.nx ρ2) : XS K (tDrop te) ρ e := fun c F H σ D st en ok =>
  h c F H σ st en _ fun v F2 H2 d ρ2 a s2 n2 k2 dv q => ok.nx _ F2 H2 _ a s2 n2 q
theorem x_bk (h : e.bk ρ) : XS K tBreak ρ e := fun c F H σ D st en ok => ok.bk σ F H ρ (Ex.refl F) st en h
theorem x_ct (h : e.ct ρ) : XS K tCont ρ e := fun c F H σ D st en ok => ok.ct σ F H ρ (Ex.refl F) st en h
theorem x_never (h : False) : XS K ts ρ e := h.elim
/-- a list of one's own is not changed any more -/
theorem x_freeze {ds : List PyData} (i : Nat) (h : ρ[i]? = some (.ow true ds)) (q : XS K ts (ρ.set i (.sh (.list ds))) e) : XS K ts ρ e := fun c F H σ D st en ok => by
  obtain ⟨p, xs, e1, n0, _, f, hl, dd⟩ := en.ow h
  exact q c _ H σ D (st.freeze (n0 rfl) f hl) (en.freeze h e1 hl) (ok.ex (Ex.new f))
/-- own.append(e) -/
theorem x_app {b : Bool} {ds0 : List PyData} (h0 : ρ[i]? = some (.ow b ds0)) (h : W K te ρ fun d ρ2 => ∃ ds, ρ2[i]? = some (.ow b ds) ∧ ds.length < 100000 ∧ e.nx (ρ2.set i (.ow b (ds ++ [d])))) :
    XS K (tDrop (tBM K "list" rAppend (tVar i) (tCons te tNil))) ρ e := fun c F H σ D st en ok => by
  obtain ⟨p, xs, e1, _, _, _, hl, _⟩ := en.ow h0
  refine ⟨_, e1, .inl ⟨rfl, xs, sq_of hl⟩, h c F H σ st en _ fun v F2 H2 d ρ2 a s2 n2 k2 dv q => ?_⟩
  obtain ⟨ds, h1, hz, q⟩ := q
  obtain ⟨p', xs', e2, _, ca, f, hl2, dd⟩ := n2.ow h1
  rw [e1] at e2
  cases e2
  exact ⟨p, xs', v, rfl, rfl, hl2, by rw [dd.len]; exact sz_lt hz, ok.nx σ F2 _ _ a (s2.mut f ca) (n2.mut h1 e1 (dd.app (.cons dv .nil))) q⟩
/-- own.extend(e) -/
theorem x_ext {b : Bool} {ds0 : List PyData} (h0 : ρ[i]? = some (.ow b ds0)) (h : W K te ρ fun d ρ2 => ∃ ds es, d = .list es ∧ ρ2[i]? = some (.ow b ds) ∧ ds.length + es.length ≤ 100000 ∧ e.nx (ρ2.set i (.ow b (ds ++ es)))) :
    XS K (tDrop (tBM K "list" rExtend (tVar i) (tCons te tNil))) ρ e := fun c F H σ D st en ok => by
  obtain ⟨p, xs, e1, _, _, _, hl, _⟩ := en.ow h0
  refine ⟨_, e1, .inl ⟨rfl, xs, sq_of hl⟩, h c F H σ st en _ fun v F2 H2 d ρ2 a s2 n2 k2 dv q => ?_⟩
  obtain ⟨ds, es, rfl, h1, hz, q⟩ := q
  obtain ⟨p', xs', e2, _, ca, f, hl2, dd⟩ := n2.ow h1
  rw [e1] at e2
  cases e2
  obtain ⟨y, ys, rfl, hy, dy⟩ := dv.list_inv
  exact ⟨p, y, xs', ys, rfl, rfl, hl2, s2.fh _ _ hy, by rw [dd.len, dy.len]; exact sz_of hz, ok.nx σ F2 _ _ a (s2.mut f ca) (n2.mut h1 e1 (dd.app dy)) q⟩
/-- own.pop() as a statement -/
theorem x_pop {b : Bool} {ds : List PyData} (h0 : ρ[i]? = some (.ow b ds)) (hn : ds ≠ []) (q : e.nx (ρ.set i (.ow b ds.dropLast))) : XS K (tDrop (tBM0 K "list" rPop (tVar i))) ρ e := fun c F H σ D st en ok => by
  obtain ⟨p, xs, e1, _, ca, f, hl, dd⟩ := en.ow h0
  have l := dd.len
  have l2 : 0 < ds.length := List.length_pos_iff.mpr hn
  have g : xs[xs.length - 1]? = some (xs[xs.length - 1]'(by omega)) := List.getElem?_eq_getElem _
  exact ⟨_, e1, .inl ⟨rfl, xs, sq_of hl⟩, p, xs, _, rfl, rfl, hl, g, ok.nx σ F _ _ (Ex.refl F) (st.mut f ca) (en.mut h0 e1 dd.dropLast) q⟩
/-- own[i] = e -/
theorem x_setL {b : Bool} {ti : TE} (h : W K te ρ fun d ρ1 => ∃ ds, ρ1[i]? = some (.ow b ds) ∧ W K ti ρ1 fun k ρ2 => ∃ j m ds2, k = .int j ∧ ρ2[i]? = some (.ow b ds2) ∧ ixN ds2.length j = some m ∧ e.nx (ρ2.set i (.ow b (ds2.set m d)))) :
    XS K (tAsg te (gSub (tVar i) ti rSetL)) ρ e := fun c F H σ D st en ok =>
  h c F H σ st en _ fun v F1 H1 d ρ1 a1 s1 n1 k1 dv ⟨ds, h1, q1⟩ => by
    obtain ⟨p, xs, e1, _, _, _, hl, _⟩ := n1.ow h1
    refine ⟨_, e1, q1 c F1 H1 σ s1 n1 _ fun w F2 H2 dk ρ2 a2 s2 n2 k2 dw q2 => ?_⟩
    obtain ⟨j, m, ds2, rfl, h2, hm, q⟩ := q2
    obtain ⟨p', xs', e2, _, ca, f, hl2, dd⟩ := n2.ow h2
    rw [e1] at e2
    cases e2
    exact ⟨p, xs', j, m, rfl, dw.int_inv, hl2, by rw [dd.len]; exact hm, ok.nx σ F2 _ _ (a1.trans a2) (s2.mut f ca) (n2.mut h2 e1 (dd.set m (dv.ex a2))) q⟩
/-! targets -/
def G (K : PySem.W.Frag) (g : TG) (d : PyData) (ρ : List Sl) (Q : List Sl → Prop) : Prop := ∀ c F H σ v, Env K c F H σ ρ → Ex F H → Vd K F v d → ∀ Q' : L2.St → Hp → Prop, (∀ σ2 ρ2, Env K c F H σ2 ρ2 → Q ρ2 → Q' σ2 H) → g v σ H Q'
def Gs (K : PySem.W.Frag) (g : TGs) (ds : List PyData) (ρ : List Sl) (Q : List Sl → Prop) : Prop := ∀ c F H σ vs, Env K c F H σ ρ → Ex F H → VdAll K F vs ds → ∀ Q' : L2.St → Hp → Prop, (∀ σ2 ρ2, Env K c F H σ2 ρ2 → Q ρ2 → Q' σ2 H) → g vs σ H Q'
variable {g : TG} {gs : TGs} {P : List Sl → Prop}
theorem g_name (q : P (ρ.set i (.sh d))) : G K (gName i) d ρ P := fun c F H σ v en ex dv Q' k => k _ _ (en.set_sh dv) q
theorem gs_nil (q : P ρ) : Gs K gNil [] ρ P := fun c F H σ vs en ex dv Q' k => by
  cases dv
  exact ⟨rfl, k _ _ en q⟩
theorem gs_cons (h : G K g d ρ fun ρ2 => Gs K gs ds ρ2 P) : Gs K (gCons g gs) (d :: ds) ρ P := fun c F H σ vs en ex dv Q' k => by
  cases dv with
  | cons h1 h2 => exact ⟨_, _, rfl, h c F H σ _ en ex h1 _ fun σ2 ρ2 n2 q2 => q2 c F H σ2 _ n2 ex h2 Q' k⟩
theorem g_tup {n : Nat} (h : Gs K gs ds ρ P) (hn : ds.length = n := by rfl) : G K (gTup K n gs) (.tuple ds) ρ P := fun c F H σ v en ex dv Q' k => by
  obtain ⟨a, xs, rfl, hl, dd⟩ := dv.tup_inv
  exact ⟨a, xs, rfl, ex_t ex hl, by rw [dd.len, hn], h c F H σ xs en ex dd Q' k⟩
/-- a, b = e -/
theorem x_unp (h : W K te ρ fun d ρ2 => G K g d ρ2 fun ρ3 => e.nx ρ3) : XS K (tAsg te g) ρ e := fun c F H σ D st en ok =>
  h c F H σ st en _ fun v F2 H2 d ρ2 a s2 n2 k2 dv q => q c F2 H2 σ v n2 s2.fh dv _ fun σ3 ρ3 n3 q3 => ok.nx σ3 F2 H2 ρ3 a s2 n3 q3
variable {j l : Nat}
theorem x_par (h : WA K t ρ fun ds ρ2 => ∃ a b, ds = [a, b] ∧ e.nx ((ρ2.set i (.sh a)).set j (.sh b))) : XS K (tPar i j t) ρ e := fun c F H σ D st en ok =>
  h c F H σ st en _ fun vs F2 H2 ds ρ2 a s2 n2 k2 dv q => by
    obtain ⟨x, y, rfl, q⟩ := q
    cases dv with
    | cons h1 h2 =>
      cases h2 with
      | cons h2 h3 =>
        cases h3
        exact ⟨_, _, rfl, ok.nx _ F2 H2 _ a s2 ((n2.set_sh h1).set_sh h2) q⟩
theorem x_par3 (h : WA K t ρ fun ds ρ2 => ∃ a b z, ds = [a, b, z] ∧ e.nx (((ρ2.set i (.sh a)).set j (.sh b)).set l (.sh z))) : XS K (tPar3 i j l t) ρ e := fun c F H σ D st en ok =>
  h c F H σ st en _ fun vs F2 H2 ds ρ2 a s2 n2 k2 dv q => by
    obtain ⟨x, y, z, rfl, q⟩ := q
    cases dv with
    | cons h1 h2 =>
      cases h2 with
      | cons h2 h3 =>
        cases h3 with
        | cons h3 h4 =>
          cases h4
          exact ⟨_, _, _, rfl, ok.nx _ F2 H2 _ a s2 (((n2.set_sh h1).set_sh h2).set_sh h3) q⟩
/-- x, y = [..], e : the first a new list of one's own -/
theorem x_parO (h : WO K ta ρ fun ds ρ1 => W K tb ρ1 fun d ρ2 => e.nx ((ρ2.set i (.ow true ds)).set j (.sh d))) : XS K (tPar i j (tCons ta (tCons tb tNil))) ρ e := fun c F H σ D st en ok =>
  h c F H σ st en _ fun p xs F1 H1 ds ρ1 a1 s1 n1 k1 n f hl dl q1 => q1 c F1 H1 σ s1 n1 _ fun v F2 H2 d ρ2 a2 s2 n2 k2 dv q => by
    have ap := k1.ap (en.apart n)
    have hl2 := k2.kp p _ ap hl
    have f2 : F2 p = none := k2.fr p (by rw [hl]; exact fun z => nomatch z) f
    exact ⟨_, _, rfl, ok.nx _ F2 H2 _ (a1.trans a2) s2 ((n2.set_ow (k2.ap ap) (st.none n) f2 hl2 (dl.ex a2)).set_sh dv) q⟩
theorem x_parEO (h : W K ta ρ fun d ρ1 => WO K tb ρ1 fun ds ρ2 => e.nx ((ρ2.set i (.sh d)).set j (.ow true ds))) (hij : i ≠ j := by decide) : XS K (tPar i j (tCons ta (tCons tb tNil))) ρ e := fun c F H σ D st en ok =>
  h c F H σ st en _ fun v F1 H1 d ρ1 a1 s1 n1 k1 dv q1 => q1 c F1 H1 σ s1 n1 _ fun p xs F2 H2 ds ρ2 a2 s2 n2 k2 n f hl dl q => by
    have ap := k2.ap (n1.apart n)
    refine ⟨_, _, rfl, ok.nx _ F2 H2 _ (a1.trans a2) s2 ?_ q⟩
    refine (n2.set_sh (dv.ex a2)).set_ow (fun m b es h1 h2 => ?_) (s1.none n) f hl dl
    by_cases z : i = m
    · subst z
      rw [List.getElem?_set] at h1
      simp only [if_true] at h1
      split at h1 <;> cases h1
    · rw [List.getElem?_set_ne z] at h1 h2
      exact ap m b es h1 h2
/-- two new lists -/
theorem x_parOO (h : WO K ta ρ fun ds ρ1 => WO K tb ρ1 fun es ρ2 => e.nx ((ρ2.set i (.ow true ds)).set j (.ow true es))) (hij : i ≠ j := by decide) : XS K (tPar i j (tCons ta (tCons tb tNil))) ρ e := fun c F H σ D st en ok =>
  h c F H σ st en _ fun p xs F1 H1 ds ρ1 a1 s1 n1 k1 n f hl dl q1 => q1 c F1 H1 σ s1 n1 _ fun p2 xs2 F2 H2 es ρ2 a2 s2 n2 k2 nn ff hl2 dl2 q => by
    have ap := k1.ap (en.apart n)
    have ap2 := k2.ap ap
    have hp2 := k2.kp p _ ap hl
    have f2 : F2 p = none := k2.fr p (by rw [hl]; exact fun z => nomatch z) f
    have ne : p ≠ p2 := fun z => by
      subst z
      rw [hl] at nn
      cases nn
    refine ⟨_, _, rfl, ok.nx _ F2 H2 _ (a1.trans a2) s2 ?_ q⟩
    refine (n2.set_ow ap2 (st.none n) f2 hp2 (dl.ex a2)).set_ow (fun m b es h1 h2 => ?_) (s1.none nn) ff hl2 dl2
    by_cases z : i = m
    · subst z
      rw [List.getElem?_set] at h2
      simp only [if_true] at h2
      split at h2
      · cases h2
        exact ne rfl
      · cases h2
    · rw [List.getElem?_set_ne z] at h1 h2
      exact k2.ap (n1.apart nn) m b es h1 h2
theorem x_par3O {tc : TE} (h : WO K ta ρ fun ds ρ1 => W K tb ρ1 fun d ρ2 => W K tc ρ2 fun d' ρ3 => e.nx (((ρ3.set i (.ow true ds)).set j (.sh d)).set l (.sh d'))) : XS K (tPar3 i j l (tCons ta (tCons tb (tCons tc tNil)))) ρ e := fun c F H σ D st en ok =>
  h c F H σ st en _ fun p xs F1 H1 ds ρ1 a1 s1 n1 k1 n f hl dl q1 => q1 c F1 H1 σ s1 n1 _ fun v F2 H2 d ρ2 a2 s2 n2 k2 dv q2 => q2 c F2 H2 σ s2 n2 _ fun v3 F3 H3 d3 ρ3 a3 s3 n3 k3 dv3 q => by
    have ap := k1.ap (en.apart n)
    have k23 := k2.trans k3
    have hl2 := k23.kp p _ ap hl
    have f2 : F3 p = none := k23.fr p (by rw [hl]; exact fun z => nomatch z) f
    exact ⟨_, _, _, rfl, ok.nx _ F3 H3 _ ((a1.trans a2).trans a3) s3 (((n3.set_ow (k23.ap ap) (st.none n) f2 hl2 (dl.ex (a2.trans a3))).set_sh (dv.ex a3)).set_sh dv3) q⟩
/-- x, y = [..], e by a tuple that is really made: the first a list of one's own -/
theorem x_unpO (h : WO K ta ρ fun ds ρ1 => W K tb ρ1 fun d ρ2 => e.nx ((ρ2.set i (.ow true ds)).set j (.sh d))) : XS K (tAsg (tTup (tCons ta (tCons tb tNil))) (gTup K 2 (gCons (gName i) (gCons (gName j) gNil)))) ρ e := fun c F H σ D st en ok =>
  h c F H σ st en _ fun p xs F1 H1 ds ρ1 a1 s1 n1 k1 n f hl dl q1 => q1 c F1 H1 σ s1 n1 _ fun v F2 H2 d ρ2 a2 s2 n2 k2 dv q => ⟨by show 2 ≤ sizeLine; decide, fun t nt => by
    have ap := k1.ap (en.apart n)
    have hl2 := k2.kp p _ ap hl
    have f2 : F2 p = none := k2.fr p (by rw [hl]; exact fun z => nomatch z) f
    have g := Gr.own (o := .tup [.ref p, v]) s2.fh nt
    refine ⟨t, _, rfl, st_of upd_same, rfl, _, _, rfl, _, _, rfl, rfl, ?_⟩
    exact ok.nx _ F2 _ _ (a1.trans a2) (s2.gr g) (((n2.gr g).set_ow (k2.ap ap) (st.none n) f2 (g.hh _ _ hl2) (dl.ex a2)).set_sh dv) q⟩
/-! loops -/
theorem x_for {wi : TI} {items : List PyData} (hi : EI K wi ρ items) (Inv : Nat → List Sl → Prop) (h0 : Inv 0 ρ)
    (hs : ∀ m d ρ2, items[m]? = some d → Inv m ρ2 → G K g d ρ2 fun ρ3 => XS K ts ρ3 { e with nx := Inv (m + 1), ct := Inv (m + 1), bk := e.nx })
    (hd : ∀ ρ2, Inv items.length ρ2 → e.nx ρ2) : XS K (tFor wi g ts) ρ e := fun c F H σ D st en ok =>
  hi c F H σ en st.fh _ fun J F1 H1 gr it => by
    refine ⟨fun m k σ' H' => k + m = items.length ∧ ∃ F' ρ', Ex F1 F' ∧ Sta c F' H' ∧ Env K c F' H' σ' ρ' ∧ Inv m ρ', ⟨items.length, by omega, F1, ρ, Ex.refl F1, st.gr gr, en.gr gr, h0⟩, ?_⟩
    rintro m k σ' H' ⟨hk, F', ρ', a, s, n, inv⟩
    by_cases lt : m < items.length
    · refine .inr ⟨it.go m H' (a.trans s.fh) lt, fun σ2 H2 => ∃ F2 ρ2, Ex F1 F2 ∧ Sta c F2 H2 ∧ Env K c F2 H2 σ2 ρ2 ∧ Inv (m + 1) ρ2, fun σ2 H2 ⟨F2, ρ2, q⟩ => ⟨k - 1, by omega, by omega, F2, ρ2, q⟩, ?_⟩
      intro x H2 y
      have hx : items[m]? = some items[m] := List.getElem?_eq_getElem lt
      obtain ⟨F2, g2, dx⟩ := it.yl m F' H' _ a s.fh hx x H2 y
      refine hs m _ ρ' hx inv c F2 H2 σ' x (n.gr g2) g2.fh dx _ fun σ3 ρ3 n3 q3 => ?_
      refine q3 c F2 H2 σ3 _ (s.gr g2) n3 ?_
      have ok2 := ok.ex ((gr.ff.trans a).trans g2.ff)
      have nx : ∀ σ F' H' ρ, Ex F2 F' → Sta c F' H' → Env K c F' H' σ ρ → Inv (m + 1) ρ → ∃ F2 ρ2, Ex F1 F2 ∧ Sta c F2 H' ∧ Env K c F2 H' σ ρ2 ∧ Inv (m + 1) ρ2 := fun σ F4 H4 ρ4 a4 s4 n4 q4 => ⟨F4, ρ4, (a.trans g2.ff).trans a4, s4, n4, q4⟩
      exact ⟨nx, ok2.nx, nx, ok2.rt, ok2.ro⟩
    · obtain rfl : m = items.length := by
        have : m ≤ items.length := by omega
        omega
      exact .inl ⟨it.st _ H' (a.trans s.fh) (Nat.le_refl _), ok.nx σ' F' H' ρ' (gr.ff.trans a) s n (hd ρ' inv)⟩
theorem x_while (Inv : Nat → List Sl → Prop) (m0 : Nat) (h0 : Inv m0 ρ)
    (hs : ∀ m ρ2, Inv m ρ2 → ∃ b, ET K tt ρ2 b ∧ (b = true → XS K ts ρ2 { e with nx := fun ρ3 => ∃ m', m' < m ∧ Inv m' ρ3, ct := fun ρ3 => ∃ m', m' < m ∧ Inv m' ρ3, bk := e.nx }) ∧ (b = false → e.nx ρ2)) : XS K (tWhile tt ts) ρ e := fun c F H σ D st en ok => by
  refine ⟨fun m σ' H' => ∃ F' ρ', Ex F F' ∧ Sta c F' H' ∧ Env K c F' H' σ' ρ' ∧ Inv m ρ', ⟨m0, F, ρ, Ex.refl F, st, en, h0⟩, ?_⟩
  rintro m σ' H' ⟨F', ρ', a, s, n, inv⟩
  obtain ⟨b, hb, h1, h2⟩ := hs m ρ' inv
  refine hb c F' H' σ' n s.fh _ fun F2 H2 g => ?_
  have ok2 := ok.ex (a.trans g.ff)
  cases b with
  | true =>
    refine ⟨fun σ2 H3 => ∃ F3 ρ3, Ex F F3 ∧ Sta c F3 H3 ∧ Env K c F3 H3 σ2 ρ3 ∧ ∃ m', m' < m ∧ Inv m' ρ3, fun σ2 H3 ⟨F3, ρ3, q1, q2, q3, m', hm, q4⟩ => ⟨m', hm, F3, ρ3, q1, q2, q3, q4⟩, ?_⟩
    refine h1 rfl c F2 H2 σ' _ (s.gr g) (n.gr g) ?_
    have nx : ∀ σ F' H' ρ, Ex F2 F' → Sta c F' H' → Env K c F' H' σ ρ → (∃ m', m' < m ∧ Inv m' ρ) → ∃ F3 ρ3, Ex F F3 ∧ Sta c F3 H' ∧ Env K c F3 H' σ ρ3 ∧ ∃ m', m' < m ∧ Inv m' ρ3 := fun σ F4 H4 ρ4 a4 s4 n4 q4 => ⟨F4, ρ4, (a.trans g.ff).trans a4, s4, n4, q4⟩
    exact ⟨nx, ok2.nx, nx, ok2.rt, ok2.ro⟩
  | false => exact ok2.nx σ' F2 H2 ρ' (Ex.refl F2) (s.gr g) (n.gr g) (h2 rfl)
end
end PL
/-! PL3: what loops walk over; comprehensions; bodies of defs -/
namespace PL
open PySem PySem.Spec PyProof.Rows L2 Evl SB
section
variable {K : PySem.W.Frag} {ρ : List Sl} {te ta tb tc : TE} {t tr : TA} {tt tu : TT} {d : PyData} {ds es : List PyData}
theorem ei_list (h : E K te ρ (.list ds)) : EI K (iList K te) ρ ds := fun c F H σ en ex R k => h c F H σ en ex _ fun v F1 H1 g dv => by
  obtain ⟨a, xs, rfl, hl, dd⟩ := dv.list_inv
  refine ⟨a, rfl, ⟨xs, sq_of (g.fh _ _ hl)⟩, k _ F1 H1 g ⟨fun i H e lt => ?_, fun i F H d e1 e2 hd x H' y => ?_, fun i H e le => ?_⟩⟩
  · exact ⟨xs, xs[i]'(by rw [dd.len]; exact lt), sq_of (e _ _ hl), List.getElem?_eq_getElem _⟩
  · obtain ⟨rfl, fx⟩ := y
    obtain ⟨v, hv, dv⟩ := dd.get hd
    have e := fx xs (sq_of (e2 _ _ (e1 _ _ hl)))
    rw [hv] at e
    cases e
    exact ⟨F, Gr.refl e2, dv.ex e1⟩
  · exact ⟨xs, sq_of (e _ _ hl), by rw [dd.len]; exact le⟩
theorem ei_tup (h : E K te ρ (.tuple ds)) : EI K (iTup K te) ρ ds := fun c F H σ en ex R k => h c F H σ en ex _ fun v F1 H1 g dv => by
  obtain ⟨a, xs, rfl, hl, dd⟩ := dv.tup_inv
  refine ⟨a, rfl, ⟨xs, ex_t g.fh hl⟩, k _ F1 H1 g ⟨fun i H e lt => ?_, fun i F H d e1 e2 hd x H' y => ?_, fun i H e le => ?_⟩⟩
  · exact ⟨xs, xs[i]'(by rw [dd.len]; exact lt), ex_t e hl, List.getElem?_eq_getElem _⟩
  · obtain ⟨rfl, fx⟩ := y
    obtain ⟨v, hv, dv⟩ := dd.get hd
    have e := fx xs (ex_t e2 (ex_t e1 hl))
    rw [hv] at e
    cases e
    exact ⟨F, Gr.refl e2, dv.ex e1⟩
  · exact ⟨xs, ex_t e hl, by rw [dd.len]; exact le⟩
def rgD (lo : Int) (n : Nat) : List PyData := (List.range n).map fun i : Nat => PyData.int (lo + (i : Int))
def rg0 (n : Nat) : List PyData := (List.range n).map fun i : Nat => PyData.int (i : Int)
theorem rg0_len (n : Nat) : (rg0 n).length = n := by unfold rg0; rw [List.length_map, List.length_range]
theorem rgD_len (lo : Int) (n : Nat) : (rgD lo n).length = n := by unfold rgD; rw [List.length_map, List.length_range]
theorem rg0_get {n i : Nat} {d : PyData} (h : (rg0 n)[i]? = some d) : i < n ∧ d = .int (i : Int) := by
  unfold rg0 at h
  rw [List.getElem?_map] at h
  have l := rg0_len n
  by_cases lt : i < n
  · rw [List.getElem?_range lt] at h
    cases h
    exact ⟨lt, rfl⟩
  · rw [List.getElem?_eq_none (by rw [List.length_range]; omega)] at h
    cases h
theorem rgD_get {lo : Int} {n i : Nat} {d : PyData} (h : (rgD lo n)[i]? = some d) : i < n ∧ d = .int (lo + (i : Int)) := by
  unfold rgD at h
  rw [List.getElem?_map] at h
  by_cases lt : i < n
  · rw [List.getElem?_range lt] at h
    cases h
    exact ⟨lt, rfl⟩
  · rw [List.getElem?_eq_none (by rw [List.length_range]; omega)] at h
    cases h
theorem it_r (lo : Int) (n : Nat) (F : Hp) : ItOk K (Itr lo n) (rgD lo n) F :=
  ⟨fun i H e lt => by rw [rgD_len] at lt; exact lt, fun i F H d e1 e2 hd x H' y => by
    obtain ⟨rfl, rfl⟩ := y
    obtain ⟨_, rfl⟩ := rgD_get hd
    exact ⟨F, Gr.refl e2, .int _⟩, fun i H e le => by rw [rgD_len] at le; exact le⟩
theorem ei_r1 {n : Int} (h : EA K t ρ [.int n]) (h1 : -(2 ^ 62) ≤ n ∧ n < 2 ^ 62) : EI K (iRng1 t) ρ (rg0 n.toNat) := fun c F H σ en ex R k => h c F H σ en ex _ fun vs F1 H1 g dv => by
  cases dv with
  | cons d1 d2 =>
    cases d2
    cases d1
    have e : rg0 n.toNat = rgD 0 n.toNat := by
      unfold rg0 rgD
      exact List.map_congr_left fun i _ => by rw [Int.zero_add]
    rw [e] at k
    exact ⟨n, rfl, h1.1, h1.2, k _ F1 H1 g (it_r 0 n.toNat F1)⟩
theorem ei_r2 {lo hi : Int} (h : EA K t ρ [.int lo, .int hi]) (h1 : -(2 ^ 62) ≤ lo ∧ lo < 2 ^ 62 ∧ -(2 ^ 62) ≤ hi ∧ hi < 2 ^ 62) : EI K (iRng2 t) ρ (rgD lo (hi - lo).toNat) := fun c F H σ en ex R k => h c F H σ en ex _ fun vs F1 H1 g dv => by
  cases dv with
  | cons d1 d2 =>
    cases d2 with
    | cons d2 d3 =>
      cases d3
      cases d1
      cases d2
      exact ⟨lo, hi, rfl, h1, k _ F1 H1 g (it_r lo _ F1)⟩
def enD (ds : List PyData) : List PyData := ds.zipIdx.map fun p => PyData.tuple [.int (p.2 : Int), p.1]
theorem enD_len : (enD ds).length = ds.length := by unfold enD; rw [List.length_map, List.length_zipIdx]
theorem enD_get {i : Nat} (h : (enD ds)[i]? = some d) : ∃ x, ds[i]? = some x ∧ d = .tuple [.int (i : Int), x] := by
  unfold enD at h
  rw [List.getElem?_map, List.getElem?_zipIdx] at h
  cases e : ds[i]? with
  | none => rw [e] at h; cases h
  | some x =>
    rw [e] at h
    refine ⟨x, rfl, ?_⟩
    simp at h
    exact h.symm
theorem ei_enum (h : EA K t ρ [.list ds]) : EI K (iEnum K t) ρ (enD ds) := fun c F H σ en ex R k => h c F H σ en ex _ fun vs F1 H1 g dv => by
  cases dv with
  | cons d1 d2 =>
    cases d2
    obtain ⟨a, xs, rfl, hl, dd⟩ := d1.list_inv
    refine ⟨a, xs, rfl, sq_of (g.fh _ _ hl), k _ F1 H1 g ⟨fun i H e lt => ?_, fun i F H d e1 e2 hd x H' y => ?_, fun i H e le => ?_⟩⟩
    · rw [enD_len] at lt
      exact ⟨xs, xs[i]'(by rw [dd.len]; exact lt), sq_of (e _ _ hl), List.getElem?_eq_getElem _⟩
    · obtain ⟨T, w, rfl, nT, rfl, fx⟩ := y
      obtain ⟨z, hz, rfl⟩ := enD_get hd
      obtain ⟨v, hv, dv⟩ := dd.get hz
      have e := fx xs (sq_of (e2 _ _ (e1 _ _ hl)))
      rw [hv] at e
      cases e
      have g2 := Gr.new (o := .tup [.int (i : Nat), w]) e2 nT
      exact ⟨_, g2, .tup (st_of upd_same) (.cons (.int _) (.cons ((dv.ex e1).ex g2.ff) .nil))⟩
    · rw [enD_len] at le
      exact ⟨xs, sq_of (e _ _ hl), by rw [dd.len]; exact le⟩
def zpD (ds es : List PyData) : List PyData := (List.zip ds es).map fun p => PyData.tuple [p.1, p.2]
theorem zpD_len : (zpD ds es).length = min ds.length es.length := by unfold zpD; rw [List.length_map, List.length_zip]
theorem zpD_get {i : Nat} (h : (zpD ds es)[i]? = some d) : ∃ x y, ds[i]? = some x ∧ es[i]? = some y ∧ d = .tuple [x, y] := by
  unfold zpD at h
  rw [List.getElem?_map] at h
  cases e : (List.zip ds es)[i]? with
  | none => rw [e] at h; cases h
  | some p =>
    rw [e] at h
    cases h
    obtain ⟨h1, h2⟩ := List.getElem?_zip_eq_some.mp e
    exact ⟨p.1, p.2, h1, h2, rfl⟩
theorem ei_zip (h : EA K t ρ [.list ds, .list es]) : EI K (iZip K t) ρ (zpD ds es) := fun c F H σ en ex R k => h c F H σ en ex _ fun vs F1 H1 g dv => by
  cases dv with
  | cons d1 d2 =>
    cases d2 with
    | cons d2 d3 =>
      cases d3
      obtain ⟨a, xs, rfl, hl, dd⟩ := d1.list_inv
      obtain ⟨b, ys, rfl, hm, de⟩ := d2.list_inv
      refine ⟨a, b, xs, ys, rfl, sq_of (g.fh _ _ hl), sq_of (g.fh _ _ hm), k _ F1 H1 g ⟨fun i H e lt => ?_, fun i F H d e1 e2 hd x H' y => ?_, fun i H e le => ?_⟩⟩
      · rw [zpD_len] at lt
        exact ⟨xs, ys, xs[i]'(by rw [dd.len]; omega), ys[i]'(by rw [de.len]; omega), sq_of (e _ _ hl), sq_of (e _ _ hm), List.getElem?_eq_getElem _, List.getElem?_eq_getElem _⟩
      · obtain ⟨T, w1, w2, rfl, nT, rfl, fx, fy⟩ := y
        obtain ⟨z1, z2, hz1, hz2, rfl⟩ := zpD_get hd
        obtain ⟨v, hv, dv⟩ := dd.get hz1
        obtain ⟨u, hu, du⟩ := de.get hz2
        have e := fx xs (sq_of (e2 _ _ (e1 _ _ hl)))
        rw [hv] at e
        cases e
        have e := fy ys (sq_of (e2 _ _ (e1 _ _ hm)))
        rw [hu] at e
        cases e
        have g2 := Gr.new (o := .tup [w1, w2]) e2 nT
        exact ⟨_, g2, .tup (st_of upd_same) (.cons ((dv.ex e1).ex g2.ff) (.cons ((du.ex e1).ex g2.ff) .nil))⟩
      · rw [zpD_len] at le
        refine ⟨xs, ys, sq_of (e _ _ hl), sq_of (e _ _ hm), ?_⟩
        rw [dd.len, de.len]
        omega
/-! comprehensions -/
def wipeS (ρ : List Sl) : List Nat → List Sl
  | [] => ρ
  | v :: vs => (wipeS ρ vs).set v .un
theorem env_wipe {c : Cn} {F H : Hp} {σ : L2.St} (en : Env K c F H σ ρ) : ∀ vs : List Nat, Env K c F H (wipe σ vs) (wipeS ρ vs)
  | [] => en
  | v :: vs => (env_wipe en vs).set_un v none
theorem wipeS_at {i : Nat} {s : Sl} : ∀ {vs : List Nat}, (wipeS ρ vs)[i]? = some s → s = .un ∨ i ∉ vs
  | [], h => .inr (by simp)
  | v :: vs, h => by
    by_cases e : v = i
    · subst e
      unfold wipeS at h
      rw [List.getElem?_set] at h
      simp only [if_true] at h
      split at h
      · cases h
        exact .inl rfl
      · cases h
    · unfold wipeS at h
      rw [List.getElem?_set_ne e] at h
      rcases wipeS_at h with h | h
      · exact .inl h
      · exact .inr (by simp; exact ⟨fun z => e z.symm, h⟩)
theorem env_unwipe {c : Cn} {F H : Hp} {σ : L2.St} {vs : List Nat} (en : Env K c F H (wipe σ vs) (wipeS ρ vs)) : Env K c F H σ (wipeS ρ vs) := by
  refine ⟨by have := en.len; rwa [wipe_length] at this, fun i s v h1 h2 => ?_, fun i j p b b' ds ds' h1 h2 h3 h4 => ?_⟩
  · rcases wipeS_at h1 with rfl | h
    · trivial
    · exact en.sl i s v h1 (by rw [wipe_out h]; exact h2)
  · rcases wipeS_at h1 with z | h
    · cases z
    rcases wipeS_at h2 with z | h'
    · cases z
    exact en.inj i j p b b' ds ds' h1 h2 (by rw [wipe_out h]; exact h3) (by rw [wipe_out h']; exact h4)
/-- what is owned was owned before -/
def OwS (σ : L2.St) (ρ : List Sl) (σ2 : L2.St) (ρ2 : List Sl) : Prop := ∀ (j : Nat) (b : Bool) (es : List PyData), ρ2[j]? = some (.ow b es) → ρ[j]? = some (.ow b es) ∧ σ2[j]? = σ[j]?
theorem OwS.refl {σ : L2.St} : OwS σ ρ σ ρ := fun _ _ _ h => ⟨h, rfl⟩
theorem OwS.trans {σ σ1 σ2 : L2.St} {ρ1 ρ2 : List Sl} (a : OwS σ ρ σ1 ρ1) (b : OwS σ1 ρ1 σ2 ρ2) : OwS σ ρ σ2 ρ2 := fun j f es h => by
  obtain ⟨h1, e1⟩ := b j f es h
  obtain ⟨h2, e2⟩ := a j f es h1
  exact ⟨h2, e1.trans e2⟩
theorem OwS.set {σ : L2.St} {i : Nat} {v : V} : OwS σ ρ (σ.set i (some v)) (ρ.set i (.sh d)) := fun j b es h => by
  by_cases z : i = j
  · subst z
    rw [List.getElem?_set] at h
    simp only [if_true] at h
    split at h <;> cases h
  · rw [List.getElem?_set_ne z] at h
    exact ⟨h, by rw [List.getElem?_set_ne z]⟩
theorem OwS.wipe {σ : L2.St} (ws : List Nat) : OwS σ ρ (L2.wipe σ ws) (wipeS ρ ws) := fun j b es h => by
  rcases wipeS_at h with z | n
  · cases z
  · refine ⟨?_, wipe_out n⟩
    have out : ∀ {vs : List Nat}, j ∉ vs → (wipeS ρ vs)[j]? = ρ[j]? := fun {vs} => by
      induction vs with
      | nil => intro _; rfl
      | cons v vs ih =>
        intro hv
        unfold wipeS
        rw [List.getElem?_set_ne (fun z => hv (by rw [z]; exact List.mem_cons_self ..)), ih fun z => hv (List.mem_cons_of_mem _ z)]
    rw [← out n]
    exact h
theorem OwS.ap {σ σ2 : L2.St} {ρ2 : List Sl} {p : Addr} (o : OwS σ ρ σ2 ρ2) (a : Apart σ ρ p) : Apart σ2 ρ2 p := fun i b es h1 h2 => by
  obtain ⟨h3, h4⟩ := o i b es h1
  exact a i b es h3 (by rw [← h4]; exact h2)
theorem Kpt.out {σ σ2 : L2.St} {ρ2 ρ3 : List Sl} {F H F3 H3 : Hp} {ws : List Nat} (k : Kpt σ2 ρ2 F H ρ3 F3 H3) (o : OwS σ ρ σ2 ρ2) : Kpt σ ρ F H (wipeS ρ3 ws) F3 H3 :=
  ⟨fun p u a h => k.kp p u (o.ap a) h, fun i b es h => by
    rcases wipeS_at h with z | n
    · cases z
    · obtain ⟨h1, _⟩ := OwS.wipe (σ := σ) ws i b es h
      obtain ⟨e2, h2⟩ := k.os i b es h1
      exact ⟨e2, (o i b e2 h2).1⟩, k.dm, k.fr⟩
def GC (K : PySem.W.Frag) (g : TG) (ws : List Nat) (d : PyData) (ρ : List Sl) (Q : List Sl → Prop) : Prop := ∀ c F H σ v, Env K c F H σ ρ → Ex F H → Vd K F v d → ∀ Q' : L2.St → Hp → Prop, (∀ σ2 ρ2, Env K c F H σ2 ρ2 → wipe σ2 ws = wipe σ ws → OwS σ ρ σ2 ρ2 → Q ρ2 → Q' σ2 H) → g v σ H Q'
def GCs (K : PySem.W.Frag) (g : TGs) (ws : List Nat) (ds : List PyData) (ρ : List Sl) (Q : List Sl → Prop) : Prop := ∀ c F H σ vs, Env K c F H σ ρ → Ex F H → VdAll K F vs ds → ∀ Q' : L2.St → Hp → Prop, (∀ σ2 ρ2, Env K c F H σ2 ρ2 → wipe σ2 ws = wipe σ ws → OwS σ ρ σ2 ρ2 → Q ρ2 → Q' σ2 H) → g vs σ H Q'
variable {g : TG} {gs : TGs} {ws : List Nat} {P : List Sl → Prop} {i : Nat}
theorem gc_name (q : P (ρ.set i (.sh d))) (hi : i ∈ ws := by decide) : GC K (gName i) ws d ρ P := fun c F H σ v en ex dv Q' k => k _ _ (en.set_sh dv) (SB.wipe_set hi) .set q
theorem gcs_nil (q : P ρ) : GCs K gNil ws [] ρ P := fun c F H σ vs en ex dv Q' k => by
  cases dv
  exact ⟨rfl, k _ _ en rfl .refl q⟩
theorem gcs_cons (h : GC K g ws d ρ fun ρ2 => GCs K gs ws ds ρ2 P) : GCs K (gCons g gs) ws (d :: ds) ρ P := fun c F H σ vs en ex dv Q' k => by
  cases dv with
  | cons h1 h2 => exact ⟨_, _, rfl, h c F H σ _ en ex h1 _ fun σ2 ρ2 n2 w2 o2 q2 => q2 c F H σ2 _ n2 ex h2 Q' fun σ3 ρ3 n3 w3 o3 q3 => k σ3 ρ3 n3 (w3.trans w2) (o2.trans o3) q3⟩
theorem gc_tup {n : Nat} (h : GCs K gs ws ds ρ P) (hn : ds.length = n := by rfl) : GC K (gTup K n gs) ws (.tuple ds) ρ P := fun c F H σ v en ex dv Q' k => by
  obtain ⟨a, xs, rfl, hl, dd⟩ := dv.tup_inv
  exact ⟨a, xs, rfl, ex_t ex hl, by rw [dd.len, hn], h c F H σ xs en ex dd Q' k⟩
theorem et_yes : ET K tYes ρ true := fun c F H σ en ex Q q => q F H (Gr.refl ex)
theorem eo_lc {wi : TI} {items : List PyData} (hi : EI K wi ρ items) (f : PyData → Option PyData) (hn : items.length ≤ 100000)
    (hs : ∀ d, d ∈ items → GC K g ws d (wipeS ρ ws) fun ρ2 => ∃ b, ET K tt ρ2 b ∧ (b = true → ∃ y, E K te ρ2 y ∧ f d = some y) ∧ (b = false → f d = none)) : EO K (tLc wi g tt te ws) ρ (items.filterMap f) := fun c F H σ en ex Q q =>
  hi c F H σ en ex _ fun J F1 H1 gr it D nD => by
    refine ⟨fun m k H' => k + m = items.length ∧ ∃ F' xs, Gr F1 H1 F' H' ∧ H1 D = none ∧ F' D = none ∧ H' D = some (.lst xs) ∧ VdAll K F' xs ((items.take m).filterMap f), ⟨items.length, by omega, F1, [], Gr.own gr.fh nD, nD, fresh_back gr.fh nD, upd_same, .nil⟩, ?_⟩
    rintro m k H' ⟨hk, F', xs, g1, nD, fD, hD, dd⟩
    by_cases lt : m < items.length
    · refine .inr ⟨it.go m H' (g1.ff.trans g1.fh) lt, fun H2 => ∃ F' xs, Gr F1 H1 F' H2 ∧ H1 D = none ∧ F' D = none ∧ H2 D = some (.lst xs) ∧ VdAll K F' xs ((items.take (m + 1)).filterMap f), fun H2 z => ⟨k - 1, by omega, by omega, z⟩, ?_⟩
      intro x H2 y
      have hx : items[m]? = some items[m] := List.getElem?_eq_getElem lt
      obtain ⟨F2, g2, dx⟩ := it.yl m F' H' _ g1.ff g1.fh hx x H2 y
      have en2 := env_wipe (((en.gr gr).gr g1).gr g2) ws
      refine hs _ (List.mem_of_getElem? hx) c F2 H2 _ x en2 g2.fh dx _ fun σ3 ρ3 n3 w3 _ ⟨b, hb, h1, h2⟩ => ⟨w3.trans (SB.wipe_wipe ws), ?_⟩
      have hD2 := g2.hh _ _ hD
      have fD2 := g2.fr D (by rw [hD]; exact fun z => nomatch z) fD
      refine hb c F2 H2 σ3 n3 g2.fh _ fun F3 H3 g3 => ?_
      have hD3 := g3.hh _ _ hD2
      have fD3 := g3.fr D (by rw [hD2]; exact fun z => nomatch z) fD2
      cases b with
      | true =>
        rw [if_pos rfl]
        obtain ⟨y, hy, fy⟩ := h1 rfl
        refine hy c F3 H3 σ3 (n3.gr g3) g3.fh _ fun v F4 H4 g4 dv => ?_
        have hD4 := g4.hh _ _ hD3
        have fD4 := g4.fr D (by rw [hD3]; exact fun z => nomatch z) fD3
        have ff := (g2.ff.trans g3.ff).trans g4.ff
        have len : xs.length ≤ m := by
          rw [dd.len]
          exact Nat.le_trans (List.length_filterMap_le _ _) (by rw [List.length_take]; omega)
        refine ⟨xs, hD4, sz_lt (by omega), F4, xs ++ [v], ?_, nD, fD4, upd_same, ?_⟩
        · have g5 := ((g1.trans g2).trans g3).trans g4
          exact ⟨g5.ff, g5.fh.mut fD4, g5.hh.mut nD, g5.fr⟩
        · rw [take_fm_succ f hx, fy]
          exact (dd.ex ff).app (.cons dv .nil)
      | false =>
        rw [if_neg Bool.false_ne_true]
        refine ⟨F3, xs, (g1.trans g2).trans g3, nD, fD3, hD3, ?_⟩
        rw [take_fm_succ f hx, h2 rfl, List.append_nil]
        exact dd.ex (g2.ff.trans g3.ff)
    · obtain rfl : m = items.length := by omega
      refine .inl ⟨it.st _ H' (g1.ff.trans g1.fh) (Nat.le_refl _), ?_⟩
      rw [List.take_length] at dd
      exact q D xs F' H' (gr.trans g1) (fresh_back gr.hh nD) fD hD dd
/-- each turn may change lists of one's own -/
theorem wo_lc {QA : List PyData → List Sl → Prop} {wi : TI} {items : List PyData} (hi : EI K wi ρ items) (Inv : Nat → List PyData → List Sl → Prop) (hn : items.length ≤ 100000) (h0 : Inv 0 [] ρ)
    (hs : ∀ m d acc ρ2, items[m]? = some d → Inv m acc ρ2 → acc.length ≤ m ∧ GC K g ws d (wipeS ρ2 ws) fun ρ3 => WT K tt ρ3 fun b ρ4 =>
      (b = true → W K te ρ4 fun y ρ5 => Inv (m + 1) (acc ++ [y]) (wipeS ρ5 ws)) ∧ (b = false → Inv (m + 1) acc (wipeS ρ4 ws)))
    (hd : ∀ acc ρ2, Inv items.length acc ρ2 → QA acc ρ2) : WO K (tLc wi g tt te ws) ρ QA := fun c F H σ st en Q k =>
  hi c F H σ en st.fh _ fun J F1 H1 gr it D nD => by
    have apD := (en.gr gr).apart nD
    refine ⟨fun m j H' => j + m = items.length ∧ ∃ F' xs acc ρ', Ex F1 F' ∧ Sta c F' H' ∧ Env K c F' H' σ ρ' ∧ Kpt σ ρ F1 H1 ρ' F' H' ∧ F' D = none ∧ H' D = some (.lst xs) ∧ VdAll K F' xs acc ∧ Inv m acc ρ', ⟨items.length, by omega, F1, [], [], ρ, Ex.refl F1, (st.gr gr).gr (Gr.own gr.fh nD), (en.gr gr).gr (Gr.own gr.fh nD), .gr (Gr.own gr.fh nD), fresh_back gr.fh nD, upd_same, .nil, h0⟩, ?_⟩
    rintro m j H' ⟨hk, F', xs, acc, ρ', ff, s, n, kp, fD, hD, dd, inv⟩
    by_cases lt : m < items.length
    · refine .inr ⟨it.go m H' (ff.trans s.fh) lt, fun H' => ∃ F' xs acc ρ', Ex F1 F' ∧ Sta c F' H' ∧ Env K c F' H' σ ρ' ∧ Kpt σ ρ F1 H1 ρ' F' H' ∧ F' D = none ∧ H' D = some (.lst xs) ∧ VdAll K F' xs acc ∧ Inv (m + 1) acc ρ', fun H2 z => ⟨j - 1, by omega, by omega, z⟩, ?_⟩
      intro x H2 y
      have hx : items[m]? = some items[m] := List.getElem?_eq_getElem lt
      obtain ⟨F2, g2, dx⟩ := it.yl m F' H' _ ff s.fh hx x H2 y
      have en2 := env_wipe (n.gr g2) ws
      obtain ⟨al, hg⟩ := hs m _ acc ρ' hx inv
      refine hg c F2 H2 _ x en2 g2.fh dx _ fun σ3 ρ3 n3 w3 o3 q3 => ⟨w3.trans (SB.wipe_wipe ws), ?_⟩
      have hD2 := g2.hh _ _ hD
      have fD2 := g2.fr D (by rw [hD]; exact fun z => nomatch z) fD
      have own : OwS σ ρ' σ3 ρ3 := (OwS.wipe ws).trans o3
      have apD3 : Apart σ3 ρ3 D := own.ap (kp.ap apD)
      -- what slots own inside is what they own outside
      have back : ∀ {ρx : List Sl} {Fx Hx : Hp}, Env K c Fx Hx σ3 ρx → Env K c Fx Hx σ (wipeS ρx ws) := fun {ρx Fx Hx} e => by
        have e2 := env_wipe e ws
        rw [w3.trans (SB.wipe_wipe ws)] at e2
        exact env_unwipe e2
      refine q3 c F2 H2 σ3 (s.gr g2) n3 _ fun b F3 H3 ρ4 f3 s3 n4 k4 ⟨qt, qf⟩ => ?_
      have hD3 := k4.kp D _ apD3 hD2
      have fD3 := k4.fr D (by rw [hD2]; exact fun z => nomatch z) fD2
      cases b with
      | true =>
        rw [if_pos rfl]
        refine qt rfl c F3 H3 σ3 s3 n4 _ fun v F4 H4 y ρ5 f4 s4 n5 k5 dv inv2 => ?_
        have hD4 := k5.kp D _ (k4.ap apD3) hD3
        have fD4 := k5.fr D (by rw [hD3]; exact fun z => nomatch z) fD3
        have K2 : Kpt σ ρ F1 H1 (wipeS ρ5 ws) F4 H4 := (kp.trans (.gr g2)).trans ((k4.trans k5).out own)
        have lx : xs.length = acc.length := dd.len
        refine ⟨xs, hD4, sz_lt (by omega), F4, xs ++ [v], acc ++ [y], wipeS ρ5 ws, ((ff.trans g2.ff).trans f3).trans f4, s4.mut (b := true) fD4 (.inl ⟨rfl, st.none (fresh_back gr.hh nD)⟩), ?_, ?_, fD4, upd_same, (dd.ex ((g2.ff.trans f3).trans f4)).app (.cons dv .nil), inv2⟩
        · have e := back n5
          have apo : Apart σ (wipeS ρ5 ws) D := K2.ap apD
          refine ⟨e.len, fun j s' u h1 h2 => ?_, e.inj⟩
          have r := e.sl j s' u h1 h2
          cases s' with
          | un => trivial
          | scr ns => exact r
          | xo a o => exact r
          | sh d => exact r
          | ow b' ds' =>
            obtain ⟨p2, xs2, rfl, n2, a2, f2, hl2, d2⟩ := r
            have ne : p2 ≠ D := fun z => by
              subst z
              exact apo j b' ds' h1 h2
            exact ⟨p2, xs2, rfl, n2, a2, f2, by rw [upd_ne ne]; exact hl2, d2⟩
        · refine ⟨fun p u a h => ?_, K2.os, fun p h => ?_, K2.fr⟩
          · rw [upd_ne (ne_of_none h nD)]
            exact K2.kp p u a h
          · by_cases z : p = D
            · subst z
              exact absurd nD h
            · rw [upd_ne z]
              exact K2.dm p h
      | false =>
        rw [if_neg Bool.false_ne_true]
        exact ⟨F3, xs, acc, wipeS ρ4 ws, (ff.trans g2.ff).trans f3, s3, back n4, (kp.trans (.gr g2)).trans (k4.out own), fD3, hD3, dd.ex (g2.ff.trans f3), qf rfl⟩
    · obtain rfl : m = items.length := by omega
      refine .inl ⟨it.st _ H' (ff.trans s.fh) (Nat.le_refl _), ?_⟩
      exact k D xs F' H' acc ρ' (gr.ff.trans ff) s n ((Kpt.gr gr).trans kp) (fresh_back gr.hh nD) fD hD dd (hd acc ρ' inv)
end
/-! promises -/
def SpN (K : PySem.W.Frag) (m : List PyData → (PyData → Prop) → Prop) : Sp := fun vs H Q _ => ∃ F ds R, Ex F H ∧ VdAll K F vs ds ∧ m ds R ∧ ∀ v F2 H2 d, Gr F H F2 H2 → Vd K F2 v d → R d → Q v H2
def SpO (K : PySem.W.Frag) (m : List PyData → (List PyData → Prop) → Prop) : Sp := fun vs H Q _ => ∃ F ds R, Ex F H ∧ VdAll K F vs ds ∧ m ds R ∧ ∀ p xs F2 H2 es, Gr F H F2 H2 → H p = none → F2 p = none → H2 p = some (.lst xs) → VdAll K F2 xs es → R es → Q (.ref p) H2
def SpT (K : PySem.W.Frag) (m : List PyData → List PyData → (PyData → List PyData → Prop) → Prop) : Sp := fun vs H Q _ => ∃ F a xs ws T ds R, vs = .ref a :: ws ∧ Ex F H ∧ F a = none ∧ H a = some (.lst xs) ∧ VdAll K F xs T ∧ VdAll K F ws ds ∧ m T ds R ∧
  ∀ v F2 H2 d ys T', Sta ⟨fun q => q = a, F, H⟩ F2 H2 → H2 a = some (.lst ys) → F2 a = none → VdAll K F2 ys T' → Vd K F2 v d → R d T' → Q v H2
def SpTO (K : PySem.W.Frag) (m : List PyData → List PyData → (List PyData → List PyData → Prop) → Prop) : Sp := fun vs H Q _ => ∃ F a xs ws T ds R, vs = .ref a :: ws ∧ Ex F H ∧ F a = none ∧ H a = some (.lst xs) ∧ VdAll K F xs T ∧ VdAll K F ws ds ∧ m T ds R ∧
  ∀ p zs F2 H2 es ys T', Sta ⟨fun q => q = a, F, H⟩ F2 H2 → H2 a = some (.lst ys) → F2 a = none → VdAll K F2 ys T' → H p = none → F2 p = none → H2 p = some (.lst zs) → VdAll K F2 zs es → R es T' → Q (.ref p) H2
section
variable {K : PySem.W.Frag} {ds es T : List PyData} {d : PyData}
theorem cn {m : List PyData → (PyData → Prop) → Prop} {R : PyData → Prop} (h : m ds R) : CN K (SpN K m) ds R := fun F H vs Q X ex dv q => ⟨F, ds, R, ex, dv, h, q⟩
theorem ce {m : List PyData → (PyData → Prop) → Prop} (h : m ds fun z => z = d) : CE K (SpN K m) ds d := fun F H vs Q X ex dv q => ⟨F, ds, _, ex, dv, h, fun v F2 H2 z g dz e => by subst e; exact q v F2 H2 g dz⟩
theorem cno {m : List PyData → (List PyData → Prop) → Prop} {R : List PyData → Prop} (h : m ds R) : CNO K (SpO K m) ds R := fun F H vs Q X ex dv q => ⟨F, ds, R, ex, dv, h, q⟩
theorem co {m : List PyData → (List PyData → Prop) → Prop} (h : m ds fun z => z = es) : CO K (SpO K m) ds es := fun F H vs Q X ex dv q => ⟨F, ds, _, ex, dv, h, fun p xs F2 H2 z g n f hl dz e => by subst e; exact q p xs F2 H2 g n f hl dz⟩
theorem ct {m : List PyData → List PyData → (PyData → List PyData → Prop) → Prop} {R : PyData → List PyData → Prop} (h : m T ds R) : CT K (SpT K m) T ds R := fun F H a xs vs Q X ex f hl d1 d2 q => ⟨F, a, xs, vs, T, ds, R, rfl, ex, f, hl, d1, d2, h, q⟩
theorem cto {m : List PyData → List PyData → (List PyData → List PyData → Prop) → Prop} {R : List PyData → List PyData → Prop} (h : m T ds R) : CTO K (SpTO K m) T ds R := fun F H a xs vs Q X ex f hl d1 d2 q => ⟨F, a, xs, vs, T, ds, R, rfl, ex, f, hl, d1, d2, h, q⟩
/-- a def whose first argument is the script -/
theorem e_lenS {ρ : List Sl} {i : Nat} {ns : List Int} (h : ρ[i]? = some (.scr ns)) : E K (tCB (fun xs H Q => ∃ p ys, xs = [V.ref p] ∧ (SqL K H p ys ∨ SqT K H p ys) ∧ Q (V.int (ys.length : Int)) H) (tCons (tVar i) tNil)) ρ (.int (ns.length : Int)) := fun c F H σ en ex Q q => by
  obtain ⟨a, e, sq⟩ := en.scr h
  refine ⟨_, e, a, _, rfl, .inl (ex_l ex sq), ?_⟩
  rw [List.length_map]
  exact q _ F H (Gr.refl ex) (.int _)
theorem e_ixS {ρ : List Sl} {i : Nat} {ns : List Int} {tb : TE} {k x : Int} (h : ρ[i]? = some (.scr ns)) (hb : E K tb ρ (.int k)) (hx : atI ns k = some x) : E K (tOp (rIxL K) (tVar i) tb) ρ (.int x) := fun c F H σ en ex Q q => by
  obtain ⟨a, e, sq⟩ := en.scr h
  refine ⟨_, e, hb c F H σ en ex _ fun v F2 H2 g dv => ?_⟩
  cases dv
  refine ⟨a, _, k, _, rfl, rfl, ex_l (ex.trans g.hh) sq, ?_, q _ F2 H2 g (.int x)⟩
  unfold atI at hx ⊢
  rw [List.length_map]
  cases e : ixN ns.length k with
  | none => rw [e] at hx; cases hx
  | some j =>
    rw [e] at hx
    show (ns.map V.int)[j]? = _
    rw [List.getElem?_map, show ns[j]? = some x from hx]
    rfl
theorem eo_slS {ρ : List Sl} {i : Nat} {ns : List Int} {k : Nat} {tl th : TO} (h : ρ[i]? = some (.scr ns)) (hl : EP K tl ρ none) (hh : EP K th ρ (some (k : Int))) : EO K (tSl (rSlL K) (tVar i) tl th) ρ (dI (ns.take k)) := fun c F H σ en ex Q q => by
  obtain ⟨a, e, sq⟩ := en.scr h
  refine ⟨_, e, hl c F H σ en ex _ fun F2 H2 g2 => hh c F2 H2 σ (en.gr g2) g2.fh _ fun F3 H3 g3 => ?_⟩
  refine ⟨a, _, rfl, ex_l (ex.trans (g2.trans g3).hh) sq, fun p n => ?_⟩
  have e : cutV (ns.map V.int) none (some (k : Int)) = (ns.take k).map V.int := by
    unfold cutV
    rw [show HT.sIx (ns.map V.int).length (ns.map V.int).length (some (k : Int)) = min k (ns.map V.int).length from HT.sIx_nat _ _ k, HT.sIx_none, Nat.sub_zero, List.drop_zero, List.map_take]
    rcases Nat.le_total k (ns.map V.int).length with h | h
    · rw [Nat.min_eq_left h]
    · rw [Nat.min_eq_right h, List.take_of_length_le (Nat.le_refl _), List.take_of_length_le h]
  rw [e]
  exact q p _ F3 _ ((g2.trans g3).trans (Gr.own g3.fh n)) (fresh_back (g2.trans g3).hh n) (fresh_back g3.fh n) upd_same (VdAll.ints _)
def SpS (K : PySem.W.Frag) (m : List Int → List PyData → (List PyData → Prop) → Prop) : Sp := fun vs H Q _ => ∃ (F : Hp) (a : Addr) (ns : List Int) (ws : List V) (ds : List PyData) (R : List PyData → Prop), vs = .ref a :: ws ∧ Ex F H ∧ SqL K F a (ns.map V.int) ∧ VdAll K F ws ds ∧ m ns ds R ∧ ∀ p xs F2 H2 es, Gr F H F2 H2 → H p = none → F2 p = none → H2 p = some (.lst xs) → VdAll K F2 xs es → R es → Q (.ref p) H2
theorem wo_scr {ρ : List Sl} {i : Nat} {ns : List Int} {t : TA} {m : List Int → List PyData → (List PyData → Prop) → Prop} {X : XK} {QA : List PyData → List Sl → Prop} (h : ρ[i]? = some (.scr ns)) (h2 : EA K t ρ ds) (hm : m ns ds fun es => QA es ρ) : WO K (tCall (SpS K m) [] X (tCons (tVar i) t)) ρ QA := fun c F H σ st en Q' k => by
  obtain ⟨a, e, sq⟩ := en.scr h
  refine ⟨_, e, h2 c F H σ en st.fh _ fun vs F2 H2 g dv => ?_⟩
  show SpS K m ((.ref a :: vs) ++ []) H2 Q' X
  rw [List.append_nil]
  exact ⟨F2, a, ns, vs, ds, _, rfl, g.fh, ex_l g.ff sq, dv, hm, fun p xs F3 H3 es g3 n f hl dd r => k p xs F3 H3 es ρ (g.ff.trans g3.ff) ((st.gr g).gr g3) ((en.gr g).gr g3) ((Kpt.gr g).trans (.gr g3)) (fresh_back g.hh n) f hl dd r⟩
/-- the slots at a def's entry -/
def rs (n : Nat) (ds : List PyData) : List Sl := ds.map Sl.sh ++ List.replicate (n - ds.length) .un
def rsT (n : Nat) (T ds : List PyData) : List Sl := .ow false T :: (ds.map Sl.sh ++ List.replicate (n - (ds.length + 1)) .un)
theorem env_sh {c : Cn} {F H : Hp} {vs : List V} (h : VdAll K F vs ds) (n : Nat) : Env K c F H (vs.map some ++ List.replicate n none) (ds.map Sl.sh ++ List.replicate n .un) := by
  have l := h.len
  refine ⟨by simp [l], fun i s v h1 h2 => ?_, fun i j p b b' e e' h1 _ _ _ => ?_⟩
  · by_cases lt : i < ds.length
    · rw [List.getElem?_append_left (by simpa using lt), List.getElem?_map, List.getElem?_eq_getElem lt] at h1
      cases h1
      obtain ⟨w, hw, dw⟩ := h.get (List.getElem?_eq_getElem lt)
      rw [List.getElem?_append_left (by simp [l]; exact lt), List.getElem?_map, hw] at h2
      cases h2
      exact ⟨w, rfl, dw⟩
    · rw [List.getElem?_append_right (by simpa using Nat.le_of_not_lt lt)] at h1
      have := List.mem_of_getElem? h1
      rw [List.eq_of_mem_replicate this]
      trivial
  · exfalso
    have := List.mem_of_getElem? h1
    rcases List.mem_append.mp this with z | z
    · obtain ⟨q, _, e⟩ := List.mem_map.mp z
      cases e
    · cases List.eq_of_mem_replicate z
theorem env_rs {c : Cn} {F H : Hp} {vs : List V} {N : List Str} (h : VdAll K F vs ds) : Env K c F H (L2.start N vs) (rs N.length ds) := by
  unfold L2.start rs
  rw [h.len]
  exact env_sh h _
theorem env_rsT {F H : Hp} {a : Addr} {xs vs : List V} {N : List Str} (f : F a = none) (hl : H a = some (.lst xs)) (dT : VdAll K F xs T) (h : VdAll K F vs ds) : Env K ⟨fun q => q = a, F, H⟩ F H (L2.start N (.ref a :: vs)) (rsT N.length T ds) := by
  have e := env_sh (c := ⟨fun q => q = a, F, H⟩) (H := H) h (N.length - (ds.length + 1))
  have l := h.len
  have e1 : L2.start N (.ref a :: vs) = some (.ref a) :: (vs.map some ++ List.replicate (N.length - (ds.length + 1)) none) := by
    unfold L2.start
    rw [List.length_cons, l]
    rfl
  rw [e1]
  unfold rsT
  have no : ∀ (i : Nat) (b : Bool) (es : List PyData), (ds.map Sl.sh ++ List.replicate (N.length - (ds.length + 1)) Sl.un)[i]? ≠ some (.ow b es) := fun i b es h1 => by
    have := List.mem_of_getElem? h1
    rcases List.mem_append.mp this with z | z
    · obtain ⟨q, _, e⟩ := List.mem_map.mp z
      cases e
    · cases List.eq_of_mem_replicate z
  refine ⟨by rw [List.length_cons, List.length_cons, e.len], fun i s v h1 h2 => ?_, fun i j p b b' e e' h1 h2 _ _ => ?_⟩
  · cases i with
    | zero =>
      cases h1
      cases h2
      exact ⟨a, xs, rfl, (fun z => nomatch z), .inr ⟨rfl, rfl⟩, f, hl, dT⟩
    | succ i => exact e.sl i s v (by simpa using h1) (by simpa using h2)
  · cases i with
    | zero =>
      cases j with
      | zero => rfl
      | succ j => exact absurd (by simpa using h2) (no j b' e')
    | succ i => exact absurd (by simpa using h1) (no i b e)
def rsS (n : Nat) (ns : List Int) (ds : List PyData) : List Sl := .scr ns :: (ds.map Sl.sh ++ List.replicate (n - (ds.length + 1)) .un)
theorem env_rsS {c : Cn} {F H : Hp} {a : Addr} {ns : List Int} {vs : List V} {N : List Str} (sq : SqL K F a (ns.map V.int)) (h : VdAll K F vs ds) : Env K c F H (L2.start N (.ref a :: vs)) (rsS N.length ns ds) := by
  have e := env_sh (c := c) (H := H) h (N.length - (ds.length + 1))
  have l := h.len
  have e1 : L2.start N (.ref a :: vs) = some (.ref a) :: (vs.map some ++ List.replicate (N.length - (ds.length + 1)) none) := by
    unfold L2.start
    rw [List.length_cons, l]
    rfl
  rw [e1]
  unfold rsS
  refine ⟨by rw [List.length_cons, List.length_cons, e.len], fun i s v h1 h2 => ?_, fun i j p b b' e' e'' h1 h2 h3 h4 => ?_⟩
  · cases i with
    | zero =>
      cases h1
      cases h2
      exact ⟨a, rfl, sq⟩
    | succ i => exact e.sl i s v (by simpa using h1) (by simpa using h2)
  · cases i with
    | zero => cases h1
    | succ i =>
      cases j with
      | zero => cases h2
      | succ j => exact congrArg _ (e.inj i j p b b' e' e'' (by simpa using h1) (by simpa using h2) (by simpa using h3) (by simpa using h4))
theorem dok_N {F H : Hp} {R : PyData → Prop} {Q : VK} (q : ∀ v F2 H2 d, Gr F H F2 H2 → Vd K F2 v d → R d → Q v H2) :
    DOk K ⟨fun _ => False, F, H⟩ F { nx := fun _ H' => Q .non H', rt := Q } { nx := fun _ => R .none, rt := fun d _ => R d, ro := fun es _ => R (.list es) } :=
  ⟨fun σ F' H' ρ e s n r => q .non F' H' _ s.to_gr .non r, fun _ _ _ _ _ _ _ z => z.elim, fun _ _ _ _ _ _ _ z => z.elim, fun v σ F' H' d ρ e s n dv r => q v F' H' d s.to_gr dv r,
    fun p xs σ F' H' ds ρ e s n n0 f _ hl dd r => q _ _ H' _ (s.to_gr.freeze n0 f hl) (.lst upd_same (dd.ex (Ex.new f))) r⟩
theorem body_N {m : List PyData → (PyData → Prop) → Prop} {t : TS} {N : List Str} (hb : ∀ ds R, m ds R → XS K t (rs N.length ds) { nx := fun _ => R .none, rt := fun d _ => R d, ro := fun es _ => R (.list es) })
    {vs : List V} {H : Hp} {Q : VK} {X : XK} (h : SpN K m vs H Q X) : t { nx := fun _ H' => Q .non H', rt := Q } (L2.start N vs) H := by
  obtain ⟨F, ds, R, ex, dv, hm, q⟩ := h
  exact hb ds R hm ⟨fun _ => False, F, H⟩ F H _ _ (.init ex) (env_rs dv) (dok_N q)
theorem body_O {m : List PyData → (List PyData → Prop) → Prop} {t : TS} {N : List Str} (hb : ∀ ds R, m ds R → XS K t (rs N.length ds) { ro := fun es _ => R es })
    {vs : List V} {H : Hp} {Q : VK} {X : XK} (h : SpO K m vs H Q X) : t { nx := fun _ H' => Q .non H', rt := Q } (L2.start N vs) H := by
  obtain ⟨F, ds, R, ex, dv, hm, q⟩ := h
  refine hb ds R hm ⟨fun _ => False, F, H⟩ F H _ _ (.init ex) (env_rs dv) ⟨fun _ _ _ _ _ _ _ z => z.elim, fun _ _ _ _ _ _ _ z => z.elim, fun _ _ _ _ _ _ _ z => z.elim, fun _ _ _ _ _ _ _ _ _ _ z => z.elim,
    fun p xs σ F' H' ds ρ e s n n0 f _ hl dd r => q p xs F' H' ds s.to_gr n0 f hl dd r⟩
theorem own_a {F H F' H' : Hp} {a : Addr} {σ : L2.St} {ρ : List Sl} (n : Env K ⟨fun q => q = a, F, H⟩ F' H' σ ρ) {T' : List PyData} (h : ρ[0]? = some (.ow false T')) : ∃ ys, H' a = some (.lst ys) ∧ F' a = none ∧ VdAll K F' ys T' := by
  obtain ⟨p, ys, e, _, ca, f, hl, dd⟩ := n.ow h
  rcases ca with ⟨z, _⟩ | ⟨_, z⟩
  · cases z
  · have z : p = a := z
    subst z
    exact ⟨ys, hl, f, dd⟩
theorem body_T {m : List PyData → List PyData → (PyData → List PyData → Prop) → Prop} {t : TS} {N : List Str}
    (hb : ∀ T ds R, m T ds R → XS K t (rsT N.length T ds) { nx := fun ρ => ∃ T', ρ[0]? = some (.ow false T') ∧ R .none T', rt := fun d ρ => ∃ T', ρ[0]? = some (.ow false T') ∧ R d T', ro := fun es ρ => ∃ T', ρ[0]? = some (.ow false T') ∧ R (.list es) T' })
    {vs : List V} {H : Hp} {Q : VK} {X : XK} (h : SpT K m vs H Q X) : t { nx := fun _ H' => Q .non H', rt := Q } (L2.start N vs) H := by
  obtain ⟨F, a, xs, ws, T, ds, R, rfl, ex, f, hl, dT, dv, hm, q⟩ := h
  refine hb T ds R hm ⟨fun q => q = a, F, H⟩ F H _ _ (.init ex) (env_rsT f hl dT dv) ⟨fun σ F' H' ρ e s n ⟨T', h0, r⟩ => ?_, fun _ _ _ _ _ _ _ z => z.elim, fun _ _ _ _ _ _ _ z => z.elim, fun v σ F' H' d ρ e s n dv ⟨T', h0, r⟩ => ?_, fun p zs σ F' H' es ρ e s n n0 f2 _ hl2 dd ⟨T', h0, r⟩ => ?_⟩
  · obtain ⟨ys, h1, h2, h3⟩ := own_a n h0
    exact q .non F' H' _ ys T' s h1 h2 h3 .non r
  · obtain ⟨ys, h1, h2, h3⟩ := own_a n h0
    exact q v F' H' d ys T' s h1 h2 h3 dv r
  · obtain ⟨ys, h1, h2, h3⟩ := own_a n h0
    have ff : Ex F' (upd F' p (.lst zs)) := Ex.new f2
    have ne : p ≠ a := fun z => by
      subst z
      exact absurd n0 (by show H p ≠ none; rw [hl]; exact fun z => nomatch z)
    exact q _ _ H' _ ys T' (s.freeze n0 f2 hl2) h1 (by rw [upd_ne (Ne.symm ne)]; exact h2) (h3.ex ff) (.lst upd_same (dd.ex ff)) r
theorem body_TO {m : List PyData → List PyData → (List PyData → List PyData → Prop) → Prop} {t : TS} {N : List Str}
    (hb : ∀ T ds R, m T ds R → XS K t (rsT N.length T ds) { ro := fun es ρ => ∃ T', ρ[0]? = some (.ow false T') ∧ R es T' })
    {vs : List V} {H : Hp} {Q : VK} {X : XK} (h : SpTO K m vs H Q X) : t { nx := fun _ H' => Q .non H', rt := Q } (L2.start N vs) H := by
  obtain ⟨F, a, xs, ws, T, ds, R, rfl, ex, f, hl, dT, dv, hm, q⟩ := h
  refine hb T ds R hm ⟨fun q => q = a, F, H⟩ F H _ _ (.init ex) (env_rsT f hl dT dv) ⟨fun _ _ _ _ _ _ _ z => z.elim, fun _ _ _ _ _ _ _ z => z.elim, fun _ _ _ _ _ _ _ z => z.elim, fun _ _ _ _ _ _ _ _ _ _ z => z.elim, fun p zs σ F' H' es ρ e s n n0 f2 _ hl2 dd ⟨T', h0, r⟩ => ?_⟩
  obtain ⟨ys, h1, h2, h3⟩ := own_a n h0
  exact q p zs F' H' es ys T' s h1 h2 h3 n0 f2 hl2 dd r
theorem body_S {m : List Int → List PyData → (List PyData → Prop) → Prop} {t : TS} {N : List Str} (hb : ∀ ns ds R, m ns ds R → XS K t (rsS N.length ns ds) { ro := fun es _ => R es })
    {vs : List V} {H : Hp} {Q : VK} {X : XK} (h : SpS K m vs H Q X) : t { nx := fun _ H' => Q .non H', rt := Q } (L2.start N vs) H := by
  obtain ⟨F, a, ns, ws, ds, R, rfl, ex, sq, dv, hm, q⟩ := h
  refine hb ns ds R hm ⟨fun _ => False, F, H⟩ F H _ _ (.init ex) (env_rsS sq dv) ⟨fun _ _ _ _ _ _ _ z => z.elim, fun _ _ _ _ _ _ _ z => z.elim, fun _ _ _ _ _ _ _ z => z.elim, fun _ _ _ _ _ _ _ _ _ _ z => z.elim,
    fun p xs σ F' H' ds ρ e s n n0 f _ hl dd r => q p xs F' H' ds s.to_gr n0 f hl dd r⟩
/-- a law: its script, and that it tells True -/
def SpLaw (K : PySem.W.Frag) : Sp := fun vs H Q _ => ∃ (a : Addr) (ns : List Int), vs = [.ref a] ∧ SqL K H a (ns.map V.int) ∧ ns.length ≤ 63 ∧ ∀ H', Q (.bl true) H'
theorem body_L {t : TS} {N : List Str} (hb : ∀ ns : List Int, ns.length ≤ 63 → XS K t (rsS N.length ns []) { rt := fun d _ => d = .bool true })
    {vs : List V} {H : Hp} {Q : VK} {X : XK} (h : SpLaw K vs H Q X) : t { nx := fun _ H' => Q .non H', rt := Q } (L2.start N vs) H := by
  obtain ⟨a, ns, rfl, sq, hl, q⟩ := h
  refine hb ns hl ⟨fun _ => False, H, H⟩ H H _ _ (.init (Ex.refl H)) (env_rsS sq .nil) ⟨fun _ _ _ _ _ _ _ z => z.elim, fun _ _ _ _ _ _ _ z => z.elim, fun _ _ _ _ _ _ _ z => z.elim, fun v σ F' H' d ρ e s n dv r => ?_, fun _ _ _ _ _ _ _ _ _ _ _ _ _ _ _ z => z.elim⟩
  subst r
  cases dv
  exact q H'
theorem SpS.len {m : List Int → List PyData → (List PyData → Prop) → Prop} {n : Nat} (hm : ∀ ns ds R, m ns ds R → ds.length = n) {vs : List V} {H : Hp} {Q : VK} {X : XK} (h : SpS K m vs H Q X) : vs.length = n + 1 := by
  obtain ⟨F, a, ns, ws, ds, R, rfl, ex, sq, dv, hm', q⟩ := h
  rw [List.length_cons, dv.len, hm ns ds R hm']
theorem SpLaw.len {vs : List V} {H : Hp} {Q : VK} {X : XK} (h : SpLaw K vs H Q X) : vs.length = 1 := by
  obtain ⟨a, ns, rfl, _⟩ := h
  rfl
/-- how many arguments -/
theorem SpN.len {m : List PyData → (PyData → Prop) → Prop} {n : Nat} (hm : ∀ ds R, m ds R → ds.length = n) {vs : List V} {H : Hp} {Q : VK} {X : XK} (h : SpN K m vs H Q X) : vs.length = n := by
  obtain ⟨F, ds, R, ex, dv, h, q⟩ := h
  rw [dv.len, hm ds R h]
theorem SpO.len {m : List PyData → (List PyData → Prop) → Prop} {n : Nat} (hm : ∀ ds R, m ds R → ds.length = n) {vs : List V} {H : Hp} {Q : VK} {X : XK} (h : SpO K m vs H Q X) : vs.length = n := by
  obtain ⟨F, ds, R, ex, dv, h, q⟩ := h
  rw [dv.len, hm ds R h]
theorem SpT.len {m : List PyData → List PyData → (PyData → List PyData → Prop) → Prop} {n : Nat} (hm : ∀ T ds R, m T ds R → ds.length = n) {vs : List V} {H : Hp} {Q : VK} {X : XK} (h : SpT K m vs H Q X) : vs.length = n + 1 := by
  obtain ⟨F, a, xs, ws, T, ds, R, rfl, ex, f, hl, dT, dv, hm', q⟩ := h
  rw [List.length_cons, dv.len, hm T ds R hm']
theorem SpTO.len {m : List PyData → List PyData → (List PyData → List PyData → Prop) → Prop} {n : Nat} (hm : ∀ T ds R, m T ds R → ds.length = n) {vs : List V} {H : Hp} {Q : VK} {X : XK} (h : SpTO K m vs H Q X) : vs.length = n + 1 := by
  obtain ⟨F, a, xs, ws, T, ds, R, rfl, ex, f, hl, dT, dv, hm', q⟩ := h
  rw [List.length_cons, dv.len, hm T ds R hm']
end
end PL
namespace PL
open PySem PySem.Spec PyProof.Rows L2 Evl SB
def GStr (mg : Str → Option Value) (x z : Str) : Prop := ∃ t, mg x = some (.str z t)
theorem pe_gs {X : Cx} {x z : Str} {pos : Pos} (h : GStr X.mg x z) (hg : Gl X x := by rfl) (hdb : (x == ("__debug__" : Str)) = false := by decide) : PE X (.Name x pos) (tC (.str z)) := by
  obtain ⟨t, e⟩ := h
  exact pe_glob hg e ⟨_, rfl⟩ hdb
end PL
/-! PW: what a receiver sees and reads: the mathematics -/
namespace PW
open PySem SB
/-! signals -/
def Asc (sg : List Int) : Prop := sg.Pairwise (· < ·)
def cnt (sg : List Int) (t : Int) : Nat := (sg.filter fun x => decide (x ≤ t)).length
def lv (sg : List Int) (t : Int) : Int := 1 - (cnt sg t : Int) % 2
theorem cnt_le (sg : List Int) (t : Int) : cnt sg t ≤ sg.length := List.length_filter_le _ _
theorem cnt_mono {sg : List Int} {t u : Int} (h : t ≤ u) : cnt sg t ≤ cnt sg u := by
  unfold cnt
  induction sg with
  | nil => exact Nat.le_refl _
  | cons a l ih =>
    rw [List.filter_cons, List.filter_cons]
    by_cases h1 : a ≤ t
    · rw [if_pos (decide_eq_true h1), if_pos (decide_eq_true (by omega)), List.length_cons, List.length_cons]
      omega
    · rw [if_neg (by simpa using h1)]
      split
      · rw [List.length_cons]; omega
      · exact ih
theorem lv_01 (sg : List Int) (t : Int) : lv sg t = 0 ∨ lv sg t = 1 := by unfold lv; omega
theorem cnt_cons_gt {a : Int} {sg : List Int} {t : Int} (h : Asc (a :: sg)) (g : t < a) : cnt (a :: sg) t = 0 := by
  unfold cnt
  rw [List.length_eq_zero_iff, List.filter_eq_nil_iff]
  intro x hx
  rcases List.mem_cons.mp hx with rfl | hx
  · simp; omega
  · have := (List.pairwise_cons.mp h).1 x hx
    simp; omega
/-- the m-th change is not behind t just if m is below the count -/
theorem at_le {sg : List Int} (h : Asc sg) {m : Nat} {x : Int} (hx : sg[m]? = some x) (t : Int) : x ≤ t ↔ m < cnt sg t := by
  induction sg generalizing m with
  | nil => simp at hx
  | cons a l ih =>
    by_cases g : a ≤ t
    · have e : cnt (a :: l) t = cnt l t + 1 := by
        unfold cnt
        rw [List.filter_cons, if_pos (decide_eq_true g)]
        rfl
      rw [e]
      cases m with
      | zero =>
        cases hx
        constructor
        · intro _; omega
        · intro _; exact g
      | succ m =>
        have := ih (List.pairwise_cons.mp h).2 (m := m) (by simpa using hx)
        omega
    · rw [cnt_cons_gt h (by omega)]
      constructor
      · intro hle
        exfalso
        cases m with
        | zero =>
          cases hx
          exact g hle
        | succ m =>
          have : x ∈ l := List.mem_of_getElem? (i := m) (by simpa using hx)
          have := (List.pairwise_cons.mp h).1 x this
          omega
      · omega
/-- no change between: the same count -/
theorem cnt_same {sg : List Int} (h : Asc sg) {t u : Int} (tu : t ≤ u) (hn : ∀ x, sg[cnt sg t]? = some x → u < x) : cnt sg u = cnt sg t := by
  have h1 := cnt_mono (sg := sg) tu
  by_cases e : cnt sg u = cnt sg t
  · exact e
  · exfalso
    have lt : cnt sg t < sg.length := by
      have := cnt_le sg u
      omega
    have hx : sg[cnt sg t]? = some sg[cnt sg t] := List.getElem?_eq_getElem lt
    have := (at_le h hx u).mpr (by omega)
    have := hn _ hx
    omega
theorem next_gt {sg : List Int} (h : Asc sg) {t x : Int} (hx : sg[cnt sg t]? = some x) : t < x := by
  by_cases g : x ≤ t
  · have := (at_le h hx t).mp g
    omega
  · omega
theorem cnt_up {sg : List Int} (h : Asc sg) {t u x : Int} (hx : sg[cnt sg t]? = some x) (g : x ≤ u) : cnt sg t < cnt sg u := (at_le h hx u).mp g
theorem lv_ne {sg : List Int} {t u : Int} (tu : t ≤ u) (h : lv sg t ≠ lv sg u) : cnt sg t < cnt sg u := by
  have := cnt_mono (sg := sg) tu
  rcases Nat.lt_or_ge (cnt sg t) (cnt sg u) with g | g
  · exact g
  · exfalso
    apply h
    unfold lv
    rw [show cnt sg t = cnt sg u by omega]
/-! looks -/
def nxt (g c look : Int) : Int := c + (look - c) % g
theorem nxt_ge {g c look : Int} (hg : 1 ≤ g) : c ≤ nxt g c look := by
  unfold nxt
  have := Int.emod_nonneg (look - c) (show g ≠ 0 by omega)
  omega
theorem nxt_lt {g c look : Int} (hg : 1 ≤ g) : nxt g c look < c + g := by
  unfold nxt
  have := Int.emod_lt_of_pos (look - c) (show 0 < g by omega)
  omega
theorem nxt_grid {g c look : Int} (hg : 1 ≤ g) : ∃ k : Int, nxt g c look = look + k * g := by
  unfold nxt
  refine ⟨-((look - c) / g), ?_⟩
  have := Int.emod_add_mul_ediv (look - c) g
  have e : g * ((look - c) / g) = (look - c) / g * g := Int.mul_comm _ _
  rw [Int.neg_mul]
  omega
/-- two looks of one grid that both are the first from c on -/
theorem grid_uniq {g c a b k : Int} (hg : 1 ≤ g) (ha : c ≤ a) (ha2 : a < c + g) (hb : c ≤ b) (hb2 : b < c + g) (e : b = a + k * g) : a = b := by
  rcases Int.lt_trichotomy k 0 with h | h | h
  · have : k * g ≤ (-1) * g := Int.mul_le_mul_of_nonneg_right (by omega) (by omega)
    omega
  · subst h
    omega
  · have : 1 * g ≤ k * g := Int.mul_le_mul_of_nonneg_right (by omega) (by omega)
    omega
/-- a line and a receiver -/
structure Ln where
  b : Nat
  p : Pa
  s : Nat
  g : Int
  w : Int
  st : Int
  sg : List Int
  b1 : 1 ≤ b
  b9 : b ≤ 9
  s1 : 1 ≤ s
  s2 : s ≤ 2
  g1 : 1 ≤ g
  w0 : 0 ≤ w
  t1 : 1 ≤ st
  asc : Asc sg
/-- the first look, from a look on, that sees a level -/
def fsee (L : Ln) (l : Int) (look : Int) : Option Int :=
  if lv L.sg look = l then some look
  else match h : L.sg[cnt L.sg look]? with
    | none => none
    | some c => fsee L l (nxt L.g c look)
termination_by L.sg.length - cnt L.sg look
decreasing_by
  have h1 := cnt_up L.asc h (nxt_ge (look := look) L.g1)
  have h2 := cnt_le L.sg (nxt L.g c look)
  omega
theorem fsee_here {L : Ln} {l look : Int} (h : lv L.sg look = l) : fsee L l look = some look := by
  rw [fsee, if_pos h]
theorem fsee_next {L : Ln} {l look c : Int} (h : lv L.sg look ≠ l) (hc : L.sg[cnt L.sg look]? = some c) : fsee L l look = fsee L l (nxt L.g c look) := by
  rw [fsee, if_neg h]
  split
  · rename_i e
    rw [hc] at e
    cases e
  · rename_i e
    rw [hc] at e
    cases e
    rfl
theorem fsee_end {L : Ln} {l look : Int} (h : lv L.sg look ≠ l) (hc : L.sg[cnt L.sg look]? = none) : fsee L l look = none := by
  rw [fsee, if_neg h]
  split
  · rfl
  · rename_i e
    rw [hc] at e
    cases e
theorem fsee_some {L : Ln} {l : Int} : ∀ (n : Nat) (look r : Int), L.sg.length - cnt L.sg look ≤ n → fsee L l look = some r → look ≤ r ∧ lv L.sg r = l ∧ (r = look ∨ ∃ c, c ∈ L.sg ∧ r < c + L.g) ∧ ∃ k : Int, r = look + k * L.g
  | n, look, r, hn, h => by
    by_cases e : lv L.sg look = l
    · rw [fsee_here e] at h
      cases h
      exact ⟨Int.le_refl _, e, .inl rfl, 0, by omega⟩
    · cases hc : L.sg[cnt L.sg look]? with
      | none =>
        rw [fsee_end e hc] at h
        cases h
      | some c =>
        rw [fsee_next e hc] at h
        have h1 := cnt_up L.asc hc (nxt_ge (look := look) L.g1)
        have h2 := cnt_le L.sg (nxt L.g c look)
        have h3 := next_gt L.asc hc
        have h4 := nxt_ge (c := c) (look := look) L.g1
        have h5 := nxt_lt (c := c) (look := look) L.g1
        obtain ⟨k, hk⟩ := nxt_grid (c := c) (look := look) L.g1
        match n, hn with
        | 0, hn => omega
        | n + 1, hn =>
          obtain ⟨a, b, d, k2, hk2⟩ := fsee_some n (nxt L.g c look) r (by omega) h
          refine ⟨by omega, b, ?_, k + k2, ?_⟩
          · rcases d with rfl | d
            · exact .inr ⟨c, List.mem_of_getElem? hc, h5⟩
            · exact .inr d
          · rw [Int.add_mul]
            omega
/-! a frame -/
def Ln.n (L : Ln) : Nat := sz L.b L.p L.s
theorem Ln.n_bd (L : Ln) : L.s + 2 ≤ L.n ∧ L.n ≤ 13 ∧ 1 + L.b + plen L.p + L.s = L.n := by
  have := L.b1; have := L.b9; have := L.s1; have := L.s2
  have hp : plen L.p ≤ 1 := by cases L.p <;> simp [plen]
  unfold Ln.n sz
  omega
def lk (L : Ln) (start : Int) (i : Nat) : Int := start + L.g * (L.w + L.st * (i : Int))
theorem lk_le {L : Ln} {start : Int} {i j : Nat} (h : i ≤ j) : lk L start i ≤ lk L start j := by
  unfold lk
  have h1 : L.st * (i : Int) ≤ L.st * (j : Int) := Int.mul_le_mul_of_nonneg_left (by omega) (by have := L.t1; omega)
  have h2 : L.g * (L.w + L.st * (i : Int)) ≤ L.g * (L.w + L.st * (j : Int)) := Int.mul_le_mul_of_nonneg_left (by omega) (by have := L.g1; omega)
  omega
theorem lk_ge {L : Ln} {start : Int} {i : Nat} : start ≤ lk L start i := by
  unfold lk
  have h1 : 0 ≤ L.st * (i : Int) := Int.mul_nonneg (by have := L.t1; omega) (by omega)
  have h2 : 0 ≤ L.g * (L.w + L.st * (i : Int)) := Int.mul_nonneg (by have := L.g1; omega) (by have := L.w0; omega)
  omega
/-- the levels that the looks of a frame see -/
def lvs (L : Ln) (start : Int) : List Int := (List.range L.n).map fun i => lv L.sg (lk L start i)
theorem lvs_len (L : Ln) (start : Int) : (lvs L start).length = L.n := by unfold lvs; rw [List.length_map, List.length_range]
theorem lvs_at {L : Ln} {start : Int} {i : Nat} (h : i < L.n) : (lvs L start)[i]? = some (lv L.sg (lk L start i)) := by
  unfold lvs
  rw [List.getElem?_map, List.getElem?_range h]
  rfl
/-- the number of some levels, the least bit first -/
def num : List Int → Int
  | [] => 0
  | x :: l => x + 2 * num l
/-- the first place from m on, of k, at which a level is 0 -/
def zat (ls : List Int) (m : Nat) : Nat → Option Nat
  | 0 => none
  | k + 1 => if ls.getD m 1 = 0 then some m else zat ls (m + 1) k
def prt (p : Pa) (ones : Int) : Bool := match p with
  | .no => true
  | .ev => decide (ones % 2 = 0)
  | .od => decide (ones % 2 = 1)
/-- what a frame is whose looks see these levels: the place of its last look, a word, a number -/
def out (b : Nat) (p : Pa) (s : Nat) (ls : List Int) : Nat × Str × Int :=
  match zat ls (sz b p s - s) s with
  | some i => (i, if 1 ∈ ls.take i then "frame" else "break", num ((ls.drop 1).take b))
  | none => (sz b p s - 1, if prt p (((ls.drop 1).take (sz b p s - s - 1)).sum) then "good" else "parity", num ((ls.drop 1).take b))
theorem zat_some {ls : List Int} : ∀ {k m i : Nat}, zat ls m k = some i → m ≤ i ∧ i < m + k ∧ ls.getD i 1 = 0 ∧ ∀ j, m ≤ j → j < i → ls.getD j 1 ≠ 0
  | 0, m, i, h => by cases h
  | k + 1, m, i, h => by
    unfold zat at h
    split at h
    · cases h
      rename_i e
      exact ⟨Nat.le_refl _, by omega, e, fun j h1 h2 => by omega⟩
    · rename_i e
      obtain ⟨a, b, c, d⟩ := zat_some h
      refine ⟨by omega, by omega, c, fun j h1 h2 => ?_⟩
      rcases Nat.lt_or_ge m j with g | g
      · exact d j g h2
      · rw [show j = m by omega]
        exact e
theorem zat_none {ls : List Int} : ∀ {k m : Nat}, zat ls m k = none ↔ ∀ j, m ≤ j → j < m + k → ls.getD j 1 ≠ 0
  | 0, m => ⟨fun _ j h1 h2 => by omega, fun _ => rfl⟩
  | k + 1, m => by
    unfold zat
    constructor
    · intro h
      split at h
      · cases h
      · rename_i e
        intro j h1 h2
        rcases Nat.lt_or_ge m j with g | g
        · exact zat_none.mp h j g (by omega)
        · rw [show j = m by omega]
          exact e
    · intro h
      rw [if_neg (h m (Nat.le_refl _) (by omega))]
      exact zat_none.mpr fun j h1 h2 => h j (by omega) (by omega)
theorem zat_is {ls : List Int} {i : Nat} : ∀ {k m : Nat}, m ≤ i → i < m + k → ls.getD i 1 = 0 → (∀ j, m ≤ j → j < i → ls.getD j 1 ≠ 0) → zat ls m k = some i
  | 0, m, h1, h2, _, _ => by omega
  | k + 1, m, h1, h2, h3, h4 => by
    unfold zat
    rcases Nat.lt_or_ge m i with g | g
    · rw [if_neg (h4 m (Nat.le_refl _) g)]
      exact zat_is g (by omega) h3 fun j a b => h4 j (by omega) b
    · obtain rfl : m = i := by omega
      rw [if_pos h3]
/-- a frame of a receiver -/
structure Fr where
  start : Int
  stop : Int
  word : Str
  number : Int
def fram (L : Ln) (start : Int) : Fr :=
  if lv L.sg (lk L start 0) = 1 then ⟨start, lk L start 0, "dropped", 0⟩
  else ⟨start, lk L start (out L.b L.p L.s (lvs L start)).1, (out L.b L.p L.s (lvs L start)).2.1, (out L.b L.p L.s (lvs L start)).2.2⟩
def bad (x : Str) : Bool := decide (x = "break") || decide (x = "frame")
def idle (L : Ln) (f : Fr) : Option Int :=
  if bad f.word then (fsee L 1 (f.stop + L.g)).map fun q => q + L.g else some (f.stop + L.g)
theorem out_lt (L : Ln) (ls : List Int) : (out L.b L.p L.s ls).1 < L.n := by
  have h := L.n_bd
  have hs := L.s1
  unfold out
  show (match zat ls (L.n - L.s) L.s with
    | some i => _
    | none => _ : Nat × Str × Int).1 < L.n
  cases e : zat ls (L.n - L.s) L.s with
  | none => show L.n - 1 < L.n; omega
  | some i =>
    have := zat_some e
    show i < L.n
    omega
theorem stop_ge (L : Ln) (start : Int) : start ≤ (fram L start).stop := by
  unfold fram
  split <;> exact lk_ge
/-- behind a frame that began with 0 there is one change more at least -/
theorem idle_up {L : Ln} {start x : Int} (h0 : lv L.sg start = 0) (h : idle L (fram L start) = some x) : cnt L.sg start < cnt L.sg x ∧ start < x := by
  have g1 := L.g1
  have ge := stop_ge L start
  unfold idle at h
  by_cases hb : bad (fram L start).word = true
  · rw [if_pos hb] at h
    cases e : fsee L 1 ((fram L start).stop + L.g) with
    | none => rw [e] at h; cases h
    | some q =>
      rw [e] at h
      cases h
      obtain ⟨a, b, _⟩ := fsee_some _ _ _ (Nat.le_refl _) e
      have := lv_ne (sg := L.sg) (t := start) (u := q) (by omega) (by rw [h0, b]; decide)
      have := cnt_mono (sg := L.sg) (t := q) (u := q + L.g) (by omega)
      refine (show cnt L.sg start < cnt L.sg (q + L.g) ∧ start < q + L.g from ⟨?_, ?_⟩) <;> omega
  · rw [if_neg hb] at h
    cases h
    have key : lv L.sg (fram L start).stop = 1 := by
      unfold fram at hb ⊢
      split
      · rename_i e
        exact e
      · rename_i e
        rw [if_neg e] at hb
        revert hb
        show ¬ bad (out L.b L.p L.s (lvs L start)).2.1 = true → lv L.sg (lk L start (out L.b L.p L.s (lvs L start)).1) = 1
        unfold out
        show ¬ bad (match zat (lvs L start) (L.n - L.s) L.s with
          | some i => _
          | none => _ : Nat × Str × Int).2.1 = true → lv L.sg (lk L start (match zat (lvs L start) (L.n - L.s) L.s with
          | some i => _
          | none => _ : Nat × Str × Int).1) = 1
        cases z : zat (lvs L start) (L.n - L.s) L.s with
        | some i =>
          intro hb
          exfalso
          apply hb
          show bad (if 1 ∈ (lvs L start).take i then "frame" else "break") = true
          split <;> decide
        | none =>
          intro _
          show lv L.sg (lk L start (L.n - 1)) = 1
          have hn := L.n_bd
          have hs := L.s1
          have := zat_none.mp z (L.n - 1) (by omega) (by omega)
          rw [List.getD_eq_getElem?_getD, lvs_at (by omega)] at this
          rcases lv_01 L.sg (lk L start (L.n - 1)) with h | h
          · exact absurd h this
          · exact h
    have := lv_ne (sg := L.sg) (t := start) (u := (fram L start).stop) ge (by rw [h0, key]; decide)
    have := cnt_mono (sg := L.sg) (t := (fram L start).stop) (u := (fram L start).stop + L.g) (by omega)
    omega
/-- all frames of an idle receiver, from a look on -/
def run (L : Ln) (look : Int) : List Fr :=
  match h : fsee L 0 look with
  | none => []
  | some s => fram L s :: (match h2 : idle L (fram L s) with
    | none => []
    | some x => run L x)
termination_by L.sg.length - cnt L.sg look
decreasing_by
  obtain ⟨a, b, _⟩ := fsee_some _ _ _ (Nat.le_refl _) h
  have h3 := (idle_up b h2).1
  have h4 := cnt_mono (sg := L.sg) a
  have h5 := cnt_le L.sg x
  omega
theorem run_none {L : Ln} {look : Int} (h : fsee L 0 look = none) : run L look = [] := by
  rw [run]
  split
  · rfl
  · rename_i e
    rw [h] at e
    cases e
def runO (L : Ln) : Option Int → List Fr
  | none => []
  | some x => run L x
theorem run_some {L : Ln} {look s : Int} (h : fsee L 0 look = some s) : run L look = fram L s :: runO L (idle L (fram L s)) := by
  rw [run]
  split
  · rename_i e
    rw [h] at e
    cases e
  · rename_i e
    rw [h] at e
    cases e
    congr 1
    split
    · rename_i e2
      rw [e2]
      rfl
    · rename_i e2
      rw [e2]
      rfl
/-- readings -/
def rdg (f : Fr) : Option (Int × Str × Int) := if f.word = "dropped" then none else some (f.start, f.word, f.number)
def rds (L : Ln) (look : Int) : List (Int × Str × Int) := (run L look).filterMap rdg
def rdsO (L : Ln) (o : Option Int) : List (Int × Str × Int) := (runO L o).filterMap rdg
/-- a waiting receiver -/
def rdsW (L : Ln) (look : Int) : List (Int × Str × Int) := rdsO L ((fsee L 1 look).map fun q => q + L.g)
end PW
/-! PL4: promises of the program's defs, as data -/
namespace PL
open PySem PySem.Spec PyProof.Rows L2 Evl SB
def Bod (P : Program) (w : World) (K : PySem.W.Frag) (mg : Str → Option Value) (base : Heap) (CX : CXT) (k : Nat) (x : Str) (st : Stmt) (N : List Str) (sp : Sp) : Prop :=
  ∀ (f : Addr) (cdv : Value) (A : Around) (outer : List PySem.Env) (s : Shared) (H : Hp) (vs : List V) (Q : VK) (E : XK), Room k (A.deeper (envOfC x (defScope st) s.heap.objs.size f cdv)) → sp vs H Q E →
    ∃ t, PSs (cxOf CX P w K mg base N x (defScope st) f cdv A outer s H E).nox (defBody st) t ∧ t { nx := fun _ H' => Q .non H', rt := Q } (L2.start N vs) H
def BodG (P : Program) (w : World) (K : PySem.W.Frag) (mg : Str → Option Value) (base : Heap) (CX : CXT) (k : Nat) (x : Str) (st : Stmt) (N : List Str) (sp : Sp) : Prop :=
  ∀ (f : Addr) (cdv : Value) (A : Around) (outer : List PySem.Env) (s : Shared) (H : Hp) (vs : List V) (Q : VK) (E : XK), Room k (A.deeper (envOfC x (defScope st) s.heap.objs.size f cdv)) → A.guards = some [] → sp vs H Q E →
    ∃ t, PSs (cxOf CX P w K mg base N x (defScope st) f cdv A outer s H E).nox (defBody st) t ∧ t { nx := fun _ H' => Q .non H', rt := Q } (L2.start N vs) H
section
variable {K : PySem.W.Frag} {ρ : List Sl} {tt : TT} {ts tu : TS} {e : En}
theorem x_ifT (h : ET K tt ρ true) (h1 : XS K ts ρ e) : XS K (tIfS tt ts tu) ρ e := x_if h (fun _ => h1) fun z => nomatch z
/-- what holds between two statements, told once -/
theorem x_cut (M : List Sl → Prop) (h : XS K ts ρ { e with nx := M }) (k : ∀ ρ2, M ρ2 → XS K tu ρ2 e) : XS K (tSeq ts tu) ρ e := fun c F H σ D st en ok =>
  h c F H σ { D with nx := tu D } st en ⟨fun σ2 F2 H2 ρ2 a b n q => k ρ2 q c F2 H2 σ2 D b n (ok.ex a), ok.bk, ok.ct, ok.rt, ok.ro⟩
theorem x_ifF (h : ET K tt ρ false) (h1 : XS K tu ρ e) : XS K (tIfS tt ts tu) ρ e := x_if h (fun z => nomatch z) fun _ => h1
end
/-! shapes, receivers -/
def shD (b : Nat) (p : Pa) (s : Nat) : PyData := .tuple [.int b, .str p.s, .int s]
def ShOk (b s : Nat) : Prop := 1 ≤ b ∧ b ≤ 9 ∧ 1 ≤ s ∧ s ≤ 2
def rcD (g w st : Int) : PyData := .tuple [.int g, .int w, .int st]
def RcOk (g w st : Int) : Prop := 1 ≤ g ∧ 0 ≤ w ∧ 1 ≤ st ∧ g < 2 ^ 100 ∧ w < 2 ^ 100 ∧ st < 2 ^ 100
theorem sz_bd' {b : Nat} {p : Pa} {s : Nat} (h : ShOk b s) : s + 2 ≤ sz b p s ∧ sz b p s ≤ 13 := by
  obtain ⟨h1, h2, h3, h4⟩ := h
  have hp : plen p ≤ 1 := by cases p <;> simp [plen]
  unfold sz
  omega
/-! what they promise -/
abbrev Mn := List PyData → (PyData → Prop) → Prop
abbrev Mo := List PyData → (List PyData → Prop) → Prop
abbrev Mt := List PyData → List PyData → (PyData → List PyData → Prop) → Prop
abbrev Mto := List PyData → List PyData → (List PyData → List PyData → Prop) → Prop
def mIsInt : Mn := fun ds R => ∃ x, ds = [x] ∧ R (.bool (decide (tyD x = "int")))
def mFrom : Mn := fun ds R => ∃ l x : Int, ds = [.int l, .int x] ∧ R (.bool (decide (l ≤ x)))
def mBetween : Mn := fun ds R => ∃ l m x : Int, ds = [.int l, .int m, .int x] ∧ R (.bool (decide (l ≤ x) && decide (x ≤ m)))
def mIsParity : Mn := fun ds R => ∃ p : Pa, ds = [.str p.s] ∧ R (.bool true)
def mFits : Mn := fun ds R => ∃ b p s, ∃ x : Int, ds = [shD b p s, .int x] ∧ ShOk b s ∧ R (.bool (decide (0 ≤ x) && decide (x ≤ 2 ^ b - 1)))
def mListUp : Mn := fun ds R => ∃ (m : Int) (l : List PyData), ds = [.int m, .list l] ∧ R (.bool (decide ((l.length : Int) ≤ m)))
def mCheckShape : Mn := fun ds R => ∃ b p s, ds = [shD b p s] ∧ ShOk b s ∧ R .none
def mCheckNumber : Mn := fun ds R => ∃ b p s, ∃ x : Int, ds = [shD b p s, .int x] ∧ ShOk b s ∧ 0 ≤ x ∧ x < 2 ^ b ∧ R .none
def mCheckText : Mn := fun ds R => ∃ b p s, ∃ ns : List Int, ds = [shD b p s, .list (dI ns)] ∧ ShOk b s ∧ ns.length ≤ 60 ∧ (∀ n ∈ ns, 0 ≤ n ∧ n < 2 ^ b) ∧ R .none
def mCheckTextB : Mn := fun ds R => ∃ l m : Int, ∃ b p s, ∃ ns : List Int, ds = [.int l, .int m, shD b p s, .list (dI ns)] ∧ ShOk b s ∧ l ≤ ns.length ∧ ns.length ≤ m ∧ (∀ n ∈ ns, 0 ≤ n ∧ n < 2 ^ b) ∧ R .none
def mCheckLength : Mn := fun ds R => ∃ x : Int, ds = [.int x] ∧ 1 ≤ x ∧ R .none
def mCheckTick : Mn := fun ds R => ∃ x : Int, ds = [.int x] ∧ R .none
def mCheckReceiver : Mn := fun ds R => ∃ g w st : Int, ds = [rcD g w st] ∧ RcOk g w st ∧ R .none
def mCheckFirst : Mn := fun ds R => ∃ g w st x : Int, ds = [rcD g w st, .int x] ∧ 0 ≤ x ∧ x < g ∧ R .none
def mCheckSpeed : Mn := fun ds R => ∃ b p s, ∃ g w st x : Int, ds = [shD b p s, rcD g w st, .int x] ∧ ShOk b s ∧ RcOk g w st ∧ 1 ≤ x ∧ R .none
def mSize : Mn := fun ds R => ∃ b p s, ds = [shD b p s] ∧ ShOk b s ∧ R (.int (sz b p s))
def mBits : Mo := fun ds R => ∃ b p s, ∃ x : Int, ds = [shD b p s, .int x] ∧ ShOk b s ∧ 0 ≤ x ∧ R (dI (bits b x))
def parD (b : Nat) (p : Pa) (x : Int) : PyData := match p with
  | .no => .none
  | .ev => .int ((bits b x).sum % 2)
  | .od => .int (1 - (bits b x).sum % 2)
def mParity : Mn := fun ds R => ∃ b p s, ∃ x : Int, ds = [shD b p s, .int x] ∧ ShOk b s ∧ 0 ≤ x ∧ x < 2 ^ b ∧ R (parD b p x)
def mFrame : Mo := fun ds R => ∃ b p s, ∃ x : Int, ds = [shD b p s, .int x] ∧ ShOk b s ∧ 0 ≤ x ∧ x < 2 ^ b ∧ R (dI (frm b p s x))
def mLevels : Mo := fun ds R => ∃ b p s, ∃ ns : List Int, ds = [shD b p s, .list (dI ns)] ∧ ShOk b s ∧ ns.length ≤ 60 ∧ (∀ n ∈ ns, 0 ≤ n ∧ n < 2 ^ b) ∧ R (dI (frms b p s ns))
/-- where levels change that begin at a tick and last these -/
def mChanges : Mo := fun ds R => ∃ (ls : List Int) (t : Int) (la : List Int), ds = [.list (dI ls), .int t, .list (dI la)] ∧ ls.length ≤ 2000 ∧ ls.length = la.length ∧ R (dI (ch ls (fun i => t + (la.take i).sum) ls.length))
def mSentText : Mo := fun ds R => ∃ b p s, ∃ (ln : Int) (ns : List Int) (t : Int), ds = [shD b p s, .int ln, .list (dI ns), .int t] ∧ ShOk b s ∧ 1 ≤ ln ∧ ns.length ≤ 60 ∧ (∀ n ∈ ns, 0 ≤ n ∧ n < 2 ^ b) ∧ R (dI (ch (frms b p s ns) (fun i => t + (i : Int) * ln) (frms b p s ns).length))
theorem ch_succ {ls : List Int} {T : Nat → Int} {i : Nat} : ch ls T (i + 1) = ch ls T i ++ (if ls.getD i 1 = pvl ls i then [] else [T i]) := rfl
theorem dI_len (ns : List Int) : (dI ns).length = ns.length := List.length_map _
theorem dI_app (a b : List Int) : dI (a ++ b) = dI a ++ dI b := List.map_append ..
theorem dI_at {ns : List Int} {i : Nat} {d : PyData} (h : (dI ns)[i]? = some d) : ∃ z, ns[i]? = some z ∧ d = .int z := by
  unfold dI at h
  rw [List.getElem?_map] at h
  cases e : ns[i]? with
  | none => rw [e] at h; cases h
  | some z =>
    rw [e] at h
    cases h
    exact ⟨z, rfl, rfl⟩
theorem dI_get {ns : List Int} {i : Nat} {z : Int} (h : ns[i]? = some z) : (dI ns)[i]? = some (.int z) := by
  unfold dI
  rw [List.getElem?_map, h]
  rfl
theorem dI_flt (ns : List Int) : (dI ns).all flt = true := by
  rw [List.all_eq_true]
  intro x hx
  obtain ⟨y, _, rfl⟩ := List.mem_map.mp hx
  rfl
end PL
/-! PL5: what a receiver reads, as data -/
namespace PL
open PySem PySem.Spec PyProof.Rows L2 Evl SB PW
theorem dI_fm {f : PyData → Option PyData} {g : Int → Int} (h : ∀ x : Int, f (.int x) = some (.int (g x))) (l : List Int) : (dI l).filterMap f = dI (l.map g) := by
  unfold dI
  rw [List.filterMap_map, List.map_map, ← List.filterMap_eq_map]
  exact congrArg (fun k => List.filterMap k l) (funext fun x => h x)
theorem rg0_fm {f : PyData → Option PyData} {g : Nat → Int} (h : ∀ x : Nat, f (.int (x : Int)) = some (.int (g x))) (n : Nat) : (rg0 n).filterMap f = dI ((List.range n).map g) := by
  unfold rg0 dI
  rw [List.filterMap_map, List.map_map, ← List.filterMap_eq_map]
  exact congrArg (fun k => List.filterMap k (List.range n)) (funext fun x => h x)
theorem enI_fm {f : PyData → Option PyData} {g : Int → Nat → Int} (h : ∀ (i : Nat) (x : Int), f (.tuple [.int (i : Int), .int x]) = some (.int (g x i))) (l : List Int) : (enD (dI l)).filterMap f = dI (l.zipIdx.map fun q => g q.1 q.2) := by
  unfold enD dI
  rw [List.zipIdx_map, List.map_map, List.filterMap_map, List.map_map, ← List.filterMap_eq_map]
  exact congrArg (fun k => List.filterMap k l.zipIdx) (funext fun q => h q.2 q.1)
theorem map_fm {α : Type} {f : PyData → Option PyData} {e : α → PyData} {g : α → Option PyData} (h : ∀ x, f (e x) = g x) (l : List α) : (l.map e).filterMap f = l.filterMap g := by
  rw [List.filterMap_map]
  exact congrArg (fun k => List.filterMap k l) (funext fun x => h x)
/-! numbers of levels -/
def All01 (l : List Int) : Prop := ∀ x ∈ l, x = 0 ∨ x = 1
theorem All01.tail {x : Int} {l : List Int} (h : All01 (x :: l)) : All01 l := fun y hy => h y (List.mem_cons_of_mem _ hy)
theorem All01.take {l : List Int} (h : All01 l) (n : Nat) : All01 (l.take n) := fun y hy => h y (List.mem_of_mem_take hy)
theorem All01.drop {l : List Int} (h : All01 l) (n : Nat) : All01 (l.drop n) := fun y hy => h y (List.mem_of_mem_drop hy)
theorem num_bd : ∀ {l : List Int}, All01 l → 0 ≤ num l ∧ num l < 2 ^ l.length
  | [], _ => by simp [num]
  | x :: l, h => by
    have h1 := num_bd h.tail
    have h2 := h x (List.mem_cons_self ..)
    have e : (2 : Int) ^ (l.length + 1) = 2 * 2 ^ l.length := by rw [Int.pow_succ, Int.mul_comm]
    rw [List.length_cons, e]
    unfold num
    omega
theorem bits_cons (b : Nat) (x : Int) : bits (b + 1) x = x % 2 :: bits b (x / 2) := by
  unfold bits
  rw [List.range_succ_eq_map, List.map_cons, List.map_map]
  congr 1
  · simp
  · refine List.map_congr_left fun i _ => ?_
    show x / 2 ^ (i + 1) % 2 = x / 2 / 2 ^ i % 2
    have e1 : (2 : Int) ^ (i + 1) = 2 * 2 ^ i := by rw [Int.pow_succ, Int.mul_comm]
    rw [e1, ← Int.ediv_ediv_of_nonneg (show (0 : Int) ≤ 2 by decide)]
theorem bits_num : ∀ {l : List Int}, All01 l → bits l.length (num l) = l
  | [], _ => rfl
  | x :: l, h => by
    have h2 := h x (List.mem_cons_self ..)
    rw [List.length_cons, bits_cons]
    have e1 : num (x :: l) = x + 2 * num l := rfl
    have e2 : num (x :: l) % 2 = x := by omega
    have e3 : num (x :: l) / 2 = num l := by omega
    rw [e2, e3, bits_num h.tail]
theorem num_sum : ∀ (l : List Int) (k : Nat), ((l.zipIdx k).map fun q : Int × Nat => q.1 * 2 ^ q.2).sum = num l * 2 ^ k
  | [], k => by simp [num]
  | x :: l, k => by
    rw [List.zipIdx_cons, List.map_cons, List.sum_cons, num_sum l (k + 1)]
    have e : (2 : Int) ^ (k + 1) = 2 * 2 ^ k := by rw [Int.pow_succ, Int.mul_comm]
    show x * 2 ^ k + num l * 2 ^ (k + 1) = (x + 2 * num l) * 2 ^ k
    rw [e, Int.add_mul, ← Int.mul_assoc, Int.mul_comm (num l) 2]
theorem num_sum0 (l : List Int) : (l.zipIdx.map fun q : Int × Nat => q.1 * 2 ^ q.2).sum = num l := by
  rw [num_sum l 0]
  simp
theorem lvs_01 (L : Ln) (start : Int) : All01 (lvs L start) := fun x hx => by
  unfold lvs at hx
  obtain ⟨i, _, rfl⟩ := List.mem_map.mp hx
  exact lv_01 _ _
/-! as data -/
def optI : Option Int → PyData
  | none => .none
  | some x => .int x
theorem isNo_optI (o : Option Int) : isNo (optI o) = o.isNone := by cases o <;> rfl
def frD (f : Fr) : PyData := .tuple [.int f.start, .int f.stop, .str f.word, .int f.number]
def rdD (r : Int × Str × Int) : PyData := .tuple [.int r.1, .str r.2.1, .int r.2.2]
def LnOk (L : Ln) : Prop := RcOk L.g L.w L.st ∧ L.sg.length ≤ 10000
theorem lnSh (L : Ln) : ShOk L.b L.s := ⟨L.b1, L.b9, L.s1, L.s2⟩
def mCnt : Mn := fun ds R => ∃ (sg : List Int) (t : Int), ds = [.list (dI sg), .int t] ∧ Asc sg ∧ R (.int (cnt sg t))
def mFirstFrom : Mn := fun ds R => ∃ g l t : Int, ds = [.int g, .int l, .int t] ∧ 1 ≤ g ∧ R (.int (nxt g t l))
def mSeeing : Mn := fun ds R => ∃ (L : Ln) (l look : Int), ds = [.int l, .int L.g, .list (dI L.sg), .int look] ∧ R (optI (fsee L l look))
def mLooks : Mo := fun ds R => ∃ b p s, ∃ g w st t : Int, ds = [shD b p s, rcD g w st, .int t] ∧ ShOk b s ∧ RcOk g w st ∧ R (dI ((List.range (sz b p s)).map fun i : Nat => t + g * (w + st * (i : Int))))
def mFrameFrom : Mn := fun ds R => ∃ (L : Ln) (t : Int), ds = [shD L.b L.p L.s, rcD L.g L.w L.st, .list (dI L.sg), .int t] ∧ LnOk L ∧ R (frD (fram L t))
def mIdle : Mn := fun ds R => ∃ (L : Ln) (f : Fr), ds = [rcD L.g L.w L.st, .list (dI L.sg), frD f] ∧ R (optI (idle L f))
def mFrames : Mo := fun ds R => ∃ (L : Ln) (t : Int), ds = [shD L.b L.p L.s, rcD L.g L.w L.st, .int t, .list (dI L.sg)] ∧ LnOk L ∧ R ((run L t).map frD)
def mReadings : Mo := fun ds R => ∃ (L : Ln) (t : Int), ds = [shD L.b L.p L.s, rcD L.g L.w L.st, .int t, .list (dI L.sg)] ∧ LnOk L ∧ R ((rds L t).map rdD)
theorem run_len (L : Ln) : ∀ (n : Nat) (look : Int), L.sg.length - cnt L.sg look ≤ n → (run L look).length ≤ n + 1
  | n, look, hn => by
    cases h : fsee L 0 look with
    | none => rw [run_none h]; exact Nat.zero_le _
    | some s =>
      rw [run_some h, List.length_cons]
      obtain ⟨a, b, _⟩ := fsee_some _ _ _ (Nat.le_refl _) h
      cases h2 : idle L (fram L s) with
      | none => exact Nat.succ_le_succ (Nat.zero_le _)
      | some x =>
        have h3 := (idle_up b h2).1
        have h4 := cnt_mono (sg := L.sg) a
        have h5 := cnt_le L.sg x
        match n, hn with
        | 0, hn => omega
        | n + 1, hn =>
          have := run_len L n x (by omega)
          exact Nat.succ_le_succ this
theorem cut_take (ds : List PyData) (k : Nat) : cutD ds none (some (k : Int)) = ds.take k := by
  unfold cutD
  rw [HT.sIx_none, HT.sIx_nat, List.drop_zero, Nat.sub_zero]
  rcases Nat.le_total k ds.length with h | h
  · rw [Nat.min_eq_left h]
  · rw [Nat.min_eq_right h, List.take_of_length_le h, List.take_of_length_le (Nat.le_refl _)]
theorem cut_mid (ds : List PyData) (j k : Nat) : cutD ds (some (j : Int)) (some (k : Int)) = (ds.drop j).take (k - j) := by
  unfold cutD
  rw [HT.sIx_nat, HT.sIx_nat]
  rcases Nat.le_total j ds.length with h | h
  · rw [Nat.min_eq_left h]
    rcases Nat.le_total k ds.length with h2 | h2
    · rw [Nat.min_eq_left h2]
    · rw [Nat.min_eq_right h2, List.take_of_length_le (by rw [List.length_drop]; omega), List.take_of_length_le (by rw [List.length_drop]; omega)]
  · rw [Nat.min_eq_right h, List.drop_eq_nil_of_le (Nat.le_refl _), List.drop_eq_nil_of_le h, List.take_nil, List.take_nil]
theorem dI_take (l : List Int) (n : Nat) : (dI l).take n = dI (l.take n) := (List.map_take ..).symm
theorem dI_drop (l : List Int) (n : Nat) : (dI l).drop n = dI (l.drop n) := (List.map_drop ..).symm
theorem dI_rev (l : List Int) : (dI l).reverse = dI l.reverse := (List.map_reverse ..).symm
theorem inV_dI (x : Int) (l : List Int) : inV (flv (.int x)) ((dI l).map flv) = decide (x ∈ l) := by
  have e : (dI l).map flv = l.map V.int := by unfold dI; rw [List.map_map]; rfl
  rw [e]
  exact inV_ints x l
theorem atI_dI {l : List Int} {i : Nat} {x : Int} (h : l[i]? = some x) : atI (dI l) (i : Int) = some (.int x) := atI_nat (dI_get h)
end PL
/-! PW2: a receiver that is played from change to change -/
namespace PW
open PySem SB PL
theorem filter_gt {sg : List Int} (h : Asc sg) (t : Int) : (sg.filter fun x => decide (x > t)) = sg.drop (cnt sg t) := by
  induction sg with
  | nil => rfl
  | cons a l ih =>
    have hl := (List.pairwise_cons.mp h).2
    by_cases g : a ≤ t
    · have e : cnt (a :: l) t = cnt l t + 1 := by
        unfold cnt
        rw [List.filter_cons, if_pos (decide_eq_true g)]
        rfl
      rw [e, List.drop_succ_cons, List.filter_cons, if_neg (by simp; omega), ih hl]
    · rw [cnt_cons_gt h (by omega), List.drop_zero, List.filter_eq_self]
      intro x hx
      rcases List.mem_cons.mp hx with rfl | hx
      · simp; omega
      · have := (List.pairwise_cons.mp h).1 x hx
        simp; omega
theorem filter_le (sg : List Int) (t : Int) : (sg.filter fun x => decide (x ≤ t)).length = cnt sg t := rfl
theorem drop_head {sg : List Int} {k : Nat} : (sg.drop k)[0]? = sg[k]? := by rw [List.getElem?_drop, Nat.add_zero]
theorem drop_nil_iff {sg : List Int} {t : Int} : sg.drop (cnt sg t) = [] ↔ sg[cnt sg t]? = none := by
  rw [List.drop_eq_nil_iff, List.getElem?_eq_none_iff]
/-- where the look from a grid's first look is -/
theorem look_nxt {g first now c k : Int} (hg : 1 ≤ g) (hn : now = first + k * g) (h0 : 0 ≤ k) (hc : now < c) : first + g * (if 0 - (first - c) / g > 0 then 0 - (first - c) / g else 0) = nxt g c now := by
  have h1 := Int.emod_nonneg (first - c) (show g ≠ 0 by omega)
  have h2 := Int.emod_lt_of_pos (first - c) (show 0 < g by omega)
  have h3 := Int.emod_add_mul_ediv (first - c) g
  have hk : 0 ≤ k * g := Int.mul_nonneg h0 (by omega)
  have neg : (first - c) / g < 0 := Int.ediv_neg_of_neg_of_pos (by omega) (by omega)
  rw [if_pos (by omega)]
  obtain ⟨k2, hk2⟩ := nxt_grid (g := g) (c := c) (look := now) hg
  have e : g * (0 - (first - c) / g) = -(g * ((first - c) / g)) := by rw [Int.zero_sub, Int.mul_neg]
  refine grid_uniq hg (c := c) (k := k + k2 + (first - c) / g) ?_ ?_ (nxt_ge hg) (nxt_lt hg) ?_
  · omega
  · omega
  · rw [hk2, hn, e, Int.add_mul, Int.add_mul, Int.mul_comm ((first - c) / g) g]
    omega
section
variable {L : Ln} {now c : Int}
theorem rdsW_1 (h : lv L.sg now = 1) : rdsW L now = rds L (now + L.g) := by
  unfold rdsW
  rw [fsee_here h]
  rfl
theorem rdsW_next (h : lv L.sg now ≠ 1) (hc : L.sg[cnt L.sg now]? = some c) : rdsW L now = rdsW L (nxt L.g c now) := by
  unfold rdsW
  rw [fsee_next h hc]
theorem rdsW_end (h : lv L.sg now ≠ 1) (hc : L.sg[cnt L.sg now]? = none) : rdsW L now = [] := by
  unfold rdsW
  rw [fsee_end h hc]
  rfl
theorem run_next (h : lv L.sg now ≠ 0) (hc : L.sg[cnt L.sg now]? = some c) : run L now = run L (nxt L.g c now) := by
  cases e : fsee L 0 (nxt L.g c now) with
  | none => rw [run_none e, run_none ((fsee_next h hc).trans e)]
  | some s => rw [run_some e, run_some ((fsee_next h hc).trans e)]
theorem rds_next (h : lv L.sg now ≠ 0) (hc : L.sg[cnt L.sg now]? = some c) : rds L now = rds L (nxt L.g c now) := by
  unfold rds
  rw [run_next h hc]
theorem rds_end (h : lv L.sg now ≠ 0) (hc : L.sg[cnt L.sg now]? = none) : rds L now = [] := by
  unfold rds
  rw [run_none (fsee_end h hc)]
  rfl
theorem rds_0 (h : lv L.sg now = 0) : rds L now = (rdg (fram L now)).toList ++ (if bad (fram L now).word = true then rdsW L ((fram L now).stop + L.g) else rds L ((fram L now).stop + L.g)) := by
  unfold rds
  rw [run_some (fsee_here h), List.filterMap_cons]
  have e : (runO L (idle L (fram L now))).filterMap rdg = if bad (fram L now).word = true then rdsW L ((fram L now).stop + L.g) else (run L ((fram L now).stop + L.g)).filterMap rdg := by
    unfold idle
    split <;> rfl
  rw [e]
  cases rdg (fram L now) <;> rfl
/-- how long a receiver that is played from change to change goes on -/
def pm (L : Ln) (w : Bool) (now : Int) : Nat := 4 * (L.sg.length - cnt L.sg now) + (if lv L.sg now = 0 then (if w then 2 else 3) else (if w then 1 else 0))
theorem pm_up {w w' : Bool} {t : Int} (h : cnt L.sg now < cnt L.sg t) : pm L w' t < pm L w now := by
  have := cnt_le L.sg t
  unfold pm
  have : (if lv L.sg t = 0 then (if w' then 2 else 3) else (if w' then 1 else 0) : Nat) ≤ 3 := by split <;> split <;> decide
  omega
theorem pm_wait (h : lv L.sg now = 1) {t : Int} (ht : now ≤ t) : pm L false t < pm L true now := by
  have h1 := cnt_mono (sg := L.sg) ht
  rcases Nat.lt_or_ge (cnt L.sg now) (cnt L.sg t) with g | g
  · exact pm_up g
  · have e : cnt L.sg t = cnt L.sg now := by omega
    have e2 : lv L.sg t = 1 := by unfold lv; rw [e]; exact h
    unfold pm
    rw [e, e2, h]
    simp
theorem pm_bad (h : lv L.sg now = 0) {t : Int} (ht : now ≤ t) : pm L true t < pm L false now := by
  have h1 := cnt_mono (sg := L.sg) ht
  rcases Nat.lt_or_ge (cnt L.sg now) (cnt L.sg t) with g | g
  · exact pm_up g
  · have e : cnt L.sg t = cnt L.sg now := by omega
    have e2 : lv L.sg t = 0 := by unfold lv; rw [e]; exact h
    unfold pm
    rw [e, e2, h]
    simp
theorem pm_good (h : lv L.sg now = 0) (hb : bad (fram L now).word = false) : pm L false ((fram L now).stop + L.g) < pm L false now := by
  have : idle L (fram L now) = some ((fram L now).stop + L.g) := by
    unfold idle
    rw [hb]
    rfl
  exact pm_up (idle_up h this).1
end
/-- where levels change is ascending -/
theorem ch_asc {ls : List Int} {T : Nat → Int} (h : ∀ i j, i < j → T i < T j) : ∀ n, Asc (ch ls T n) ∧ ∀ x ∈ ch ls T n, ∃ i, i < n ∧ x = T i
  | 0 => ⟨List.Pairwise.nil, fun x hx => by cases hx⟩
  | n + 1 => by
    obtain ⟨h1, h2⟩ := ch_asc h n
    rw [ch_succ]
    split
    · rw [List.append_nil]
      exact ⟨h1, fun x hx => let ⟨i, a, b⟩ := h2 x hx; ⟨i, by omega, b⟩⟩
    · refine ⟨List.pairwise_append.mpr ⟨h1, List.pairwise_singleton _ _, fun x hx y hy => ?_⟩, fun x hx => ?_⟩
      · obtain ⟨i, a, rfl⟩ := h2 x hx
        rw [List.mem_singleton.mp hy]
        exact h i n a
      · rcases List.mem_append.mp hx with hx | hx
        · obtain ⟨i, a, b⟩ := h2 x hx
          exact ⟨i, by omega, b⟩
        · exact ⟨n, by omega, List.mem_singleton.mp hx⟩
end PW
/-! PL6: numbers alone; draws; players of a receiver in the laws -/
namespace PL
open PySem PySem.Spec PyProof.Rows L2 Evl SB PW
def hasP : Pa → Bool
  | .no => false
  | _ => true
/-- the line of a number alone -/
def alone (b : Nat) (p : Pa) (s : Nat) (ln x : Int) : List Int := ch (SB.frm b p s x) (fun i => (i : Int) * ln) (sz b p s)
theorem mul_lt {ln : Int} (h : 1 ≤ ln) (i j : Nat) (hij : i < j) : (i : Int) * ln < (j : Int) * ln := Int.mul_lt_mul_of_pos_right (by omega) (by omega)
theorem alone_asc {b : Nat} {p : Pa} {s : Nat} {ln x : Int} (h : 1 ≤ ln) : Asc (alone b p s ln x) := (ch_asc (mul_lt h) _).1
theorem alone_len {b : Nat} {p : Pa} {s : Nat} {ln x : Int} : (alone b p s ln x).length ≤ sz b p s := ch_len _ _ _
def mReadingsOf : Mo := fun ds R => ∃ (L : Ln) (ln t x : Int), ds = [shD L.b L.p L.s, rcD L.g L.w L.st, .int ln, .int t, .int x] ∧ LnOk L ∧ L.sg = alone L.b L.p L.s ln x ∧ 1 ≤ ln ∧ 0 ≤ x ∧ x < 2 ^ L.b ∧ R ((rds L t).map rdD)
def mReadAlone : Mo := fun ds R => ∃ (L : Ln) (ln t x : Int), ds = [shD L.b L.p L.s, rcD L.g L.w L.st, .int ln, .int t, .int x] ∧ LnOk L ∧ L.sg = alone L.b L.p L.s ln x ∧ 1 ≤ ln ∧ 0 ≤ t ∧ t < L.g ∧ 0 ≤ x ∧ x < 2 ^ L.b ∧ R ((rds L t).map rdD)
/-! draws -/
def Tk (n : Nat) (T : List PyData) : Prop := ∃ l sd c : Int, T = [.int l, .int sd, .int c] ∧ 0 ≤ sd ∧ sd < 2 ^ 130 ∧ 0 ≤ c ∧ c ≤ n
theorem Tk.mono {T : List PyData} {n m : Nat} (h : Tk n T) (e : n ≤ m) : Tk m T := by
  obtain ⟨l, sd, c, h1, h2, h3, h4, h5⟩ := h
  exact ⟨l, sd, c, h1, h2, h3, h4, by omega⟩
/-- a draw below m -/
def mDraw : Mt := fun T ds R => ∃ (n : Nat) (m : Int), ds = [.int m] ∧ Tk n T ∧ n ≤ 1000000 ∧ 0 < m ∧ m < 2 ^ 240 ∧ ∀ d T', 0 ≤ d → d < m → Tk (n + 1) T' → R (.int d) T'
/-- a shape of at most so many bits -/
def mShapeD : Mt := fun T ds R => ∃ (n : Nat) (m : Int), ds = [.int m] ∧ Tk n T ∧ n ≤ 999990 ∧ 1 ≤ m ∧ m ≤ 9 ∧ ∀ b p s T', ShOk b s → (b : Int) ≤ m → Tk (n + 3) T' → R (shD b p s) T'
theorem pa_atD (d : Int) (h0 : 0 ≤ d) (h1 : d < 3) : ∃ p : Pa, atI [PyData.str "none", .str "even", .str "odd"] d = some (.str p.s) := by
  have : d = 0 ∨ d = 1 ∨ d = 2 := by omega
  rcases this with rfl | rfl | rfl
  · exact ⟨.no, rfl⟩
  · exact ⟨.ev, rfl⟩
  · exact ⟨.od, rfl⟩
/-- one of three, four, six .. -/
theorem at3 {d : Int} (h0 : 0 ≤ d) (h1 : d < 3) (a b c : PyData) : ∃ z, atI [a, b, c] d = some z ∧ (z = a ∨ z = b ∨ z = c) := by
  have : d = 0 ∨ d = 1 ∨ d = 2 := by omega
  rcases this with rfl | rfl | rfl
  · exact ⟨_, rfl, .inl rfl⟩
  · exact ⟨_, rfl, .inr (.inl rfl)⟩
  · exact ⟨_, rfl, .inr (.inr rfl)⟩
/-- an item of a list of ints, told by what all items have -/
theorem atI_all {P : Int → Prop} {l : List Int} {d : Int} (h0 : 0 ≤ d) (h1 : d < l.length) (h : ∀ x ∈ l, P x) : ∃ x, atI (dI l) d = some (.int x) ∧ P x := by
  obtain ⟨k, rfl⟩ : ∃ k : Nat, d = k := ⟨d.toNat, by omega⟩
  have lt : k < l.length := by omega
  exact ⟨l[k], atI_dI (List.getElem?_eq_getElem lt), h _ (List.getElem_mem lt)⟩
/-! powers -/
theorem cpow2' {i : Int} (h : -(2 ^ 240) < i ∧ i < 2 ^ 240) (k : Int) (h0 : 0 ≤ k) (h1 : k ≤ 100) : CPowB i k := by
  have h1' := abs_lt h
  have h2 := int_log (by decide) h1'
  refine ⟨h0, ?_⟩
  have : ((i.natAbs.log2 : Int) + 1) * k ≤ 241 * 100 := Int.mul_le_mul (by omega) (by omega) h0 (by omega)
  omega
/-! what laws that play a receiver tell -/
def mHeardL : Mn := fun ds R => ∃ (L : Ln) (t : Int), ds = [shD L.b L.p L.s, rcD L.g L.w L.st, .list (dI L.sg), .int t, .none] ∧ LnOk L ∧ lv L.sg t = 0 ∧ R (.tuple [.list ((rdg (fram L t)).toList.map rdD), .int (fram L t).stop])
def mWalkL : Mn := fun ds R => ∃ (L : Ln) (t : Int), ds = [shD L.b L.p L.s, rcD L.g L.w L.st, .int t, .list (dI L.sg), .none] ∧ LnOk L ∧ (∀ x ∈ L.sg, -(2 ^ 230) < x ∧ x < 2 ^ 230) ∧ -(2 ^ 230) < t ∧ t < 2 ^ 230 ∧ ∀ z, R (.tuple [.list ((rds L t).map rdD), z])
def mBitL : Mn := fun ds R => ∃ (sg : List Int) (t : Int), ds = [.list (dI sg), .int t] ∧ sg.length ≤ 10000 ∧ R (.int (lv sg t))
def mLookL : Mn := fun ds R => ∃ (g w st first c now k : Int), ds = [rcD g w st, .int first, .int c] ∧ RcOk g w st ∧ now = first + k * g ∧ 0 ≤ k ∧ now < c ∧ -(2 ^ 230) < first ∧ c < 2 ^ 230 ∧ R (.int (nxt g c now))
end PL
/-! PW3: what can be shown; bounds of readings; sums of bits -/
namespace PL
open PySem PySem.Spec PyProof.Rows L2 Evl SB PW
structure Sh (m dp : Nat) (d : PyData) : Prop where
  s : d.showable = true
  n : d.hasDict = false
  dp : d.depth ≤ dp
  l : d.shown.length ≤ m
theorem Sh.w {m dp : Nat} {d : PyData} (h : Sh m dp d) (h1 : m ≤ 16777216 := by decide) (h2 : dp ≤ 60 := by decide) : Shw d := ⟨h.s, h.n, by have := h.dp; omega, by rw [sizeLine_eq]; have := h.l; omega⟩
theorem Sh.mono {m dp m' dp' : Nat} {d : PyData} (h : Sh m dp d) (h1 : m ≤ m') (h2 : dp ≤ dp') : Sh m' dp' d := ⟨h.s, h.n, by have := h.dp; omega, by have := h.l; omega⟩
theorem sh_int {i : Int} (h : -(2 ^ 240) < i ∧ i < 2 ^ 240) : Sh 242 0 (.int i) := by
  have hl : i.natAbs.log2 < 240 := int_log (by decide) (abs_lt h)
  refine ⟨?_, rfl, Nat.zero_le _, ?_⟩
  · simp only [PyData.showable, decide_eq_true_eq]
    omega
  · show (Str.ofString (toString i)).length ≤ 242
    rw [PySem.ofString_length]
    have := int_text_length_le (k := 240) (by decide) hl
    omega
theorem sh_non : Sh 242 0 .none := ⟨rfl, rfl, Nat.zero_le _, by decide +kernel⟩
theorem sh_bool {b : Bool} : Sh 242 0 (.bool b) := ⟨rfl, rfl, Nat.zero_le _, by cases b <;> decide +kernel⟩
theorem shAll {m dp : Nat} : ∀ {ds : List PyData}, (∀ d ∈ ds, Sh m dp d) → PyData.showableAll ds = true ∧ PyData.hasDictAll ds = false ∧ PyData.depthAll ds ≤ dp ∧ ((PyData.shownAll ds).map (·.length)).sum ≤ m * ds.length ∧ (PyData.shownAll ds).length = ds.length
  | [], _ => by simp [PyData.showableAll, PyData.hasDictAll, PyData.depthAll, PyData.shownAll]
  | d :: ds, h => by
    obtain ⟨h1, h2, h3, h4, h5⟩ := shAll fun x hx => h x (List.mem_cons_of_mem _ hx)
    obtain ⟨g1, g2, g3, g4⟩ := h d (List.mem_cons_self ..)
    refine ⟨?_, ?_, ?_, ?_, ?_⟩
    · simp only [PyData.showableAll, g1, h1, Bool.and_true]
    · simp only [PyData.hasDictAll, g2, h2, Bool.or_false]
    · simp only [PyData.depthAll]
      omega
    · simp only [PyData.shownAll, List.map_cons, List.sum_cons, List.length_cons, Nat.mul_add, Nat.mul_one]
      omega
    · simp only [PyData.shownAll, List.length_cons, h5]
theorem sh_lst {m dp k : Nat} {ds : List PyData} (h : ∀ d ∈ ds, Sh m dp d) (hk : ds.length ≤ k) : Sh (k * (m + 2) + 3) (dp + 1) (.list ds) := by
  obtain ⟨h1, h2, h3, h4, h5⟩ := shAll h
  have hm : m * ds.length ≤ m * k := Nat.mul_le_mul_left m hk
  have e : k * (m + 2) = m * k + 2 * k := by rw [Nat.mul_add, Nat.mul_comm k m, Nat.mul_comm k 2]
  refine ⟨?_, ?_, ?_, ?_⟩
  · simp only [PyData.showable, h1]
  · simp only [PyData.hasDict, h2]
  · simp only [PyData.depth]
    omega
  · simp only [PyData.shown]
    have := listText_len_le (PyData.shownAll ds)
    omega
theorem sh_tup {m dp k : Nat} {ds : List PyData} (h : ∀ d ∈ ds, Sh m dp d) (hk : ds.length ≤ k) : Sh (k * (m + 2) + 3) (dp + 1) (.tuple ds) := by
  obtain ⟨h1, h2, h3, h4, h5⟩ := shAll h
  have hm : m * ds.length ≤ m * k := Nat.mul_le_mul_left m hk
  have e : k * (m + 2) = m * k + 2 * k := by rw [Nat.mul_add, Nat.mul_comm k m, Nat.mul_comm k 2]
  refine ⟨?_, ?_, ?_, ?_⟩
  · simp only [PyData.showable, h1]
  · simp only [PyData.hasDict, h2]
  · simp only [PyData.depth]
    omega
  · simp only [PyData.shown]
    have := tupleText_len_le (PyData.shownAll ds)
    omega
def isWord (x : Str) : Prop := x = "good" ∨ x = "parity" ∨ x = "frame" ∨ x = "break"
theorem sh_word {x : Str} (h : isWord x) : Sh 242 0 (.str x) := by
  rcases h with rfl | rfl | rfl | rfl <;> exact ⟨by decide +kernel, by decide +kernel, by decide +kernel, by decide +kernel⟩
/-- what readings are like -/
structure RdOk (L : Ln) (look : Int) (r : Int × Str × Int) : Prop where
  ge : look ≤ r.1
  lt : r.1 = look ∨ ∃ c ∈ L.sg, r.1 < c + L.g
  wd : isWord r.2.1
  n0 : 0 ≤ r.2.2
  n1 : r.2.2 < 2 ^ L.b
  z : lv L.sg r.1 = 0
theorem out_ok (L : Ln) (t : Int) : isWord (out L.b L.p L.s (lvs L t)).2.1 ∧ 0 ≤ (out L.b L.p L.s (lvs L t)).2.2 ∧ (out L.b L.p L.s (lvs L t)).2.2 < 2 ^ L.b := by
  have hb := L.n_bd
  have h01 := (((lvs_01 L t).drop 1).take L.b)
  have nb := num_bd h01
  have ll : (((lvs L t).drop 1).take L.b).length = L.b := by rw [List.length_take, List.length_drop, lvs_len]; omega
  rw [ll] at nb
  unfold out
  cases zat (lvs L t) (sz L.b L.p L.s - L.s) L.s with
  | some i =>
    refine ⟨?_, nb.1, nb.2⟩
    show isWord (if 1 ∈ (lvs L t).take i then "frame" else "break")
    split
    · exact .inr (.inr (.inl rfl))
    · exact .inr (.inr (.inr rfl))
  | none =>
    refine ⟨?_, nb.1, nb.2⟩
    show isWord (if prt L.p _ = true then "good" else "parity")
    split
    · exact .inl rfl
    · exact .inr (.inl rfl)
theorem rdg_some {L : Ln} {t : Int} {r : Int × Str × Int} (h : rdg (fram L t) = some r) : r.1 = t ∧ isWord r.2.1 ∧ 0 ≤ r.2.2 ∧ r.2.2 < 2 ^ L.b := by
  unfold rdg at h
  split at h
  · cases h
  · rename_i hd
    cases h
    unfold fram at hd ⊢
    split at hd
    · exact absurd rfl hd
    · rename_i h1
      rw [if_neg h1]
      exact ⟨rfl, out_ok L t⟩
/-- an idle look that sees 0 behind one that saw 1 lies less than a grain behind a change -/
theorem behind_change {L : Ln} {x : Int} (h1 : lv L.sg (x - L.g) = 1) (h0 : lv L.sg x = 0) : ∃ c ∈ L.sg, x < c + L.g := by
  have g1 := L.g1
  have up := lv_ne (sg := L.sg) (t := x - L.g) (u := x) (by omega) (by rw [h1, h0]; decide)
  have lt : cnt L.sg (x - L.g) < L.sg.length := Nat.lt_of_lt_of_le up (cnt_le _ _)
  have hc : L.sg[cnt L.sg (x - L.g)]? = some L.sg[cnt L.sg (x - L.g)] := List.getElem?_eq_getElem lt
  have := next_gt L.asc hc
  exact ⟨_, List.mem_of_getElem? hc, by omega⟩
/-- one grain ahead of where it is idle again the receiver saw 1 -/
theorem idle_prev {L : Ln} {s x : Int} (h0 : lv L.sg s = 0) (h : idle L (fram L s) = some x) : lv L.sg (x - L.g) = 1 := by
  unfold idle at h
  by_cases hb : bad (fram L s).word = true
  · rw [if_pos hb] at h
    cases e : fsee L 1 ((fram L s).stop + L.g) with
    | none => rw [e] at h; cases h
    | some q =>
      rw [e] at h
      cases h
      obtain ⟨_, b, _⟩ := fsee_some _ _ _ (Nat.le_refl _) e
      show lv L.sg (q + L.g - L.g) = 1
      rw [Int.add_sub_cancel]
      exact b
  · rw [if_neg hb] at h
    cases h
    rw [Int.add_sub_cancel]
    unfold fram at hb ⊢
    split
    · rename_i e
      exact e
    · rename_i e
      rw [if_neg e] at hb
      have hn := L.n_bd
      have hs := L.s1
      revert hb
      show ¬ bad (out L.b L.p L.s (lvs L s)).2.1 = true → lv L.sg (lk L s (out L.b L.p L.s (lvs L s)).1) = 1
      unfold out
      show ¬ bad (match zat (lvs L s) (L.n - L.s) L.s with
        | some i => _
        | none => _ : Nat × Str × Int).2.1 = true → lv L.sg (lk L s (match zat (lvs L s) (L.n - L.s) L.s with
        | some i => _
        | none => _ : Nat × Str × Int).1) = 1
      cases z : zat (lvs L s) (L.n - L.s) L.s with
      | some i =>
        intro hb
        exfalso
        apply hb
        show bad (if 1 ∈ (lvs L s).take i then "frame" else "break") = true
        split <;> decide
      | none =>
        intro _
        show lv L.sg (lk L s (L.n - 1)) = 1
        have := zat_none.mp z (L.n - 1) (by omega) (by omega)
        rw [List.getD_eq_getElem?_getD, lvs_at (by omega)] at this
        rcases lv_01 L.sg (lk L s (L.n - 1)) with h | h
        · exact absurd h this
        · exact h
theorem rds_ok (L : Ln) : ∀ (n : Nat) (look : Int), L.sg.length - cnt L.sg look ≤ n → ∀ r ∈ rds L look, RdOk L look r
  | n, look, hn, r, hr => by
    unfold rds at hr
    cases h : fsee L 0 look with
    | none => rw [run_none h] at hr; cases hr
    | some s =>
      obtain ⟨a, b, c, _⟩ := fsee_some _ _ _ (Nat.le_refl _) h
      rw [run_some h, List.filterMap_cons] at hr
      have head : ∀ r', rdg (fram L s) = some r' → RdOk L look r' := fun r' h' => by
        obtain ⟨h1, h2, h3, h4⟩ := rdg_some h'
        exact ⟨by omega, by rw [h1]; exact c, h2, h3, h4, by rw [h1]; exact b⟩
      have tail : r ∈ (runO L (idle L (fram L s))).filterMap rdg → RdOk L look r := fun hr => by
        cases h2 : idle L (fram L s) with
        | none => rw [h2] at hr; cases hr
        | some x =>
          rw [h2] at hr
          obtain ⟨h3, h3'⟩ := idle_up b h2
          have h4 := cnt_mono (sg := L.sg) a
          have h5 := cnt_le L.sg x
          match n, hn with
          | 0, hn => omega
          | n + 1, hn =>
            have ih := rds_ok L n x (by omega) r hr
            refine ⟨by have := ih.ge; omega, ?_, ih.wd, ih.n0, ih.n1, ih.z⟩
            rcases ih.lt with e | e
            · refine .inr ?_
              have l0 := ih.z
              rw [e] at l0 ⊢
              exact behind_change (idle_prev b h2) l0
            · exact .inr e
      cases h3 : rdg (fram L s) with
      | none =>
        rw [h3] at hr
        exact tail hr
      | some r' =>
        rw [h3] at hr
        rcases List.mem_cons.mp hr with rfl | hr
        · exact head _ h3
        · exact tail hr
theorem num_range {l : List Int} {b : Nat} (h : l.length = b) : ((List.range b).map fun k => l.getD k 0 * 2 ^ k).sum = num l := by
  rw [← num_sum0]
  congr 1
  subst h
  refine List.ext_getElem (by simp) fun i h1 h2 => ?_
  simp at h1
  simp [List.getD_eq_getElem?_getD, h1]
end PL
namespace EXS
open PySem PySem.W PySem.Calls PyProof.Rows
/-! an own error whose __init__ says super().__init__(f'..') and stores its one field -/
def eArgs (fld : Str) (p1 p2 : Pos) : Arguments := { posonlyargs := [], args := [{ arg := "self", annotation := none, pos := p1 }, { arg := fld, annotation := none, pos := p2 }], vararg := none, kwonlyargs := [], kw_defaults := [], kwarg := none, defaults := [] }
def eScope (fld : Str) : Scope := { kind := .function, names := [("self", .local), (fld, .local), ("__class__", .free), ("super", .globalImplicit)], isGenerator := false, isCoroutine := false, more := [] }
def eBody (fld : Str) (js : List Expr) (a0 a1 a2 a3 a4 a5 b1 b2 b3 b4 : Pos) : List Stmt :=
  [.Expr (.Call (.Attribute (.Call (.Name "super" a0) [] [] a1) "__init__" a2) [.JoinedStr js a3] [] a4) a5, .Assign [.Attribute (.Name "self" b1) fld b2] (.Name fld b3) b4]
/-- f'TEXT{FLD}' is some text -/
def Tells (fld : Str) (js : List Expr) (v : Value) : Prop := ∀ (prog : Program) (w : World) (A : Around) (E : Value → Shared → Prop) (env : Env) (m : Str → Option Value) (s : Shared) (p : Pos) (Q : Value → Shared → Prop),
  s.heap.Ns env.locals m → m fld = some v → env.scope.kind = .function → env.kindOf fld = some .local → (∀ x t tk, Q (.str x t) { s with toks := tk }) → wpAny (model prog w) A (eval (.JoinedStr js p) env) Q E s
theorem tells2 {fld tx : Str} {p0 p1 p2 : Pos} {k : Nat} {v : Value} (hf : (fld == ("__debug__" : Str)) = false) (hl : tx.length ≤ 100) (hv : v = .none ∨ ∃ i t, v = .int i t ∧ i.natAbs.log2 < 1920) :
    Tells fld [.Constant (.str tx) k p0, .FormattedValue (.Name fld p1) (-1) none p2] v := by
  intro prog w A E env m s p Q hn hm hk hl2 q
  have fld_ok : ∀ (s' : Shared) (Q' : Value → Shared → Prop), s'.heap = s.heap → (∀ (y : Str) (t : Tok) (tk : Nat), y.length ≤ 3000 → Q' (.str y t) { s' with toks := tk }) →
      wpAny (model prog w) A (eval (.FormattedValue (.Name fld p1) (-1) none p2) env) Q' E s' := by
    intro s' Q' eh q'
    refine PySem.wpAny_FormattedValue_plain (wpAny_Name (wpAny_loadName_local hk hl2 (show s'.heap.Ns env.locals m by rw [eh]; exact hn) hm ?_) hf)
    rcases hv with rfl | ⟨i, t, rfl, hi⟩
    · exact wpAny_formatField_none (q' "None" _ _ (by decide))
    · refine PySem.wpAny_formatField_int hi (q' _ _ _ ?_)
      rw [PySem.ofString_length]
      have := int_text_length_le (k := 1920) (by decide) hi
      omega
  refine PySem.wpAny_JoinedStr ?_
  show wpAny _ _ (eval (.Constant (.str tx) k p0) env) _ _ _
  refine PySem.Calls.Constant_str ⟨tx, _, rfl, ?_, ?_⟩
  · rw [sizeLine_eq, show (Str.empty ++ tx).length = Str.empty.length + tx.length from PySem.strLen_append _ _]
    show 0 + tx.length ≤ _
    omega
  · show wpAny _ _ (eval (.FormattedValue (.Name fld p1) (-1) none p2) env) _ _ _
    refine fld_ok _ _ rfl fun y t tk hy => ⟨y, t, rfl, ?_, ?_⟩
    · rw [sizeLine_eq, PySem.strLen_append, PySem.strLen_append]
      show 0 + tx.length + y.length ≤ _
      omega
    · show _ ∧ _
      refine ⟨?_, q _ _ _⟩
      rw [sizeLine_eq, PySem.strLen_append, PySem.strLen_append]
      show 0 + tx.length + y.length ≤ _
      omega
end EXS
namespace EXS
open PySem PySem.W PySem.Calls PyProof.Rows PySem.HandSPX
theorem mcall {o : Expr} {env : Env} {ov : Value} {a2 a4 : Pos} {name : Str} {n : Nat} {args : List (Bool × Sem Value)} (hf : methodCallForm n args [] = true) (h : (a2.endLine == a4.line) = true) :
    methodCall o name a2 a4 env ov n args [] = (do
          let __x ← holding [ov] (getMethod ov name (do
      let __do_lift ← importBound o env
      pure (__do_lift.getD true)))
          match __x with
            | (f, first) => callWith a4 f first args []) := by
  unfold methodCall
  rw [hf]
  have e : methodCallPos true o env a2 a4 = pure a4 := by
    unfold methodCallPos
    rw [h] 
    rfl
  rw [e]
  rfl
theorem mcall_eq {a2 a3 a4 q0 q1 q2 : Pos} {env : Env} {tx x : Str} {kc : Nat} {p0 p1 : Pos} (h : (a2.endLine == a4.line) = true) : eval (.Call (.Attribute (.Call (.Name "super" p0) [] [] p1) "__init__" a2) [.JoinedStr [.Constant (.str tx) kc q0, .FormattedValue (.Name x q1) (-1) none q2] a3] [] a4) env = (do
          let ov ← attributeBase (.Call (.Name "super" p0) [] [] p1) "__init__" env (eval (.Call (.Name "super" p0) [] [] p1) env)
          standAt a2.atName
          let __x ← holding [ov] (getMethod ov "__init__" (do
      let __do_lift ← importBound (.Call (.Name "super" p0) [] [] p1) env
      pure (__do_lift.getD true)))
          match __x with
            | (f, first) => callWith a4 f first (backTo a4 (starEach [.JoinedStr [.Constant (.str tx) kc q0, .FormattedValue (.Name x q1) (-1) none q2] a3] env)) []) := by
  have e : eval (.Call (.Attribute (.Call (.Name "super" p0) [] [] p1) "__init__" a2) [.JoinedStr [.Constant (.str tx) kc q0, .FormattedValue (.Name x q1) (-1) none q2] a3] [] a4) env = (do
          let ov ← attributeBase (.Call (.Name "super" p0) [] [] p1) "__init__" env (eval (.Call (.Name "super" p0) [] [] p1) env)
          standAt a2.atName
          methodCall (.Call (.Name "super" p0) [] [] p1) "__init__" a2 a4 env ov 1 (backTo a4 (starEach [.JoinedStr [.Constant (.str tx) kc q0, .FormattedValue (.Name x q1) (-1) none q2] a3] env)) []) := rfl
  rw [e]
  refine congrArg _ (funext fun ov => ?_)
  refine congrArg _ (funext fun _ => ?_)
  exact mcall rfl h
/-- what the program has of an own error: its class at C, its __init__ at fI, over LineError over ValueError -/
structure ErrTxt (prog : Program) (K : Frag) (mg : Str → Option Value) (nm fld tx : Str) (C fI : Addr) : Prop where
  gC : mg nm = some (.ref C)
  sup : mg "super" = none
  cls : ∃ q N bs bm sn sub ab col dd k0 k1 k2 k3 k5, K.lookup C = some (excClassObj nm q C N bs bm true sn sub ab col dd k0 k1 k2 k3 k5 "ValueError.__new__") ∧ refsVE bm = true ∧ alongIn K "__init__" bm = some (some (.builtin "ValueError.__init__"))
  op : nsIn K cStatics "thirdparty.any" = some none
  sa : findIn K (.ref C) "__setattr__" = some (some (.builtin "object.__setattr__"))
  noN : findIn K (.ref C) fld = some none
  iC : findIn K (.ref C) "__init__" = some (some (.ref fI))
  tC : typeIn K (.ref fI) = some (.type "function")
  kC : keepIn K (.ref C) = true
  exC : subIn K (.ref C) (.type "BaseException") = some true
  veC : subIn K (.ref C) (.type "ValueError") = some true
  init : excInitIn K C [.type "ValueError", .type "Exception", .type "BaseException", .type "object"] "ValueError.__new__" = true
  seC : mroIn K C (.ref C) = some true
  tyC : typeIn K (.ref C) = some (.type "type")
  te : exmOne K (.ref C) (.ref C) = some true
  fn : ∃ (oc : Value) (od : Option Addr) (qual : Str) (doc pm : Value) (an : Option Addr) (cc co : Addr) (ct : Value) (osl : Array (Option Value)) (oc2 : Value) (od2 : Option Addr) (vs : Array Value) (osl2 : Array (Option Value)) (ocl : Obj) (p1 p2 a0 a1 a2 a3 a4 a5 b1 b2 b3 b4 q0 q1 q2 : Pos) (kk : Nat) (file : Str) (tf : Tok),
    K.lookup fI = some ⟨oc, od, .func { name := "__init__", qualname := qual, params := eArgs fld p1 p2, body := .stmts (eBody fld [.Constant (.str tx) kk q0, .FormattedValue (.Name fld q1) (-1) none q2] a0 a1 a2 a3 a4 a5 b1 b2 b3 b4), scope := eScope fld, globals := mainGlobals, closure := [("__class__", cc)], defaults := .none, kwdefaults := .none, doc := doc, pyModule := pm, annotations := an, code := .ref co, closureTuple := ct, builtins := builtinsNs }, osl⟩
      ∧ codeIn K (.ref co) qual = true ∧ K.lookup co = some ⟨oc2, od2, .fields vs, osl2⟩ ∧ vs[2]? = some (.str file tf) ∧ (prog.main.file == file) = true ∧ K.lookup cc = some ocl ∧ ocl.data = .cell (some (.ref C)) ∧ (a2.endLine == a4.line) = true
  nosup : (List.lookup ("super" : Str) prog.main.scope.names).isSome = false
  nf : fld = "index" ∨ fld = "limit" ∨ fld = "word"
  hl : tx.length ≤ 100
theorem kept_but {K : Frag} {h h' : Heap} {x : Addr} (X : K.In h) (hx : K.lookup x = none) (k : ∀ b o, b ≠ x → h.get? b = some o → h'.get? b = some o) : K.In h' := fun a o e =>
  k a o (fun z => by rw [z, hx] at e; cases e) (X a o e)
/-- what __init__ leaves of a fresh exception at x -/
structure InitEnd (h h' : Heap) (x C dx : Addr) (fld : Str) (v : Value) : Prop where
  keep : ∀ b o, b ≠ x → h.get? b = some o → h'.get? b = some o
  obj : ∃ t1, h'.get? x = some { cls := .ref C, dict := some dx, data := .fields #[.ref t1, .none, .none, .none, .bool false, .none] }
  dbig : h.objs.size ≤ dx
  dne : dx ≠ x
  ns : h'.Ns1 dx (fun y => if y = fld then some v else none)
/-- the heap without what stands at x -/
theorem hide1 (h : Heap) (x : Addr) : ∃ G : Heap, G.objs.size = h.objs.size ∧ (∀ b o, b ≠ x → h.get? b = some o → G.get? b = some o) ∧ (∀ b o, G.get? b = some o → h.get? b = some o) ∧ G.get? x = none := by
  let T : L2.Hp := fun b => if b = x then some (.lst []) else none
  refine ⟨L2.hidT h T, L2.hidT_size _ _, fun b o hb e => L2.hidT_get e (if_neg hb), fun b o e => (L2.of_hidT e).1, ?_⟩
  cases e : (L2.hidT h T).get? x with
  | none => rfl
  | some o =>
    have z := (L2.of_hidT e).2
    rw [show T x = some (.lst []) from if_pos rfl] at z
    cases z
section
variable {prog : Program} {w : World} {A : Around} {E : Value → Shared → Prop} {R : Result → Shared → Prop} {s : Shared} {K : Frag} {mg : Str → Option Value} {C fI : Addr} {nm fld tx : Str}
theorem init_raw (T : ErrTxt prog K mg nm fld tx C fI) {x t0 : Addr} {v : Value} (hv : v = .none ∨ ∃ i t, v = .int i t ∧ i.natAbs.log2 < 1920) (M : L2.Mod K mg s.heap) (hx : s.heap.get? x = some (excO C t0)) (hnx : K.lookup x = none) (hroom : A.depth < recursionLimit)
    (hq : ∀ h' tk dx, InitEnd s.heap h' x C dx fld v → R (.ok (.ret .none)) { s with heap := h', toks := tk }) :
    codeAny (model prog w) A (.call (.ref fI) ⟨[.ref x, v], []⟩) R s := by
  obtain ⟨oc, od, qual, doc, pm, an, cc, co, ct, osl, oc2, od2, vs, osl2, ocl, p1, p2, a0, a1, a2, a3, a4, a5, b1, b2, b3, b4, q0, q1, q2, kc, file, tf, lf, hcd, lco, hv2, hfile, lcc, hcell, hpos⟩ := T.fn
  obtain ⟨q, N, bs, bm, sn, sub, ab, col, dd, k0, k1, k2, k3, k5, lC, hbm, hal⟩ := T.cls
  obtain ⟨hp, g, d, t, os⟩ := s
  have X : K.In hp := M.kin
  have hxp : hp.get? x = some (excO C t0) := hx
  have hCp : hp.get? C = some (excClassObj nm q C N bs bm true sn sub ab col dd k0 k1 k2 k3 k5 "ValueError.__new__") := X _ _ lC
  have hxC : x ≠ C := fun z => by rw [z, lC] at hnx; cases hnx
  have hcl : clsIn K C = some { name := nm, bases := bs, mro := .ref C :: bm, ns := N, qualname := q, hasDict := true, slotNames := sn, subclasses := sub, abstract := ab, collection := col, hasDel := false } := by unfold clsIn; rw [lC] <;> rfl
  obtain ⟨G, Gs, G1, G2, G3⟩ := hide1 hp x
  have XG : K.In G := fun b o e => G1 b o (fun z => by rw [z, hnx] at e; cases e) (X b o e)
  have nfT := T.nf
  rcases nfT with rfl | rfl | rfl
  all_goals
    refine ks_codeAny_call_defAt (binds := [("self", .ref x), (_, v)]) hroom (X _ _ lf) rfl M.nolimit (codeRec_of X hcd) rfl (BindsTo.of_eq (by first | rfl | with_unfolding_all rfl)) (fun y hy => ?_) (fun y hy => ?_) (fun h₁ hn k => ?_) rfl rfl rfl
    · rcases hy with _ | ⟨_, _ | ⟨_, _ | ⟨_, _ | ⟨_, hy⟩⟩⟩⟩
      · exact NameKind.noConfusion
      · exact NameKind.noConfusion
      · exact NameKind.noConfusion
      · exact NameKind.noConfusion
      · cases hy
    · rcases hy with _ | ⟨_, _ | ⟨_, hy⟩⟩
      · rfl
      · rfl
      · cases hy
    have X₁ : K.In h₁ := X.keeps k
    refine ks_wpAt_execs_cons (ks_wpAt_Expr_any (ks_wpAt_MethodCall (he := mcall_eq hpos) (ks_wpAt_super_base rfl rfl rfl rfl (k _ _ (X _ _ lf)) rfl rfl rfl (k _ _ (X _ _ lco)) rfl hv2 hfile T.nosup ?_)))
    refine ks_loadName_global rfl rfl ?_
    obtain ⟨mb, hmb, hbb⟩ := M.blt
    have keepNs : ∀ {b : Addr} {m : Str → Option Value}, hp.Ns b m → h₁.Ns b m := fun ⟨o, es, n, e, r⟩ => ⟨o, es, n, k _ _ e, r⟩
    refine loadGlobal_builtin (keepNs M.glob) T.sup (keepNs hmb) ((hbb _ (by decide)).trans (show _ = some (Value.type "super") from rfl)) ⟨rfl, ?_⟩
    refine wpAny_loadName_free rfl rfl rfl ⟨_, k _ _ (X _ _ lcc), hcell⟩ ?_ rfl
    refine wpAny_loadName_local rfl rfl hn rfl ?_
    refine ks_wpAny_isType_cls (k _ _ hCp) rfl ⟨rfl, ?_⟩
    refine ks_wpAny_call_super (k _ _ hCp) rfl (k _ _ hxp) rfl (fun c z => by cases z) (looks_subIn X₁ T.seC) (fun h₂ hso k₂ => ?_)
    have X₂ : K.In h₂ := X₁.keeps k₂
    have kk : ∀ b o, hp.get? b = some o → h₂.get? b = some o := fun b o e => k₂ _ _ (k _ _ e)
    have XX : Frag.In ((x, excO C t0) :: K) h₂ := fun b o e => by
      by_cases hb : b = x
      · subst hb
        rw [List.lookup_cons_self] at e
        cases e
        exact kk _ _ hxp
      · rw [List.lookup_cons, show (b == x) = false from by simpa using hb] at e
        exact X₂ b o e
    have cl2 : clsIn ((x, excO C t0) :: K) C = clsIn K C := by
      unfold clsIn
      rw [List.lookup_cons, show (C == x) = false from by simpa using Ne.symm hxC]
    have inst : instIn ((x, excO C t0) :: K) (.ref x) (.type "ValueError") = some true := by
      have e1 : typeIn ((x, excO C t0) :: K) (.ref x) = some (.ref C) := by
        show Option.map _ (List.lookup x _) = _
        rw [List.lookup_cons_self]
        rfl
      show (typeIn ((x, excO C t0) :: K) (.ref x)).bind _ = _
      rw [e1]
      show mroIn ((x, excO C t0) :: K) C (.type "ValueError") = _
      have e2 := T.veC
      unfold mroIn
      rw [cl2]
      exact e2
    refine kxs_getMethod kxs_ValueError hso (looks_opaque X₂ T.op) (l₀ := .ref C :: bm) ?_ (PySem.ESX.drop_own C bm) X₂ hal (looks_instIn XX inst) hxC rfl ?_
    · intro A' Q' E' s' k' q'
      exact PySem.wpAny_bind (looks_clsIn X₂ hcl A' _ E' s' k' (PySem.wpAny_pure q'))
    have L1 : hp.objs.size < h₁.objs.size := hn.lt
    have L2' : h₁.objs.size ≤ h₂.objs.size := Nat.le_of_lt (Heap.lt_size hso)
    have xlt : x < hp.objs.size := Heap.lt_size hxp
    have hu : (h₂.push (kxs_mw "ValueError.__init__" x)).get? h₂.objs.size = some (kxs_mw "ValueError.__init__" x) := by heap_get
    have Gu : G.get? h₂.objs.size = none := by
      cases e : G.get? h₂.objs.size with
      | none => rfl
      | some o =>
        have z : h₂.objs.size < hp.objs.size := Heap.lt_size (G2 _ _ e)
        omega
    have k3 : ∀ b o, hp.get? b = some o → (h₂.push (kxs_mw "ValueError.__init__" x)).get? b = some o := fun b o e => Heap.get?_push_of_some _ (kk b o e)
    have N3 : News G hp.objs.size (h₂.push (kxs_mw "ValueError.__init__" x)) [(x, excObj C t0 none .none), (h₂.objs.size, kxs_mw "ValueError.__init__" x)] := by
      intro p hp'
      simp only [List.mem_cons, List.not_mem_nil, or_false] at hp'
      rcases hp' with rfl | rfl
      · exact ⟨k3 _ _ hxp, Nat.ne_of_lt xlt, G3⟩
      · exact ⟨hu, Nat.ne_of_gt (by omega), Gu⟩
    have hn3 : (h₂.push (kxs_mw "ValueError.__init__" x)).Ns hp.objs.size (fun x_1 => List.lookup x_1 (([("self", .ref x), (_, v)] : List (Str × Value)).reverse)) :=
      (fun ⟨o, es, n, e, r⟩ => ⟨o, es, n, Heap.get?_push_of_some _ (k₂ _ _ e), r⟩) hn
    have F3 : Fr G hp.objs.size (h₂.push (kxs_mw "ValueError.__init__" x)) (fun x_1 => List.lookup x_1 (([("self", .ref x), (_, v)] : List (Str × Value)).reverse)) :=
      ⟨hn3, fun b o e => k3 _ _ (G2 _ _ e), Nat.le_of_eq Gs⟩
    refine kxs_callWith1 (i := "ValueError.__init__") (x := x) N3 (List.mem_cons_of_mem _ List.mem_cons_self) (spliced_more (tells2 rfl T.hl hv _ _ _ _ _ _ _ _ _ hn3 rfl rfl rfl fun y t' tk' => spliced_none ?_))
    refine ⟨hu, ?_⟩
    refine kxs_call F3 XG N3 F.excBase_ValueError T.init (List.mem_cons_of_mem _ List.mem_cons_self) (UpdF.head (fun p hp' => ?_)) (by rw [sizeLine_eq]; exact (by decide : 1 ≤ 16777216)) (fun t1 h₄ F4 N4 gt => ?_)
    · simp only [List.mem_cons, List.not_mem_nil, or_false] at hp'
      subst hp'
      exact Nat.ne_of_gt (Nat.lt_of_lt_of_le (Nat.lt_trans xlt L1) L2')
    have hx4 : h₄.get? x = some (excObj C t1 none .none) := (N4 _ (List.mem_cons_of_mem _ List.mem_cons_self)).1
    have k4 : ∀ b o, b ≠ x → hp.get? b = some o → h₄.get? b = some o := fun b o hb e => F4.keep _ _ (G1 b o hb e)
    have X4 : K.In h₄ := kept_but X hnx k4
    have L4 : hp.objs.size < h₄.objs.size := F4.ns.lt
    show PySem.wpAt _ _ _ (execs _ _) _ _ _
    refine wpAt_of_wpAny (wpAny_execs_cons (plainObj_wpAny_Assign_Attribute ?_))
    refine wpAny_Name (wpAny_loadName_local rfl rfl F4.ns rfl (wpAny_Name (wpAny_loadName_local rfl rfl F4.ns rfl ?_) rfl)) rfl
    refine set_plain X4 (ox := excObj C t1 none .none) (od := none) ⟨hx4, rfl, rfl, trivial⟩ T.sa ?_
    refine exc_osa X4 hx4 hcl (show refsVE (.ref C :: bm) = true from hbm) rfl T.noN (fun h₅ tk₅ dx k₅ dn dne hx₅ hn₅ => ?_)
    show wpAny _ _ (execs _ _) _ _ _
    exact wpAny_execs_nil (hq h₅ tk₅ dx ⟨fun b o hb e => k₅ b o hb (k4 b o hb e), ⟨t1, hx₅⟩, Nat.le_of_lt (Nat.lt_of_lt_of_le L4 dn), dne, hn₅⟩)
end
end EXS
namespace EXS
open PySem PySem.W PySem.Calls PyProof.Rows PySem.HandSPX
theorem one_size (v : Value) : [v].length ≤ sizeLine := by
  rw [sizeLine_eq]
  exact (by decide : 1 ≤ 16777216)
theorem mod_keeps {K : Frag} {mg : Str → Option Value} {h h' : Heap} (M : L2.Mod K mg h) (k : ∀ b o, h.get? b = some o → h'.get? b = some o) : L2.Mod K mg h' := by
  have keepNs : ∀ {b : Addr} {m : Str → Option Value}, h.Ns b m → h'.Ns b m := fun ⟨o, es, n, e, r⟩ => ⟨o, es, n, k _ _ e, r⟩
  obtain ⟨mb, hmb, hbb⟩ := M.blt
  exact ⟨M.kin.keeps k, keepNs M.glob, ⟨mb, keepNs hmb, hbb⟩, M.nolimit.keeps k⟩
/-- a made error -/
structure OwnMade (h h' : Heap) (e C d : Addr) (fld : Str) (v : Value) : Prop where
  keep : ∀ b o, h.get? b = some o → h'.get? b = some o
  new : h.objs.size ≤ e
  obj : ∃ oe vs, h'.get? e = some oe ∧ oe.cls = .ref C ∧ oe.dict = some d ∧ oe.data = .fields vs ∧ vs[1]? = some .none
  dbig : h.objs.size ≤ d
  dne : d ≠ e
  ns : h'.Ns1 d (fun y => if y = fld then some v else none)
section
variable {prog : Program} {w : World} {A : Around} {E : Value → Shared → Prop} {R : Result → Shared → Prop} {s : Shared} {K : Frag} {mg : Str → Option Value} {C fI : Addr} {nm fld tx : Str}
theorem err_made (T : ErrTxt prog K mg nm fld tx C fI) {v : Value} (hv : v = .none ∨ ∃ i t, v = .int i t ∧ i.natAbs.log2 < 1920) (M : L2.Mod K mg s.heap) (hroom : A.depth + 1 < recursionLimit)
    (hq : ∀ h' tk e d, OwnMade s.heap h' e C d fld v → R (.ok (.ret (.ref e))) { s with heap := h', toks := tk }) :
    codeAny (model prog w) A (.call (.ref C) ⟨[v], []⟩) R s := by
  obtain ⟨q, N, bs, bm, sn, sub, ab, col, dd, k0, k1, k2, k3, k5, hC, hbm, hal⟩ := T.cls
  obtain ⟨hp, g, dr, tk, os⟩ := s
  have X : K.In hp := M.kin
  have k : ∀ b o, hp.get? b = some o → ((hp.push (kdv_tup [v])).push (excO C hp.objs.size)).get? b = some o := fun b o e => Heap.get?_push_of_some _ (Heap.get?_push_of_some _ e)
  have hget : ((hp.push (kdv_tup [v])).push (excO C hp.objs.size)).get? (hp.objs.size + 1) = some (excO C hp.objs.size) := by heap_get
  have hnx : K.lookup (hp.objs.size + 1) = none := by
    cases e : K.lookup (hp.objs.size + 1) with
    | none => rfl
    | some o =>
      have z : hp.get? (hp.objs.size + 1) = some o := X _ _ e
      exact absurd (Nat.lt_of_succ_lt (Heap.lt_size z)) (Nat.lt_irrefl _)
  refine call_own F.excBase_ValueError (fun X => refsVE_contains X bm hbm) (X _ _ hC) (looks_findIn X T.iC) (fun self => bind_fn X self T.tC) (one_size v) ?_
  refine init_raw (s := ⟨(hp.push (kdv_tup [v])).push (excO C hp.objs.size), g, dr, tk, os⟩) T hv (mod_keeps M k) hget hnx ?_ fun h' tk' dx ⟨k', ⟨t1, hx⟩, dn, dne, hns⟩ => ?_
  · show A.depth + 1 < recursionLimit
    exact hroom
  · have old : ∀ b o, hp.get? b = some o → h'.get? b = some o := fun b o e => k' b o (Nat.ne_of_lt (Nat.lt_succ_of_lt (Heap.lt_size e))) (k b o e)
    have z : hp.objs.size + 1 + 1 ≤ dx := by
      first
        | (simpa only [Heap.size_push] using dn)
        | exact dn
        | (have q := dn; rw [Heap.size_push, Heap.size_push] at q; exact q)
    exact ⟨rfl, hq h' tk' (hp.objs.size + 1) dx ⟨old, Nat.le_succ _, ⟨_, _, hx, rfl, rfl, rfl, rfl⟩, Nat.le_trans (Nat.le_trans (Nat.le_succ _) (Nat.le_succ _)) z, dne, hns⟩⟩
end
end EXS
namespace SB
open PySem PySem.Spec PyProof.Rows L2
theorem relO_fld {v : V} {v' : Value} (r : RelV v v') (fld f : Str) : RelO (List.lookup f [(fld, v)]) (if f = fld then some v' else none) := by
  by_cases hw : f = fld
  · subst hw
    rw [if_pos rfl, List.lookup_cons_self]
    exact r
  · rw [if_neg hw, List.lookup_cons, show (f == fld) = false from by simpa using hw]
    trivial
/-- the field of an own error: None or an index -/
def Fld (v : V) : Prop := v = .non ∨ ∃ i : Int, v = .int i ∧ i.natAbs.log2 < 1920
section
variable {X : Cx} {C fI : Addr} {nm fld tx : Str}
/-- NAME(e) -/
def tMkE (fld : Str) (C : Addr) (ta : TA) : L2.St → Hp → XK → Prop := fun σ H Q => ta σ H fun vs H1 => ∃ v, vs = [v] ∧ Fld v ∧ ∀ d, H1 d = none → Q (.ref C) (some d) (upd H1 d (.xd [(fld, v)]))
theorem pmk_err {a : Expr} {ta : TA} {p pos : Pos} {k : Nat} (T : EXS.ErrTxt X.prog X.K X.mg nm fld tx C fI) (hr : Room k X.A) (ha : PA X [a] ta) (hk : 1 ≤ k := by decide) (hg : Gl X nm := by rfl) (hdb : (nm == ("__debug__" : Str)) = false := by decide)
    (he : starEach (a :: []) X.env = (false, eval a X.env) :: starEach [] X.env := by rfl) (hpl : (backTo pos (starEach [] X.env)).any (·.1) = false := by rfl) :
    PMk X (.Call (.Name nm p) [a] [] pos) (tMkE fld C ta) := by
  intro pins s σ H Q I h
  refine wpAny_Call_Name_kw (ld_glob I hg T.gC ?_ hdb)
  refine PySem.W.callWith_K (h₀ := X.base) I.ok.mod.kin T.kC (thn (ha.run pos pins s σ H _ I h) fun us s1 hh => ?_) he hpl
  obtain ⟨vs, H1, I1, r1, v, ev, fv, q1⟩ := hh
  subst ev
  refine ⟨I1.kIn, ?_⟩
  cases r1 with
  | cons rv rn =>
    rename_i v' us'
    cases rn
    show wpAny _ _ (call (.ref C) [v']) _ _ _
    have M1 : L2.Mod X.K X.mg s1.heap := EXS.mod_keeps I1.env0.mod fun b o e => (I1.env0.bs b o e).1
    have hv : v' = .none ∨ ∃ i t, v' = .int i t ∧ i.natAbs.log2 < 1920 := by
      rcases fv with rfl | ⟨i, rfl, hi⟩
      · exact .inl rv
      · obtain ⟨t, rt⟩ := rv
        exact .inr ⟨i, t, rt, hi⟩
    obtain ⟨hp, g, dr, tk, os⟩ := s1
    refine wpAny_call (EXS.err_made T hv M1 (by have := hr.dp; omega) fun h' tk' e d M => ?_)
    show MkP X pins σ Q (.ref e) ⟨h', g, dr, tk', os⟩
    obtain ⟨oe, fv, hoe, hc, hd, hdat, h1⟩ := M.obj
    have hns := M.ns
    obtain ⟨G', g1, g2⟩ := restrict h' fun b => decide (b ≠ e)
    have gk : ∀ b, b ≠ e → G'.get? b = h'.get? b := fun b hb => g1 b (decide_eq_true hb)
    have ge : G'.get? e = none := g2 e (by simp)
    have old : ∀ b o, hp.get? b = some o → G'.get? b = some o := fun b o q => (gk b (Nat.ne_of_lt (Nat.lt_of_lt_of_le (Heap.lt_size q) M.new))).trans (M.keep b o q)
    have ob : ObjOk X.prog X.w (upd H1 d (.xd [(fld, v)])) G' d (.xd [(fld, v)]) :=
      ⟨_, hns.at (fun o q => (gk d M.dne).trans q), fun f => relO_fld rv fld f⟩
    have J : Inv X pins σ (upd H1 d (.xd [(fld, v)])) ⟨G', g, dr, tk', os⟩ := I1.laid (t' := tk') old M.dbig ob
    refine ⟨e, oe, fv, ⟨G', g, dr, tk', os⟩, _, .ref C, some d, rfl, J, fun b o q => ?_, ge, hoe, ⟨hc, hd⟩, hdat, h1, ?_, rfl, I1.bare, raises_own T.exC T.tyC, q1 d (I1.hok.fresh M.dbig)⟩
    · by_cases hb : b = e
      · have q' : G'.get? b = some o := q
        rw [hb, ge] at q'; cases q'
      · exact (gk b hb).symm.trans q
    · rw [upd_ne (Ne.symm M.dne)]
      exact I1.hok.fresh M.new
end
end SB
namespace EXS
open PySem PySem.W PySem.Calls PyProof.Rows PySem.HandSPX
/-! what a run at the head tells of own errors -/
def isBi (o : Option (Option Value)) (n : String) : Bool := match o with | some (some (.builtin m)) => m == n | _ => false
def isNo (o : Option (Option Value)) : Bool := match o with | some none => true | _ => false
def isTy (o : Option Value) (n : String) : Bool := match o with | some (.type m) => m == n | _ => false
def refD (o : Option (Option Value)) : Addr := match o with | some (some (.ref a)) => a | _ => 0
def isRef (o : Option (Option Value)) : Bool := match o with | some (some (.ref _)) => true | _ => false
theorem isBi_ok {o : Option (Option Value)} {n : String} (h : isBi o n = true) : o = some (some (.builtin n)) := by
  unfold isBi at h
  split at h
  · have e := beq_iff_eq.mp h
    subst e
    rfl
  · cases h
theorem isNo_ok {o : Option (Option Value)} (h : isNo o = true) : o = some none := by
  unfold isNo at h
  split at h
  · rfl
  · cases h
theorem isTy_ok {o : Option Value} {n : String} (h : isTy o n = true) : o = some (.type n) := by
  unfold isTy at h
  split at h
  · have e := beq_iff_eq.mp h
    subst e
    rfl
  · cases h
theorem isRef_ok {o : Option (Option Value)} (h : isRef o = true) : o = some (some (.ref (refD o))) := by
  unfold isRef at h
  split at h
  · rfl
  · cases h
def clsB (K : Frag) (C : Addr) (nm : Str) : Bool :=
  match K.lookup C with
  | some ⟨.type "type", _, .cls cd, sl⟩ =>
    match cd.mro, sl.toList with
    | .ref C' :: bm, [_, _, _, _, some (.builtin n), _] => C' == C && n == "ValueError.__new__" && cd.hasDict && !cd.hasDel && refsVE bm && isBi (alongIn K "__init__" bm) "ValueError.__init__" && cd.name == nm
    | _, _ => false
  | _ => false
theorem clsB_ok {K : Frag} {C : Addr} {nm : Str} (h : clsB K C nm = true) :
    ∃ q N bs bm sn sub ab col dd k0 k1 k2 k3 k5, K.lookup C = some (excClassObj nm q C N bs bm true sn sub ab col dd k0 k1 k2 k3 k5 "ValueError.__new__") ∧ refsVE bm = true ∧ alongIn K "__init__" bm = some (some (.builtin "ValueError.__init__")) := by
  unfold clsB at h
  split at h
  case h_2 => cases h
  rename_i dd cd sl hl
  split at h
  case h_2 => cases h
  rename_i C' bm k0 k1 k2 k3 n k5 hm hs
  simp only [Bool.and_eq_true, Bool.not_eq_true', beq_iff_eq] at h
  obtain ⟨⟨⟨⟨⟨⟨rfl, rfl⟩, h1⟩, h2⟩, h3⟩, h4⟩, rfl⟩ := h
  obtain ⟨nm, bs, mro, ns, q, hd, sn, sub, ab, col, hdel⟩ := cd
  cases hm
  cases h1
  cases h2
  have e : sl = #[k0, k1, k2, k3, some (.builtin "ValueError.__new__"), k5] := by
    cases sl
    cases hs
    rfl
  subst e
  exact ⟨_, _, _, _, _, _, _, _, _, _, _, _, _, _, hl, h3, isBi_ok h4⟩
def fileB (file : Str) : Option Value → Bool
  | some (.str f _) => file == f
  | _ => false
def fnB (K : Frag) (file : Str) (C fI : Addr) : Bool :=
  match K.lookup fI with
  | some ⟨_, _, .func fd, _⟩ =>
    match fd.closure, fd.defaults, fd.kwdefaults, fd.code with
    | [(n, cc)], .none, .none, .ref co =>
      n == "__class__" && codeIn K (.ref co) fd.qualname &&
        (match K.lookup co with
         | some ⟨_, _, .fields vs, _⟩ => fileB file vs[2]?
         | _ => false) &&
        (match K.lookup cc with
         | some ⟨_, _, .cell (some (.ref D)), _⟩ => D == C
         | _ => false)
    | _, _, _, _ => false
  | _ => false
theorem fnB_ok {K : Frag} {file : Str} {C fI : Addr} (h : fnB K file C fI = true) :
    ∃ (oc : Value) (od : Option Addr) (fd : FuncData) (osl : Array (Option Value)) (cc co : Addr) (oc2 : Value) (od2 : Option Addr) (vs : Array Value) (osl2 : Array (Option Value)) (f : Str) (tf : Tok) (oc3 : Value) (od3 : Option Addr) (osl3 : Array (Option Value)),
      K.lookup fI = some ⟨oc, od, .func fd, osl⟩ ∧ fd.closure = [(("__class__" : Str), cc)] ∧ fd.defaults = .none ∧ fd.kwdefaults = .none ∧ fd.code = .ref co ∧ codeIn K (.ref co) fd.qualname = true ∧
        K.lookup co = some ⟨oc2, od2, .fields vs, osl2⟩ ∧ vs[2]? = some (.str f tf) ∧ (file == f) = true ∧ K.lookup cc = some ⟨oc3, od3, .cell (some (.ref C)), osl3⟩ := by
  unfold fnB at h
  split at h
  case h_2 => cases h
  rename_i oc od fd osl hl
  split at h
  case h_2 => cases h
  rename_i n cc co h1 h2 h3 h4
  simp only [Bool.and_eq_true, beq_iff_eq] at h
  obtain ⟨⟨⟨rfl, hc⟩, hb⟩, hd⟩ := h
  split at hb
  case h_2 => cases hb
  rename_i oc2 od2 vs osl2 hl2
  unfold fileB at hb
  split at hb
  case h_2 => cases hb
  rename_i f tf hv
  split at hd
  case h_2 => cases hd
  rename_i oc3 od3 D osl3 hl3
  obtain rfl : D = C := by simpa using hd
  exact ⟨oc, od, fd, osl, cc, co, oc2, od2, vs, osl2, f, tf, oc3, od3, osl3, hl, h1, h2, h3, h4, hc, hl2, hv, hb, hl3⟩
/-- an own error with a field -/
structure ErrD where
  nm : Str
  fld : Str
  tx : Str
  params : Arguments
  body : List Stmt
  scope : Scope
abbrev ErrW : Type := Option (Str × Arguments × FuncBody × Scope × Addr × Addr)
def eI (K : Frag) (nm : Str) : Addr := refD (findIn K (.ref (He.ga K nm)) "__init__")
def errW (K : Frag) (nm : Str) : ErrW :=
  match K.lookup (eI K nm) with
  | some ⟨_, _, .func fd, _⟩ => some (fd.name, fd.params, fd.body, fd.scope, fd.globals, fd.builtins)
  | _ => none
def ErrD.val (e : ErrD) : ErrW := some ("__init__", e.params, .stmts e.body, e.scope, mainGlobals, builtinsNs)
def errB (file : Str) (K : Frag) (nm fld : Str) : Bool :=
  clsB K (He.ga K nm) nm && fnB K file (He.ga K nm) (eI K nm) && isRef (nsIn K mainGlobals nm) && He.Fa.ok K (.free "super") && isNo (nsIn K cStatics "thirdparty.any") &&
    isBi (findIn K (.ref (He.ga K nm)) "__setattr__") "object.__setattr__" && isNo (findIn K (.ref (He.ga K nm)) fld) && isRef (findIn K (.ref (He.ga K nm)) "__init__") &&
    isTy (typeIn K (.ref (eI K nm))) "function" && keepIn K (.ref (He.ga K nm)) && (subIn K (.ref (He.ga K nm)) (.type "BaseException") == some true) && (subIn K (.ref (He.ga K nm)) (.type "ValueError") == some true) &&
    excInitIn K (He.ga K nm) [.type "ValueError", .type "Exception", .type "BaseException", .type "object"] "ValueError.__new__" && (mroIn K (He.ga K nm) (.ref (He.ga K nm)) == some true) &&
    isTy (typeIn K (.ref (He.ga K nm))) "type" && (exmOne K (.ref (He.ga K nm)) (.ref (He.ga K nm)) == some true)
/-- the text of such an error is of the form that is told above -/
def ErrD.Good (e : ErrD) : Prop := ∃ (p1 p2 a0 a1 a2 a3 a4 a5 b1 b2 b3 b4 q0 q1 q2 : Pos) (kk : Nat), e.params = eArgs e.fld p1 p2 ∧ e.body = eBody e.fld [.Constant (.str e.tx) kk q0, .FormattedValue (.Name e.fld q1) (-1) none q2] a0 a1 a2 a3 a4 a5 b1 b2 b3 b4 ∧ e.scope = eScope e.fld ∧ (a2.endLine == a4.line) = true ∧ (e.fld = "index" ∨ e.fld = "limit" ∨ e.fld = "word") ∧ e.tx.length ≤ 100
theorem ga_ok {K : Frag} {h : Heap} {mg : Str → Option Value} {nm : Str} (X : K.In h) (G : h.Ns mainGlobals mg) (c : isRef (nsIn K mainGlobals nm) = true) : mg nm = some (.ref (He.ga K nm)) := by
  have e := isRef_ok c
  have z : refD (nsIn K mainGlobals nm) = He.ga K nm := by
    unfold He.ga refD
    rw [e]
  rw [z] at e
  exact mg_of X G e
theorem err_ok {prog : Program} {K : Frag} {h : Heap} {mg : Str → Option Value} {e : ErrD} (X : K.In h) (G : h.Ns mainGlobals mg) (hs : (List.lookup ("super" : Str) prog.main.scope.names).isSome = false)
    (g : e.Good) (c : errB prog.main.file K e.nm e.fld = true) (v : errW K e.nm = e.val) : ErrTxt prog K mg e.nm e.fld e.tx (He.ga K e.nm) (eI K e.nm) := by
  unfold errB at c
  simp only [Bool.and_eq_true, beq_iff_eq] at c
  obtain ⟨⟨⟨⟨⟨⟨⟨⟨⟨⟨⟨⟨⟨⟨⟨c1, c2⟩, c3⟩, c4⟩, c5⟩, c6⟩, c7⟩, c8⟩, c9⟩, c10⟩, c11⟩, c12⟩, c13⟩, c14⟩, c15⟩, c16⟩ := c
  obtain ⟨p1, p2, a0, a1, a2, a3, a4, a5, b1, b2, b3, b4, q0, q1, q2, kk, g1, g2, g3, g4, g5, g6⟩ := g
  obtain ⟨oc, od, fd, osl, cc, co, oc2, od2, vs, osl2, f, tf, oc3, od3, osl3, f1, f2, f3, f4, f5, f6, f7, f8, f9, f10⟩ := fnB_ok c2
  refine { gC := ga_ok X G c3, sup := ?_, cls := clsB_ok c1, op := isNo_ok c5, sa := isBi_ok c6, noN := isNo_ok c7, iC := isRef_ok c8, tC := isTy_ok c9, kC := c10, exC := ?_, veC := ?_, init := c13, seC := ?_, tyC := isTy_ok c15, te := ?_, nosup := hs, nf := g5, hl := g6, fn := ?_ }
  · exact He.free_ok X G c4
  · exact c11
  · exact c12
  · exact c14
  · exact c16
  · unfold errW at v
    rw [f1] at v
    obtain ⟨name, qual, params, body, scope, globals, closure, defaults, kwdefaults, doc, pm, an, code, ct, blt⟩ := fd
    cases f2
    cases f3
    cases f4
    cases f5
    have v' := Option.some.inj v
    simp only [Prod.mk.injEq] at v'
    obtain ⟨rfl, rfl, rfl, rfl, rfl, rfl⟩ := v'
    rw [g1, g2, g3] at f1
    exact ⟨oc, od, qual, doc, pm, an, cc, co, ct, osl, oc2, od2, vs, osl2, _, p1, p2, a0, a1, a2, a3, a4, a5, b1, b2, b3, b4, q0, q1, q2, kk, f, tf, f1, f6, f7, f8, f9, f10, rfl, g4⟩
/-! an own error without __init__ of its own -/
structure PlnTxt (K : Frag) (mg : Str → Option Value) (nm : Str) (C : Addr) : Prop where
  gC : mg nm = some (.ref C)
  ex : excIn K C [.type "ValueError", .type "Exception", .type "BaseException", .type "object"] "ValueError.__new__" = true
  kC : keepIn K (.ref C) = true
  exC : subIn K (.ref C) (.type "BaseException") = some true
  tyC : typeIn K (.ref C) = some (.type "type")
  te : exmOne K (.ref C) (.ref C) = some true
def plnB (K : Frag) (nm : Str) : Bool :=
  isRef (nsIn K mainGlobals nm) && excIn K (He.ga K nm) [.type "ValueError", .type "Exception", .type "BaseException", .type "object"] "ValueError.__new__" && keepIn K (.ref (He.ga K nm)) &&
    (subIn K (.ref (He.ga K nm)) (.type "BaseException") == some true) && isTy (typeIn K (.ref (He.ga K nm))) "type" && (exmOne K (.ref (He.ga K nm)) (.ref (He.ga K nm)) == some true)
theorem pln_ok {K : Frag} {h : Heap} {mg : Str → Option Value} {nm : Str} (X : K.In h) (G : h.Ns mainGlobals mg) (c : plnB K nm = true) : PlnTxt K mg nm (He.ga K nm) := by
  unfold plnB at c
  simp only [Bool.and_eq_true, beq_iff_eq] at c
  obtain ⟨⟨⟨⟨⟨c1, c2⟩, c3⟩, c4⟩, c5⟩, c6⟩ := c
  exact ⟨ga_ok X G c1, c2, c3, c4, isTy_ok c5, c6⟩
/-! the hook -/
def asE (g : Addr → Option Obj) : Nat → List Addr
  | 0 => [mainGlobals, cStatics]
  | n + 1 => He.growD g (asE g n)
def asF (g : Addr → Option Obj) (n : Nat) : List Addr := asE g n ++ [sysModules]
abbrev AlE : Type := He.AlX × List ErrW
def obsE (n : Nat) (fa : List He.Fa) (fn : List He.DefD) (ers : List ErrD) (ex : Frag → Bool) (g : Addr → Option Obj) : AlE :=
  ((He.obsT fa fn [] (He.frT g (asF g n)), ex (He.frT g (asF g n))), ers.map fun e => errW (He.frT g (asF g n)) e.nm)
structure SaysE (fa : List He.Fa) (fn : List He.DefD) (ers : List ErrD) (ex : Frag → Bool) (w : World) (h : Heap) (K : Frag) : Prop where
  x : He.SaysX fa fn [] [] ex w h K
  e : (ers.map fun e => errW K e.nm) = ers.map ErrD.val
def hookE (n : Nat) (fa : List He.Fa) (fn : List He.DefD) (ers : List ErrD) (ex : Frag → Bool) : Hook where
  α := AlE
  obs := fun s => obsE n fa fn ers ex s.heap.get?
  val := fun w => ((He.valT fn [] w, true), ers.map ErrD.val)
  says := fun w h => ∃ K, K.In h ∧ SaysE fa fn ers ex w h K
  of := by
    intro w s e
    have e1 := congrArg (fun z => z.1.1) e
    have e2 := congrArg (fun z => z.1.2) e
    have e3 := congrArg (fun z => z.2) e
    exact ⟨_, He.frT_in, ⟨⟨e1, e2, (fun _ z => nomatch z), (fun _ z => nomatch z), (fun _ z => nomatch z)⟩, e3⟩⟩
  keeps := by
    rintro w h h' ⟨K, X, c⟩ k
    exact ⟨K, X.keeps k, ⟨⟨c.x.t, c.x.more, (fun _ z => nomatch z), (fun _ z => nomatch z), (fun _ z => nomatch z)⟩, c.e⟩⟩
theorem obsE_eq {n : Nat} {fa : List He.Fa} {fn : List He.DefD} {ers : List ErrD} {ex : Frag → Bool} {g : Addr → Option Obj} {s : Shared} (h : ∀ a, g a = s.heap.get? a) : obsE n fa fn ers ex g = (hookE n fa fn ers ex).obs s := by
  have e := funext h
  rw [e]
  rfl
end EXS
namespace SB
open PySem PySem.Spec PyProof.Rows L2 Evl
def inB : Stmt → Nat → Stmt
  | .ClassDef (body := b) .., j => b.getD j (.Pass ⟨0, 0, 0, 0⟩)
  | s, _ => s
section
variable {X : Cx} {CX : CXT} {k j : Nat} {ps ks : List Str} {sp : Sp} {E : L2.St → XK} {x : Str} {p pos : Pos} {e : Expr} {es : List Expr} {t tk : TA}
theorem pe_calS (F : Cal X.prog X.w X.K X.mg X.base CX k x ps sp) (hr : Room k X.A) (hx : ∀ σ, PassesAt CX X σ (E σ)) (ha : PA X (e :: es) t) (hg : Gl X x := by rfl) (hdb : (x == ("__debug__" : Str)) = false := by decide)
    (he : starEach (e :: es) X.env = (false, eval e X.env) :: starEach es X.env := by rfl) (hpl : (backTo pos (starEach es X.env)).any (·.1) = false := by rfl) :
    PE X (.Call (.Name x p) (e :: es) [] pos) (tCallS sp E t) := by
  obtain ⟨f, fd, e1, e2, e3, e4⟩ := F.ex
  exact pe_callS e4 hr hg e1 e2 e3 hx ha hdb he hpl
end
section
variable {P : Program} {w : World} {K : PySem.W.Frag} {mg : Str → Option Value} {base : Heap}
/-- a def that raises: its surroundings with the way out -/
theorem Df.calX {CX : CXT} {k : Nat} {x : Str} {st : Stmt} {N ps : List Str} {sp : Sp} (D : Df K mg x st) (S : FnScope N ps (defScope st)) (len : ∀ vs H Q E, sp vs H Q E → vs.length = ps.length)
    (hb : ∀ (kV doc pm : Value) (an : Option Addr) (cdv ct : Value) (us : List Value), us.length = ps.length → bindArgs (PySem.W.fnOf x x (defArgs st) (defBody st) (defScope st) .none kV doc pm an cdv ct) ⟨us, []⟩ = pure (ps.zip us))
    (body : ∀ (f : Addr) (cdv : Value) (A : Around) (outer : List Env) (s : Shared) (H : Hp) (vs : List V) (Q : VK) (E : XK), Room k (A.deeper (envOfC x (defScope st) s.heap.objs.size f cdv)) → sp vs H Q E →
      ∃ t, PSs (cxOf CX P w K mg base N x (defScope st) f cdv A outer s H E) (defBody st) t ∧ t { nx := fun _ H' => Q .non H', rt := Q } (start N vs) H) :
    Cal P w K mg base CX (k + 1) x ps sp := by
  obtain ⟨e, fd, F⟩ := D
  exact ⟨_, fd, e, F.kp, FunD.bindsN F hb, FunD.ok F S len (fun cdv A outer s H vs Q E hr h => body _ cdv A outer s H vs Q E hr h)⟩
/-- what never raises of it -/
theorem Cal.calm {k : Nat} {x : Str} {ps : List Str} {sp : Sp} (F : Cal P w K mg base (L2.CX P w) k x ps sp) : Cal P w K mg base CX0 k x ps (fun vs H Q _ => sp vs H Q fun _ _ _ => False) := by
  obtain ⟨f, fd, e1, e2, e3, e4⟩ := F.ex
  refine ⟨f, fd, e1, e2, e3, fun vs H Q E h => e4.len vs H Q _ h, fun A outer s H ar us vs Q E r e b v h => ?_⟩
  refine codeAny_mono (e4.run A outer s H ar us vs Q _ r e b v h) ?_
  intro r s' z
  match r, z with
  | .ok (.ret u), z => exact z
  | .error e, ⟨a, B, H', cls, d, _, _, _, _, _, _, _, z⟩ => exact z.elim
theorem Cal.spm {CX : CXT} {k : Nat} {x : Str} {ps : List Str} {sp sp2 : Sp} (F : Cal P w K mg base CX k x ps sp) (h : ∀ vs H Q E, sp2 vs H Q E → sp vs H Q E) : Cal P w K mg base CX k x ps sp2 := by
  obtain ⟨f, fd, e1, e2, e3, e4⟩ := F.ex
  exact ⟨f, fd, e1, e2, e3, fun vs H Q E z => e4.len vs H Q E (h _ _ _ _ z), fun A outer s H ar us vs Q E r e b v z => e4.run A outer s H ar us vs Q E r e b v (h _ _ _ _ z)⟩
end
section
variable {X : Cx} {CX : CXT} {k : Nat} {ps : List Str} {sp : Sp} {E : XK} {x : Str} {p pos : Pos}
theorem pe_calG0 (F : CalG X.prog X.w X.K X.mg X.base CX k x ps sp) (hr : Room k X.A) (gd : X.A.guards = some []) (hx : Passes CX X E) (hg : Gl X x := by rfl) (hdb : (x == ("__debug__" : Str)) = false := by decide) :
    PE X (.Call (.Name x p) [] [] pos) (tCall sp [] E tNil) := by
  obtain ⟨f, fd, e1, e2, e3, e4⟩ := F.ex
  constructor
  intro pins s σ H Q I h
  refine wpAny_Call_Name_kw (ld_glob I hg e1 ?_ hdb)
  exact PySem.W.callWith_K0 I.kIn e2 (runG (us := []) (vs := []) e4 hr gd e3 .nil hx I .nil h)
end
/-! any values -/
def okB (lo hi : Int) : V → Bool
  | .int i => decide (lo ≤ i ∧ i ≤ hi)
  | _ => false
def okP : V → Bool
  | .str s => inV (.str s) [.str "none", .str "even", .str "odd"]
  | _ => false
/-- the first wrong item -/
def flt (x y z : V) : Option Int := if okB 1 9 x = true then (if okP y = true then (if okB 1 2 z = true then none else some 2) else some 1) else some 0
def Any (K : PySem.W.Frag) (H : Hp) (v : V) : Prop := ∃ n, TyN K H v n
theorem Any.ex {K : PySem.W.Frag} {H H' : Hp} {v : V} (e : Ex H H') (h : Any K H v) : Any K H' v := by
  obtain ⟨n, h⟩ := h
  cases h with
  | non => exact ⟨_, .non⟩
  | bl b => exact ⟨_, .bl b⟩
  | int i => exact ⟨_, .int i⟩
  | str x => exact ⟨_, .str x⟩
  | lst h => exact ⟨_, .lst (ex_l e h)⟩
  | tup h => exact ⟨_, .tup (ex_t e h)⟩
  | dct h => exact ⟨_, .dct (e _ _ h)⟩
end SB
namespace SB
open PySem PySem.Spec PyProof.Rows L2 Evl PySem.HandSPX
/-! several clauses «except C as n», all of them of own classes, and nothing else is raised -/
inductive HdsA (X : Cx) : List ExceptHandler → List (Value × Nat × (Addr → Value → Option Addr → TS)) → Prop where
  | nil : HdsA X [] []
  | cons {x n : Str} {c : Value} {i : Nat} {ts : Addr → Value → Option Addr → TS} {b₀ : Stmt} {suite : List Stmt} {np pos' : Pos} {hds : List ExceptHandler} {l : List (Value × Nat × (Addr → Value → Option Addr → TS))}
      (hg : Gl X x) (hd : (x == ("__debug__" : Str)) = false) (hm : X.mg x = some c) (hi : X.N[i]? = some n) (hk : X.env.kindOf n = some .local) (hfn : X.fn n = true ∨ List.lookup n X.env.scope.names = some .local)
      (hs : ∀ (a : Addr) (oe : Obj) (cls : Value) (d : Option Addr) (pn : List (Addr × Obj)), Zc cls d oe → (∃ vs, oe.data = .fields vs) → PSs (X.suite a ((a, oe) :: pn)) (b₀ :: suite) (ts a cls d))
      (r : HdsA X hds l) : HdsA X (.ExceptHandler (some (.Name x np)) (some n) (b₀ :: suite) pos' :: hds) ((c, i, ts) :: l)
def wManyA (K : PySem.W.Frag) (D : L2.Ends) : List (Value × Nat × (Addr → Value → Option Addr → TS)) → WX
  | [] => fun _ _ _ _ => False
  | (c, i, ts) :: r => fun cls d σ H => ∃ b, PySem.W.exmOne K cls c = some b ∧
      (b = true → ∀ a, H a = none → ts a cls d { nx := fun σ' H' => D.nx (σ'.set i none) H', rt := D.rt, bk := fun σ' H' => D.bk (σ'.set i none) H', ct := fun σ' H' => D.ct (σ'.set i none) H' } (σ.set i (some (.ref a))) H) ∧
      (b = false → wManyA K D r cls d σ H)
theorem frames_ne {h B : Heap} {a : Addr} {oe : Obj} {vs : Array Value} (ha : h.get? a = some oe) (hd : oe.data = .fields vs) : ∀ l : List Env, h.FunFrames B l → a ∉ frs l
  | [], _ => fun z => by simp [frs] at z
  | env :: rest, f => by
    obtain ⟨_, ⟨L, o, hf, _, hL, ho⟩, f2⟩ := f
    have ih := frames_ne ha hd rest f2
    intro z
    unfold frs at z ih
    rw [List.filterMap_cons, hf] at z
    rcases List.mem_cons.mp z with z | z
    · subst z
      rw [ha] at hL
      cases hL
      exact ho vs hd
    · exact ih z
theorem slots_trans {h h' h'' : Heap} (x : h.UpToSlots h') (y : h'.UpToSlots h'') : h.UpToSlots h'' := fun b o e n => by
  obtain ⟨sl, e1⟩ := x b o e n
  obtain ⟨sl2, e2⟩ := y b _ e1 n
  exact ⟨sl2, e2⟩
section
variable {X : Cx}
theorem look_cls {M : Model} {h : Heap} {a : Addr} {oe : Obj} (e : h.get? a = some oe) : PySem.W.Looks M h (typeOf (.ref a)) oe.cls := by
  have X1 : PySem.W.Frag.In [(a, oe)] h := fun b o z => by
    by_cases hb : b = a
    · subst hb
      rw [List.lookup_cons_self] at z
      cases z
      exact e
    · rw [List.lookup_cons, show (b == a) = false from by simpa using hb] at z
      cases z
  refine PySem.W.looks_typeIn X1 ?_
  show Option.map _ (List.lookup a [(a, oe)]) = _
  rw [List.lookup_cons_self]
  rfl
theorem handleA {pins : List (Addr × Obj)} {D : L2.Ends} {hds : List ExceptHandler} {l : List (Value × Nat × (Addr → Value → Option Addr → TS))} (hs : X.stack = X.env :: X.outer) (hf : X.env.frame = some X.env.locals) (hN : X.N.Nodup) (ok : X.Ok)
    {a : Addr} {B : Heap} {sI : Shared} {σ : L2.St} {H : Hp} {cls : Value} {d : Option Addr} (J : Inv X pins σ H sI) (gr : ∀ b o, sI.heap.get? b = some o → b ∉ frs X.stack → B.get? b = some o) (ha : H a = none) :
    HdsA X hds l → ∀ s₁ : Shared, FlyingZ B X.stack a (Zc cls d) s₁.heap → sI.heap.UpToSlots s₁.heap → s₁.os = sI.os → AllBare s₁.gens → wManyA X.K D l cls d σ H →
      wpAny (model X.prog X.w) X.A (handleBy (.ref a) X.env hds) (SP X pins D) X.xe s₁ := by
  intro hh
  induction hh with
  | nil => exact fun _ _ _ _ _ w => w.elim
  | @cons x n c i ts b₀ suite np pos' hds l hg hd hm hi hk hfn hsu r ih =>
    intro s₁ fl up os bare w
    obtain ⟨b, hb, wt, wf⟩ := w
    have J1 : Inv X pins σ H s₁ := J.landed gr fl.1 up os bare
    have ne1 : ∀ {s₂ : Shared} {oe : Obj} {vs : Array Value}, FlyingZ B X.stack a (Zc cls d) s₂.heap → s₂.heap.get? a = some oe → oe.data = .fields vs → a ≠ X.env.locals ∧ a ∉ X.fs := by
      intro s₂ oe vs fl2 e1 e2
      have z := frames_ne e1 e2 _ fl2.2.2.1
      rw [hs] at z
      unfold frs at z
      rw [List.filterMap_cons, hf] at z
      exact ⟨fun q => z (by rw [q]; exact List.mem_cons_self), fun q => z (List.mem_cons_of_mem _ q)⟩
    obtain ⟨oe, vs, e1, e2, e3⟩ := fl.there
    obtain ⟨n1, n2⟩ := ne1 fl e1 e3
    have JS : Inv (X.suite a ((a, oe) :: (X.pn ++ pins))) [] σ H s₁ := J1.suite e1 e3 ha n1 n2
    refine PySem.W.exc_clause_as (ld_glob (X := X.suite a ((a, oe) :: (X.pn ++ pins))) JS hg hm ⟨b, ?_, ?_⟩ hd)
    · have lc := look_cls (M := model X.prog X.w) e1
      rw [e2.1] at lc
      exact PySem.W.exm_one J1.kIn lc hb
    by_cases hbt : b = true
    · rw [if_pos hbt]
      refine lands_againZ fl fun h' fl' up' => ?_
      have up2 := slots_trans up up'
      have J2 : Inv X pins σ H ⟨h', s₁.gens, s₁.drawn, s₁.toks, s₁.os⟩ := J.landed gr fl'.1 up2 os bare
      obtain ⟨oe, vs, e1, e2, e3⟩ := fl'.there
      obtain ⟨n1, n2⟩ := ne1 (s₂ := ⟨h', s₁.gens, s₁.drawn, s₁.toks, s₁.os⟩) fl' e1 e3
      have JS : Inv (X.suite a ((a, oe) :: (X.pn ++ pins))) [] σ H ⟨h', s₁.gens, s₁.drawn, s₁.toks, s₁.os⟩ := J2.suite e1 e3 ha n1 n2
      refine store_ok (X := X.suite a ((a, oe) :: (X.pn ++ pins))) (v := .ref a) JS hN hi (Or.inl hk) rfl (fun s₃ J3 => ?_) hfn
      refine wpAny_mono ((hsu a oe cls d (X.pn ++ pins) e2 ⟨_, e3⟩).run [] s₃ _ _ _ J3 (wt hbt a ha)) ?_ (fun _ _ z => z.elim)
      intro f s₄ z
      cases f with
      | next =>
        obtain ⟨σ', H', J4, q⟩ := z
        exact gone_ok (J4.unsuite ok) hN hi hk fun s' J' => ⟨_, _, J', q⟩
      | brk =>
        obtain ⟨σ', H', J4, q⟩ := z
        exact gone_ok (J4.unsuite ok) hN hi hk fun s' J' => ⟨_, _, J', q⟩
      | cont =>
        obtain ⟨σ', H', J4, q⟩ := z
        exact gone_ok (J4.unsuite ok) hN hi hk fun s' J' => ⟨_, _, J', q⟩
      | ret u =>
        obtain ⟨v, σ', H', J4, rv, q⟩ := z
        exact gone_ok (J4.unsuite ok) hN hi hk fun s' J' => ⟨v, _, _, J', rv, q⟩
    · rw [if_neg hbt]
      exact ih s₁ fl up os bare (wf (by simpa using hbt))
theorem ps_try_manyA {body : List Stmt} {h₀ : ExceptHandler} {hds : List ExceptHandler} {l : List (Value × Nat × (Addr → Value → Option Addr → TS))} {pos : Pos} {tb : WX → TS}
    (hs : X.stack = X.env :: X.outer) (hf : X.env.frame = some X.env.locals) (hN : X.N.Nodup)
    (hb : ∀ (W : WX) (pn : List (Addr × Obj)) (xe : Value → Shared → Prop), Takes (X.tr pn xe) W → PSs (X.tr pn xe) body (tb W)) (hh : HdsA X (h₀ :: hds) l) :
    PS X (.Try body (h₀ :: hds) [] [] pos) (fun D σ H => tb (wManyA X.K D l) D σ H) := by
  constructor
  intro pins s σ H D I h
  refine wpAny_Try_except ?_
  have frm : X.A.frames = some (X.env :: X.outer) := by rw [← hs]; exact I.ok.frames
  refine wpAny_mono ((hb (wManyA X.K D l) (X.pn ++ pins) (fun e s₁ => wpAny (model X.prog X.w) X.A (noteFrame e X.env) (fun _ s₂ => wpAny (model X.prog X.w) X.A (setFlight e none) (fun _ s₃ => wpAny (model X.prog X.w) X.A (handleBy e X.env (h₀ :: hds)) (SP X pins D) X.xe s₃) X.xe s₂) X.xe s₁) ?_).run [] s σ H D (I.toTry _) h) ?_ (fun _ _ z => z)
  · rintro u s' ⟨a, B, sI, pins', σ', H', cls, d, rfl, J, gr, up, sky, ha, os, bare, w⟩
    have J2 : Inv X pins σ' H' sI := J.ofTry I.ok
    refine Sky.land Zc.steady frm hf (by rw [← hs]; exact sky) fun h' fl up' => ?_
    rw [← hs] at fl
    exact handleA hs hf hN I.ok J2 gr ha hh _ fl (slots_trans up up') os bare w
  · intro f s₁ z
    cases f with
    | next =>
      obtain ⟨σ', H', J, q⟩ := z
      exact wpAny_execs_nil ⟨σ', H', J.ofTry I.ok, q⟩
    | brk =>
      obtain ⟨σ', H', J, q⟩ := z
      exact ⟨σ', H', J.ofTry I.ok, q⟩
    | cont =>
      obtain ⟨σ', H', J, q⟩ := z
      exact ⟨σ', H', J.ofTry I.ok, q⟩
    | ret u =>
      obtain ⟨v, σ', H', J, rv, q⟩ := z
      exact ⟨v, σ', H', J.ofTry I.ok, rv, q⟩
end
end SB
namespace SB
open PySem PySem.Spec PyProof.Rows L2 Evl
/-! repr of data that may hold dicts of at most one entry -/
def keyD : Key → PyData
  | .inl i => .int i
  | .inr x => .str x
inductive DpD (K : PySem.W.Frag) (H : Hp) : V → PyData → Prop where
  | old {v : V} {d : PyData} (h : Dp K H v d) (n : d.hasDict = false) : DpD K H v d
  | dct0 {a : Addr} (h : H a = some (.dK [])) : DpD K H (.ref a) (.dict [])
  | dct1 {a : Addr} {k : Key} {v : V} {d : PyData} (h : H a = some (.dK [(k, v)])) (hd : Dp K H v d) (n : d.hasDict = false) : DpD K H (.ref a) (.dict [(keyD k, d)])
  | lst {a : Addr} {xs : List V} {ds : List PyData} (h : SqL K H a xs) (hl : xs.length = ds.length) (hi : ∀ (i : Nat) (v : V) (d : PyData), xs[i]? = some v → ds[i]? = some d → DpD K H v d) : DpD K H (.ref a) (.list ds)
  | tup {a : Addr} {xs : List V} {ds : List PyData} (h : SqT K H a xs) (hl : xs.length = ds.length) (hi : ∀ (i : Nat) (v : V) (d : PyData), xs[i]? = some v → ds[i]? = some d → DpD K H v d) : DpD K H (.ref a) (.tuple ds)
mutual
theorem rdL {h : Heap} {v : Value} {d : PyData} {as : List Addr} (r : Reads h v d as) (n : d.hasDict = false) : ∀ a ∈ as, ∃ o, h.get? a = some o ∧ o.cls = Value.type "list" := by
  cases r with
  | none => intro a z; cases z
  | bool b => intro a z; cases z
  | int i t => intro a z; cases z
  | str x t => intro a z; cases z
  | list e c dd r =>
    intro a z
    rcases List.mem_cons.mp z with rfl | z
    · exact ⟨_, e, c⟩
    · exact rdA r (by simpa [PyData.hasDict] using n) a z
  | tuple e c dd r =>
    intro a z
    exact rdA r (by simpa [PyData.hasDict] using n) a z
  | dict e c dd r1 r2 => simp [PyData.hasDict] at n
theorem rdA {h : Heap} {vs : List Value} {ds : List PyData} {as : List Addr} (r : ReadsAll h vs ds as) (n : PyData.hasDictAll ds = false) : ∀ a ∈ as, ∃ o, h.get? a = some o ∧ o.cls = Value.type "list" := by
  cases r with
  | nil => intro a z; cases z
  | cons r1 r2 =>
    simp only [PyData.hasDictAll, Bool.or_eq_false_iff] at n
    intro a z
    rcases List.mem_append.mp z with z | z
    · exact rdL r1 n.1 a z
    · exact rdA r2 n.2 a z
end
theorem sys_not {h : Heap} {as : List Addr} (hs : ∃ o, h.get? sysModules = some o ∧ o.cls = Value.type "dict") (r : ∀ a ∈ as, ∃ o, h.get? a = some o ∧ o.cls = Value.type "list") : ¬ sysModules ∈ as := fun z => by
  obtain ⟨o, e, c⟩ := r _ z
  obtain ⟨o', e', c'⟩ := hs
  rw [e] at e'
  cases e'
  rw [c] at c'
  simp at c'
theorem key_rd {h : Heap} {k : Key} {u : Value} (e : keyIs k u = true) : Reads h u (keyD k) [] := by
  cases k with
  | inl i =>
    cases u <;> simp [keyIs, Value.isInt] at e
    subst e
    exact .int _ _
  | inr x =>
    cases u <;> simp [keyIs, Value.isStrOf] at e
    subst e
    exact .str _ _
section
variable {X : Cx} {pins : List (Addr × Obj)} {σ : L2.St} {H : Hp} {s : Shared}
theorem all_rd {h : Heap} : ∀ {us : List Value} {ds : List PyData}, us.length = ds.length → (∀ (i : Nat) (u : Value) (d : PyData), us[i]? = some u → ds[i]? = some d → ∃ as, Reads h u d as ∧ ¬ sysModules ∈ as) → ∃ as, ReadsAll h us ds as ∧ ¬ sysModules ∈ as
  | [], [], _, _ => ⟨[], .nil, fun z => by cases z⟩
  | u :: us, d :: ds, hl, hi => by
    obtain ⟨as, r, n⟩ := hi 0 u d rfl rfl
    obtain ⟨bs, r2, n2⟩ := all_rd (us := us) (ds := ds) (by simpa using hl) (fun i u d h1 h2 => hi (i + 1) u d h1 h2)
    exact ⟨as ++ bs, .cons r r2, fun z => (List.mem_append.mp z).elim n n2⟩
theorem vals_at : ∀ {vs : List V} {us : List Value} {i : Nat} {u : Value}, Vals vs us → us[i]? = some u → ∃ v, vs[i]? = some v ∧ RelV v u
  | _, _, 0, _, .cons r _, h => by
    cases h
    exact ⟨_, rfl, r⟩
  | _, _, i + 1, _, .cons _ r, h => vals_at (i := i) r h
theorem readsD (I : Inv X pins σ H s) (hs : ∃ o, s.heap.get? sysModules = some o ∧ o.cls = Value.type "dict") {v : V} {d : PyData} (h : DpD X.K H v d) : ∀ u, RelV v u → ∃ as, Reads s.heap u d as ∧ ¬ sysModules ∈ as := by
  induction h with
  | old h n =>
    intro u r
    obtain ⟨as, rd⟩ := Dp.reads I _ _ u h r
    exact ⟨as, rd, sys_not hs (rdL rd n)⟩
  | dct0 h =>
    intro u r
    cases (show u = Value.ref _ from r)
    obtain ⟨_, ne, vs, kv, o, es, ep, e1, e2, e3, e4, e5, e6⟩ := dk_of I.hok h
    cases kv
    have e : es.toList = [] := by
      cases hh : es.toList with
      | nil => rfl
      | cons x y => rw [hh] at e5; cases e5
    refine ⟨_, .dict (as := []) (bs := []) e1 e2.1 e3 (by rw [e]; exact .nil) (by rw [e]; exact .nil), ?_⟩
    simpa using fun z => by
      have z' : sysModules = _ := z
      rw [z'] at ne
      simp at ne
  | @dct1 a k v d h hd n =>
    intro u r
    cases (show u = Value.ref _ from r)
    obtain ⟨_, ne, vs, kv, o, es, ep, e1, e2, e3, e4, e5, e6⟩ := dk_of I.hok h
    obtain ⟨k', y, rfl, rfl, rv⟩ : ∃ k' y, vs = [(k', y)] ∧ k' = k ∧ RelV v y := by
      cases kv with
      | cons k1 k2 =>
        cases k2
        exact ⟨_, _, rfl, k1.1.symm, k1.2⟩
    obtain ⟨e, ee, ek, ev⟩ : ∃ e, es.toList = [e] ∧ keyIs k' e.key = true ∧ e.val = y := by
      cases hh : es.toList with
      | nil => rw [hh] at e5; cases e5
      | cons x l =>
        rw [hh] at e5
        cases e5 with
        | cons q1 q2 q3 =>
          cases q3
          exact ⟨x, rfl, q1, q2⟩
    obtain ⟨as, rd⟩ := Dp.reads I _ _ y hd rv
    refine ⟨_, .dict (as := [] ++ []) (bs := as ++ []) e1 e2.1 e3 ?_ ?_, ?_⟩
    · rw [ee]
      exact .cons (key_rd ek) .nil
    · rw [ee]
      show ReadsAll _ [e.val] _ _
      rw [ev]
      exact .cons rd .nil
    · have nn := sys_not hs (rdL rd n)
      intro z
      simp only [List.append_nil, List.nil_append, List.mem_append, List.mem_cons, List.not_mem_nil, or_false] at z
      rcases z with z | z
      · rw [z] at ne
        simp at ne
      · exact nn z
  | lst h hl hi ih =>
    intro u r
    cases (show u = Value.ref _ from r)
    obtain ⟨its, vl, pl, _⟩ := I.list h
    obtain ⟨as, rd, nn⟩ := all_rd (h := s.heap) (us := its) (by rw [← vl.length, hl]) fun i u d h1 h2 => by
      obtain ⟨v, hv, rv⟩ := vals_at vl h1
      exact ih i v d hv h2 u rv
    obtain ⟨o, nn2, e1, e2, _, e3⟩ := pl
    refine ⟨_, .list e1 e2 e3 rd, fun z => ?_⟩
    rcases List.mem_cons.mp z with z | z
    · obtain ⟨o', e', c'⟩ := hs
      rw [z, e1] at e'
      cases e'
      rw [e2] at c'
      simp at c'
    · exact nn z
  | tup h hl hi ih =>
    intro u r
    cases (show u = Value.ref _ from r)
    obtain ⟨its, vl, pl, _⟩ := I.tuple h
    obtain ⟨as, rd, nn⟩ := all_rd (h := s.heap) (us := its) (by rw [← vl.length, hl]) fun i u d h1 h2 => by
      obtain ⟨v, hv, rv⟩ := vals_at vl h1
      exact ih i v d hv h2 u rv
    obtain ⟨o, e1, e2, nn2, e3⟩ := pl
    exact ⟨_, .tuple e1 e2 e3 rd, nn⟩
end
/-- what repr asks of data -/
def Shw (d : PyData) : Prop := d.showable = true ∧ d.depth ≤ 60 ∧ d.shown.length ≤ sizeLine
def rRd (K : PySem.W.Frag) : List V → Hp → VK → Prop := fun xs H Q => ∃ v d, xs = [v] ∧ DpD K H v d ∧ Shw d ∧ Q (.str d.shown) H
def SysK (K : PySem.W.Frag) : Prop := ∃ o, K.lookup sysModules = some o ∧ o.cls = Value.type "dict"
def sysB (K : PySem.W.Frag) : Bool := match K.lookup sysModules with
  | some ⟨.type n, _, _, _⟩ => n == "dict"
  | _ => false
theorem sys_ok {K : PySem.W.Frag} (h : sysB K = true) : SysK K := by
  unfold sysB at h
  split at h
  · rename_i n a b c e
    have q := beq_iff_eq.mp h
    subst q
    exact ⟨_, e, rfl⟩
  · cases h
theorem call_rd {X : Cx} (sy : SysK X.K) (hg : X.A.guards = some []) (hu : X.A.units + 64 < cLine) : CallR X (.builtin "repr") (rRd X.K) := by
  intro pins s σ H xs us Q I r h
  obtain ⟨v, d, rfl, hd, ⟨h1, h3, h4⟩, q⟩ := h
  by_cases hn : d.hasDict = false ∧ Dp X.K H v d
  · exact call_rp hg hu pins s σ H [v] us Q I r ⟨v, d, rfl, hn.2, h1, hn.1, h3, h4, q⟩
  obtain ⟨u, rfl, ru⟩ := vals1 r
  have hs : ∃ o, s.heap.get? sysModules = some o ∧ o.cls = Value.type "dict" := by
    obtain ⟨o, e, c⟩ := sy
    exact ⟨o, I.kIn _ _ e, c⟩
  obtain ⟨as, rd, nn⟩ := readsD I hs hd u ru
  have fin : ∀ a, u = Value.ref a → wpAny (model X.prog X.w) X.A (call (.builtin "repr") [u]) (EP X pins σ Q) X.xe s := by
    intro a e
    subst e
    exact PySem.repr_of_reads' rd h1 (fun _ => nn) hg (by omega) (fun _ _ e => e) (fun h' u tk hk => ⟨.str _, H, I.kept hk, ⟨_, rfl⟩, q⟩) h4
  cases hd with
  | old h n => exact absurd ⟨n, h⟩ hn
  | dct0 h => exact fin _ ru
  | dct1 h hd n => exact fin _ ru
  | lst h hl hi => exact fin _ ru
  | tup h hl hi => exact fin _ ru
end SB
namespace SB
open PySem PySem.Spec PyProof.Rows L2 Evl
/-! isinstance of a caught own error, its fields -/
structure IsT (K : PySem.W.Frag) (C : Addr) : Prop where
  cl : (PySem.W.clsIn K C).isSome = true
  xf : XfC K C
  ca : PySem.W.findIn K (.ref C) "__class__" = some (some (.builtin "object.__class__"))
  sp : PySem.W.specialIn K (.builtin "object.__class__") "__get__" = some (some (.builtin "getset_descriptor.__get__"))
  tk : PySem.W.takesIn K (.builtin "object.__class__") = some true
  mo : PySem.W.mroIn K C (.type "object") = some true
def istB (K : PySem.W.Frag) (C : Addr) : Bool :=
  (PySem.W.clsIn K C).isSome && EXS.isBi (PySem.W.findIn K (.ref C) "__getattribute__") "BaseException.__getattribute__" && EXS.isNo (PySem.W.findIn K (.ref C) "__getattr__") && (PySem.W.subIn K (.ref C) (.type "BaseException") == some true) && PySem.W.hasDictIn K C &&
    EXS.isBi (PySem.W.findIn K (.ref C) "__class__") "object.__class__" && EXS.isBi (PySem.W.specialIn K (.builtin "object.__class__") "__get__") "getset_descriptor.__get__" && (PySem.W.takesIn K (.builtin "object.__class__") == some true) && (PySem.W.mroIn K C (.type "object") == some true)
theorem ist_ok {K : PySem.W.Frag} {C : Addr} (h : istB K C = true) : IsT K C := by
  unfold istB at h
  simp only [Bool.and_eq_true, beq_iff_eq] at h
  obtain ⟨⟨⟨⟨⟨⟨⟨⟨h1, h2⟩, h3⟩, h4⟩, h5⟩, h6⟩, h7⟩, h8⟩, h9⟩ := h
  exact ⟨h1, ⟨EXS.isBi_ok h2, EXS.isNo_ok h3, h4, h5⟩, EXS.isBi_ok h6, EXS.isBi_ok h7, h8, h9⟩
/-- the error's own dict, if it has one, is told of -/
def HasD (H : Hp) : Option Addr → Prop
  | none => True
  | some dx => ∃ fs, H dx = some (.xd fs)
def rIsX (K : PySem.W.Frag) (a : Addr) (cls : Value) (d : Option Addr) : List V → Hp → VK → Prop := fun xs H Q => ∃ (D L : Addr) (b : Bool), xs = [.ref a, .ref L] ∧ cls = .ref D ∧ IsT K D ∧ HasD H d ∧ PySem.W.kitOne K (.ref D) (.ref L) = some b ∧ Q (.bl b) H
theorem call_isX {X : Cx} {a : Addr} {oe : Obj} {cls : Value} {d : Option Addr} {pn : List (Addr × Obj)} (hz : Zc cls d oe) (hf : ∃ vs, oe.data = .fields vs) : CallR (X.suite a ((a, oe) :: pn)) (.builtin "isinstance") (rIsX X.K a cls d) := by
  intro pins s σ H xs us Q I r h
  obtain ⟨D, L, b, rfl, rfl, T, hd, hk, q⟩ := h
  obtain ⟨u1, u2, rfl, r1, r2⟩ : ∃ u1 u2, us = [u1, u2] ∧ RelV (.ref a) u1 ∧ RelV (.ref L) u2 := by
    cases r with
    | cons r1 r2 =>
      cases r2 with
      | cons r2 r3 =>
        cases r3
        exact ⟨_, _, rfl, r1, r2⟩
  cases (show u1 = Value.ref _ from r1)
  cases (show u2 = Value.ref _ from r2)
  obtain ⟨ha, _⟩ := I.pin (a, oe) (List.mem_append_left _ List.mem_cons_self)
  obtain ⟨vs, hdat⟩ := hf
  have nc : PySem.W.notCls oe = true := by
    unfold PySem.W.notCls
    rw [hdat]
  obtain ⟨od, J⟩ : ∃ od, PySem.W.InstAt s.heap a oe D od := by
    cases d with
    | none => exact ⟨none, ha, hz.1, nc, by rw [hz.2]; trivial⟩
    | some dx =>
      obtain ⟨fs, hx⟩ := hd
      obtain ⟨mA, hns, _⟩ := (I.hok dx _ hx : ObjOk X.prog X.w H s.heap dx (.xd fs))
      obtain ⟨od, ho, _⟩ := lookIn_ns hns
      exact ⟨some od, ha, hz.1, nc, by rw [hz.2]; exact ho⟩
  exact PySem.W.kia_one (PySem.W.kitx_exc (od := od) T.cl T.xf.ga T.xf.gg T.xf.exC T.ca T.sp T.tk T.mo) I.kIn J hk (fun z => by cases z) fun tk => ⟨.bl b, H, I.tok _, rfl, q⟩
end SB
namespace SB
open PySem PySem.Spec PyProof.Rows L2 Evl
/-! rules within a comprehension: their readings speak of the def's own frame of data, not of the block's -/
section
variable {X : Cx} {K0 : PySem.W.Frag}
theorem ixL_K (h : X.K = K0) : IxR X (rIxL K0) := h ▸ ix_list
theorem ixT_K (h : X.K = K0) : IxR X (rIxT K0) := h ▸ ix_tup
theorem slL_K (h : X.K = K0) : L2.SlR X (rSlL K0) := h ▸ sl_list
theorem inS_K (h : X.K = K0) : OpR X (compareOp .In) (rIn K0 false) := h ▸ op_in_seq
theorem niS_K (h : X.K = K0) : OpR X (compareOp .NotIn) (rIn K0 true) := h ▸ op_notIn_seq
theorem eqD_K (h : X.K = K0) (hu : X.A.units + 64 < cLine) : OpR X (compareOp .Eq) (rEqD K0) := h ▸ op_eqD hu
theorem neD_K (h : X.K = K0) (hu : X.A.units + 64 < cLine) : OpR X (compareOp .NotEq) (rNeD K0) := h ▸ op_neD hu
theorem rd_K (h : X.K = K0) (sy : SysK K0) (hg : X.A.guards = some []) (hu : X.A.units + 64 < cLine) : CallR X (.builtin "repr") (rRd K0) := by
  subst h
  exact call_rd sy hg hu
theorem rp_K (h : X.K = K0) (hg : X.A.guards = some []) (hu : X.A.units + 64 < cLine) : CallR X (.builtin "repr") (rRp K0) := by
  subst h
  exact call_rp hg hu
end
end SB
/-! PL7: readings that can be shown; sums of bits of what was seen -/
namespace PL
open PySem PySem.Spec PyProof.Rows L2 Evl SB PW
theorem sum_K {X : L2.Cx} {K0 : PySem.W.Frag} (h : X.K = K0) (hc : X.calm = true) : CallR X (.builtin "sum") (rSum K0) := h ▸ cr_sum hc
theorem len_K {X : L2.Cx} {K0 : PySem.W.Frag} (h : X.K = K0) : CallR X (.builtin "len") (fun xs H Q => ∃ p ys, xs = [V.ref p] ∧ (SqL K0 H p ys ∨ SqT K0 H p ys) ∧ Q (V.int (ys.length : Nat)) H) := h ▸ call_len_seq
theorem sh_rd {L : Ln} {look : Int} {r : Int × Str × Int} (h : RdOk L look r) (b0 : -(2 ^ 235) < look) (b1 : look < 2 ^ 235) (hg : L.g < 2 ^ 100) (hs : ∀ x ∈ L.sg, x < 2 ^ 235) : Sh 735 1 (rdD r) := by
  have hb := L.b9
  have p9 : (2 : Int) ^ L.b ≤ 512 := by
    have e : (2 : Int) ^ L.b = ((2 ^ L.b : Nat) : Int) := by norm_cast
    have : (2 : Nat) ^ L.b ≤ 2 ^ 9 := Nat.pow_le_pow_right (by decide) hb
    omega
  have ge := h.ge
  have n0 := h.n0
  have n1 := h.n1
  have lt : r.1 < 2 ^ 240 := by
    rcases h.lt with e | ⟨c, hc, e⟩
    · omega
    · have := hs c hc
      omega
  refine sh_tup (m := 242) (dp := 0) (k := 3) (fun d hd => ?_) (Nat.le_refl _)
  simp only [List.mem_cons, List.not_mem_nil, or_false] at hd
  rcases hd with rfl | rfl | rfl
  · exact sh_int (by omega)
  · exact sh_word h.wd
  · exact sh_int (by omega)
theorem rds_len (L : Ln) (look : Int) : (rds L look).length ≤ L.sg.length + 1 := by
  unfold rds
  exact Nat.le_trans (List.length_filterMap_le _ _) (Nat.le_trans (run_len L _ look (Nat.le_refl _)) (by omega))
theorem shw_rds {L : Ln} {look : Int} (lok : LnOk L) (b0 : -(2 ^ 235) < look) (b1 : look < 2 ^ 235) (hs : ∀ x ∈ L.sg, x < 2 ^ 235) : Sh 7371000 2 (.list ((rds L look).map rdD)) := by
  refine (sh_lst (m := 735) (dp := 1) (k := 10001) (fun d hd => ?_) ?_).mono (by decide) (by decide)
  · obtain ⟨r, hr, rfl⟩ := List.mem_map.mp hd
    exact sh_rd (rds_ok L _ look (Nat.le_refl _) r hr) b0 b1 lok.1.2.2.2.1 hs
  · rw [List.length_map]
    have := rds_len L look
    have := lok.2
    omega
/-- sum([seen[1 + k] << k for k in range(n)]) -/
theorem e_numsum {K : PySem.W.Frag} {ρ : List Sl} {i k : Nat} {tb : TE} {ls : List Int} {b : Nat} (hs : ρ[i]? = some (.sh (.list (dI ls)))) (hb : E K tb ρ (.int (b : Int))) (h9 : b ≤ 60) (hl : 1 + b ≤ ls.length) (h01 : All01 ls) (hik : i ≠ k) (hk : k < ρ.length) :
    E K (tCB (rSum K) (tCons (tLc (iRng1 (tCons tb tNil)) (gName k) tYes (tOp (rI CPow fun i j => V.int (i * 2 ^ j.toNat)) (tOp (rIxL K) (tVar i) (tOp (rI0 fun i j => V.int (i + j)) (tC (.int 1)) (tVar k))) (tVar k)) [k]) tNil)) ρ (.int (num ((ls.drop 1).take b))) := by
  refine e_eq (e_cb (ea_cons (eo_e (eo_eq (eo_lc (ei_r1 (ea_cons hb ea_nil) (by omega)) (fun d => match d with | .int j => some (.int (ls.getD (1 + j.toNat) 0 * 2 ^ j.toNat)) | _ => none) (by rw [rg0_len]; omega) ?_) (es := dI ((List.range b).map fun j => ls.getD (1 + j) 0 * 2 ^ j)) ?_)) ea_nil) cb_sum) ?_
  · intro d hd
    obtain ⟨j, hj⟩ := List.mem_iff_getElem?.mp hd
    obtain ⟨lt, rfl⟩ := rg0_get hj
    have hx : ls[1 + j]? = some (ls[1 + j]'(by omega)) := List.getElem?_eq_getElem _
    have z01 := h01 _ (List.mem_of_getElem? hx)
    have e1 : (1 : Int) + (j : Int) = ((1 + j : Nat) : Int) := by omega
    have v1 : ((wipeS ρ [k]).set k (.sh (.int (j : Int))))[i]? = some (.sh (.list (dI ls))) := by
      rw [List.getElem?_set_ne (Ne.symm hik)]
      show (ρ.set k .un)[i]? = _
      rw [List.getElem?_set_ne (Ne.symm hik)]
      exact hs
    have v2 : ((wipeS ρ [k]).set k (.sh (.int (j : Int))))[k]? = some (.sh (.int (j : Int))) := List.getElem?_set_self (by show k < (ρ.set k .un).length; rw [List.length_set]; exact hk)
    refine gc_name (hi := by simp) ⟨true, et_yes, fun _ => ⟨_, e_op (e_op (e_var v1) (e_op e_int (e_var v2) oe_i) (oe_ixL (by rw [e1]; exact atI_dI hx))) (e_var v2) (oe_iC ⟨by omega, by omega, ?_⟩), ?_⟩, fun h => nomatch h⟩
    · rcases z01 with e | e <;> rw [e] <;> decide
    · show some (PyData.int (ls.getD (1 + (j : Int).toNat) 0 * 2 ^ (j : Int).toNat)) = _
      rw [Int.toNat_natCast, List.getD_eq_getElem?_getD, hx]
      rfl
  · rw [rg0_fm (g := fun j => ls.getD (1 + j) 0 * 2 ^ j) (fun j => by simp), Int.toNat_natCast]
  · congr 1
    rw [← num_range (l := (ls.drop 1).take b) (b := b) (by rw [List.length_take, List.length_drop]; omega)]
    congr 1
    refine List.map_congr_left fun j hj => ?_
    have := List.mem_range.mp hj
    congr 1
    rw [List.getD_eq_getElem?_getD, List.getD_eq_getElem?_getD, List.getElem?_take, if_pos this, List.getElem?_drop]
theorem eqv_empty (ds : List PyData) : PyData.eqv (.list ds) (.list []) = ds.isEmpty := by
  cases ds with
  | nil => decide +kernel
  | cons d ds => rfl
end PL
namespace PL
open PySem PySem.Spec PyProof.Rows L2 Evl SB PW
/-- data that can be compared -/
structure Ly (dp : Nat) (d : PyData) : Prop where
  c : d.canLay0 = true
  dp : d.depth ≤ dp
theorem Ly.sh {dp : Nat} {d : PyData} (h : Ly dp d) (h1 : dp ≤ 64 := by decide) : SeqAt.shaped d = true := by
  unfold SeqAt.shaped
  rw [Bool.and_eq_true]
  exact ⟨h.c, decide_eq_true (by have := h.dp; omega)⟩
theorem ly_int {i : Int} : Ly 0 (.int i) := ⟨rfl, Nat.zero_le _⟩
theorem ly_bool {b : Bool} : Ly 0 (.bool b) := ⟨rfl, Nat.zero_le _⟩
theorem ly_non : Ly 0 .none := ⟨rfl, Nat.zero_le _⟩
theorem ly_str {x : Str} (h : PyData.canLay0 (.str x) = true) : Ly 0 (.str x) := ⟨h, Nat.zero_le _⟩
theorem ly_word {x : Str} (h : isWord x) : Ly 0 (.str x) := by
  rcases h with rfl | rfl | rfl | rfl <;> exact ly_str (by decide +kernel)
theorem lyAll {dp : Nat} : ∀ {ds : List PyData}, (∀ d ∈ ds, Ly dp d) → PyData.canLayAll0 ds = true ∧ PyData.depthAll ds ≤ dp
  | [], _ => ⟨rfl, Nat.zero_le _⟩
  | d :: ds, h => by
    obtain ⟨h1, h2⟩ := lyAll fun x hx => h x (List.mem_cons_of_mem _ hx)
    obtain ⟨g1, g2⟩ := h d (List.mem_cons_self ..)
    refine ⟨?_, ?_⟩
    · simp only [PyData.canLayAll0, g1, h1, Bool.and_true]
    · simp only [PyData.depthAll]
      omega
theorem ly_lst {dp : Nat} {ds : List PyData} (h : ∀ d ∈ ds, Ly dp d) : Ly (dp + 1) (.list ds) := by
  obtain ⟨h1, h2⟩ := lyAll h
  refine ⟨?_, ?_⟩
  · simp only [PyData.canLay0, h1]
  · simp only [PyData.depth]
    omega
theorem ly_tup {dp : Nat} {ds : List PyData} (h : ∀ d ∈ ds, Ly dp d) : Ly (dp + 1) (.tuple ds) := by
  obtain ⟨h1, h2⟩ := lyAll h
  refine ⟨?_, ?_⟩
  · simp only [PyData.canLay0, h1]
  · simp only [PyData.depth]
    omega
theorem ly_rd {r : Int × Str × Int} (h : isWord r.2.1) : Ly 1 (rdD r) := ly_tup fun d hd => by
  simp only [List.mem_cons, List.not_mem_nil, or_false] at hd
  rcases hd with rfl | rfl | rfl
  · exact ly_int
  · exact ly_word h
  · exact ly_int
theorem ly_rdl {l : List (Int × Str × Int)} (h : ∀ r ∈ l, isWord r.2.1) : Ly 2 (.list (l.map rdD)) := ly_lst fun d hd => by
  obtain ⟨r, hr, rfl⟩ := List.mem_map.mp hd
  exact ly_rd (h r hr)
theorem ly_rds (L : Ln) (look : Int) : Ly 2 (.list ((rds L look).map rdD)) := ly_rdl fun r hr => (rds_ok L _ look (Nat.le_refl _) r hr).wd
end PL
/-! PL8: calls by keyword; more helpers of laws -/
namespace PL
open PySem PySem.Spec PyProof.Rows L2 Evl SB PW
theorem VdAll.gt {K : PySem.W.Frag} {F : Hp} : ∀ {vs : List V} {ds : List PyData} (i : Nat), VdAll K F vs ds → (vs[i]? = none ∧ ds[i]? = none) ∨ ∃ v d, vs[i]? = some v ∧ ds[i]? = some d ∧ Vd K F v d
  | _, _, i, .nil => .inl ⟨rfl, rfl⟩
  | _, _, 0, .cons h _ => .inr ⟨_, _, rfl, rfl, h⟩
  | _, _, i + 1, .cons _ t => by
    rcases VdAll.gt i t with ⟨a, b⟩ | ⟨v, d, a, b, c⟩
    · exact .inl ⟨by simpa using a, by simpa using b⟩
    · exact .inr ⟨v, d, by simpa using a, by simpa using b, c⟩
/-- arguments by keyword -/
theorem vd_perm {K : PySem.W.Frag} {F : Hp} {vs : List V} {ds es : List PyData} (perm : List Nat) (h : VdAll K F vs ds) (e : gPm perm [] ds = es) : VdAll K F (gPm perm [] vs) es := by
  subst e
  unfold gPm
  have l := h.len
  by_cases q : vs.length = perm.length
  · rw [if_pos ⟨rfl, q⟩, if_pos ⟨rfl, by rw [← l]; exact q⟩]
    clear q
    induction perm with
    | nil => exact .nil
    | cons i ps ih =>
      rcases VdAll.gt i h with ⟨a, b⟩ | ⟨v, d, a, b, c⟩
      · rw [List.filterMap_cons_none a, List.filterMap_cons_none b]
        exact ih
      · rw [List.filterMap_cons_some a, List.filterMap_cons_some b]
        exact .cons c ih
  · rw [if_neg (fun z => q z.2), if_neg (fun z => q (by rw [l]; exact z.2))]
    exact .nil
section
variable {K : PySem.W.Frag} {ρ : List Sl} {te : TE} {tt tu : TT} {QT : Bool → List Sl → Prop}
theorem wt_test (h : W K te ρ fun d ρ2 => ∃ b, d = .bool b ∧ QT b ρ2) : WT K (tTest te) ρ QT := fun c F H σ st en Q' k =>
  h c F H σ st en _ fun v F2 H2 d ρ2 e2 s2 n2 k2 v2 q2 => by
    obtain ⟨b, rfl, q⟩ := q2
    cases v2
    exact ⟨b, rfl, k b F2 H2 ρ2 e2 s2 n2 k2 q⟩
theorem wt_B (h : W K te ρ fun d ρ2 => ∃ b, d = .bool b ∧ QT b ρ2) : WT K (tB te) ρ QT := fun c F H σ st en Q' k =>
  h c F H σ st en _ fun v F2 H2 d ρ2 e2 s2 n2 k2 v2 q2 => by
    obtain ⟨b, rfl, q⟩ := q2
    cases v2
    exact ⟨b, rfl, k b F2 H2 ρ2 e2 s2 n2 k2 q⟩
theorem wt_not (h : WT K tt ρ fun b ρ2 => QT (!b) ρ2) : WT K (tNot tt) ρ QT := fun c F H σ st en Q' k =>
  h c F H σ st en _ fun b F2 H2 ρ2 e2 s2 n2 k2 q2 => k (!b) F2 H2 ρ2 e2 s2 n2 k2 q2
theorem wt_and (h : WT K tt ρ fun a ρ2 => (a = true → WT K tu ρ2 QT) ∧ (a = false → QT false ρ2)) : WT K (tAnd tt tu) ρ QT := fun c F H σ st en Q' k =>
  h c F H σ st en _ fun a F2 H2 ρ2 e2 s2 n2 k2 q2 => by
    cases a with
    | true =>
      rw [if_pos rfl]
      exact q2.1 rfl c F2 H2 σ s2 n2 Q' fun b F3 H3 ρ3 e3 s3 n3 k3 q3 => k b F3 H3 ρ3 (e2.trans e3) s3 n3 (k2.trans k3) q3
    | false =>
      rw [if_neg Bool.false_ne_true]
      exact k false F2 H2 ρ2 e2 s2 n2 k2 (q2.2 rfl)
theorem wt_or (h : WT K tt ρ fun a ρ2 => (a = true → QT true ρ2) ∧ (a = false → WT K tu ρ2 QT)) : WT K (tOr tt tu) ρ QT := fun c F H σ st en Q' k =>
  h c F H σ st en _ fun a F2 H2 ρ2 e2 s2 n2 k2 q2 => by
    cases a with
    | true =>
      rw [if_pos rfl]
      exact k true F2 H2 ρ2 e2 s2 n2 k2 (q2.1 rfl)
    | false =>
      rw [if_neg Bool.false_ne_true]
      exact q2.2 rfl c F2 H2 σ s2 n2 Q' fun b F3 H3 ρ3 e3 s3 n3 k3 q3 => k b F3 H3 ρ3 (e2.trans e3) s3 n3 (k2.trans k3) q3
end
/-! what receivers read, worked out -/
def fseeF (L : Ln) (l : Int) : Nat → Int → Option (Option Int)
  | 0, _ => none
  | n + 1, look => if lv L.sg look = l then some (some look) else match L.sg[cnt L.sg look]? with
    | none => some none
    | some c => fseeF L l n (nxt L.g c look)
theorem fseeF_ok {L : Ln} {l : Int} : ∀ {n : Nat} {look : Int} {o : Option Int}, fseeF L l n look = some o → fsee L l look = o
  | 0, _, _, h => nomatch h
  | n + 1, look, o, h => by
    unfold fseeF at h
    by_cases e : lv L.sg look = l
    · rw [if_pos e] at h
      cases h
      exact fsee_here e
    · rw [if_neg e] at h
      cases hc : L.sg[cnt L.sg look]? with
      | none =>
        rw [hc] at h
        cases h
        exact fsee_end e hc
      | some c =>
        rw [hc] at h
        rw [fsee_next e hc]
        exact fseeF_ok h
def idleF (L : Ln) (n : Nat) (f : Fr) : Option (Option Int) := if bad f.word then (fseeF L 1 n (f.stop + L.g)).map fun o => o.map fun q => q + L.g else some (some (f.stop + L.g))
theorem idleF_ok {L : Ln} {n : Nat} {f : Fr} {o : Option Int} (h : idleF L n f = some o) : idle L f = o := by
  unfold idleF at h
  unfold idle
  by_cases e : bad f.word = true
  · rw [if_pos e] at h
    rw [if_pos e]
    obtain ⟨x, hx, rfl⟩ := Option.map_eq_some_iff.mp h
    rw [fseeF_ok hx]
  · rw [if_neg e] at h
    rw [if_neg e]
    cases h
    rfl
def runF (L : Ln) : Nat → Int → Option (List Fr)
  | 0, _ => none
  | n + 1, look => match fseeF L 0 (n + 1) look with
    | none => none
    | some none => some []
    | some (some s) => match idleF L (n + 1) (fram L s) with
      | none => none
      | some none => some [fram L s]
      | some (some x) => (runF L n x).map fun l => fram L s :: l
theorem runF_ok {L : Ln} : ∀ {n : Nat} {look : Int} {l : List Fr}, runF L n look = some l → run L look = l
  | 0, _, _, h => nomatch h
  | n + 1, look, l, h => by
    unfold runF at h
    cases h1 : fseeF L 0 (n + 1) look with
    | none => rw [h1] at h; cases h
    | some o =>
      rw [h1] at h
      cases o with
      | none =>
        cases h
        exact run_none (fseeF_ok h1)
      | some s =>
        rw [run_some (fseeF_ok h1)]
        cases h2 : idleF L (n + 1) (fram L s) with
        | none => simp only [h2] at h; cases h
        | some o2 =>
          simp only [h2] at h
          rw [idleF_ok h2]
          cases o2 with
          | none =>
            cases h
            rfl
          | some x =>
            obtain ⟨l2, h3, rfl⟩ := Option.map_eq_some_iff.mp h
            rw [← runF_ok h3]
            rfl
theorem rdsF {L : Ln} {look : Int} {l : List (Int × Str × Int)} (n : Nat) (h : (runF L n look).map (fun fs => fs.filterMap rdg) = some l) : rds L look = l := by
  obtain ⟨fs, h1, rfl⟩ := Option.map_eq_some_iff.mp h
  unfold rds
  rw [runF_ok h1]
end PL
/-! PW4: all ticks times a number, and moved -/
namespace PW
open PySem PySem.Spec PyProof.Rows L2 Evl SB PL
section
variable (k m : Int)
theorem cnt_sc {k m : Int} (hk : 1 ≤ k) (sg : List Int) (t : Int) : cnt (sg.map fun x => x * k + m) (t * k + m) = cnt sg t := by
  unfold cnt
  rw [List.filter_map, List.length_map]
  refine congrArg (fun p => (List.filter p sg).length) (funext fun x => ?_)
  show decide (x * k + m ≤ t * k + m) = decide (x ≤ t)
  rw [decide_eq_decide]
  constructor
  · intro h
    refine Classical.byContradiction fun z => ?_
    have : (t + 1) * k ≤ x * k := Int.mul_le_mul_of_nonneg_right (by omega) (by omega)
    rw [Int.add_mul] at this
    omega
  · intro h
    have : x * k ≤ t * k := Int.mul_le_mul_of_nonneg_right h (by omega)
    omega
theorem lv_sc {k m : Int} (hk : 1 ≤ k) (sg : List Int) (t : Int) : lv (sg.map fun x => x * k + m) (t * k + m) = lv sg t := by
  unfold lv
  rw [cnt_sc hk]
theorem asc_sc {k m : Int} (hk : 1 ≤ k) {sg : List Int} (h : Asc sg) : Asc (sg.map fun x => x * k + m) := by
  unfold Asc
  rw [List.pairwise_map]
  refine List.Pairwise.imp (fun {a b} h => ?_) h
  have : (a + 1) * k ≤ b * k := Int.mul_le_mul_of_nonneg_right (by omega) (by omega)
  rw [Int.add_mul] at this
  omega
theorem nxt_sc {k m : Int} (hk : 1 ≤ k) (g c l : Int) : nxt (g * k) (c * k + m) (l * k + m) = nxt g c l * k + m := by
  unfold nxt
  have e : l * k + m - (c * k + m) = k * (l - c) := by rw [Int.mul_sub, Int.mul_comm k, Int.mul_comm k]; omega
  rw [e, Int.mul_comm g k, Int.mul_emod_mul_of_pos _ _ (by omega), Int.add_mul, Int.mul_comm ((l - c) % g) k]
  omega
end
/-- the line and the receiver with all ticks times k, and moved by m -/
def scl (L : Ln) (k m : Int) (hk : 1 ≤ k) : Ln := { L with g := L.g * k, sg := L.sg.map fun x => x * k + m, g1 := (by have h := L.g1; have : 1 * 1 ≤ L.g * k := Int.mul_le_mul h hk (by omega) (by omega); omega), asc := asc_sc hk L.asc }
def frS (k m : Int) (f : Fr) : Fr := ⟨f.start * k + m, f.stop * k + m, f.word, f.number⟩
section
variable {L : Ln} {k m : Int} (hk : 1 ≤ k)
include hk
theorem fsee_sc {l : Int} : ∀ (n : Nat) (t : Int), L.sg.length - cnt L.sg t ≤ n → fsee (scl L k m hk) l (t * k + m) = (fsee L l t).map fun x => x * k + m
  | n, t, hn => by
    have el : lv (scl L k m hk).sg (t * k + m) = lv L.sg t := lv_sc hk _ _
    have ec : cnt (scl L k m hk).sg (t * k + m) = cnt L.sg t := cnt_sc hk _ _
    by_cases h : lv L.sg t = l
    · rw [fsee_here h, fsee_here (el.trans h)]
      rfl
    · have h' : lv (scl L k m hk).sg (t * k + m) ≠ l := by rw [el]; exact h
      have eg : (scl L k m hk).sg[cnt (scl L k m hk).sg (t * k + m)]? = (L.sg[cnt L.sg t]?).map fun x => x * k + m := by
        rw [ec]
        exact List.getElem?_map
      cases hc : L.sg[cnt L.sg t]? with
      | none =>
        rw [hc] at eg
        rw [fsee_end h hc, fsee_end h' eg]
        rfl
      | some c =>
        rw [hc] at eg
        rw [fsee_next h hc, fsee_next h' eg]
        show fsee _ _ (nxt (L.g * k) (c * k + m) (t * k + m)) = _
        rw [nxt_sc hk]
        have h1 := cnt_up L.asc hc (nxt_ge (look := t) L.g1)
        have h2 := cnt_le L.sg (nxt L.g c t)
        match n, hn with
        | 0, hn => omega
        | n + 1, hn => exact fsee_sc n _ (by omega)
theorem lk_sc (s : Int) (i : Nat) : lk (scl L k m hk) (s * k + m) i = lk L s i * k + m := by
  show s * k + m + L.g * k * (L.w + L.st * (i : Int)) = (s + L.g * (L.w + L.st * (i : Int))) * k + m
  rw [Int.add_mul, Int.mul_assoc L.g k, Int.mul_comm k, ← Int.mul_assoc]
  omega
theorem lvs_sc (s : Int) : lvs (scl L k m hk) (s * k + m) = lvs L s := by
  unfold lvs
  refine List.map_congr_left fun i hi => ?_
  rw [lk_sc hk]
  exact lv_sc hk _ _
theorem fram_sc (s : Int) : fram (scl L k m hk) (s * k + m) = frS k m (fram L s) := by
  unfold fram
  rw [lk_sc hk, lvs_sc hk]
  have e : lv (scl L k m hk).sg (lk L s 0 * k + m) = lv L.sg (lk L s 0) := lv_sc hk _ _
  rw [e]
  split
  · rfl
  · show (⟨_, lk (scl L k m hk) (s * k + m) _, _, _⟩ : Fr) = _
    rw [lk_sc hk]
    rfl
theorem idle_sc (f : Fr) : idle (scl L k m hk) (frS k m f) = (idle L f).map fun x => x * k + m := by
  unfold idle
  have e : (frS k m f).stop + (scl L k m hk).g = (f.stop + L.g) * k + m := by
    show f.stop * k + m + L.g * k = _
    rw [Int.add_mul]
    omega
  show (if bad f.word then _ else _) = _
  rw [e]
  split
  · rw [fsee_sc hk _ _ (Nat.le_refl _), Option.map_map, Option.map_map]
    refine congrFun (congrArg Option.map (funext fun x => ?_)) _
    show x * k + m + L.g * k = (x + L.g) * k + m
    rw [Int.add_mul]
    omega
  · rfl
theorem run_sc : ∀ (n : Nat) (t : Int), L.sg.length - cnt L.sg t ≤ n → run (scl L k m hk) (t * k + m) = (run L t).map (frS k m)
  | n, t, hn => by
    have e := fsee_sc (L := L) (m := m) (l := 0) hk _ t (Nat.le_refl _)
    cases h : fsee L 0 t with
    | none =>
      rw [h] at e
      rw [run_none h, run_none e]
      rfl
    | some s =>
      rw [h] at e
      rw [run_some h, run_some e, fram_sc hk, idle_sc hk]
      obtain ⟨a, b, _⟩ := fsee_some _ _ _ (Nat.le_refl _) h
      cases h2 : idle L (fram L s) with
      | none => rfl
      | some x =>
        have h3 := (idle_up b h2).1
        have h4 := cnt_mono (sg := L.sg) a
        have h5 := cnt_le L.sg x
        match n, hn with
        | 0, hn => omega
        | n + 1, hn =>
          show _ :: run _ (x * k + m) = _ :: (run L x).map _
          rw [run_sc n x (by omega)]
theorem rds_sc (t : Int) : rds (scl L k m hk) (t * k + m) = (rds L t).map fun r => (r.1 * k + m, r.2) := by
  unfold rds
  rw [run_sc hk _ _ (Nat.le_refl _), List.filterMap_map, List.map_filterMap]
  refine congrArg (fun q => List.filterMap q (run L t)) (funext fun f => ?_)
  show (if f.word = "dropped" then none else some (f.start * k + m, f.word, f.number)) = (rdg f).map fun r => (r.1 * k + m, r.2)
  unfold rdg
  split <;> rfl
end
end PW
namespace PL
open PySem PySem.Spec PyProof.Rows L2 Evl SB PW
theorem sdraw {n : Nat} {m : Int} {T : List PyData} {R : PyData → List PyData → Prop} (tk : Tk n T) (hn : n ≤ 1000000) (h0 : 0 < m) (h1 : m < 2 ^ 240) (k : ∀ d T', 0 ≤ d → d < m → Tk (n + 1) T' → R (.int d) T') : mDraw T [.int m] R := ⟨n, m, rfl, tk, hn, h0, h1, k⟩
end PL
/-! PL9: loops and comprehensions over what is drawn -/
namespace PL
open PySem PySem.Spec PyProof.Rows L2 Evl SB PW
/-- what a loop walks over, told by an expression that changes lists of one's own -/
def WI (K : PySem.W.Frag) (wi : TI) (ρ : List Sl) (Q : List PyData → List Sl → Prop) : Prop := ∀ c F H σ, Sta c F H → Env K c F H σ ρ → ∀ R : It → Hp → Prop,
  (∀ J F2 H2 items ρ2, Ex F F2 → Sta c F2 H2 → Env K c F2 H2 σ ρ2 → Kpt σ ρ F H ρ2 F2 H2 → ItOk K J items F2 → Q items ρ2 → R J H2) → wi σ H R
section
variable {K : PySem.W.Frag} {ρ : List Sl} {te : TE} {t : TA} {tt : TT} {ts : TS} {g : TG} {ws : List Nat} {e : En} {Q : List PyData → List Sl → Prop}
theorem wi_e {wi : TI} {items : List PyData} (h : EI K wi ρ items) (q : Q items ρ) : WI K wi ρ Q := fun c F H σ st en R k => h c F H σ en st.fh _ fun J F2 H2 gr it => k J F2 H2 items ρ gr.ff (st.gr gr) (en.gr gr) (.gr gr) it q
theorem wi_r1 (h : WA K t ρ fun ds ρ2 => ∃ n : Int, ds = [.int n] ∧ (-(2 ^ 62) ≤ n ∧ n < 2 ^ 62) ∧ Q (rg0 n.toNat) ρ2) : WI K (iRng1 t) ρ Q := fun c F H σ st en R k => h c F H σ st en _ fun vs F1 H1 ds ρ2 e1 s1 n1 k1 dv ⟨n, h0, h1, q⟩ => by
  subst h0
  cases dv with
  | cons d1 d2 =>
    cases d2
    cases d1
    have e : rg0 n.toNat = rgD 0 n.toNat := by
      unfold rg0 rgD
      exact List.map_congr_left fun i _ => by rw [Int.zero_add]
    rw [e] at q
    exact ⟨n, rfl, h1.1, h1.2, k _ F1 H1 _ ρ2 e1 s1 n1 k1 (it_r 0 n.toNat F1) q⟩
theorem wi_list (h : W K te ρ fun d ρ2 => ∃ ds, d = .list ds ∧ Q ds ρ2) : WI K (iList K te) ρ Q := fun c F H σ st en R k => h c F H σ st en _ fun v F1 H1 d ρ2 e1 s1 n1 k1 dv ⟨ds, h0, q⟩ => by
  subst h0
  obtain ⟨a, xs, rfl, hl, dd⟩ := dv.list_inv
  refine ⟨a, rfl, ⟨xs, sq_of (s1.fh _ _ hl)⟩, k _ F1 H1 ds ρ2 e1 s1 n1 k1 ⟨fun i H e lt => ?_, fun i F H d e1 e2 hd x H' y => ?_, fun i H e le => ?_⟩ q⟩
  · exact ⟨xs, xs[i]'(by rw [dd.len]; exact lt), sq_of (e _ _ hl), List.getElem?_eq_getElem _⟩
  · obtain ⟨rfl, fx⟩ := y
    obtain ⟨v, hv, dv⟩ := dd.get hd
    have e := fx xs (sq_of (e2 _ _ (e1 _ _ hl)))
    rw [hv] at e
    cases e
    exact ⟨F, Gr.refl e2, dv.ex e1⟩
  · exact ⟨xs, sq_of (e _ _ hl), by rw [dd.len]; exact le⟩
/-- each turn may change lists of one's own -/
theorem wo_lcW {QA : List PyData → List Sl → Prop} {wi : TI} (hi : WI K wi ρ fun items ρ0 => items.length ≤ 100000 ∧ ∃ Iv : Nat → List PyData → List Sl → Prop, Iv 0 [] ρ0 ∧
    (∀ m d acc ρ2, items[m]? = some d → Iv m acc ρ2 → acc.length ≤ m ∧ GC K g ws d (wipeS ρ2 ws) fun ρ3 => WT K tt ρ3 fun b ρ4 =>
      (b = true → W K te ρ4 fun y ρ5 => Iv (m + 1) (acc ++ [y]) (wipeS ρ5 ws)) ∧ (b = false → Iv (m + 1) acc (wipeS ρ4 ws))) ∧
    (∀ acc ρ2, Iv items.length acc ρ2 → QA acc ρ2)) : WO K (tLc wi g tt te ws) ρ QA := fun c F H σ st en Q k =>
  hi c F H σ st en _ fun J F1 H1 items ρ0 e1 s1 n1 k1 it ⟨hn, Iv, h0, hs, hd⟩ D nD => by
    have apD := n1.apart nD
    refine ⟨fun m j H' => j + m = items.length ∧ ∃ F' xs acc ρ', Ex F1 F' ∧ Sta c F' H' ∧ Env K c F' H' σ ρ' ∧ Kpt σ ρ0 F1 H1 ρ' F' H' ∧ F' D = none ∧ H' D = some (.lst xs) ∧ VdAll K F' xs acc ∧ Iv m acc ρ', ⟨items.length, by omega, F1, [], [], ρ0, Ex.refl F1, s1.gr (Gr.own s1.fh nD), n1.gr (Gr.own s1.fh nD), .gr (Gr.own s1.fh nD), fresh_back s1.fh nD, upd_same, .nil, h0⟩, ?_⟩
    rintro m j H' ⟨hk, F', xs, acc, ρ', ff, s, n, kp, fD, hD, dd, inv⟩
    by_cases lt : m < items.length
    · refine .inr ⟨it.go m H' (ff.trans s.fh) lt, fun H' => ∃ F' xs acc ρ', Ex F1 F' ∧ Sta c F' H' ∧ Env K c F' H' σ ρ' ∧ Kpt σ ρ0 F1 H1 ρ' F' H' ∧ F' D = none ∧ H' D = some (.lst xs) ∧ VdAll K F' xs acc ∧ Iv (m + 1) acc ρ', fun H2 z => ⟨j - 1, by omega, by omega, z⟩, ?_⟩
      intro x H2 y
      have hx : items[m]? = some items[m] := List.getElem?_eq_getElem lt
      obtain ⟨F2, g2, dx⟩ := it.yl m F' H' _ ff s.fh hx x H2 y
      have en2 := env_wipe (n.gr g2) ws
      obtain ⟨al, hg⟩ := hs m _ acc ρ' hx inv
      refine hg c F2 H2 _ x en2 g2.fh dx _ fun σ3 ρ3 n3 w3 o3 q3 => ⟨w3.trans (SB.wipe_wipe ws), ?_⟩
      have hD2 := g2.hh _ _ hD
      have fD2 := g2.fr D (by rw [hD]; exact fun z => nomatch z) fD
      have own : OwS σ ρ' σ3 ρ3 := (OwS.wipe ws).trans o3
      have apD3 : Apart σ3 ρ3 D := own.ap (kp.ap apD)
      -- what slots own inside is what they own outside
      have back : ∀ {ρx : List Sl} {Fx Hx : Hp}, Env K c Fx Hx σ3 ρx → Env K c Fx Hx σ (wipeS ρx ws) := fun {ρx Fx Hx} e => by
        have e2 := env_wipe e ws
        rw [w3.trans (SB.wipe_wipe ws)] at e2
        exact env_unwipe e2
      refine q3 c F2 H2 σ3 (s.gr g2) n3 _ fun b F3 H3 ρ4 f3 s3 n4 k4 ⟨qt, qf⟩ => ?_
      have hD3 := k4.kp D _ apD3 hD2
      have fD3 := k4.fr D (by rw [hD2]; exact fun z => nomatch z) fD2
      cases b with
      | true =>
        rw [if_pos rfl]
        refine qt rfl c F3 H3 σ3 s3 n4 _ fun v F4 H4 y ρ5 f4 s4 n5 k5 dv inv2 => ?_
        have hD4 := k5.kp D _ (k4.ap apD3) hD3
        have fD4 := k5.fr D (by rw [hD3]; exact fun z => nomatch z) fD3
        have K2 : Kpt σ ρ0 F1 H1 (wipeS ρ5 ws) F4 H4 := (kp.trans (.gr g2)).trans ((k4.trans k5).out own)
        have lx : xs.length = acc.length := dd.len
        refine ⟨xs, hD4, sz_lt (by omega), F4, xs ++ [v], acc ++ [y], wipeS ρ5 ws, ((ff.trans g2.ff).trans f3).trans f4, s4.mut (b := true) fD4 (.inl ⟨rfl, s1.none nD⟩), ?_, ?_, fD4, upd_same, (dd.ex ((g2.ff.trans f3).trans f4)).app (.cons dv .nil), inv2⟩
        · have e := back n5
          have apo : Apart σ (wipeS ρ5 ws) D := K2.ap apD
          refine ⟨e.len, fun j s' u h1 h2 => ?_, e.inj⟩
          have r := e.sl j s' u h1 h2
          cases s' with
          | un => trivial
          | scr ns => exact r
          | xo a o => exact r
          | sh d => exact r
          | ow b' ds' =>
            obtain ⟨p2, xs2, rfl, n2, a2, f2, hl2, d2⟩ := r
            have ne : p2 ≠ D := fun z => by
              subst z
              exact apo j b' ds' h1 h2
            exact ⟨p2, xs2, rfl, n2, a2, f2, by rw [upd_ne ne]; exact hl2, d2⟩
        · refine ⟨fun p u a h => ?_, K2.os, fun p h => ?_, K2.fr⟩
          · rw [upd_ne (ne_of_none h nD)]
            exact K2.kp p u a h
          · by_cases z : p = D
            · subst z
              exact absurd nD h
            · rw [upd_ne z]
              exact K2.dm p h
      | false =>
        rw [if_neg Bool.false_ne_true]
        exact ⟨F3, xs, acc, wipeS ρ4 ws, (ff.trans g2.ff).trans f3, s3, back n4, (kp.trans (.gr g2)).trans (k4.out own), fD3, hD3, dd.ex (g2.ff.trans f3), qf rfl⟩
    · obtain rfl : m = items.length := by omega
      refine .inl ⟨it.st _ H' (ff.trans s.fh) (Nat.le_refl _), ?_⟩
      exact k D xs F' H' acc ρ' (e1.trans ff) s n (k1.trans kp) (k1.back nD) fD hD dd (hd acc ρ' inv)
theorem x_forW {wi : TI} (hi : WI K wi ρ fun items ρ0 => ∃ Iv : Nat → List Sl → Prop, Iv 0 ρ0 ∧
    (∀ m d ρ2, items[m]? = some d → Iv m ρ2 → G K g d ρ2 fun ρ3 => XS K ts ρ3 { e with nx := Iv (m + 1), ct := Iv (m + 1), bk := e.nx }) ∧
    (∀ ρ2, Iv items.length ρ2 → e.nx ρ2)) : XS K (tFor wi g ts) ρ e := fun c F H σ D st en ok =>
  hi c F H σ st en _ fun J F1 H1 items ρ0 e1 s1 n1 k1 it ⟨Iv, h0, hs, hd⟩ => by
    refine ⟨fun m k σ' H' => k + m = items.length ∧ ∃ F' ρ', Ex F1 F' ∧ Sta c F' H' ∧ Env K c F' H' σ' ρ' ∧ Iv m ρ', ⟨items.length, by omega, F1, ρ0, Ex.refl F1, s1, n1, h0⟩, ?_⟩
    rintro m k σ' H' ⟨hk, F', ρ', a, s, n, inv⟩
    by_cases lt : m < items.length
    · refine .inr ⟨it.go m H' (a.trans s.fh) lt, fun σ2 H2 => ∃ F2 ρ2, Ex F1 F2 ∧ Sta c F2 H2 ∧ Env K c F2 H2 σ2 ρ2 ∧ Iv (m + 1) ρ2, fun σ2 H2 ⟨F2, ρ2, q⟩ => ⟨k - 1, by omega, by omega, F2, ρ2, q⟩, ?_⟩
      intro x H2 y
      have hx : items[m]? = some items[m] := List.getElem?_eq_getElem lt
      obtain ⟨F2, g2, dx⟩ := it.yl m F' H' _ a s.fh hx x H2 y
      refine hs m _ ρ' hx inv c F2 H2 σ' x (n.gr g2) g2.fh dx _ fun σ3 ρ3 n3 q3 => ?_
      refine q3 c F2 H2 σ3 _ (s.gr g2) n3 ?_
      have ok2 := ok.ex ((e1.trans a).trans g2.ff)
      have nx : ∀ σ F' H' ρ, Ex F2 F' → Sta c F' H' → Env K c F' H' σ ρ → Iv (m + 1) ρ → ∃ F2 ρ2, Ex F1 F2 ∧ Sta c F2 H' ∧ Env K c F2 H' σ ρ2 ∧ Iv (m + 1) ρ2 := fun σ F4 H4 ρ4 a4 s4 n4 q4 => ⟨F4, ρ4, (a.trans g2.ff).trans a4, s4, n4, q4⟩
      exact ⟨nx, ok2.nx, nx, ok2.rt, ok2.ro⟩
    · obtain rfl : m = items.length := by
        have : m ≤ items.length := by omega
        omega
      exact .inl ⟨it.st _ H' (a.trans s.fh) (Nat.le_refl _), ok.nx σ' F' H' ρ' (e1.trans a) s n (hd ρ' inv)⟩
end
end PL
/-! PW5: lines whose levels begin at multiples of a length; receivers that look at each tick -/
namespace PW
open PySem PySem.Spec PyProof.Rows L2 Evl SB PL
def lev (ls : List Int) (c : Int) : Int := if 0 ≤ c then ls.getD c.toNat 1 else 1
def z1 (ls : List Int) : Prop := ∀ x ∈ ls, x = 0 ∨ x = 1
theorem getD_01 {ls : List Int} (h : z1 ls) (i : Nat) : ls.getD i 1 = 0 ∨ ls.getD i 1 = 1 := by
  rw [List.getD_eq_getElem?_getD]
  cases e : ls[i]? with
  | none => exact .inr rfl
  | some x => exact h x (List.mem_of_getElem? e)
theorem pvl_01 {ls : List Int} (h : z1 ls) : ∀ i, pvl ls i = 0 ∨ pvl ls i = 1
  | 0 => .inr rfl
  | i + 1 => getD_01 h i
theorem ch_par {ls : List Int} (h : z1 ls) (T : Nat → Int) : ∀ n, 1 - ((ch ls T n).length : Int) % 2 = pvl ls n
  | 0 => rfl
  | n + 1 => by
    have ih := ch_par h T n
    have p := pvl_01 h n
    have g := getD_01 h n
    rw [ch_succ, List.length_append]
    show _ = ls.getD n 1
    split
    · rename_i e
      rw [e, ← ih]
      simp
    · simp only [List.length_cons, List.length_nil]
      omega
theorem cnt_app (a b : List Int) (t : Int) : cnt (a ++ b) t = cnt a t + cnt b t := by
  unfold cnt
  rw [List.filter_append, List.length_append]
theorem cnt_all {a : List Int} {t : Int} (h : ∀ x ∈ a, x ≤ t) : cnt a t = a.length := by
  unfold cnt
  rw [List.filter_eq_self.mpr fun x hx => decide_eq_true (h x hx)]
theorem cnt_non {a : List Int} {t : Int} (h : ∀ x ∈ a, t < x) : cnt a t = 0 := by
  unfold cnt
  rw [List.filter_eq_nil_iff.mpr fun x hx => by have := h x hx; simp; omega]
  rfl
/-- the level behind all changes up to a tick -/
theorem lv_ch {ls : List Int} (h : z1 ls) {T : Nat → Int} {t : Int} {k : Nat} (h1 : ∀ i, i < k → T i ≤ t) : ∀ n, k ≤ n → (∀ i, k ≤ i → i < n → t < T i) → lv (ch ls T n) t = pvl ls k := by
  have base : lv (ch ls T k) t = pvl ls k := by
    unfold lv
    rw [cnt_all fun x hx => by
      obtain ⟨i, hi, rfl⟩ := ch_mem hx
      exact h1 i hi]
    exact ch_par h T k
  intro n
  induction n with
  | zero =>
    intro hk _
    obtain rfl : k = 0 := by omega
    exact base
  | succ n ih =>
    intro hk h2
    by_cases e : k = n + 1
    · subst e
      exact base
    · have r := ih (by omega) fun i a b => h2 i a (by omega)
      unfold lv at r ⊢
      rw [ch_succ, cnt_app, cnt_non (a := if ls.getD n 1 = pvl ls n then [] else [T n]) (fun x hx => by
        split at hx
        · cases hx
        · rw [List.mem_singleton.mp hx]
          exact h2 n (by omega) (by omega)), Nat.add_zero]
      exact r
/-- levels that begin at 0 and last equally long, with a quiet line behind them -/
def sgB (ls : List Int) (ln : Int) : List Int := ch (ls ++ [1]) (fun i => (i : Int) * ln) (ls.length + 1)
theorem sgB_asc {ls : List Int} {ln : Int} (h : 1 ≤ ln) : Asc (sgB ls ln) := (ch_asc (mul_lt h) _).1
theorem sgB_len (ls : List Int) (ln : Int) : (sgB ls ln).length ≤ ls.length + 1 := ch_len _ _ _
theorem z1_app {ls : List Int} (h : z1 ls) : z1 (ls ++ [1]) := fun x hx => by
  rcases List.mem_append.mp hx with g | g
  · exact h x g
  · exact .inr (List.mem_singleton.mp g)
theorem lv_sgB {ls : List Int} {ln : Int} (h : z1 ls) (hl : 1 ≤ ln) (t : Int) : lv (sgB ls ln) t = lev ls (t / ln) := by
  have hp : 0 < ln := by omega
  have key : ∀ i : Nat, (i : Int) * ln ≤ t ↔ (i : Int) ≤ t / ln := fun i => (Int.le_ediv_iff_mul_le hp).symm
  unfold lev
  by_cases h0 : 0 ≤ t / ln
  · rw [if_pos h0]
    obtain ⟨c, hc⟩ : ∃ c : Nat, t / ln = c := ⟨(t / ln).toNat, by omega⟩
    rw [hc, Int.toNat_natCast]
    by_cases lt : c < ls.length + 1
    · have e := lv_ch (z1_app h) (T := fun i => (i : Int) * ln) (t := t) (k := c + 1) (fun i hi => (key i).mpr (by omega)) (ls.length + 1) (by omega) fun i h1 h2 => by
        have g : ¬ (i : Int) * ln ≤ t := (not_congr (key i)).mpr (by omega)
        omega
      rw [sgB, e]
      show (ls ++ [1]).getD c 1 = _
      rw [List.getD_eq_getElem?_getD, List.getD_eq_getElem?_getD]
      by_cases q : c < ls.length
      · rw [List.getElem?_append_left q]
      · obtain rfl : c = ls.length := by omega
        rw [List.getElem?_append_right (Nat.le_refl _), Nat.sub_self, List.getElem?_eq_none (Nat.le_refl _)]
        rfl
    · have e := lv_ch (z1_app h) (T := fun i => (i : Int) * ln) (t := t) (k := ls.length + 1) (fun i hi => (key i).mpr (by omega)) (ls.length + 1) (Nat.le_refl _) fun i h1 h2 => by omega
      rw [sgB, e]
      show (ls ++ [1]).getD ls.length 1 = _
      have q : ls[c]? = none := List.getElem?_eq_none (by omega)
      rw [List.getD_eq_getElem?_getD, List.getD_eq_getElem?_getD, List.getElem?_append_right (Nat.le_refl _), Nat.sub_self, q]
      rfl
  · rw [if_neg h0]
    have e := lv_ch (z1_app h) (T := fun i => (i : Int) * ln) (t := t) (k := 0) (fun i hi => by omega) (ls.length + 1) (Nat.zero_le _) fun i h1 h2 => by
      have g : ¬ (i : Int) * ln ≤ t := (not_congr (key i)).mpr (by omega)
      omega
    rw [sgB, e]
    rfl
theorem ch_ls {a b : List Int} {T : Nat → Int} : ∀ n, (∀ i, i < n → a.getD i 1 = b.getD i 1) → ch a T n = ch b T n
  | 0, _ => rfl
  | n + 1, h => by
    have p : pvl a n = pvl b n := by
      cases n with
      | zero => rfl
      | succ n => exact h n (by omega)
    rw [ch_succ, ch_succ, ch_ls n fun i hi => h i (by omega), h n (by omega), p]
/-- levels that end with 1 -/
theorem sgB_quiet {ls : List Int} {ln : Int} (h : pvl ls ls.length = 1) : sgB ls ln = ch ls (fun i => (i : Int) * ln) ls.length := by
  have e : ∀ i, i < ls.length → (ls ++ [1]).getD i 1 = ls.getD i 1 := fun i hi => by
    rw [List.getD_eq_getElem?_getD, List.getD_eq_getElem?_getD, List.getElem?_append_left hi]
  have p : pvl (ls ++ [1]) ls.length = 1 := by
    cases hn : ls.length with
    | zero => rfl
    | succ n =>
      rw [hn] at h
      show (ls ++ [1]).getD n 1 = 1
      rw [e n (by omega)]
      exact h
  rw [sgB, ch_succ, ch_ls _ e, p]
  have q : (ls ++ [1]).getD ls.length 1 = 1 := by
    rw [List.getD_eq_getElem?_getD, List.getElem?_append_right (Nat.le_refl _), Nat.sub_self]
    rfl
  rw [if_pos q, List.append_nil]
/-! looks at each tick -/
theorem fsee1 {L : Ln} {l : Int} (hg : L.g = 1) : ∀ (n : Nat) (t : Int), L.sg.length - cnt L.sg t ≤ n → match fsee L l t with
    | none => ∀ u, t ≤ u → lv L.sg u ≠ l
    | some r => t ≤ r ∧ lv L.sg r = l ∧ ∀ u, t ≤ u → u < r → lv L.sg u ≠ l
  | n, t, hn => by
    by_cases h : lv L.sg t = l
    · rw [fsee_here h]
      exact ⟨Int.le_refl _, h, fun u a b => by omega⟩
    · cases hc : L.sg[cnt L.sg t]? with
      | none =>
        rw [fsee_end h hc]
        intro u hu
        unfold lv at h ⊢
        rw [cnt_same L.asc hu fun x hx => by rw [hc] at hx; cases hx]
        exact h
      | some c =>
        have lt := next_gt L.asc hc
        have e : nxt L.g c t = c := by
          unfold nxt
          rw [hg, Int.emod_one, Int.add_zero]
        have h1 := cnt_up L.asc hc (nxt_ge (look := t) L.g1)
        rw [e] at h1
        have h2 := cnt_le L.sg c
        rw [fsee_next h hc, e]
        have same : ∀ u, t ≤ u → u < c → lv L.sg u ≠ l := fun u a b => by
          unfold lv at h ⊢
          rw [cnt_same L.asc a fun x hx => by rw [hc] at hx; cases hx; exact b]
          exact h
        match n, hn with
        | 0, hn => omega
        | n + 1, hn =>
          have ih := fsee1 (L := L) (l := l) hg n c (by omega)
          revert ih
          cases fsee L l c with
          | none => exact fun ih u hu => if g : u < c then same u hu g else ih u (by omega)
          | some r => exact fun ⟨i1, i2, i3⟩ => ⟨by omega, i2, fun u a b => if g : u < c then same u a g else i3 u (by omega) b⟩
theorem fsee1_none {L : Ln} {l t : Int} (hg : L.g = 1) (h : ∀ u, t ≤ u → lv L.sg u ≠ l) : fsee L l t = none := by
  have := fsee1 (l := l) hg _ t (Nat.le_refl _)
  revert this
  cases e : fsee L l t with
  | none => exact fun _ => rfl
  | some r => exact fun ⟨a, b, _⟩ => absurd b (h r a)
theorem fsee1_some {L : Ln} {l t r : Int} (hg : L.g = 1) (h0 : t ≤ r) (h1 : lv L.sg r = l) (h : ∀ u, t ≤ u → u < r → lv L.sg u ≠ l) : fsee L l t = some r := by
  have := fsee1 (l := l) hg _ t (Nat.le_refl _)
  revert this
  cases e : fsee L l t with
  | none => exact fun k => absurd h1 (k r h0)
  | some q =>
    rintro ⟨a, b, c⟩
    rcases Int.lt_trichotomy q r with g | g | g
    · exact absurd b (h q a g)
    · rw [g]
    · exact absurd h1 (c r h0 g)
/-- how a frame ends -/
theorem out_end {b : Nat} {p : Pa} {s : Nat} {ls : List Int} (hs : 1 ≤ s) : (out b p s ls).1 < sz b p s ∧ (bad (out b p s ls).2.1 = true → ls.getD (out b p s ls).1 1 = 0) ∧ (bad (out b p s ls).2.1 = false → ls.getD (out b p s ls).1 1 ≠ 0) ∧ (out b p s ls).2.1 ≠ "dropped" := by
  have hz : s ≤ sz b p s ∧ 1 ≤ sz b p s := by unfold sz; omega
  unfold out
  cases h : zat ls (sz b p s - s) s with
  | some i =>
    obtain ⟨h1, h2, h3, _⟩ := zat_some h
    refine ⟨by show i < _; omega, fun _ => h3, fun h => ?_, ?_⟩
    · exfalso
      revert h
      show bad (if 1 ∈ ls.take i then "frame" else "break") = false → False
      split <;> decide
    · show (if 1 ∈ ls.take i then ("frame" : Str) else "break") ≠ "dropped"
      split <;> decide
  | none =>
    refine ⟨by show sz b p s - 1 < _; omega, fun h => ?_, fun _ => by show ls.getD (sz b p s - 1) 1 ≠ 0; exact zat_none.mp h _ (by omega) (by omega), ?_⟩
    · exfalso
      revert h
      show bad (if prt p _ then "good" else "parity") = true → False
      split <;> decide
    · show (if prt p _ then ("good" : Str) else "parity") ≠ "dropped"
      split <;> decide
/-- a receiver that looks at each tick, and steps by a length, beside one that looks at levels -/
structure Two (L M : Ln) (ls : List Int) (ln : Int) : Prop where
  b : L.b = M.b
  p : L.p = M.p
  s : L.s = M.s
  g1 : L.g = 1
  w1 : L.w = 0
  t1 : L.st = ln
  g2 : M.g = 1
  w2 : M.w = 0
  t2 : M.st = 1
  l1 : ∀ t, lv L.sg t = lev ls (t / ln)
  l2 : ∀ c, lv M.sg c = lev ls c
  ln : 1 ≤ ln
section
variable {L M : Ln} {ls : List Int} {ln : Int} (T : Two L M ls ln)
include T
theorem two_fsee {l t k : Int} (h1 : t / ln ≤ k) (h2 : ∀ u, t / ln ≤ u → u < k → lev ls u ≠ l) : fsee L l t = (fsee M l k).map fun c => max t (c * ln) := by
  have hp : 0 < ln := by have := T.ln; omega
  have mono : ∀ {u}, t ≤ u → t / ln ≤ u / ln := fun h => Int.ediv_le_ediv hp h
  have := fsee1 (L := M) (l := l) T.g2 _ k (Nat.le_refl _)
  revert this
  cases e : fsee M l k with
  | none =>
    intro h
    refine fsee1_none T.g1 fun u hu => ?_
    rw [T.l1]
    by_cases g : u / ln < k
    · exact h2 _ (mono hu) g
    · rw [← T.l2]
      exact h _ (by omega)
  | some c =>
    rintro ⟨a, b, d⟩
    rw [T.l2] at b
    have q : max t (c * ln) / ln = c := by
      by_cases g : t ≤ c * ln
      · rw [Int.max_eq_right g, Int.mul_ediv_cancel _ (by omega)]
      · rw [Int.max_eq_left (by omega)]
        have : c ≤ t / ln := (Int.le_ediv_iff_mul_le hp).mpr (by omega)
        omega
    refine fsee1_some T.g1 (Int.le_max_left _ _) (by rw [T.l1, q]; exact b) fun u hu hr => ?_
    have hr : u < max t (c * ln) := hr
    have u2 : u < c * ln := by
      rcases Int.le_total t (c * ln) with g | g
      · rw [Int.max_eq_right g] at hr; exact hr
      · rw [Int.max_eq_left g] at hr; omega
    have u3 : u / ln < c := Int.ediv_lt_of_lt_mul hp u2
    rw [T.l1]
    by_cases g : u / ln < k
    · exact h2 _ (mono hu) g
    · rw [← T.l2]
      exact d _ (by omega) u3
theorem two_lk {s c : Int} (h : s / ln = c) (i : Nat) : lk L s i / ln = lk M c i := by
  unfold lk
  rw [T.g1, T.w1, T.t1, T.g2, T.w2, T.t2]
  have e : s + 1 * (0 + ln * (i : Int)) = s + ln * (i : Int) := by omega
  rw [e, Int.add_mul_ediv_left _ _ (by have := T.ln; omega), h]
  omega
theorem two_lvs {s c : Int} (h : s / ln = c) : lvs L s = lvs M c := by
  unfold lvs
  have e : L.n = M.n := by unfold Ln.n; rw [T.b, T.p, T.s]
  rw [e]
  refine List.map_congr_left fun i _ => ?_
  rw [T.l1, two_lk T h, T.l2]
theorem two_fram {s c : Int} (h : s / ln = c) (hz : lev ls c = 0) : ∃ (j : Nat) (w : Str) (n : Int), fram L s = ⟨s, s + ln * (j : Int), w, n⟩ ∧ fram M c = ⟨c, c + (j : Int), w, n⟩ ∧ w ≠ "dropped" ∧ (bad w = true → lev ls (c + (j : Int)) = 0) ∧ (bad w = false → lev ls (c + (j : Int)) = 1) := by
  have k1 : ∀ i, lk L s i = s + ln * (i : Int) := fun i => by unfold lk; rw [T.g1, T.w1, T.t1]; omega
  have k2 : ∀ i, lk M c i = c + (i : Int) := fun i => by unfold lk; rw [T.g2, T.w2, T.t2]; omega
  have d1 : ¬ lv L.sg (lk L s 0) = 1 := by
    rw [T.l1, two_lk T h, k2]
    have : c + ((0 : Nat) : Int) = c := by omega
    rw [this, hz]
    decide
  have d2 : ¬ lv M.sg (lk M c 0) = 1 := by
    rw [T.l2, k2]
    have : c + ((0 : Nat) : Int) = c := by omega
    rw [this, hz]
    decide
  obtain ⟨o1, o2, o3, o4⟩ := out_end (b := M.b) (p := M.p) (ls := lvs M c) M.s1
  have at_ : (lvs M c).getD (out M.b M.p M.s (lvs M c)).1 1 = lev ls (c + ((out M.b M.p M.s (lvs M c)).1 : Int)) := by
    rw [List.getD_eq_getElem?_getD, lvs_at (by exact o1), k2, T.l2]
    rfl
  rw [at_] at o2 o3
  refine ⟨(out M.b M.p M.s (lvs M c)).1, (out M.b M.p M.s (lvs M c)).2.1, (out M.b M.p M.s (lvs M c)).2.2, ?_, ?_, o4, o2, fun hb => ?_⟩
  · unfold fram
    rw [if_neg d1, two_lvs T h, T.b, T.p, T.s, k1]
  · unfold fram
    rw [if_neg d2, k2]
  · have := o3 hb
    rw [← T.l2] at this ⊢
    rcases lv_01 M.sg (c + ((out M.b M.p M.s (lvs M c)).1 : Int)) with g | g
    · exact absurd g this
    · exact g
theorem two_rds {t0 : Int} : ∀ (n : Nat) (t k : Int), M.sg.length - cnt M.sg k ≤ n → t / ln ≤ k → (∀ u, t / ln ≤ u → u < k → lev ls u = 1) → t0 ≤ t → (t = t0 ∨ t ≤ k * ln) → rds L t = (rds M k).map fun r => (max t0 (r.1 * ln), r.2)
  | n, t, k, hn, h1, h2, h3, h4 => by
    have hp : 0 < ln := by have := T.ln; omega
    have e := two_fsee T (l := 0) h1 fun u a b => by rw [h2 u a b]; decide
    cases hc : fsee M 0 k with
    | none =>
      rw [hc] at e
      unfold rds
      rw [run_none hc, run_none e]
      rfl
    | some c =>
      rw [hc] at e
      have e : fsee L 0 t = some (max t (c * ln)) := e
      obtain ⟨ck, cz, -⟩ := fsee_some _ _ _ (Nat.le_refl _) hc
      have cz2 : lev ls c = 0 := by rw [← T.l2]; exact cz
      have mk : k * ln ≤ c * ln := Int.mul_le_mul_of_nonneg_right ck (by omega)
      have es : max t (c * ln) = max t0 (c * ln) := by
        rcases h4 with rfl | h4
        · rfl
        · rw [Int.max_eq_right (by omega), Int.max_eq_right (by omega)]
      have hs : max t (c * ln) / ln = c := by
        rcases Int.le_total t (c * ln) with g | g
        · rw [Int.max_eq_right g, Int.mul_ediv_cancel _ (by omega)]
        · rw [Int.max_eq_left g]
          have : c ≤ t / ln := (Int.le_ediv_iff_mul_le hp).mpr (by omega)
          omega
      obtain ⟨j, w, x, f1, f2, dn, wb, wg⟩ := two_fram T hs cz2
      generalize hsq : max t (c * ln) = s at e es hs f1
      have sge : t ≤ s := by rw [← hsq]; exact Int.le_max_left _ _
      unfold rds
      rw [run_some e, run_some hc, f1, f2]
      have r1 : rdg ⟨s, s + ln * (j : Int), w, x⟩ = some (s, w, x) := by unfold rdg; rw [if_neg dn]
      have r2 : rdg ⟨c, c + (j : Int), w, x⟩ = some (c, w, x) := by unfold rdg; rw [if_neg dn]
      rw [List.filterMap_cons_some r1, List.filterMap_cons_some r2, List.map_cons]
      have tail : (runO L (idle L ⟨s, s + ln * (j : Int), w, x⟩)).filterMap rdg = ((runO M (idle M ⟨c, c + (j : Int), w, x⟩)).filterMap rdg).map fun r => (max t0 (r.1 * ln), r.2) := by
        have jn : 0 ≤ ln * (j : Int) := Int.mul_nonneg (by omega) (by omega)
        have q1 : (s + ln * (j : Int)) / ln = c + (j : Int) := by rw [Int.add_mul_ediv_left _ _ (by omega), hs]
        have q2 : s + ln * (j : Int) + 1 ≤ (c + (j : Int) + 1) * ln := by
          have := Int.lt_ediv_add_one_mul_self (s + ln * (j : Int)) hp
          rw [q1] at this
          omega
        have q3 : (s + ln * (j : Int) + 1) / ln ≤ c + (j : Int) + 1 := by
          have := Int.ediv_le_ediv hp q2
          rw [Int.mul_ediv_cancel _ (by omega)] at this
          exact this
        have q4 : c + (j : Int) ≤ (s + ln * (j : Int) + 1) / ln := by
          rw [← q1]
          exact Int.ediv_le_ediv hp (by omega)
        have iu := fun x hx => idle_up (L := M) (start := c) (x := x) cz hx
        rw [f2] at iu
        have m1 := cnt_mono (sg := M.sg) ck
        unfold idle at iu ⊢
        rw [T.g1, T.g2] at *
        by_cases hb : bad w = true
        · rw [if_pos hb, if_pos hb]
          simp only [if_pos hb] at iu
          have e2 := two_fsee T (l := 1) (t := s + ln * (j : Int) + 1) (k := c + (j : Int) + 1) q3 fun u a b => by
            obtain rfl : u = c + (j : Int) := by omega
            rw [wb hb]
            decide
          cases hc1 : fsee M 1 (c + (j : Int) + 1) with
          | none =>
            rw [hc1] at e2
            rw [e2]
            rfl
          | some c1 =>
            rw [hc1] at e2
            obtain ⟨g1, g2, -⟩ := fsee_some _ _ _ (Nat.le_refl _) hc1
            have g3 : (c + (j : Int) + 1) * ln ≤ c1 * ln := Int.mul_le_mul_of_nonneg_right g1 (by omega)
            have e3 : fsee L 1 (s + ln * (j : Int) + 1) = some (c1 * ln) := by
              rw [e2]
              show some (max _ _) = _
              rw [Int.max_eq_right (by omega)]
            rw [e3]
            have h5 := (iu (c1 + 1) (by rw [hc1]; rfl)).1
            have h6 := cnt_le M.sg (c1 + 1)
            have d0 : (c1 * ln) / ln = c1 := Int.mul_ediv_cancel _ (by omega)
            have d1 : c1 ≤ (c1 * ln + 1) / ln := by
              have := Int.ediv_le_ediv hp (show c1 * ln ≤ c1 * ln + 1 by omega)
              rw [d0] at this
              exact this
            have d3 : c1 * ln + 1 ≤ (c1 + 1) * ln := by rw [Int.add_mul]; omega
            have d2 : (c1 * ln + 1) / ln ≤ c1 + 1 := by
              have := Int.ediv_le_ediv hp d3
              rw [Int.mul_ediv_cancel _ (by omega)] at this
              exact this
            match n, hn with
            | 0, hn => omega
            | n + 1, hn =>
              exact two_rds n (c1 * ln + 1) (c1 + 1) (by omega) d2 (fun u a b => by
                obtain rfl : u = c1 := by omega
                rw [← T.l2]
                exact g2) (by omega) (.inr d3)
        · rw [if_neg hb, if_neg hb]
          simp only [if_neg hb] at iu
          have h5 := (iu (c + (j : Int) + 1) rfl).1
          have h6 := cnt_le M.sg (c + (j : Int) + 1)
          match n, hn with
          | 0, hn => omega
          | n + 1, hn =>
            exact two_rds n (s + ln * (j : Int) + 1) (c + (j : Int) + 1) (by omega) q3 (fun u a b => by
              obtain rfl : u = c + (j : Int) := by omega
              exact wg (by simpa using hb)) (by omega) (.inr q2)
      rw [tail, es]
end
end PW
/-! PW6: a receiver that looks at levels one by one, step by step -/
namespace PW
open PySem PySem.Spec PyProof.Rows L2 Evl SB PL
structure One (M : Ln) (ls : List Int) : Prop where
  g : M.g = 1
  w : M.w = 0
  t : M.st = 1
  l : ∀ c, lv M.sg c = lev ls c
theorem lev_far {ls : List Int} {c : Int} (h : (ls.length : Int) ≤ c) : lev ls c = 1 := by
  unfold lev
  rw [if_pos (by omega), List.getD_eq_getElem?_getD, List.getElem?_eq_none (by omega)]
  rfl
theorem lev_01 {ls : List Int} (z : z1 ls) (c : Int) : lev ls c = 0 ∨ lev ls c = 1 := by
  unfold lev
  split
  · exact getD_01 z _
  · exact .inr rfl
/-- levels with a quiet line behind them -/
theorem more_at {ls : List Int} {k i : Nat} (h : i < ls.length + k) : (ls ++ List.replicate k 1)[i]? = some (lev ls (i : Int)) := by
  unfold lev
  rw [if_pos (by omega), Int.toNat_natCast, List.getD_eq_getElem?_getD]
  by_cases lt : i < ls.length
  · rw [List.getElem?_append_left lt, List.getElem?_eq_getElem lt]
    rfl
  · rw [List.getElem?_append_right (by omega), List.getElem?_replicate, if_pos (by omega), List.getElem?_eq_none (by omega)]
    rfl
section
variable {M : Ln} {ls : List Int} (O : One M ls)
include O
theorem one_end {a : Int} (h : (ls.length : Int) ≤ a) : rds M a = [] := by
  have e : fsee M 0 a = none := fsee1_none O.g fun u hu => by
    rw [O.l, lev_far (by omega)]
    decide
  unfold rds
  rw [run_none e]
  rfl
theorem one_skip {a : Int} (h : lev ls a = 1) : rds M a = rds M (a + 1) := by
  have := fsee1 (L := M) (l := 0) O.g _ (a + 1) (Nat.le_refl _)
  revert this
  unfold rds
  cases e : fsee M 0 (a + 1) with
  | none =>
    intro k
    have e2 : fsee M 0 a = none := fsee1_none O.g fun u hu => by
      by_cases z : u = a
      · rw [z, O.l, h]
        decide
      · exact k u (by omega)
    rw [run_none e, run_none e2]
  | some r =>
    rintro ⟨k1, k2, k3⟩
    have e2 : fsee M 0 a = some r := fsee1_some O.g (by omega) k2 fun u hu hr => by
      by_cases z : u = a
      · rw [z, O.l, h]
        decide
      · exact k3 u (by omega) hr
    rw [run_some e, run_some e2]
theorem one_lk (a : Int) (i : Nat) : lk M a i = a + (i : Int) := by
  unfold lk
  rw [O.g, O.w, O.t]
  omega
theorem one_step {a : Int} (hz : lev ls a = 0) : ∃ c : Int, a + ((out M.b M.p M.s (lvs M a)).1 : Int) ≤ c ∧ lev ls c = 1 ∧ (∀ u, a + ((out M.b M.p M.s (lvs M a)).1 : Int) ≤ u → u < c → lev ls u ≠ 1) ∧ rds M a = (a, (out M.b M.p M.s (lvs M a)).2.1, (out M.b M.p M.s (lvs M a)).2.2) :: rds M (c + 1) := by
  obtain ⟨o1, o2, o3, o4⟩ := out_end (b := M.b) (p := M.p) (ls := lvs M a) M.s1
  have k0 : lk M a 0 = a := by rw [one_lk O]; omega
  have hf : fram M a = ⟨a, a + ((out M.b M.p M.s (lvs M a)).1 : Int), (out M.b M.p M.s (lvs M a)).2.1, (out M.b M.p M.s (lvs M a)).2.2⟩ := by
    unfold fram
    rw [k0, if_neg (by rw [O.l, hz]; decide), one_lk O]
  have at_ : (lvs M a).getD (out M.b M.p M.s (lvs M a)).1 1 = lev ls (a + ((out M.b M.p M.s (lvs M a)).1 : Int)) := by
    rw [List.getD_eq_getElem?_getD, lvs_at (by exact o1), one_lk O, O.l]
    rfl
  rw [at_] at o2 o3
  generalize (out M.b M.p M.s (lvs M a)).1 = j at *
  generalize (out M.b M.p M.s (lvs M a)).2.1 = w at *
  generalize (out M.b M.p M.s (lvs M a)).2.2 = x at *
  -- the next 1
  have := fsee1 (L := M) (l := 1) O.g _ (a + (j : Int)) (Nat.le_refl _)
  revert this
  cases e : fsee M 1 (a + (j : Int)) with
  | none =>
    intro k
    have := k (max (a + (j : Int)) ls.length) (Int.le_max_left _ _)
    rw [O.l, lev_far (Int.le_max_right _ _)] at this
    exact absurd rfl this
  | some c =>
    rintro ⟨k1, k2, k3⟩
    have k2 : lev ls c = 1 := by rw [← O.l]; exact k2
    have k3 : ∀ u, a + (j : Int) ≤ u → u < c → lev ls u ≠ 1 := fun u h1 h2 => by rw [← O.l]; exact k3 u h1 h2
    refine ⟨c, k1, k2, k3, ?_⟩
    have hi : idle M (fram M a) = some (c + 1) := by
      rw [hf]
      unfold idle
      by_cases hb : bad w = true
      · rw [if_pos hb, O.g]
        have e2 : fsee M 1 (a + (j : Int) + 1) = some c := by
          have ne : c ≠ a + (j : Int) := fun z => by
            rw [z, o2 hb] at k2
            cases k2
          exact fsee1_some O.g (by omega) (by rw [O.l]; exact k2) fun u h1 h2 => by rw [O.l]; exact k3 u (by omega) h2
        show (fsee M 1 (a + (j : Int) + 1)).map _ = _
        rw [e2]
        rfl
      · rw [if_neg hb, O.g]
        have hb : bad w = false := by simpa using hb
        have h1 : lev ls (a + (j : Int)) = 1 := by
          rcases lv_01 M.sg (a + (j : Int)) with g | g
          · rw [O.l] at g
            exact absurd g (o3 hb)
          · rw [← O.l]; exact g
        have : c = a + (j : Int) := by
          refine Classical.byContradiction fun z => ?_
          exact k3 _ (Int.le_refl _) (by omega) h1
        rw [this]
    have e0 : fsee M 0 a = some a := fsee_here (by rw [O.l]; exact hz)
    unfold rds
    rw [run_some e0, hi, hf]
    have r : rdg ⟨a, a + (j : Int), w, x⟩ = some (a, w, x) := by unfold rdg; rw [if_neg o4]
    rw [List.filterMap_cons_some r]
    rfl
end
end PW
namespace PL
open PySem PySem.Spec PyProof.Rows L2 Evl SB PW
theorem rg0_dI (n : Nat) : rg0 n = dI ((List.range n).map fun i : Nat => (i : Int)) := by
  unfold rg0 dI
  rw [List.map_map]
  rfl
/-- list(range(n)) -/
theorem eo_rg1 {K : PySem.W.Frag} {ρ : List Sl} {ta : TE} {n : Int} (h : E K ta ρ (.int n)) (h0 : 0 ≤ n) (h1 : n ≤ 100000) : EO K (tLstRg (tRg1 ta)) ρ (rg0 n.toNat) := fun c F H σ en ex Q q => h c F H σ en ex _ fun v F1 H1 g1 dv => by
  cases dv
  have e : rgV 0 n = (rg0 n.toNat).map flv := by
    unfold rgV rg0
    rw [List.map_map, Int.sub_zero]
    refine List.map_congr_left fun i _ => ?_
    rw [Int.zero_add]
    rfl
  refine ⟨n, rfl, RgOk.of_le (Int.le_refl _) (by omega) (by omega) h0, fun p nn => q p _ F1 _ (g1.trans (Gr.own g1.fh nn)) (fresh_back g1.hh nn) (fresh_back g1.fh nn) upd_same ?_⟩
  rw [e, rg0_dI]
  exact VdAll.of_flat (dI_flt _)
theorem cut_last (l : List PyData) (x : PyData) : cutD (l ++ [x]) none (some (-1)) = l := by
  have e : HT.sIx (l ++ [x]).length (l ++ [x]).length (some (-1)) = l.length := by
    rw [List.length_append]
    unfold HT.sIx
    simp
    omega
  unfold cutD
  rw [HT.sIx_none, e, List.drop_zero, Nat.sub_zero, List.take_left]
end PL
/-! PW7: texts of one shape, read by another one, level by level -/
namespace PW
open PySem PySem.Spec PyProof.Rows L2 Evl SB PL
def Sp4 (b s : Nat) : Prop := 1 ≤ b ∧ b ≤ 9 ∧ 1 ≤ s ∧ s ≤ 2
/-- a receiver of levels -/
def BL (b : Nat) (p : Pa) (s : Nat) (ls : List Int) (h : Sp4 b s) : Ln := ⟨b, p, s, 1, 0, 1, sgB ls 1, h.1, h.2.1, h.2.2.1, h.2.2.2, by decide, by decide, by decide, sgB_asc (by decide)⟩
section
variable {b : Nat} {p : Pa} {s : Nat} {ls : List Int} {h : Sp4 b s}
theorem one_BL (z : z1 ls) : One (BL b p s ls h) ls := ⟨rfl, rfl, rfl, fun c => by show lv (sgB _ 1) c = _; rw [lv_sgB z (by decide), Int.ediv_one]⟩
theorem lvs_BL (z : z1 ls) (a : Int) : lvs (BL b p s ls h) a = (List.range (sz b p s)).map fun i : Nat => lev ls (a + (i : Int)) := by
  unfold lvs
  refine List.map_congr_left fun i _ => ?_
  rw [one_lk (one_BL z), (one_BL z).l]
/-- a good frame -/
theorem out_good {ls : List Int} (hs : 1 ≤ s) (hg : (out b p s ls).2.1 = "good") : (out b p s ls).1 = sz b p s - 1 ∧ (∀ j, sz b p s - s ≤ j → j < sz b p s → ls.getD j 1 ≠ 0) := by
  have hz : s ≤ sz b p s ∧ 1 ≤ sz b p s := by unfold sz; omega
  revert hg
  unfold out
  cases e : zat ls (sz b p s - s) s with
  | some i =>
    intro hg
    exfalso
    revert hg
    show (if 1 ∈ ls.take i then ("frame" : Str) else "break") = "good" → False
    split <;> decide
  | none => exact fun _ => ⟨rfl, fun j h1 h2 => zat_none.mp e j h1 (by omega)⟩
theorem quiet {M : Ln} (O : One M ls) {a : Int} (h : rds M a = []) : ∀ u, a ≤ u → lev ls u ≠ 0 := by
  have := fsee1 (L := M) (l := 0) O.g _ a (Nat.le_refl _)
  revert this
  cases e : fsee M 0 a with
  | none => exact fun k u hu => by rw [← O.l]; exact k u hu
  | some r =>
    rintro ⟨k1, k2, k3⟩
    exfalso
    have k2 : lev ls r = 0 := by rw [← O.l]; exact k2
    obtain ⟨c, _, _, _, hr⟩ := one_step O k2
    have : rds M a = rds M r := by
      have e2 : fsee M 0 r = some r := fsee_here (by rw [O.l]; exact k2)
      unfold rds
      rw [run_some e, run_some e2]
    rw [this, hr] at h
    cases h
theorem one_skips {M : Ln} (O : One M ls) {a : Int} : ∀ n : Nat, (∀ u, a ≤ u → u < a + (n : Int) → lev ls u = 1) → rds M a = rds M (a + (n : Int))
  | 0, _ => by rw [show a + ((0 : Nat) : Int) = a by omega]
  | n + 1, hz => by
    rw [one_skips O n fun u h1 h2 => hz u h1 (by omega), one_skip O (hz (a + (n : Int)) (by omega) (by omega))]
    congr 1
    omega
/-- words and numbers -/
def gd (n : Int) : Str × Int := ("good", n)
def wn (l : List (Int × Str × Int)) : List (Str × Int) := l.map (·.2)
/-- a frame that is read right, wherever it is sent -/
theorem frame_in {f : List Int} (zf : z1 f) (z : z1 ls) {n : Int} {a : Nat} (hl : sz b p s ≤ f.length) (h0 : lev f 0 = 0) (hr : wn (rds (BL b p s f h) 0) = [gd n])
    (same : ∀ i : Nat, i < f.length → lev ls ((a : Int) + (i : Int)) = lev f (i : Int)) : ∃ st, rds (BL b p s ls h) (a : Int) = (st, gd n) :: rds (BL b p s ls h) ((a : Int) + (f.length : Int)) := by
  have hz : s ≤ sz b p s ∧ 2 ≤ sz b p s := by have := h.1; have := h.2.2.1; unfold sz; omega
  have hO := one_BL (h := h) (b := b) (p := p) (s := s) zf
  obtain ⟨c, c1, c2, c3, c4⟩ := one_step hO h0
  have e0 : lvs (BL b p s f h) 0 = lvs (BL b p s ls h) (a : Int) := by
    rw [lvs_BL zf, lvs_BL z]
    refine List.map_congr_left fun i hi => ?_
    have := List.mem_range.mp hi
    rw [same i (by omega), Int.zero_add]
  have hb : (BL b p s f h).b = b ∧ (BL b p s f h).p = p ∧ (BL b p s f h).s = s := ⟨rfl, rfl, rfl⟩
  rw [hb.1, hb.2.1, hb.2.2] at c1 c3 c4
  unfold wn at hr
  rw [c4, List.map_cons] at hr
  injection hr with hw hrest
  have hw1 : (out b p s (lvs (BL b p s f h) 0)).2.1 = "good" := congrArg Prod.fst hw
  have hw2 : (out b p s (lvs (BL b p s f h) 0)).2.2 = n := congrArg Prod.snd hw
  have hrest : rds (BL b p s f h) (c + 1) = [] := List.map_eq_nil_iff.mp hrest
  obtain ⟨g1, g2⟩ := out_good h.2.2.1 hw1
  have g2 := g2 (sz b p s - 1) (by have := h.2.2.1; omega) (by omega)
  rw [g1] at c1 c3
  have lastf : lev f ((sz b p s - 1 : Nat) : Int) = 1 := by
    rcases lev_01 zf ((sz b p s - 1 : Nat) : Int) with k | k
    · exfalso
      refine g2 ?_
      rw [lvs_BL zf, List.getD_eq_getElem?_getD, List.getElem?_map, List.getElem?_range (by omega)]
      show lev f (0 + ((sz b p s - 1 : Nat) : Int)) = 0
      rw [Int.zero_add]
      exact k
    · exact k
  have cE : c = ((sz b p s - 1 : Nat) : Int) := by
    refine Classical.byContradiction fun k => ?_
    exact c3 _ (by omega) (by omega) lastf
  have qu := quiet hO hrest
  have z0 : lev ls (a : Int) = 0 := by
    have := same 0 (by omega)
    rw [show (a : Int) + ((0 : Nat) : Int) = (a : Int) by omega] at this
    rw [this]
    exact h0
  obtain ⟨d, d1, d2, d3, d4⟩ := one_step (one_BL (h := h) (b := b) (p := p) (s := s) z) z0
  have hb : (BL b p s ls h).b = b ∧ (BL b p s ls h).p = p ∧ (BL b p s ls h).s = s := ⟨rfl, rfl, rfl⟩
  rw [hb.1, hb.2.1, hb.2.2, ← e0, g1] at d1 d3
  rw [hb.1, hb.2.1, hb.2.2, ← e0, hw1, hw2] at d4
  have last : lev ls ((a : Int) + ((sz b p s - 1 : Nat) : Int)) = 1 := by rw [same _ (by omega)]; exact lastf
  have dE : d = (a : Int) + ((sz b p s - 1 : Nat) : Int) := by
    refine Classical.byContradiction fun k => ?_
    exact d3 _ (Int.le_refl _) (by omega) last
  refine ⟨(a : Int), ?_⟩
  rw [d4]
  congr 1
  have := one_skips (one_BL (h := h) (b := b) (p := p) (s := s) z) (a := d + 1) (f.length - sz b p s) fun u h1 h2 => by
    obtain ⟨i, hi⟩ : ∃ i : Nat, u = (a : Int) + (i : Int) := ⟨(u - a).toNat, by omega⟩
    rw [hi, same i (by omega)]
    have := qu (i : Int) (by omega)
    rcases lev_01 zf (i : Int) with k | k
    · exact absurd k this
    · exact k
  rw [this]
  congr 1
  omega
end
/-! texts -/
section
variable {b : Nat} {p : Pa} {s : Nat} {b' : Nat} {p' : Pa} {s' : Nat} {h : Sp4 b' s'}
theorem z1_frm (n : Int) : z1 (SB.frm b p s n) := fun x hx => frm_01 hx
theorem z1_frms (ns : List Int) : z1 (frms b p s ns) := fun x hx => frms_01 hx
theorem frm_start (n : Int) : lev (SB.frm b p s n) 0 = 0 := rfl
theorem lev_app_l {a c : List Int} {i : Nat} (hi : i < a.length) : lev (a ++ c) (i : Int) = lev a (i : Int) := by
  unfold lev
  rw [if_pos (by omega), if_pos (by omega), Int.toNat_natCast, List.getD_eq_getElem?_getD, List.getD_eq_getElem?_getD, List.getElem?_append_left hi]
theorem lev_app_r {a c : List Int} (i : Nat) : lev (a ++ c) ((a.length : Int) + (i : Int)) = lev c (i : Int) := by
  unfold lev
  rw [if_pos (by omega), if_pos (by omega), Int.toNat_natCast, show ((a.length : Int) + (i : Int)).toNat = a.length + i by omega, List.getD_eq_getElem?_getD, List.getD_eq_getElem?_getD, List.getElem?_append_right (by omega), Nat.add_sub_cancel_left]
/-- a text whose numbers alone are read right, by frames that are not longer -/
theorem text_right (hle : sz b' p' s' ≤ sz b p s) : ∀ (ns : List Int) (pre : List Int), z1 pre → (∀ n ∈ ns, wn (rds (BL b' p' s' (SB.frm b p s n) h) 0) = [gd n]) →
    wn (rds (BL b' p' s' (pre ++ frms b p s ns) h) (pre.length : Int)) = ns.map gd
  | [], pre, zp, _ => by
    have e : pre ++ frms b p s [] = pre := by unfold frms; simp
    rw [e, one_end (one_BL (h := h) zp) (Int.le_refl _)]
    rfl
  | n :: ns, pre, zp, hr => by
    have e : pre ++ frms b p s (n :: ns) = (pre ++ SB.frm b p s n) ++ frms b p s ns := by unfold frms; simp
    have zz : z1 ((pre ++ SB.frm b p s n) ++ frms b p s ns) := fun x hx => by
      rcases List.mem_append.mp hx with g | g
      · rcases List.mem_append.mp g with g | g
        · exact zp x g
        · exact z1_frm n x g
      · exact z1_frms ns x g
    obtain ⟨st, hst⟩ := frame_in (b := b') (p := p') (s := s') (h := h) (f := SB.frm b p s n) (ls := (pre ++ SB.frm b p s n) ++ frms b p s ns) (z1_frm n) zz (n := n) (a := pre.length) (by rw [frm_sz]; exact hle) (frm_start n) (hr n (List.mem_cons_self ..)) (fun i hi => by
      rw [List.append_assoc, lev_app_r, lev_app_l hi])
    rw [e, hst]
    have ih := text_right hle ns (pre ++ SB.frm b p s n) (fun x hx => zz x (List.mem_append_left _ hx)) fun m hm => hr m (List.mem_cons_of_mem _ hm)
    rw [List.length_append, Int.natCast_add] at ih
    show _ :: wn _ = _ :: _
    rw [ih]
theorem text_right0 (hle : sz b' p' s' ≤ sz b p s) (ns : List Int) (hr : ∀ n ∈ ns, wn (rds (BL b' p' s' (SB.frm b p s n) h) 0) = [gd n]) : wn (rds (BL b' p' s' (frms b p s ns) h) 0) = ns.map gd :=
  text_right hle ns [] (fun x hx => by cases hx) hr
/-- longer frames see the next start bit -/
theorem two_wrong (hs : 1 ≤ s) (hlt : sz b p s < sz b' p' s') (h1 : wn (rds (BL b' p' s' (SB.frm b p s 0) h) 0) = [gd 0]) (m : Int) : wn (rds (BL b' p' s' (frms b p s [0, m]) h) 0) ≠ [gd 0, gd m] := by
  intro h2
  have hz : 2 ≤ sz b p s := by unfold sz; omega
  have fl := frm_sz b p s 0
  have e : frms b p s [0, m] = SB.frm b p s 0 ++ SB.frm b p s m := by unfold frms; simp
  rw [e] at h2
  have z2 : z1 (SB.frm b p s 0 ++ SB.frm b p s m) := fun x hx => by
    rcases List.mem_append.mp hx with g | g
    · exact z1_frm _ x g
    · exact z1_frm _ x g
  have s0 : lev (SB.frm b p s 0 ++ SB.frm b p s m) 0 = 0 := rfl
  obtain ⟨c, _, _, _, c4⟩ := one_step (one_BL (h := h) (b := b') (p := p') (s := s') (z1_frm (b := b) (p := p) (s := s) 0)) (frm_start 0)
  obtain ⟨d, _, _, _, d4⟩ := one_step (one_BL (h := h) (b := b') (p := p') (s := s') z2) s0
  have hb : ∀ ls, (BL b' p' s' ls h).b = b' ∧ (BL b' p' s' ls h).p = p' ∧ (BL b' p' s' ls h).s = s' := fun ls => ⟨rfl, rfl, rfl⟩
  rw [(hb _).1, (hb _).2.1, (hb _).2.2] at c4 d4
  unfold wn at h1 h2
  rw [c4, List.map_cons] at h1
  rw [d4, List.map_cons] at h2
  injection h1 with w1 _
  injection h2 with w2 _
  have g1 := congrArg Prod.snd w1
  have g2 := congrArg Prod.fst w2
  have g1 : (out b' p' s' (lvs (BL b' p' s' (SB.frm b p s 0) h) 0)).2.2 = 0 := g1
  have g2 : (out b' p' s' (lvs (BL b' p' s' (SB.frm b p s 0 ++ SB.frm b p s m) h) 0)).2.1 = "good" := g2
  -- the last stop bit is no bit of the number
  have last : lev (SB.frm b p s 0) ((sz b p s - 1 : Nat) : Int) = 1 := by
    obtain ⟨l, hl⟩ := frm_last (b := b) (p := p) 0 hs
    have ll : l.length = sz b p s - 1 := by
      have := congrArg List.length hl
      rw [fl, List.length_append] at this
      simp at this
      omega
    rw [hl, ← ll]
    have := lev_app_r (a := l) (c := [1]) 0
    rw [show (l.length : Int) + ((0 : Nat) : Int) = (l.length : Int) by omega] at this
    rw [this]
    rfl
  have nums : ∀ ls : List Int, (out b' p' s' ls).2.2 = num ((ls.drop 1).take b') := fun ls => by
    unfold out
    cases zat ls (sz b' p' s' - s') s' <;> rfl
  have zl : All01 (((lvs (BL b' p' s' (SB.frm b p s 0) h) 0).drop 1).take b') := fun x hx => by
    have := List.mem_of_mem_drop (List.mem_of_mem_take hx)
    rw [lvs_BL (z1_frm 0)] at this
    obtain ⟨i, _, rfl⟩ := List.mem_map.mp this
    exact lev_01 (z1_frm 0) _
  have bz : b' + 1 < sz b p s := by
    refine Classical.byContradiction fun k => ?_
    rw [nums] at g1
    have at_ : (((lvs (BL b' p' s' (SB.frm b p s 0) h) 0).drop 1).take b')[sz b p s - 2]? = some 1 := by
      rw [List.getElem?_take, if_pos (by omega), List.getElem?_drop, lvs_BL (z1_frm 0), List.getElem?_map, List.getElem?_range (by omega)]
      show some (lev _ (0 + ((1 + (sz b p s - 2) : Nat) : Int))) = _
      rw [Int.zero_add, show 1 + (sz b p s - 2) = sz b p s - 1 by omega, last]
    have pos : ∀ l : List Int, All01 l → ∀ i : Nat, l[i]? = some 1 → 0 < num l := by
      intro l
      induction l with
      | nil => intro _ i hi; cases hi
      | cons x l ih =>
        intro hz i hi
        have n0 := (num_bd (l := l) fun y hy => hz y (List.mem_cons_of_mem _ hy)).1
        have x0 := hz x (List.mem_cons_self ..)
        cases i with
        | zero =>
          cases hi
          show 0 < 1 + 2 * num l
          omega
        | succ i =>
          have := ih (fun y hy => hz y (List.mem_cons_of_mem _ hy)) i hi
          show 0 < x + 2 * num l
          omega
    have := pos _ zl _ at_
    omega
  -- but the start bit behind it is seen by a stop look
  have h3 := (out_good h.2.2.1 g2).2 (sz b p s) (by
    have : plen p' ≤ 1 := by cases p' <;> simp [plen]
    have e1 : sz b' p' s' = 1 + b' + plen p' + s' := rfl
    omega) hlt
  refine h3 ?_
  rw [lvs_BL z2, List.getD_eq_getElem?_getD, List.getElem?_map, List.getElem?_range hlt]
  show lev _ (0 + ((sz b p s : Nat) : Int)) = 0
  rw [Int.zero_add, ← fl]
  have := lev_app_r (a := SB.frm b p s 0) (c := SB.frm b p s m) 0
  rw [show ((SB.frm b p s 0).length : Int) + ((0 : Nat) : Int) = ((SB.frm b p s 0).length : Int) by omega] at this
  rw [this]
  rfl
end
/-! what is told, as data -/
def wnD (x : Str × Int) : PyData := .tuple [.str x.1, .int x.2]
theorem eqvAll_wn : ∀ l m : List (Str × Int), PyData.eqvAll (l.map wnD) (m.map wnD) = decide (l = m)
  | [], [] => by simp [PyData.eqvAll]
  | [], y :: m => by simp [PyData.eqvAll]
  | x :: l, [] => by simp [PyData.eqvAll]
  | (a, i) :: l, (c, j) :: m => by
    rw [List.map_cons, List.map_cons]
    simp only [PyData.eqvAll, eqvAll_wn l m, wnD, PyData.eqv]
    rw [Bool.eq_iff_iff]
    simp [and_assoc]
theorem eqv_wn (l m : List (Str × Int)) : PyData.eqv (.list (l.map wnD)) (.list (m.map wnD)) = decide (l = m) := by
  rw [← eqvAll_wn]
  simp only [PyData.eqv]
end PW
namespace PW
open PySem PySem.Spec PyProof.Rows L2 Evl SB PL
theorem bits_cons (b : Nat) (n : Int) : bits (b + 1) n = n % 2 :: bits b (n / 2) := by
  unfold bits
  rw [List.range_succ_eq_map, List.map_cons, List.map_map]
  congr 1
  · rw [Int.pow_zero, Int.ediv_one]
  · refine List.map_congr_left fun i _ => ?_
    show n / 2 ^ (i + 1) % 2 = n / 2 / 2 ^ i % 2
    rw [Int.ediv_ediv_of_nonneg (by decide), Int.pow_succ, Int.mul_comm]
theorem num_bits : ∀ (b : Nat) (n : Int), 0 ≤ n → n < 2 ^ b → num (bits b n) = n
  | 0, n, h0, h1 => by
    have h1 : n < 1 := h1
    obtain rfl : n = 0 := by omega
    rfl
  | b + 1, n, h0, h1 => by
    rw [bits_cons]
    rw [Int.pow_succ] at h1
    show n % 2 + 2 * num (bits b (n / 2)) = n
    rw [num_bits b (n / 2) (by omega) (by omega)]
    omega
section
variable {b : Nat} {p : Pa} {s : Nat} {h : Sp4 b s}
theorem out_frm (hs : 1 ≤ s) {n : Int} (h0 : 0 ≤ n) (h1 : n < 2 ^ b) : out b p s (SB.frm b p s n) = (sz b p s - 1, ("good" : Str), n) := by
  have fl := frm_sz b p s n
  have pl : (parL b p n).length = plen p := by cases p <;> rfl
  have hsz : sz b p s = 1 + b + plen p + s := rfl
  have body : SB.frm b p s n = (0 :: (bits b n ++ parL b p n)) ++ List.replicate s 1 := by
    unfold SB.frm
    simp [List.append_assoc]
  have bl : (0 :: (bits b n ++ parL b p n)).length = sz b p s - s := by
    rw [List.length_cons, List.length_append, bits_len, pl]
    omega
  have zn : zat (SB.frm b p s n) (sz b p s - s) s = none := zat_none.mpr fun j g1 g2 => by
    rw [body, List.getD_eq_getElem?_getD, List.getElem?_append_right (by omega), List.getElem?_replicate, if_pos (by omega)]
    decide
  have e1 : ((SB.frm b p s n).drop 1).take b = bits b n := by
    show (bits b n ++ (parL b p n ++ List.replicate s 1)).take b = _
    rw [List.take_append_of_le_length (by rw [bits_len]; exact Nat.le_refl _), List.take_of_length_le (by rw [bits_len]; exact Nat.le_refl _)]
  have e2 : ((SB.frm b p s n).drop 1).take (sz b p s - s - 1) = bits b n ++ parL b p n := by
    show (bits b n ++ (parL b p n ++ List.replicate s 1)).take _ = _
    rw [← List.append_assoc, List.take_append_of_le_length (by rw [List.length_append, bits_len, pl]; omega), List.take_of_length_le (by rw [List.length_append, bits_len, pl]; omega)]
  unfold out
  rw [zn, e1, e2, num_bits b n h0 h1]
  have : prt p (bits b n ++ parL b p n).sum = true := by
    rw [List.sum_append]
    cases p with
    | no => rfl
    | ev =>
      show decide (((bits b n).sum + ((bits b n).sum % 2 + 0)) % 2 = 0) = true
      exact decide_eq_true (by omega)
    | od =>
      show decide (((bits b n).sum + (1 - (bits b n).sum % 2 + 0)) % 2 = 1) = true
      exact decide_eq_true (by omega)
  show (_, if prt p _ = true then ("good" : Str) else "parity", n) = _
  rw [if_pos this]
theorem own_right {n : Int} (h0 : 0 ≤ n) (h1 : n < 2 ^ b) : wn (rds (BL b p s (SB.frm b p s n) h) 0) = [gd n] := by
  have z := z1_frm (b := b) (p := p) (s := s) n
  have O := one_BL (b := b) (p := p) (s := s) (h := h) z
  obtain ⟨c, c1, c2, c3, c4⟩ := one_step O (frm_start n)
  have hb : (BL b p s (SB.frm b p s n) h).b = b ∧ (BL b p s (SB.frm b p s n) h).p = p ∧ (BL b p s (SB.frm b p s n) h).s = s := ⟨rfl, rfl, rfl⟩
  have e : lvs (BL b p s (SB.frm b p s n) h) 0 = SB.frm b p s n := by
    rw [lvs_BL z]
    refine List.ext_getElem? fun i => ?_
    by_cases g : i < sz b p s
    · rw [List.getElem?_map, List.getElem?_range g]
      show some (lev _ (0 + (i : Int))) = _
      unfold lev
      rw [if_pos (by omega), show (0 + (i : Int)).toNat = i by omega, List.getD_eq_getElem?_getD, List.getElem?_eq_getElem (by rw [frm_sz]; exact g)]
      rfl
    · rw [List.getElem?_eq_none (by rw [List.length_map, List.length_range]; omega), List.getElem?_eq_none (by rw [frm_sz]; omega)]
  have hz : 2 ≤ sz b p s := by have := h.1; have := h.2.2.1; unfold sz; omega
  rw [hb.1, hb.2.1, hb.2.2, e, out_frm h.2.2.1 h0 h1] at c1 c3 c4
  have c1 : (0 : Int) + ((sz b p s - 1 : Nat) : Int) ≤ c := c1
  rw [c4, one_end O (by rw [frm_sz]; omega)]
  rfl
end
end PW
/-! PL10: pieces of tuples -/
namespace PL
open PySem PySem.Spec PyProof.Rows L2 Evl SB PW
section
variable {K : PySem.W.Frag} {ρ : List Sl} {te : TE} {ds : List PyData} {tl th : TO} {lo hi : Option Int}
theorem e_slT (h : E K te ρ (.tuple ds)) (hl : EP K tl ρ lo) (hh : EP K th ρ hi) (hw : ¬ (HT.sIx ds.length 0 lo = 0 ∧ HT.sIx ds.length ds.length hi = ds.length) := by decide) : E K (tSl (rSlT K) te tl th) ρ (.tuple (cutD ds lo hi)) := fun c F H σ en ex Q q =>
  h c F H σ en ex _ fun v F1 H1 g1 dv => hl c F1 H1 σ (en.gr g1) g1.fh _ fun F2 H2 g2 => hh c F2 H2 σ ((en.gr g1).gr g2) g2.fh _ fun F3 H3 g3 => by
    obtain ⟨a, xs, rfl, hl, da⟩ := dv.tup_inv
    have ff := g2.ff.trans g3.ff
    refine ⟨a, xs, rfl, ex_t g3.fh (ex_t ff hl), by rw [da.len]; exact hw, fun p n => ?_⟩
    have g := (g1.trans g2).trans g3
    have g4 := Gr.new (o := .tup (cutV xs lo hi)) g3.fh n
    exact q _ _ _ (g.trans g4) (.tup (st_of upd_same) ((cut_vd (da.ex ff) _ _).ex g4.ff))
end
/-- the text that another shape does not read right -/
def bad1 (b : Nat) (p : Pa) (s : Nat) (b' : Nat) (p' : Pa) (s' : Nat) (h : Sp4 b' s') (n : Int) : Bool := !decide (wn (rds (BL b' p' s' (SB.frm b p s n) h) 0) = [gd n])
def wrong (b : Nat) (p : Pa) (s : Nat) (b' : Nat) (p' : Pa) (s' : Nat) (h : Sp4 b' s') : Option (List Int) :=
  match ((List.range (2 ^ b)).map fun i : Nat => (i : Int)).find? (bad1 b p s b' p' s' h) with
  | some n => some [n]
  | none => if sz b p s < sz b' p' s' then some [0, 0] else none
def optL : Option (List Int) → PyData
  | none => .none
  | some l => .list (dI l)
section
variable {b : Nat} {p : Pa} {s : Nat} {b' : Nat} {p' : Pa} {s' : Nat} {h : Sp4 b' s'}
theorem wrong_none (w : wrong b p s b' p' s' h = none) : sz b' p' s' ≤ sz b p s ∧ ∀ n, 0 ≤ n → n < 2 ^ b → wn (rds (BL b' p' s' (SB.frm b p s n) h) 0) = [gd n] := by
  unfold wrong at w
  cases e : ((List.range (2 ^ b)).map fun i : Nat => (i : Int)).find? (bad1 b p s b' p' s' h) with
  | some n => rw [e] at w; cases w
  | none =>
    rw [e] at w
    refine ⟨?_, fun n h0 h1 => ?_⟩
    · refine Classical.byContradiction fun g => ?_
      simp only [if_pos (show sz b p s < sz b' p' s' by omega)] at w
      cases w
    · obtain ⟨k, rfl⟩ : ∃ k : Nat, n = k := ⟨n.toNat, by omega⟩
      have hk : k < 2 ^ b := by
        have e : (2 : Int) ^ b = ((2 ^ b : Nat) : Int) := by norm_cast
        omega
      have := List.find?_eq_none.mp e (k : Int) (List.mem_map.mpr ⟨k, List.mem_range.mpr hk, rfl⟩)
      unfold bad1 at this
      simpa using this
theorem wrong_self {h : Sp4 b s} : wrong b p s b p s h = none := by
  unfold wrong
  have e : ((List.range (2 ^ b)).map fun i : Nat => (i : Int)).find? (bad1 b p s b p s h) = none := by
    refine List.find?_eq_none.mpr fun n hn => ?_
    obtain ⟨k, hk, rfl⟩ := List.mem_map.mp hn
    have hk := List.mem_range.mp hk
    have e : (2 : Int) ^ b = ((2 ^ b : Nat) : Int) := by norm_cast
    unfold bad1
    rw [own_right (by omega) (by omega)]
    simp
  rw [e]
  exact if_neg (by omega)
theorem wrong_long (hlt : sz b p s < sz b' p' s') : ∃ l, wrong b p s b' p' s' h = some l := by
  unfold wrong
  cases ((List.range (2 ^ b)).map fun i : Nat => (i : Int)).find? (bad1 b p s b' p' s' h) with
  | some n => exact ⟨_, rfl⟩
  | none => exact ⟨[0, 0], if_pos hlt⟩
end
theorem frms_one {b : Nat} {p : Pa} {s : Nat} (n : Int) : frms b p s [n] = SB.frm b p s n := by unfold frms; simp
end PL
/-! PL11: defs that tell None or a list of one's own -/
namespace PL
open PySem PySem.Spec PyProof.Rows L2 Evl SB PW
def optD : Option (List PyData) → PyData
  | none => .none
  | some l => .list l
def SpM (K : PySem.W.Frag) (m : List PyData → (Option (List PyData) → Prop) → Prop) : Sp := fun vs H Q _ => ∃ F ds R, Ex F H ∧ VdAll K F vs ds ∧ m ds R ∧ (∀ F2 H2, Gr F H F2 H2 → R none → Q .non H2) ∧
  ∀ p xs F2 H2 es, Gr F H F2 H2 → H p = none → F2 p = none → H2 p = some (.lst xs) → VdAll K F2 xs es → R (some es) → Q (.ref p) H2
section
variable {K : PySem.W.Frag} {ρ : List Sl} {t tk : TA} {ds es : List PyData} {d : PyData} {m : List PyData → (Option (List PyData) → Prop) → Prop} {X : XK} {e : En} {i : Nat}
theorem SpM.len {n : Nat} (hm : ∀ ds R, m ds R → ds.length = n) {vs : List V} {H : Hp} {Q : VK} {X : XK} (h : SpM K m vs H Q X) : vs.length = n := by
  obtain ⟨F, ds, R, ex, dv, h, q⟩ := h
  rw [dv.len, hm ds R h]
theorem body_M {t : TS} {N : List Str} (hb : ∀ ds R, m ds R → XS K t (rs N.length ds) { nx := fun _ => R none, rt := fun d _ => d = .none ∧ R none, ro := fun es _ => R (some es) })
    {vs : List V} {H : Hp} {Q : VK} {X : XK} (h : SpM K m vs H Q X) : t { nx := fun _ H' => Q .non H', rt := Q } (L2.start N vs) H := by
  obtain ⟨F, ds, R, ex, dv, hm, q1, q2⟩ := h
  refine hb ds R hm ⟨fun _ => False, F, H⟩ F H _ _ (.init ex) (env_rs dv) ⟨fun σ F' H' ρ e s n r => q1 F' H' s.to_gr r, fun _ _ _ _ _ _ _ z => z.elim, fun _ _ _ _ _ _ _ z => z.elim, fun v σ F' H' d ρ e s n dv r => ?_,
    fun p xs σ F' H' ds ρ e s n n0 f _ hl dd r => q2 p xs F' H' ds s.to_gr n0 f hl dd r⟩
  obtain ⟨rfl, r⟩ := r
  cases dv
  exact q1 F' H' s.to_gr r
theorem cem (h : m ds fun o => optD o = d) : CE K (SpM K m) ds d := fun F H vs Q X ex dv q => ⟨F, ds, _, ex, dv, h, fun F2 H2 g r => by
    have r : PyData.none = d := r
    subst r
    exact q _ F2 H2 g .non, fun p xs F2 H2 es g n f hl dv r => by
    have r : PyData.list es = d := r
    subst r
    exact q _ _ H2 (g.freeze n f hl) (.lst upd_same (dv.ex (Ex.new f)))⟩
/-- x = f(..), by keyword -/
theorem x_asgMK {gV : List V → List V → List V} (h : EA K tk ρ ds) (hp : ∀ F vs, VdAll K F vs ds → VdAll K F (gV [] vs) es) (hm : m es fun o => match o with
    | none => e.nx (ρ.set i (.sh .none))
    | some l => e.nx (ρ.set i (.ow true l))) : XS K (tAsg (tCallK (SpM K m) gV X tNil tk) (gName i)) ρ e := fun c F H σ D st en ok =>
  h c F H σ en st.fh _ fun vs F1 H1 g1 dvs => ⟨F1, es, _, g1.fh, hp F1 vs dvs, hm, fun F2 H2 g r => ok.nx _ F2 H2 _ (g1.ff.trans g.ff) ((st.gr g1).gr g) (((en.gr g1).gr g).set_sh .non) r,
    fun p xs F2 H2 es g n f hl dv r => ok.nx _ F2 H2 _ (g1.ff.trans g.ff) ((st.gr g1).gr g) (((en.gr g1).gr g).set_ow ((Kpt.gr (ρ := ρ) (σ := σ) g).ap ((en.gr g1).apart n)) ((st.gr g1).none n) f hl dv) r⟩
end
/-- the first bad number below k, or two zeros, or none -/
def wrongE (b : Nat) (p : Pa) (s : Nat) (b' : Nat) (p' : Pa) (s' : Nat) (h : Sp4 b' s') (k : Nat) : Option (List Int) :=
  match ((List.range k).map fun i : Nat => (i : Int)).find? (bad1 b p s b' p' s' h) with
  | some n => some [n]
  | none => if sz b p s < sz b' p' s' then some [0, 0] else none
theorem wrongE_all {b : Nat} {p : Pa} {s b' : Nat} {p' : Pa} {s' : Nat} {h : Sp4 b' s'} : wrongE b p s b' p' s' h (2 ^ b) = wrong b p s b' p' s' h := rfl
theorem find_up {b : Nat} {p : Pa} {s b' : Nat} {p' : Pa} {s' : Nat} {h : Sp4 b' s'} {i k : Nat} (lt : i < k) (hf : ((List.range i).map fun i : Nat => (i : Int)).find? (bad1 b p s b' p' s' h) = none) (g : bad1 b p s b' p' s' h i = true) : ((List.range k).map fun i : Nat => (i : Int)).find? (bad1 b p s b' p' s' h) = some (i : Int) := by
  have sp : List.range k = List.range i ++ (i :: (List.range k).drop (i + 1)) := by
    have h1 : (List.range k).take i = List.range i := by rw [List.take_range, Nat.min_eq_left (by omega)]
    have h2 := List.take_append_drop i (List.range k)
    rw [h1] at h2
    rw [← List.getElem_cons_drop (show i < (List.range k).length by rw [List.length_range]; exact lt), List.getElem_range] at h2
    exact h2.symm
  rw [sp, List.map_append, List.find?_append, hf, List.map_cons, List.find?_cons_of_pos g]
  rfl
theorem find_no {b : Nat} {p : Pa} {s b' : Nat} {p' : Pa} {s' : Nat} {h : Sp4 b' s'} {i : Nat} (hf : ((List.range i).map fun i : Nat => (i : Int)).find? (bad1 b p s b' p' s' h) = none) (g : bad1 b p s b' p' s' h i = false) : ((List.range (i + 1)).map fun i : Nat => (i : Int)).find? (bad1 b p s b' p' s' h) = none := by
  rw [List.range_succ, List.map_append, List.find?_append, hf, List.map_cons, List.map_nil, List.find?_cons_of_neg (by rw [g]; decide)]
  rfl
theorem find_all {b : Nat} {p : Pa} {s b' : Nat} {p' : Pa} {s' : Nat} {h : Sp4 b' s'} {k : Nat} (hf : ((List.range k).map fun i : Nat => (i : Int)).find? (bad1 b p s b' p' s' h) = none) {i : Nat} (lt : i < k) : wn (rds (BL b' p' s' (SB.frm b p s i) h) 0) = [gd i] := by
  have := List.find?_eq_none.mp hf (i : Int) (List.mem_map.mpr ⟨i, List.mem_range.mpr lt, rfl⟩)
  unfold bad1 at this
  simpa using this
end PL
/-! a op b op' c op'' d -/
namespace L2
open PySem PySem.Spec PyProof.Rows
def tChain3 (r r' r'' : R2) (ta tb tc td : TE) : TE := fun σ H Q => ta σ H fun x H1 => tb σ H1 fun y H2 => r x y H2 fun z H3 => ∃ k, z = .bl k ∧
  (if k = true then tc σ H3 fun w H4 => r' y w H4 fun z2 H5 => ∃ k2, z2 = .bl k2 ∧ (if k2 = true then td σ H5 fun w2 H6 => r'' w w2 H6 Q else Q (.bl false) H5) else Q (.bl false) H3)
section
variable {X : Cx} {a b c d : Expr} {ta tb tc td : TE} {pos : Pos}
theorem pe_chain3 {op op' op'' : CmpOp} {r r' r'' : R2} (ho : OpR X (compareOp op) r) (ho' : OpR X (compareOp op') r') (ho'' : OpR X (compareOp op'') r'') (ha : PE X a ta) (hb : PE X b tb) (hc : PE X c tc) (hd : PE X d td)
    (hm : lastMarks [op, op', op''] [b, c, d] = false := by with_unfolding_all rfl) : PE X (.Compare a [op, op', op''] [b, c, d] pos) (tChain3 r r' r'' ta tb tc td) := by
  refine ⟨fun pins s σ H Q I h => ?_⟩
  refine Compare_chain (thn (ha.run pins s σ H _ I h) fun v s1 ⟨x, H1, I1, r1, q1⟩ => chain_link (thn (hb.run pins s1 σ H1 _ I1 q1) fun u s2 ⟨y, H2, I2, r2, q2⟩ =>
    thn (ho pins s2 σ H2 x y v u _ I2 r1 r2 q2) fun d s3 ⟨z, H3, I3, r3, k, e, q3⟩ => ?_)) hm
  subst e
  cases r3
  refine wpAny_truthy_bool ?_
  cases k with
  | false => exact ite_ff ⟨.bl false, H3, I3, rfl, q3⟩
  | true =>
    refine ite_tt (chain_link (thn (hc.run pins s3 σ H3 _ I3 q3) fun u2 s4 ⟨y2, H4, I4, r4, q4⟩ => thn (ho' pins s4 σ H4 y y2 u u2 _ I4 r2 r4 q4) fun d2 s5 ⟨z2, H5, I5, r5, k2, e2, q5⟩ => ?_))
    subst e2
    cases r5
    refine wpAny_truthy_bool ?_
    cases k2 with
    | false => exact ite_ff ⟨.bl false, H5, I5, rfl, q5⟩
    | true => exact ite_tt (chain_last (thn (hd.run pins s5 σ H5 _ I5 q5) fun w' s6 ⟨z', H6, I6, r6, q6⟩ => ho'' pins s6 σ H6 y2 z' u2 w' Q I6 r4 r6 q6))
theorem pt_chain3 {op op' op'' : CmpOp} {r r' r'' : R2} (ho : OpR X (compareOp op) r) (ho' : OpR X (compareOp op') r') (ho'' : OpR X (compareOp op'') r'') (ha : PE X a ta) (hb : PE X b tb) (hc : PE X c tc) (hd : PE X d td)
    (hm : lastMarks [op, op', op''] [b, c, d] = false := by with_unfolding_all rfl) : PT X (.Compare a [op, op', op''] [b, c, d] pos) (tTest (tChain3 r r' r'' ta tb tc td)) := by
  refine ⟨fun pins s σ H Q I h => ?_⟩
  refine isTrue_chain (thn (ha.run pins s σ H _ I h) fun v s1 ⟨x, H1, I1, r1, q1⟩ => test_link (thn (hb.run pins s1 σ H1 _ I1 q1) fun u s2 ⟨y, H2, I2, r2, q2⟩ =>
    thn (ho pins s2 σ H2 x y v u _ I2 r1 r2 q2) fun d s3 ⟨z, H3, I3, r3, k, e, q3⟩ => ?_)) hm
  subst e
  cases r3
  refine wpAny_truthy_bool ?_
  cases k with
  | false =>
    obtain ⟨k', e', q'⟩ := q3
    cases e'
    exact ite_ff ⟨H3, I3, q'⟩
  | true =>
    refine ite_tt (test_link (thn (hc.run pins s3 σ H3 _ I3 q3) fun u2 s4 ⟨y2, H4, I4, r4, q4⟩ => thn (ho' pins s4 σ H4 y y2 u u2 _ I4 r2 r4 q4) fun d2 s5 ⟨z2, H5, I5, r5, k2, e2, q5⟩ => ?_))
    subst e2
    cases r5
    refine wpAny_truthy_bool ?_
    cases k2 with
    | false =>
      obtain ⟨k', e', q'⟩ := q5
      cases e'
      exact ite_ff ⟨H5, I5, q'⟩
    | true =>
      refine ite_tt (test_last (thn (hd.run pins s5 σ H5 _ I5 q5) fun w' s6 ⟨z', H6, I6, r6, q6⟩ => thn (ho'' pins s6 σ H6 y2 z' u2 w' _ I6 r4 r6 q6) fun d' s7 ⟨z3, H7, I7, r7, k3, e3, q7⟩ => ?_))
      subst e3
      cases r7
      exact wpAny_truthy_bool ⟨H7, I7, q7⟩
end
end L2
/-! PLT: marks on what a def's text does, and rules with the way on first, so that steps can be taken one after another without a word -/
namespace PL
open PySem PySem.Spec PyProof.Rows L2 Evl SB PW
/-- nothing is changed by this expression -/
def tP (te : TE) : TE := te
/-- .. and it reads lists of one's own -/
def tLook (te : TE) : TE := te
def tPT (tt : TT) : TT := tt
def tLookT (tt : TT) : TT := tt
/-- the new list that is stored here is one's own -/
def tOwn (ts : TS) : TS := ts
/-- these lists of one's own are not changed any more -/
def tFrz (is : List Nat) (ts : TS) : TS := ts
def tIfeI (tt : TT) (ta tb : TE) : TE := tIf tt ta tb
def tIfeS (tt : TT) (ta tb : TE) : TE := tIf tt ta tb
def tIfeB (tt : TT) (ta tb : TE) : TE := tIf tt ta tb
def tIfeL (tt : TT) (ta tb : TE) : TE := tIf tt ta tb
def iP (wi : TI) : TI := wi
section
variable {X : Cx} {te : TE} {tt : TT} {ts : TS} {e : Expr} {st : Stmt} {wi : TI} {tg : Expr}
theorem pe_p (h : PE X e te) : PE X e (tP te) := h
theorem pe_look (h : PE X e te) : PE X e (tLook te) := h
theorem pt_p (h : PT X e tt) : PT X e (tPT tt) := h
theorem pt_look (h : PT X e tt) : PT X e (tLookT tt) := h
theorem ps_own (h : PS X st ts) : PS X st (tOwn ts) := h
theorem ps_frz (is : List Nat) (h : PS X st ts) : PS X st (tFrz is ts) := h
theorem pe_ifI {ta tb : TE} (h : PE X e (tIf tt ta tb)) : PE X e (tIfeI tt ta tb) := h
theorem pe_ifS {ta tb : TE} (h : PE X e (tIf tt ta tb)) : PE X e (tIfeS tt ta tb) := h
theorem pe_ifB {ta tb : TE} (h : PE X e (tIf tt ta tb)) : PE X e (tIfeB tt ta tb) := h
theorem pe_ifL {ta tb : TE} (h : PE X e (tIf tt ta tb)) : PE X e (tIfeL tt ta tb) := h
end
section
variable {K : PySem.W.Frag} {ρ ρ2 : List Sl} {te ta tb tc : TE} {t tr : TA} {tt tu : TT} {ts tu' : TS} {r : R2} {Q : PyData → List Sl → Prop} {QA : List PyData → List Sl → Prop} {QT : Bool → List Sl → Prop} {d x y z : PyData} {ds es : List PyData} {a b : Bool} {e : En} {i j l : Nat}
/-! pure expressions: as before, under the marks -/
theorem e_p (h : E K te ρ d) : E K (tP te) ρ d := h
theorem e_lk (h : E K te ρ d) : E K (tLook te) ρ d := h
theorem et_p (h : ET K tt ρ b) : ET K (tPT tt) ρ b := h
theorem et_lk (h : ET K tt ρ b) : ET K (tLookT tt) ρ b := h
theorem e_if_I {i j : Int} (h : ET K tt ρ a) (h1 : a = true → E K ta ρ (.int i)) (h2 : a = false → E K tb ρ (.int j)) : E K (tIfeI tt ta tb) ρ (.int (if a = true then i else j)) := e_ifI h h1 h2
theorem e_if_S {i j : Str} (h : ET K tt ρ a) (h1 : a = true → E K ta ρ (.str i)) (h2 : a = false → E K tb ρ (.str j)) : E K (tIfeS tt ta tb) ρ (.str (if a = true then i else j)) := e_ifS h h1 h2
theorem e_if_B {i j : Bool} (h : ET K tt ρ a) (h1 : a = true → E K ta ρ (.bool i)) (h2 : a = false → E K tb ρ (.bool j)) : E K (tIfeB tt ta tb) ρ (.bool (if a = true then i else j)) := e_ifB h h1 h2
theorem e_if_L (h : ET K tt ρ a) (h1 : a = true → E K ta ρ (.list ds)) (h2 : a = false → E K tb ρ (.list es)) : E K (tIfeL tt ta tb) ρ (.list (if a = true then ds else es)) := e_ifL h h1 h2
theorem eo_if_L (h : ET K tt ρ a) (h1 : a = true → EO K ta ρ ds) (h2 : a = false → EO K tb ρ es) : EO K (tIfeL tt ta tb) ρ (if a = true then ds else es) := eo_if h (fun e => by subst e; exact h1 rfl) (fun e => by subst e; exact h2 rfl)
theorem eo_cat (ha : E K ta ρ (.list ds)) (hb : E K tb ρ (.list es)) (h : ds.length + es.length ≤ 100000) : EO K (tOp rCat ta tb) ρ (ds ++ es) := eo_op ha hb (oo_cat h)
theorem e_cat (ha : E K ta ρ (.list ds)) (hb : E K tb ρ (.list es)) (h : ds.length + es.length ≤ 100000) : E K (tOp rCat ta tb) ρ (.list (ds ++ es)) := eo_e (eo_cat ha hb h)
theorem eo_rep {k : Int} (ha : E K ta ρ (.list ds)) (hb : E K tb ρ (.int k)) (h0 : -(2 ^ 63) ≤ k) (h1 : k < 2 ^ 63) (h : ds.length * k.toNat ≤ 100000) : EO K (tOp rRep ta tb) ρ (List.replicate k.toNat ds).flatten := eo_op ha hb (oo_rep h0 h1 h)
theorem e_rep {k : Int} (ha : E K ta ρ (.list ds)) (hb : E K tb ρ (.int k)) (h0 : -(2 ^ 63) ≤ k) (h1 : k < 2 ^ 63) (h : ds.length * k.toNat ≤ 100000) : E K (tOp rRep ta tb) ρ (.list (List.replicate k.toNat ds).flatten) := eo_e (eo_rep ha hb h0 h1 h)
variable {tl th : TO} {lo hi : Option Int}
theorem e_slL (h : E K te ρ (.list ds)) (hl : EP K tl ρ lo) (hh : EP K th ρ hi) : E K (tSl (rSlL K) te tl th) ρ (.list (cutD ds lo hi)) := eo_e (eo_slL h hl hh)
theorem e_rev (h : E K te ρ (.list ds)) : E K (tRevL K te) ρ (.list ds.reverse) := eo_e (eo_rev h)
theorem e_lcE {wi : TI} {g : TG} {ws : List Nat} (h : EO K (tLc wi g tt te ws) ρ ds) : E K (tLc wi g tt te ws) ρ (.list ds) := eo_e h
theorem e_lsL {rr : List V → Hp → VK → Prop} (h : EA K t ρ ds) (hr : CbO K rr ds es) : E K (tCB rr t) ρ (.list es) := eo_e (eo_cb h hr)
theorem and_k {A B : Prop} (k : B) (a : A) : A ∧ B := ⟨a, k⟩
/-! with a way on -/
theorem w_p (h : E K te ρ d) (k : Q d ρ) : W K (tP te) ρ Q := w_e h k
theorem w_pL (h : E K te ρ d) (k : Q d ρ) : W K (tLook te) ρ Q := w_e h k
theorem w_lk (h : E K te (ρ.map fz) d) (k : Q d ρ) (f : flt d = true) : W K (tLook te) ρ Q := w_e (e_fz h f) k
theorem wo_p (h : EO K te ρ ds) (k : QA ds ρ) : WO K (tP te) ρ QA := wo_e h k
theorem wo_pL (h : EO K te ρ ds) (k : QA ds ρ) : WO K (tLook te) ρ QA := wo_e h k
theorem wo_lk (h : EO K te (ρ.map fz) ds) (k : QA ds ρ) (f : ds.all flt = true) : WO K (tLook te) ρ QA := wo_e (eo_fz h f) k
theorem wt_p (h : ET K tt ρ b) (k : QT b ρ) : WT K (tPT tt) ρ QT := wt_e h k
theorem wt_pL (h : ET K tt ρ b) (k : QT b ρ) : WT K (tLookT tt) ρ QT := wt_e h k
theorem wt_lk (h : ET K tt (ρ.map fz) b) (k : QT b ρ) : WT K (tLookT tt) ρ QT := wt_e (et_fz h) k
def Sd (P : Prop) : Prop := P
def Lat (P : Prop) : Prop := P
/-- two ways -/
def Ifk (b : Bool) (A B : Prop) : Prop := (b = true → A) ∧ (b = false → B)
theorem ifk {b : Bool} {A B : Prop} (h : b = true → A) (g : b = false → B) : Ifk b A B := ⟨h, g⟩
theorem ifk_t {A B : Prop} (h : A) : Ifk true A B := ⟨fun _ => h, fun z => nomatch z⟩
theorem ifk_f {A B : Prop} (h : B) : Ifk false A B := ⟨fun z => (nomatch z), fun _ => h⟩
theorem x_ifk (h : WT K tt ρ fun b ρ2 => Ifk b (XS K ts ρ2 e) (XS K tu' ρ2 e)) : XS K (tIfS tt ts tu') ρ e := x_ifW h
theorem w_ifW (h : WT K tt ρ fun b ρ2 => Ifk b (W K ta ρ2 Q) (W K tb ρ2 Q)) : W K (tIf tt ta tb) ρ Q := fun c F H σ st en Q' k =>
  h c F H σ st en _ fun b F1 H1 ρ1 e1 s1 n1 k1 q => by
    cases b with
    | true =>
      rw [if_pos rfl]
      exact q.1 rfl c F1 H1 σ s1 n1 Q' fun v F2 H2 d ρ2 e2 s2 n2 k2 v2 q2 => k v F2 H2 d ρ2 (e1.trans e2) s2 n2 (k1.trans k2) v2 q2
    | false =>
      rw [if_neg Bool.false_ne_true]
      exact q.2 rfl c F1 H1 σ s1 n1 Q' fun v F2 H2 d ρ2 e2 s2 n2 k2 v2 q2 => k v F2 H2 d ρ2 (e1.trans e2) s2 n2 (k1.trans k2) v2 q2
theorem wo_ifW (h : WT K tt ρ fun b ρ2 => Ifk b (WO K ta ρ2 QA) (WO K tb ρ2 QA)) : WO K (tIf tt ta tb) ρ QA := fun c F H σ st en Q' k =>
  h c F H σ st en _ fun b F1 H1 ρ1 e1 s1 n1 k1 q => by
    cases b with
    | true =>
      rw [if_pos rfl]
      exact q.1 rfl c F1 H1 σ s1 n1 Q' fun p xs F2 H2 d ρ2 e2 s2 n2 k2 n f hl v2 q2 => k p xs F2 H2 d ρ2 (e1.trans e2) s2 n2 (k1.trans k2) (k1.back n) f hl v2 q2
    | false =>
      rw [if_neg Bool.false_ne_true]
      exact q.2 rfl c F1 H1 σ s1 n1 Q' fun p xs F2 H2 d ρ2 e2 s2 n2 k2 n f hl v2 q2 => k p xs F2 H2 d ρ2 (e1.trans e2) s2 n2 (k1.trans k2) (k1.back n) f hl v2 q2
theorem w_if_I (h : W K (tIf tt ta tb) ρ Q) : W K (tIfeI tt ta tb) ρ Q := h
theorem w_if_S (h : W K (tIf tt ta tb) ρ Q) : W K (tIfeS tt ta tb) ρ Q := h
theorem w_if_B (h : W K (tIf tt ta tb) ρ Q) : W K (tIfeB tt ta tb) ρ Q := h
theorem w_if_L (h : W K (tIf tt ta tb) ρ Q) : W K (tIfeL tt ta tb) ρ Q := h
theorem wo_if_L (h : WO K (tIf tt ta tb) ρ QA) : WO K (tIfeL tt ta tb) ρ QA := h
theorem w_orV (h : W K ta ρ fun d ρ1 => ∃ a, d = .bool a ∧ Ifk a (Q (.bool true) ρ1) (W K tb ρ1 Q)) : W K (tOrV ta tb) ρ Q := fun c F H σ st en Q' k =>
  h c F H σ st en _ fun v F1 H1 d ρ1 e1 s1 n1 k1 dv ⟨a, hd, q⟩ => by
    subst hd
    cases dv
    refine ⟨a, rfl, ?_⟩
    cases a with
    | true =>
      rw [if_pos rfl]
      exact k _ F1 H1 _ ρ1 e1 s1 n1 k1 (.bl _) (q.1 rfl)
    | false =>
      rw [if_neg Bool.false_ne_true]
      exact q.2 rfl c F1 H1 σ s1 n1 Q' fun v F2 H2 d ρ2 e2 s2 n2 k2 v2 q2 => k v F2 H2 d ρ2 (e1.trans e2) s2 n2 (k1.trans k2) v2 q2
theorem w_andV (h : W K ta ρ fun d ρ1 => ∃ a, d = .bool a ∧ Ifk a (W K tb ρ1 Q) (Q (.bool false) ρ1)) : W K (tAndV ta tb) ρ Q := fun c F H σ st en Q' k =>
  h c F H σ st en _ fun v F1 H1 d ρ1 e1 s1 n1 k1 dv ⟨a, hd, q⟩ => by
    subst hd
    cases dv
    refine ⟨a, rfl, ?_⟩
    cases a with
    | true =>
      rw [if_pos rfl]
      exact q.1 rfl c F1 H1 σ s1 n1 Q' fun v F2 H2 d ρ2 e2 s2 n2 k2 v2 q2 => k v F2 H2 d ρ2 (e1.trans e2) s2 n2 (k1.trans k2) v2 q2
    | false =>
      rw [if_neg Bool.false_ne_true]
      exact k _ F1 H1 _ ρ1 e1 s1 n1 k1 (.bl _) (q.2 rfl)
theorem wt_andK (h : WT K tt ρ fun a ρ2 => Ifk a (WT K tu ρ2 QT) (QT false ρ2)) : WT K (tAnd tt tu) ρ QT := wt_and h
theorem wt_orK (h : WT K tt ρ fun a ρ2 => Ifk a (QT true ρ2) (WT K tu ρ2 QT)) : WT K (tOr tt tu) ρ QT := wt_or h
/-! what an operation of known things tells -/
theorem k_op {Q : PyData → Prop} (h : OpE K r x y z) (k : Q z) : ∃ z, OpE K r x y z ∧ Q z := ⟨z, h, k⟩
theorem k_oo {Q : List PyData → Prop} (h : OpO K r x y ds) (k : Q ds) : ∃ z, OpO K r x y z ∧ Q z := ⟨ds, h, k⟩
theorem k_cb {rr : List V → Hp → VK → Prop} {Q : PyData → Prop} (h : CbE K rr ds z) (k : Q z) : ∃ z, CbE K rr ds z ∧ Q z := ⟨z, h, k⟩
theorem k_bool {Q : Bool → Prop} {b : Bool} (k : Q b) : ∃ b', PyData.bool b = .bool b' ∧ Q b' := ⟨b, rfl, k⟩
theorem k_int {Q : Int → Prop} {i : Int} (k : Q i) : ∃ i', PyData.int i = .int i' ∧ Q i' := ⟨i, rfl, k⟩
theorem k_list {Q : List PyData → Prop} (k : Q ds) : ∃ ds', PyData.list ds = .list ds' ∧ Q ds' := ⟨ds, rfl, k⟩
theorem k_pair {Q : PyData → PyData → Prop} (k : Q x y) : ∃ a b, [x, y] = [a, b] ∧ Q a b := ⟨x, y, rfl, k⟩
theorem k_trip {Q : PyData → PyData → PyData → Prop} (k : Q x y z) : ∃ a b c, [x, y, z] = [a, b, c] ∧ Q a b c := ⟨x, y, z, rfl, k⟩
theorem w_tupK (h : WA K t ρ fun ds ρ2 => Q (.tuple ds) ρ2 ∧ Sd (ds.length ≤ 100000)) : W K (tTup t) ρ Q := w_tup fun c F H σ st en Q' k => h c F H σ st en Q' fun vs F2 H2 ds ρ2 a b c d e q => k vs F2 H2 ds ρ2 a b c d e ⟨q.2, q.1⟩
theorem wo_lstK (h : WA K t ρ fun ds ρ2 => QA ds ρ2 ∧ Sd (ds.length ≤ 100000)) : WO K (tLst t) ρ QA := wo_lst fun c F H σ st en Q' k => h c F H σ st en Q' fun vs F2 H2 ds ρ2 a b c d e q => k vs F2 H2 ds ρ2 a b c d e ⟨q.2, q.1⟩
theorem w_lstK (h : WA K t ρ fun ds ρ2 => Q (.list ds) ρ2 ∧ Sd (ds.length ≤ 100000)) : W K (tLst t) ρ Q := w_wo (wo_lstK h)
theorem k_sd {A B : Prop} (s : Sd B) (k : A) : A ∧ Sd B := ⟨k, s⟩
/-- lists concatenated, what makes them may change lists of one's own -/
theorem wo_cat (h : W K ta ρ fun d1 ρ1 => W K tb ρ1 fun d2 ρ2 => ∃ l1 l2, d1 = .list l1 ∧ d2 = .list l2 ∧ QA (l1 ++ l2) ρ2 ∧ Sd (l1.length + l2.length ≤ 100000)) : WO K (tOp rCat ta tb) ρ QA :=
  wo_op (w_mono h fun d1 ρ1 q => w_mono q fun d2 ρ2 q2 => by
    obtain ⟨l1, l2, rfl, rfl, q3, hl⟩ := q2
    exact ⟨_, oo_cat hl, q3⟩)
theorem w_cat (h : W K ta ρ fun d1 ρ1 => W K tb ρ1 fun d2 ρ2 => ∃ l1 l2, d1 = .list l1 ∧ d2 = .list l2 ∧ Q (.list (l1 ++ l2)) ρ2 ∧ Sd (l1.length + l2.length ≤ 100000)) : W K (tOp rCat ta tb) ρ Q := w_wo (wo_cat h)
theorem w_list (h : WA K t ρ fun ds ρ2 => ∃ l, ds = [.list l] ∧ Q (.list l) ρ2) : W K (tCB (fun xs H Q => ∃ p ys, xs = [V.ref p] ∧ (SqL K H p ys ∨ SqT K H p ys) ∧ ∀ (l : Addr), H l = none → Q (V.ref l) (upd H l (HO.lst ys))) t) ρ Q := fun c F H σ st en Q' k =>
  h c F H σ st en _ fun vs F2 H2 ds ρ2 e2 s2 n2 k2 v2 q2 => by
    obtain ⟨l, rfl, q⟩ := q2
    refine co_list (ds := l) F2 H2 vs s2.fh v2 Q' fun p xs F3 H3 g n f hl dw => ?_
    exact k _ _ H3 _ ρ2 (e2.trans (g.ff.trans (Ex.new f))) ((s2.gr g).freeze ((s2.none n)) f hl) (((n2.gr g)).share (((Kpt.gr (ρ := ρ2) (σ := σ) g).ap (n2.apart n))) f) (k2.trans ⟨fun p o _ h => g.hh p o h, fun i b ds h => ⟨ds, h⟩, fun p h => ne_ex g.hh h, fun q h1 h2 => by
      by_cases z : q = p
      · subst z
        exact absurd n h1
      · rw [upd_ne z]
        exact g.fr q h1 h2⟩) (.lst upd_same (dw.ex (Ex.new f))) q
/-! several things stored at once, some of them new lists of one's own -/
inductive Mk (K : PySem.W.Frag) (c : Cn) (F H : Hp) : List V → List Sl → List Addr → Prop
  | nil : Mk K c F H [] [] []
  | sh {v : V} {d : PyData} {vs : List V} {ss : List Sl} {ps : List Addr} : Vd K F v d → Mk K c F H vs ss ps → Mk K c F H (v :: vs) (.sh d :: ss) ps
  | ow {p : Addr} {xs : List V} {ds : List PyData} {vs : List V} {ss : List Sl} {ps : List Addr} : c.H0 p = none → F p = none → H p = some (.lst xs) → VdAll K F xs ds → p ∉ ps → Mk K c F H vs ss ps → Mk K c F H (.ref p :: vs) (.ow true ds :: ss) (p :: ps)
def WM (K : PySem.W.Frag) (ta : TA) (ρ : List Sl) (Q : List Sl → List Sl → Prop) : Prop := ∀ c F H σ, Sta c F H → Env K c F H σ ρ → ∀ Q' : List V → Hp → Prop,
  (∀ vs F2 H2 ss ps ρ2, Ex F F2 → Sta c F2 H2 → Env K c F2 H2 σ ρ2 → Kpt σ ρ F H ρ2 F2 H2 → Mk K c F2 H2 vs ss ps → (∀ p ∈ ps, H p = none) → Q ss ρ2 → Q' vs H2) → ta σ H Q'
variable {QM : List Sl → List Sl → Prop}
theorem wm_nil (q : QM [] ρ) : WM K tNil ρ QM := fun c F H σ st en Q' k => k [] F H [] [] ρ (Ex.refl F) st en (.gr (Gr.refl st.fh)) .nil (fun _ h => nomatch h) q
theorem Mk.ap {c : Cn} {F H : Hp} {σ : L2.St} (en : Env K c F H σ ρ) : ∀ {ps : List Addr}, (∀ p ∈ ps, H p = none) → ∀ p ∈ ps, Apart σ ρ p := fun h p hp => en.apart (h p hp)
theorem wm_sh (h : W K te ρ fun d ρ1 => WM K tr ρ1 fun ss ρ2 => QM (.sh d :: ss) ρ2) : WM K (tCons te tr) ρ QM := fun c F H σ st en Q' k =>
  h c F H σ st en _ fun u F1 H1 d1 ρ1 e1 s1 n1 k1 v1 q1 => q1 c F1 H1 σ s1 n1 _ fun vs F2 H2 ss ps ρ2 e2 s2 n2 k2 m2 f2 q2 => k _ F2 H2 _ ps ρ2 (e1.trans e2) s2 n2 (k1.trans k2) (.sh (v1.ex e2) m2) (fun p hp => k1.back (f2 p hp)) q2
theorem wm_ow (h : WO K te ρ fun ds ρ1 => WM K tr ρ1 fun ss ρ2 => QM (.ow true ds :: ss) ρ2) : WM K (tCons te tr) ρ QM := fun c F H σ st en Q' k =>
  h c F H σ st en _ fun p xs F1 H1 d1 ρ1 e1 s1 n1 k1 n f hl v1 q1 => q1 c F1 H1 σ s1 n1 _ fun vs F2 H2 ss ps ρ2 e2 s2 n2 k2 m2 f2 q2 => by
    have ap := k1.ap (en.apart n)
    have hn : H1 p ≠ none := by rw [hl]; exact fun z => nomatch z
    refine k _ F2 H2 _ (p :: ps) ρ2 (e1.trans e2) s2 n2 (k1.trans k2) (.ow (st.none n) (k2.fr p hn f) (k2.kp p _ ap hl) (v1.ex e2) (fun z => hn (f2 p z)) m2) (fun q hq => ?_) q2
    rcases List.mem_cons.mp hq with rfl | hq
    · exact n
    · exact k1.back (f2 q hq)
/-- the slots set one after another -/
def setSl : List Sl → List Nat → List Sl → List Sl
  | ρ, i :: is, s :: ss => setSl (ρ.set i s) is ss
  | ρ, _, _ => ρ
def setSt : L2.St → List Nat → List V → L2.St
  | σ, i :: is, v :: vs => setSt (σ.set i (some v)) is vs
  | σ, _, _ => σ
theorem Apart.sh {σ : L2.St} {ρ : List Sl} {p : Addr} {i : Nat} {v : V} {d : PyData} (a : Apart σ ρ p) : Apart (σ.set i (some v)) (ρ.set i (.sh d)) p := fun j b es h1 h2 => by
  by_cases z : i = j
  · subst z
    rw [List.getElem?_set] at h1
    simp only [if_true] at h1
    split at h1 <;> cases h1
  · rw [List.getElem?_set_ne z] at h1 h2
    exact a j b es h1 h2
theorem env_mk {c : Cn} {F H : Hp} {vs : List V} {ss : List Sl} {ps : List Addr} (m : Mk K c F H vs ss ps) : ∀ {is : List Nat} {σ : L2.St} {ρ : List Sl}, Env K c F H σ ρ → (∀ p ∈ ps, Apart σ ρ p) → Env K c F H (setSt σ is vs) (setSl ρ is ss) := by
  induction m with
  | nil =>
    intro is σ ρ en _
    cases is <;> exact en
  | sh dv m ih =>
    intro is σ ρ en ap
    cases is with
    | nil => exact en
    | cons i is => exact ih (en.set_sh dv) fun p hp => Apart.sh (ap p hp)
  | @ow p0 xs ds vs ss ps n f hl dd np m ih =>
    intro is σ ρ en ap
    cases is with
    | nil => exact en
    | cons i is =>
      refine ih (en.set_ow (ap _ (List.mem_cons_self ..)) n f hl dd) fun p hp => ?_
      have ne : p ≠ p0 := fun z => np (z ▸ hp)
      intro j b es h1 h2
      by_cases z : i = j
      · subst z
        rw [List.getElem?_set] at h1 h2
        simp only [if_true] at h1 h2
        split at h2
        · cases h2
          exact ne rfl
        · cases h2
      · rw [List.getElem?_set_ne z] at h1 h2
        exact ap p (List.mem_cons_of_mem _ hp) j b es h1 h2
theorem Mk.len {c : Cn} {F H : Hp} {vs : List V} {ss : List Sl} {ps : List Addr} (m : Mk K c F H vs ss ps) : vs.length = ss.length := by
  induction m with
  | nil => rfl
  | sh _ _ ih => rw [List.length_cons, List.length_cons, ih]
  | ow _ _ _ _ _ _ ih => rw [List.length_cons, List.length_cons, ih]
theorem x_parM (h : WM K t ρ fun ss ρ2 => ∃ s1 s2, ss = [s1, s2] ∧ e.nx ((ρ2.set i s1).set j s2)) : XS K (tOwn (tPar i j t)) ρ e := fun c F H σ D st en ok =>
  h c F H σ st en _ fun vs F2 H2 ss ps ρ2 e2 s2 n2 k2 m2 f2 ⟨s1, s2', hs, q⟩ => by
    subst hs
    have ap : ∀ p ∈ ps, Apart σ ρ2 p := fun p hp => k2.ap (en.apart (f2 p hp))
    have en2 := env_mk m2 (is := [i, j]) n2 ap
    obtain ⟨v, w, rfl⟩ : ∃ v w, vs = [v, w] := by
      match vs, m2.len with
      | [v, w], _ => exact ⟨v, w, rfl⟩
    exact ⟨v, w, rfl, ok.nx _ F2 H2 _ e2 s2 en2 q⟩
theorem x_parM3 (h : WM K t ρ fun ss ρ2 => ∃ s1 s2 s3, ss = [s1, s2, s3] ∧ e.nx (((ρ2.set i s1).set j s2).set l s3)) : XS K (tOwn (tPar3 i j l t)) ρ e := fun c F H σ D st en ok =>
  h c F H σ st en _ fun vs F2 H2 ss ps ρ2 e2 s2 n2 k2 m2 f2 ⟨s1, s2', s3, hs, q⟩ => by
    subst hs
    have ap : ∀ p ∈ ps, Apart σ ρ2 p := fun p hp => k2.ap (en.apart (f2 p hp))
    have en2 := env_mk m2 (is := [i, j, l]) n2 ap
    obtain ⟨v, w, u, rfl⟩ : ∃ v w u, vs = [v, w, u] := by
      match vs, m2.len with
      | [v, w, u], _ => exact ⟨v, w, u, rfl⟩
    exact ⟨v, w, u, rfl, ok.nx _ F2 H2 _ e2 s2 en2 q⟩
theorem Mk.gr {c : Cn} {F H F' H' : Hp} {vs : List V} {ss : List Sl} {ps : List Addr} (m : Mk K c F H vs ss ps) (g : Gr F H F' H') : Mk K c F' H' vs ss ps := by
  induction m with
  | nil => exact .nil
  | sh d _ ih => exact .sh (d.ex g.ff) ih
  | ow n f hl dd np _ ih => exact .ow n (g.fr _ (by rw [hl]; exact fun z => nomatch z) f) (g.hh _ _ hl) (dd.ex g.ff) np ih
/-- names, one after another -/
def gNames : List Nat → TGs
  | [] => gNil
  | i :: is => gCons (gName i) (gNames is)
theorem gNames_ok {H : Hp} : ∀ {is : List Nat} {vs : List V} {σ : L2.St} {Q : L2.St → Hp → Prop}, is.length = vs.length → Q (setSt σ is vs) H → gNames is vs σ H Q
  | [], [], _, _, _, q => ⟨rfl, q⟩
  | i :: is, v :: vs, σ, Q, hl, q => ⟨v, vs, rfl, gNames_ok (by simpa using hl) q⟩
/-- .. by a tuple that is really made -/
theorem x_unpM (is : List Nat) (h : WM K t ρ fun ss ρ2 => ss.length = is.length ∧ is.length ≤ 1000 ∧ e.nx (setSl ρ2 is ss)) : XS K (tOwn (tAsg (tTup t) (gTup K is.length (gNames is)))) ρ e := fun c F H σ D st en ok =>
  h c F H σ st en _ fun vs F2 H2 ss ps ρ2 e2 s2 n2 k2 m2 f2 ⟨hs, hi, q⟩ => ⟨sz_of (by rw [m2.len, hs]; omega), fun p np => by
    have g := Gr.own (o := .tup vs) s2.fh np
    have ap : ∀ q ∈ ps, Apart σ ρ2 q := fun q hq => k2.ap (en.apart (f2 q hq))
    have en2 := env_mk (m2.gr g) (is := is) (n2.gr g) ap
    have le : is.length = vs.length := by rw [m2.len, hs]
    exact ⟨p, vs, rfl, st_of upd_same, le.symm, gNames_ok le (ok.nx _ F2 _ _ e2 (s2.gr g) en2 q)⟩⟩
theorem x_ownA (h : WO K te ρ fun ds ρ2 => e.nx (ρ2.set i (.ow true ds))) : XS K (tOwn (tAsg te (gName i))) ρ e := x_asgO h
theorem x_frz0 (h : XS K ts ρ e) : XS K (tFrz [] ts) ρ e := h
theorem x_frz {is : List Nat} {ds : List PyData} (h : ρ[i]? = some (.ow true ds)) (q : XS K (tFrz is ts) (ρ.set i (.sh (.list ds))) e) : XS K (tFrz (i :: is) ts) ρ e := x_freeze (ts := tFrz is ts) i h q
/-! what is left to be shown beside the way -/
theorem cxOf_K {CX : CXT} {P : Program} {w : World} {K : PySem.W.Frag} {mg : Str → Option Value} {base : Heap} {N : List Str} {x : Str} {sc : Scope} {f : Addr} {cdv : Value} {A : Around} {outer : List PySem.Env} {s : Shared} {H : Hp} {E : XK} : (cxOf CX P w K mg base N x sc f cdv A outer s H E).K = K := rfl
theorem nox_K {X : Cx} : X.nox.K = X.K := rfl
def tRetO (te : TE) : TS := tRet te
theorem ps_retO {X : Cx} {st : Stmt} {te : TE} (h : PS X st (tRet te)) : PS X st (tRetO te) := h
theorem x_retOm (h : WO K te ρ fun ds ρ2 => e.ro ds ρ2) : XS K (tRetO te) ρ e := x_retO h
theorem g_id {g : TG} {P : List Sl → Prop} (h : G K g d ρ P) : G K g d ρ P := h
theorem gc_id {g : TG} {ws : List Nat} {P : List Sl → Prop} (h : GC K g ws d ρ P) : GC K g ws d ρ P := h
theorem eq_id {α : Type} {a b : α} (h : a = b) : a = b := h
theorem opE_id (h : OpE K r x y z) : OpE K r x y z := h
theorem cbE_id {rr : List V → Hp → VK → Prop} (h : CbE K rr ds z) : CbE K rr ds z := h
def Lat2 (P : Prop) : Prop := P
theorem lat_of2 {P : Prop} (h : Lat2 P) : Lat P := h
theorem lat2 {P : Prop} (h : P) : Lat2 P := h
theorem id_nx {e : En} (h : e.nx ρ) : e.nx ρ := h
theorem id_bk {e : En} (h : e.bk ρ) : e.bk ρ := h
theorem id_ct {e : En} (h : e.ct ρ) : e.ct ρ := h
theorem id_rt {e : En} (h : e.rt d ρ) : e.rt d ρ := h
theorem id_ro {e : En} (h : e.ro ds ρ) : e.ro ds ρ := h
theorem sd {P : Prop} (h : P) : Sd P := h
theorem sd_lat {P : Prop} (h : Lat P) : Sd P := h
theorem lat {P : Prop} (h : P) : Lat P := h
theorem and_l {A B : Prop} (k : B) (a : Lat A) : A ∧ B := ⟨a, k⟩
theorem s_iC {C : Int → Int → Prop} {f : Int → Int → Int} {i j : Int} (hc : Sd (C i j)) : OpE K (rI C fun i j => V.int (f i j)) (.int i) (.int j) (.int (f i j)) := oe_iC hc
theorem s_eqD (h1 : Sd (SeqAt.shaped x = true)) (h2 : Sd (SeqAt.shaped y = true)) : OpE K (rEqD K) x y (.bool (PyData.eqv x y)) := oe_eqD h1 h2
theorem s_neD (h1 : Sd (SeqAt.shaped x = true)) (h2 : Sd (SeqAt.shaped y = true)) : OpE K (rNeD K) x y (.bool (!PyData.eqv x y)) := oe_neD h1 h2
theorem s_ixL {i : Int} (h : Sd (atI ds i = some d)) : OpE K (rIxL K) (.list ds) (.int i) d := oe_ixL h
theorem s_ixT {i : Int} (h : Sd (atI ds i = some d)) : OpE K (rIxT K) (.tuple ds) (.int i) d := oe_ixT h
theorem s_inL {neg : Bool} (h1 : Sd (flt x = true)) (h2 : Sd (ds.all flt = true)) : OpE K (rIn K neg) x (.list ds) (.bool (if neg then !inV (flv x) (ds.map flv) else inV (flv x) (ds.map flv))) := oe_inL h1 h2
theorem s_inT {neg : Bool} (h1 : Sd (flt x = true)) (h2 : Sd (ds.all flt = true)) : OpE K (rIn K neg) x (.tuple ds) (.bool (if neg then !inV (flv x) (ds.map flv) else inV (flv x) (ds.map flv))) := oe_inT h1 h2
theorem s_catT (hn : Sd (ds ≠ [])) (h : Sd (ds.length + es.length ≤ 100000)) : OpE K (rCatT K) (.tuple ds) (.tuple es) (.tuple (ds ++ es)) := oe_catT hn h
theorem s_addS {i j : Str} (h : Sd (i.length + j.length ≤ sizeLine)) : OpE K (fun x y H Q => ∃ i j, x = V.str i ∧ y = V.str j ∧ i.length + j.length ≤ sizeLine ∧ Q (V.str (i ++ j)) H) (.str i) (.str j) (.str (i ++ j)) := oe_addS h
theorem s_cat (ha : E K ta ρ (.list ds)) (hb : E K tb ρ (.list es)) (h : Sd (ds.length + es.length ≤ 100000)) : E K (tOp rCat ta tb) ρ (.list (ds ++ es)) := eo_e (eo_cat ha hb h)
theorem so_cat (ha : E K ta ρ (.list ds)) (hb : E K tb ρ (.list es)) (h : Sd (ds.length + es.length ≤ 100000)) : EO K (tOp rCat ta tb) ρ (ds ++ es) := eo_cat ha hb h
theorem s_rep {k : Int} (ha : E K ta ρ (.list ds)) (hb : E K tb ρ (.int k)) (h : Sd (-(2 ^ 63) ≤ k ∧ k < 2 ^ 63 ∧ ds.length * k.toNat ≤ 100000)) : E K (tOp rRep ta tb) ρ (.list (List.replicate k.toNat ds).flatten) := e_rep ha hb h.1 h.2.1 h.2.2
theorem so_rep {k : Int} (ha : E K ta ρ (.list ds)) (hb : E K tb ρ (.int k)) (h : Sd (-(2 ^ 63) ≤ k ∧ k < 2 ^ 63 ∧ ds.length * k.toNat ≤ 100000)) : EO K (tOp rRep ta tb) ρ (List.replicate k.toNat ds).flatten := eo_rep ha hb h.1 h.2.1 h.2.2
theorem s_tup (h : EA K t ρ ds) (hl : Sd (ds.length ≤ 100000)) : E K (tTup t) ρ (.tuple ds) := e_tup h hl
theorem s_lst (h : EA K t ρ ds) (hl : Sd (ds.length ≤ 100000)) : E K (tLst t) ρ (.list ds) := e_lst h hl
theorem so_lst (h : EA K t ρ ds) (hl : Sd (ds.length ≤ 100000)) : EO K (tLst t) ρ ds := eo_lst h hl
theorem s_max {ns : List Int} {m : Int} (h : Sd (Mx ns m)) : CbE K (rMax K) [.list (dI ns)] (.int m) := cb_max h
theorem s_min {ns : List Int} {m : Int} (h : Sd (Mi ns m)) : CbE K (rMin K) [.list (dI ns)] (.int m) := cb_min h
theorem s_repr (h : Sd (Shw d)) : CbE K (rRp K) [d] (.str d.shown) := cb_repr h
theorem s_r1 {n : Int} (h : EA K t ρ [.int n]) (h1 : Sd (-(2 ^ 62) ≤ n ∧ n < 2 ^ 62)) : EI K (iRng1 t) ρ (rg0 n.toNat) := ei_r1 h h1
theorem s_r2 {lo hi : Int} (h : EA K t ρ [.int lo, .int hi]) (h1 : Sd (-(2 ^ 62) ≤ lo ∧ lo < 2 ^ 62 ∧ -(2 ^ 62) ≤ hi ∧ hi < 2 ^ 62)) : EI K (iRng2 t) ρ (rgD lo (hi - lo).toNat) := ei_r2 h h1
theorem s_lk (h : E K te (ρ.map fz) d) (f : Sd (flt d = true)) (k : Q d ρ) : W K (tLook te) ρ Q := w_e (e_fz h f) k
theorem so_lk (h : EO K te (ρ.map fz) ds) (f : Sd (ds.all flt = true)) (k : QA ds ρ) : WO K (tLook te) ρ QA := wo_e (eo_fz h f) k
theorem st_lk (h : ET K tt (ρ.map fz) b) (k : QT b ρ) : WT K (tLookT tt) ρ QT := wt_e (et_fz h) k
theorem s_pop {b : Bool} (h0 : ρ[i]? = some (.ow b ds)) (hn : Sd (ds ≠ [])) (q : e.nx (ρ.set i (.ow b ds.dropLast))) : XS K (tDrop (tBM0 K "list" rPop (tVar i))) ρ e := x_pop h0 hn q
theorem s_app {b : Bool} {ds0 : List PyData} (h0 : ρ[i]? = some (.ow b ds0)) (h : W K te ρ fun d ρ2 => ∃ ds, ρ2[i]? = some (.ow b ds) ∧ e.nx (ρ2.set i (.ow b (ds ++ [d]))) ∧ Sd (ds.length < 100000)) :
    XS K (tDrop (tBM K "list" rAppend (tVar i) (tCons te tNil))) ρ e := x_app h0 (w_mono h fun d ρ2 ⟨ds, h1, h2, h3⟩ => ⟨ds, h1, h3, h2⟩)
theorem s_ext {b : Bool} {ds0 : List PyData} (h0 : ρ[i]? = some (.ow b ds0)) (h : W K te ρ fun d ρ2 => ∃ ds es, ρ2[i]? = some (.ow b ds) ∧ d = .list es ∧ e.nx (ρ2.set i (.ow b (ds ++ es))) ∧ Sd (ds.length + es.length ≤ 100000)) :
    XS K (tDrop (tBM K "list" rExtend (tVar i) (tCons te tNil))) ρ e := x_ext h0 (w_mono h fun d ρ2 ⟨ds, es, h1, h2, h3, h4⟩ => ⟨ds, es, h2, h1, h4, h3⟩)
/-- own[i] = v -/
def StA (ds : List PyData) (j : Int) (d : PyData) (P : List PyData → Prop) : Prop := ∃ m, ixN ds.length j = some m ∧ P (ds.set m d)
theorem s_setL {b : Bool} {ds0 : List PyData} {ti : TE} (h0 : ρ[i]? = some (.ow b ds0)) (h : W K te ρ fun d ρ1 => ∃ ds j, ρ1[i]? = some (.ow b ds) ∧ E K ti ρ1 (.int j) ∧ StA ds j d fun es => e.nx (ρ1.set i (.ow b es))) :
    XS K (tAsg te (gSub (tVar i) ti rSetL)) ρ e := x_setL (w_mono h fun d ρ1 ⟨ds, j, h1, h2, m, h3, h4⟩ => ⟨ds, h1, w_e h2 ⟨j, m, ds, rfl, h1, h3, h4⟩⟩)
theorem k_set {b : Bool} {ti : TE} {j : Int} {P : List PyData → Int → Prop} (h : ρ[i]? = some (.ow b ds)) (g : E K ti ρ (.int j)) (k : P ds j) : ∃ ds j, ρ[i]? = some (.ow b ds) ∧ E K ti ρ (.int j) ∧ P ds j := ⟨ds, j, h, g, k⟩
theorem sta_last {d0 : PyData} {P : List PyData → Prop} {j : Nat} (hl : ds.length = j) (k : P (ds ++ [d])) : StA (ds ++ [d0]) (j : Int) d P := by
  subst hl
  refine ⟨ds.length, ?_, ?_⟩
  · unfold ixN
    rw [if_pos (by omega), if_pos (by rw [List.length_append, List.length_singleton]; omega), Int.toNat_natCast]
  · rw [List.set_append_right _ _ (Nat.le_refl _), Nat.sub_self]
    exact k
theorem k_app {b : Bool} {P : List PyData → Prop} (h : ρ[i]? = some (.ow b ds)) (l : Sd (ds.length < 100000)) (k : P ds) : ∃ ds, ρ[i]? = some (.ow b ds) ∧ P ds ∧ Sd (ds.length < 100000) := ⟨ds, h, k, l⟩
theorem k_ext {b : Bool} {P : List PyData → List PyData → Prop} (h : ρ[i]? = some (.ow b ds)) (l : Sd (ds.length + es.length ≤ 100000)) (k : P ds es) : ∃ ds es', ρ[i]? = some (.ow b ds) ∧ PyData.list es = .list es' ∧ P ds es' ∧ Sd (ds.length + es'.length ≤ 100000) := ⟨ds, es, h, rfl, k, l⟩
def tO (te : TE) : TE := te
def tOwnU (is : List Nat) (ts : TS) : TS := ts
theorem pe_o {X : Cx} {e : Expr} {te : TE} (h : PE X e te) : PE X e (tO te) := h
theorem ps_ownU {X : Cx} {st : Stmt} {ts : TS} (is : List Nat) (h : PS X st ts) : PS X st (tOwnU is ts) := h
theorem wm_o {QM : List Sl → List Sl → Prop} (h : WO K te ρ fun ds ρ1 => WM K tr ρ1 fun ss ρ2 => QM (.ow true ds :: ss) ρ2) : WM K (tCons (tO te) tr) ρ QM := wm_ow h
theorem x_ownU {is : List Nat} {g : TG} (hg : g = gTup K is.length (gNames is)) (h : WM K t ρ fun ss ρ2 => ss.length = is.length ∧ is.length ≤ 1000 ∧ e.nx (setSl ρ2 is ss)) : XS K (tOwnU is (tAsg (tTup t) g)) ρ e := by
  subst hg
  exact x_unpM is h
theorem k_ss2 {P : Sl → Sl → Prop} {s1 s2 : Sl} (k : P s1 s2) : ∃ a b, [s1, s2] = [a, b] ∧ P a b := ⟨_, _, rfl, k⟩
theorem k_ss3 {P : Sl → Sl → Sl → Prop} {s1 s2 s3 : Sl} (k : P s1 s2 s3) : ∃ a b c, [s1, s2, s3] = [a, b, c] ∧ P a b c := ⟨_, _, _, rfl, k⟩
/-- a loop over known things -/
theorem x_forE {wi : TI} {items : List PyData} {g : TG} (hi : EI K wi ρ items) (h : ∃ Iv : Nat → List Sl → Prop, Iv 0 ρ ∧
    (∀ m d ρ2, items[m]? = some d → Iv m ρ2 → G K g d ρ2 fun ρ3 => XS K ts ρ3 { e with nx := Iv (m + 1), ct := Iv (m + 1), bk := e.nx }) ∧
    (∀ ρ2, Iv items.length ρ2 → e.nx ρ2)) : XS K (tFor wi g ts) ρ e :=
  let ⟨Iv, h0, hs, hd⟩ := h
  x_for hi Iv h0 hs hd
/-- calls -/
def MC (P : Prop) : Prop := P
theorem mc {P : Prop} (h : P) : MC P := h
theorem w_callN {m : Mn} {X : XK} (h : WA K t ρ fun ds ρ2 => MC (m ds fun z => Q z ρ2)) : W K (tCall (SpN K m) [] X t) ρ Q := w_call (fun c F H σ st en Q' k => h c F H σ st en Q' fun vs F2 H2 ds ρ2 a b c d e q => k vs F2 H2 ds ρ2 a b c d e (cn q))
theorem w_callO {m : Mo} {X : XK} (h : WA K t ρ fun ds ρ2 => MC (m ds fun z => Q (.list z) ρ2)) : W K (tCall (SpO K m) [] X t) ρ Q := w_call (fun c F H σ st en Q' k => h c F H σ st en Q' fun vs F2 H2 ds ρ2 a b c d e q => k vs F2 H2 ds ρ2 a b c d e (cno_cn (cno q)))
theorem wo_callO {m : Mo} {X : XK} (h : WA K t ρ fun ds ρ2 => MC (m ds fun z => QA z ρ2)) : WO K (tCall (SpO K m) [] X t) ρ QA := wo_call (fun c F H σ st en Q' k => h c F H σ st en Q' fun vs F2 H2 ds ρ2 a b c d e q => k vs F2 H2 ds ρ2 a b c d e (cno q))
theorem w_callT {i : Nat} {b : Bool} {T : List PyData} {m : Mt} {X : XK} (h0 : ρ[i]? = some (.ow b T))
    (h : WA K t ρ fun ds ρ1 => ∃ T1, ρ1[i]? = some (.ow b T1) ∧ MC (m T1 ds fun d T2 => Q d (ρ1.set i (.ow b T2)))) : W K (tCall (SpT K m) [] X (tCons (tVar i) t)) ρ Q :=
  w_tank h0 (fun c F H σ st en Q' k => h c F H σ st en Q' fun vs F2 H2 ds ρ2 a b c d e ⟨T1, h1, q⟩ => k vs F2 H2 ds ρ2 a b c d e ⟨T1, h1, ct q⟩)
theorem wo_callTO {i : Nat} {b : Bool} {T : List PyData} {m : Mto} {X : XK} (h0 : ρ[i]? = some (.ow b T))
    (h : WA K t ρ fun ds ρ1 => ∃ T1, ρ1[i]? = some (.ow b T1) ∧ MC (m T1 ds fun d T2 => QA d (ρ1.set i (.ow b T2)))) : WO K (tCall (SpTO K m) [] X (tCons (tVar i) t)) ρ QA :=
  wo_tank h0 (fun c F H σ st en Q' k => h c F H σ st en Q' fun vs F2 H2 ds ρ2 a b c d e ⟨T1, h1, q⟩ => k vs F2 H2 ds ρ2 a b c d e ⟨T1, h1, cto q⟩)
theorem w_callTO {i : Nat} {b : Bool} {T : List PyData} {m : Mto} {X : XK} (h0 : ρ[i]? = some (.ow b T))
    (h : WA K t ρ fun ds ρ1 => ∃ T1, ρ1[i]? = some (.ow b T1) ∧ MC (m T1 ds fun d T2 => Q (.list d) (ρ1.set i (.ow b T2)))) : W K (tCall (SpTO K m) [] X (tCons (tVar i) t)) ρ Q := w_wo (wo_callTO h0 h)
theorem k_tank {b : Bool} {T1 : List PyData} {P : List PyData → Prop} (h : ρ[i]? = some (.ow b T1)) (k : P T1) : ∃ T1, ρ[i]? = some (.ow b T1) ∧ P T1 := ⟨T1, h, k⟩
theorem ce_N {m : Mn} (h : m ds fun z => z = d) : CE K (SpN K m) ds d := ce h
theorem ce_O {m : Mo} (h : m ds fun z => z = es) : CE K (SpO K m) ds (.list es) := co_ce (co h)
theorem eo_callO {m : Mo} {X : XK} (h : EA K t ρ ds) (hs : m ds fun z => z = es) : EO K (tCall (SpO K m) [] X t) ρ es := eo_call h (co hs)
theorem eo_callKO {m : Mo} {X : XK} {perm : List Nat} (h : EA K tr ρ ds) (hs : MC (m (gPm perm [] ds) fun z => z = es)) : EO K (tCallK (SpO K m) (gPm perm) X tNil tr) ρ es := eo_callK h (fun F vs dv => vd_perm perm dv rfl) (co hs)
theorem e_callKN {m : Mn} {X : XK} {perm : List Nat} (h : EA K tr ρ ds) (hs : MC (m (gPm perm [] ds) fun z => z = d)) : E K (tCallK (SpN K m) (gPm perm) X tNil tr) ρ d := e_callK h (fun F vs dv => vd_perm perm dv rfl) (ce hs)
theorem e_callKO {m : Mo} {X : XK} {perm : List Nat} (h : EA K tr ρ ds) (hs : MC (m (gPm perm [] ds) fun z => z = es)) : E K (tCallK (SpO K m) (gPm perm) X tNil tr) ρ (.list es) := eo_e (eo_callKO h hs)
/-! comprehensions -/
section
variable {wi : TI} {g : TG} {ws : List Nat}
theorem range_fm_succ {f : Nat → Option PyData} (m : Nat) : (List.range (m + 1)).filterMap f = (List.range m).filterMap f ++ (f m).toList := by
  rw [List.range_succ, List.filterMap_append]
  cases h : f m <;> simp [h]
theorem eo_lcN {items : List PyData} (hi : EI K wi ρ items) (f : Nat → Option PyData) (hn : items.length ≤ 100000)
    (hs : ∀ m d, items[m]? = some d → GC K g ws d (wipeS ρ ws) fun ρ2 => ∃ b, ET K tt ρ2 b ∧ (b = true → ∃ y, E K te ρ2 y ∧ f m = some y) ∧ (b = false → f m = none)) : EO K (tLc wi g tt te ws) ρ ((List.range items.length).filterMap f) := fun c F H σ en ex Q q =>
  hi c F H σ en ex _ fun J F1 H1 gr it D nD => by
    refine ⟨fun m k H' => k + m = items.length ∧ ∃ F' xs, Gr F1 H1 F' H' ∧ H1 D = none ∧ F' D = none ∧ H' D = some (.lst xs) ∧ VdAll K F' xs ((List.range m).filterMap f), ⟨items.length, by omega, F1, [], Gr.own gr.fh nD, nD, fresh_back gr.fh nD, upd_same, .nil⟩, ?_⟩
    rintro m k H' ⟨hk, F', xs, g1, nD, fD, hD, dd⟩
    by_cases lt : m < items.length
    · refine .inr ⟨it.go m H' (g1.ff.trans g1.fh) lt, fun H2 => ∃ F' xs, Gr F1 H1 F' H2 ∧ H1 D = none ∧ F' D = none ∧ H2 D = some (.lst xs) ∧ VdAll K F' xs ((List.range (m + 1)).filterMap f), fun H2 z => ⟨k - 1, by omega, by omega, z⟩, ?_⟩
      intro x H2 y
      have hx : items[m]? = some items[m] := List.getElem?_eq_getElem lt
      obtain ⟨F2, g2, dx⟩ := it.yl m F' H' _ g1.ff g1.fh hx x H2 y
      have en2 := env_wipe (((en.gr gr).gr g1).gr g2) ws
      refine hs m _ hx c F2 H2 _ x en2 g2.fh dx _ fun σ3 ρ3 n3 w3 _ ⟨b, hb, h1, h2⟩ => ⟨w3.trans (SB.wipe_wipe ws), ?_⟩
      have hD2 := g2.hh _ _ hD
      have fD2 := g2.fr D (by rw [hD]; exact fun z => nomatch z) fD
      refine hb c F2 H2 σ3 n3 g2.fh _ fun F3 H3 g3 => ?_
      have hD3 := g3.hh _ _ hD2
      have fD3 := g3.fr D (by rw [hD2]; exact fun z => nomatch z) fD2
      cases b with
      | true =>
        rw [if_pos rfl]
        obtain ⟨y, hy, fy⟩ := h1 rfl
        refine hy c F3 H3 σ3 (n3.gr g3) g3.fh _ fun v F4 H4 g4 dv => ?_
        have hD4 := g4.hh _ _ hD3
        have fD4 := g4.fr D (by rw [hD3]; exact fun z => nomatch z) fD3
        have ff := (g2.ff.trans g3.ff).trans g4.ff
        have len : xs.length ≤ m := by
          rw [dd.len]
          exact Nat.le_trans (List.length_filterMap_le _ _) (by rw [List.length_range]; omega)
        refine ⟨xs, hD4, sz_lt (by omega), F4, xs ++ [v], ?_, nD, fD4, upd_same, ?_⟩
        · have g5 := ((g1.trans g2).trans g3).trans g4
          exact ⟨g5.ff, g5.fh.mut fD4, g5.hh.mut nD, g5.fr⟩
        · rw [range_fm_succ, fy]
          exact (dd.ex ff).app (.cons dv .nil)
      | false =>
        rw [if_neg Bool.false_ne_true]
        refine ⟨F3, xs, (g1.trans g2).trans g3, nD, fD3, hD3, ?_⟩
        rw [range_fm_succ, h2 rfl, Option.toList_none, List.append_nil]
        exact dd.ex (g2.ff.trans g3.ff)
    · obtain rfl : m = items.length := by omega
      refine .inl ⟨it.st _ H' (g1.ff.trans g1.fh) (Nat.le_refl _), ?_⟩
      exact q D xs F' H' (gr.trans g1) (fresh_back gr.hh nD) fD hD dd
theorem range_get_fm {α : Type} (l : List α) (f : α → Option PyData) : (List.range l.length).filterMap (fun m => (l[m]?).bind f) = l.filterMap f := by
  have e : l = (List.range l.length).filterMap fun m => l[m]? := by
    refine List.ext_getElem? fun i => ?_
    have : ∀ k, k ≤ l.length → (List.range k).filterMap (fun m => l[m]?) = l.take k := fun k => by
      induction k with
      | zero => intro _; simp
      | succ k ih =>
        intro hk
        rw [List.range_succ, List.filterMap_append, ih (by omega), List.take_succ]
        rw [List.getElem?_eq_getElem (show k < l.length by omega)]
        simp [List.getElem?_eq_getElem (show k < l.length by omega)]
    rw [this _ (Nat.le_refl _), List.take_length]
  conv => rhs; rw [e]
  rw [List.filterMap_filterMap]
def EqE (K : PySem.W.Frag) (te : TE) (ρ : List Sl) (d : PyData) : Prop := ∃ y, E K te ρ y ∧ y = d
def EqT (K : PySem.W.Frag) (tt : TT) (ρ : List Sl) (b : Bool) : Prop := ∃ y, ET K tt ρ y ∧ y = b
theorem eqE (h : E K te ρ x) (e : Sd (x = y)) : EqE K te ρ y := ⟨x, h, e⟩
theorem eqT (h : ET K tt ρ a) (e : Sd (a = b)) : EqT K tt ρ b := ⟨a, h, e⟩
def EqP (K : PySem.W.Frag) (tt : TT) (te : TE) (ρ : List Sl) (b : Bool) (d : PyData) : Prop := EqT K tt ρ b ∧ (b = true → EqE K te ρ d)
theorem eqP (h1 : EqT K tt ρ b) (h2 : b = true → EqE K te ρ d) : EqP K tt te ρ b d := ⟨h1, h2⟩
/-- each item gives one thing -/
theorem lcM {α : Type} {enc : α → PyData} {l : List α} {items : List PyData} (f : α → PyData) (hi : EI K wi ρ items) (he : Sd (items = l.map enc)) (hn : Sd (l.length ≤ 100000))
    (hs : ∀ x ∈ l, GC K g ws (enc x) (wipeS ρ ws) fun ρ2 => EqE K te ρ2 (f x)) : EO K (tLc wi g tYes te ws) ρ (l.map f) := by
  obtain rfl : items = l.map enc := he
  replace hn : l.length ≤ 100000 := hn
  refine eo_eq (eo_lcN hi (fun m => (l[m]?).bind fun x => some (f x)) (by rw [List.length_map]; exact hn) (fun m d hd => ?_)) ?_
  · rw [List.getElem?_map] at hd
    cases e : l[m]? with
    | none => rw [e] at hd; cases hd
    | some x =>
      rw [e] at hd
      cases hd
      intro c F H σ v en ex dv Q' k
      exact hs x (List.mem_of_getElem? e) c F H σ v en ex dv Q' fun σ2 ρ2 a b o h => k σ2 ρ2 a b o ⟨true, et_yes, fun _ => (let ⟨y, h1, h2⟩ := h; ⟨_, h1, by rw [h2]; rfl⟩), fun z => nomatch z⟩
  · rw [List.length_map, range_get_fm]
    rw [← List.filterMap_eq_map]
    rfl
/-- .. or none -/
theorem lcF {α : Type} {enc : α → PyData} {l : List α} {items : List PyData} (p : α → Bool) (f : α → PyData) (hi : EI K wi ρ items) (he : Sd (items = l.map enc)) (hn : Sd (l.length ≤ 100000))
    (hs : ∀ x ∈ l, GC K g ws (enc x) (wipeS ρ ws) fun ρ2 => EqP K tt te ρ2 (p x) (f x)) : EO K (tLc wi g tt te ws) ρ ((l.filter p).map f) := by
  obtain rfl : items = l.map enc := he
  replace hn : l.length ≤ 100000 := hn
  refine eo_eq (eo_lcN hi (fun m => (l[m]?).bind fun x => if p x = true then some (f x) else none) (by rw [List.length_map]; exact hn) (fun m d hd => ?_)) ?_
  · rw [List.getElem?_map] at hd
    cases e : l[m]? with
    | none => rw [e] at hd; cases hd
    | some x =>
      rw [e] at hd
      cases hd
      intro c F H σ v en ex dv Q' k
      refine hs x (List.mem_of_getElem? e) c F H σ v en ex dv Q' fun σ2 ρ2 a b o h => k σ2 ρ2 a b o ⟨p x, (let ⟨y, h1, h2⟩ := h.1; h2 ▸ h1), fun z => (let ⟨y, h1, h2⟩ := h.2 z; ⟨_, h1, by simp [z, h2]⟩), fun z => by simp [z]⟩
  · rw [List.length_map, range_get_fm]
    clear hs hi hn
    induction l with
    | nil => rfl
    | cons x l ih =>
      cases h : p x <;> simp [h, List.filterMap_cons, List.filter_cons, ih]
theorem w_lc (h : EO K (tLc wi g tt te ws) ρ ds) (k : Q (.list ds) ρ) : W K (tLc wi g tt te ws) ρ Q := w_e (eo_e h) k
theorem wo_lcP (h : EO K (tLc wi g tt te ws) ρ ds) (k : QA ds ρ) : WO K (tLc wi g tt te ws) ρ QA := wo_e h k
theorem dI_map {α : Type} (l : List α) (f : α → Int) : (l.map fun x => PyData.int (f x)) = dI (l.map f) := by unfold dI; rw [List.map_map]; rfl
theorem s_maxM {α : Type} {l : List α} {f : α → Int} {m : Int} (h : Sd (Mx (l.map f) m)) : CbE K (rMax K) [.list (l.map fun r => .int (f r))] (.int m) := by
  rw [dI_map]
  exact cb_max h
theorem s_minM {α : Type} {l : List α} {f : α → Int} {m : Int} (h : Sd (Mi (l.map f) m)) : CbE K (rMin K) [.list (l.map fun r => .int (f r))] (.int m) := by
  rw [dI_map]
  exact cb_min h
theorem s_sumM {α : Type} {l : List α} {f : α → Int} : CbE K (rSum K) [.list (l.map fun r => .int (f r))] (.int (l.map f).sum) := by
  rw [dI_map]
  exact cb_sum
theorem s_allM {α : Type} {l : List α} {f : α → Bool} : CbE K (rAll K) [.list (l.map fun r => .bool (f r))] (.bool (l.all f)) := by
  have e : (l.map fun r => PyData.bool (f r)) = (l.map f).map PyData.bool := by rw [List.map_map]; rfl
  rw [e]
  have := cb_all (K := K) (bs := l.map f)
  rw [List.all_map] at this
  exact this
theorem s_anyM {α : Type} {l : List α} {f : α → Bool} : CbE K (rAny K) [.list (l.map fun r => .bool (f r))] (.bool (l.any f)) := by
  have e : (l.map fun r => PyData.bool (f r)) = (l.map f).map PyData.bool := by rw [List.map_map]; rfl
  rw [e]
  have := cb_any (K := K) (bs := l.map f)
  rw [List.any_map] at this
  exact this
theorem cb_gcd {i j : Int} : CbE K rGcd [.int i, .int j] (.int ((Nat.gcd i.natAbs j.natAbs : Nat) : Int)) := fun F H vs ex dvs Q q => by
  cases dvs with
  | cons h1 h2 =>
    cases h2 with
    | cons h3 h4 =>
      cases h4
      cases h1
      cases h3
      exact ⟨i, j, rfl, q _ F H (Gr.refl ex) (.int _)⟩
theorem k_cat {P : List PyData → List PyData → Prop} (k : P ds es) : ∃ l1 l2, PyData.list ds = .list l1 ∧ PyData.list es = .list l2 ∧ P l1 l2 := ⟨ds, es, rfl, rfl, k⟩
def isI : PyData → Bool
  | .int _ => true
  | _ => false
/-- an item of a list of ints, told by what all items have -/
theorem k_ixI {Q : PyData → Prop} {i : Int} (P : Int → Prop) (h0 : 0 ≤ i) (h1 : i < ds.length) (h : ∀ x, PyData.int x ∈ ds → P x) (k : ∀ y, P y → Q (.int y)) (hi : ds.all isI = true := by rfl) : ∃ z, OpE K (rIxL K) (.list ds) (.int i) z ∧ Q z := by
  obtain ⟨n, rfl⟩ : ∃ n : Nat, i = n := ⟨i.toNat, by omega⟩
  have lt : n < ds.length := by omega
  have e : ds[n]? = some ds[n] := List.getElem?_eq_getElem lt
  have m := List.all_eq_true.mp hi _ (List.getElem_mem lt)
  cases q : ds[n] with
  | int y =>
    rw [q] at e
    exact ⟨_, oe_ixL (atI_nat e), k y (h y (List.mem_of_getElem? e))⟩
  | _ => rw [q] at m; cases m
/-- .. of any list -/
theorem k_ixA {Q : PyData → Prop} {i : Int} (h0 : 0 ≤ i) (h1 : i < ds.length) (k : ∀ y ∈ ds, Q y) : ∃ z, OpE K (rIxL K) (.list ds) (.int i) z ∧ Q z := by
  obtain ⟨n, rfl⟩ : ∃ n : Nat, i = n := ⟨i.toNat, by omega⟩
  have lt : n < ds.length := by omega
  have e : ds[n]? = some ds[n] := List.getElem?_eq_getElem lt
  exact ⟨_, oe_ixL (atI_nat e), k _ (List.mem_of_getElem? e)⟩
/-- a loop, told by what it has walked over -/
theorem k_for {α : Type} (enc : α → PyData) (l : List α) {items : List PyData} {Rt : PyData → List Sl → Prop} {Ro : List PyData → List Sl → Prop} {Bk N : List Sl → Prop} (Iv : List α → List Sl → Prop) (h0 : Iv [] ρ)
    (hs : ∀ pre x post ρ2, l = pre ++ x :: post → Iv pre ρ2 → G K g (enc x) ρ2 fun ρ3 => XS K ts ρ3 { nx := Iv (pre ++ [x]), rt := Rt, ro := Ro, bk := Bk, ct := Iv (pre ++ [x]) })
    (hd : ∀ ρ2, Iv l ρ2 → N ρ2) (he : items = l.map enc := by rfl) : ∃ Iv : Nat → List Sl → Prop, Iv 0 ρ ∧
    (∀ m d ρ2, items[m]? = some d → Iv m ρ2 → G K g d ρ2 fun ρ3 => XS K ts ρ3 { nx := Iv (m + 1), rt := Rt, ro := Ro, bk := Bk, ct := Iv (m + 1) }) ∧
    (∀ ρ2, Iv items.length ρ2 → N ρ2) := by
  subst he
  refine ⟨fun m ρ => Iv (l.take m) ρ, by simpa using h0, fun m d ρ2 hd iv => ?_, fun ρ2 iv => hd ρ2 (by rw [List.length_map, List.take_length] at iv; exact iv)⟩
  rw [List.getElem?_map] at hd
  cases q : l[m]? with
  | none => rw [q] at hd; cases hd
  | some x =>
    rw [q] at hd
    cases hd
    have lt := (List.getElem?_eq_some_iff.mp q).1
    have ex : l[m] = x := (List.getElem?_eq_some_iff.mp q).2
    have sp : l = l.take m ++ x :: l.drop (m + 1) := by
      rw [← ex, List.getElem_cons_drop, List.take_append_drop]
    have := hs _ x _ ρ2 sp iv
    have tk : l.take m ++ [x] = l.take (m + 1) := by
      rw [List.take_succ, q]
      rfl
    rw [tk] at this
    exact this
/-- a while loop -/
def WhT (K : PySem.W.Frag) (tt : TT) (ρ : List Sl) (Q : Bool → Prop) : Prop := ∃ b, ET K tt ρ b ∧ Q b
theorem wh_p {Q : Bool → Prop} (h : ET K tt ρ b) (k : Q b) : WhT K (tPT tt) ρ Q := ⟨b, h, k⟩
theorem wh_lk {Q : Bool → Prop} (h : ET K tt (ρ.map fz) b) (k : Q b) : WhT K (tLookT tt) ρ Q := ⟨b, et_fz h, k⟩
theorem x_whileE (h : ∃ (Iv : Nat → List Sl → Prop) (m0 : Nat), Iv m0 ρ ∧ ∀ m ρ2, Iv m ρ2 → WhT K tt ρ2 fun b => Ifk b (XS K ts ρ2 { e with nx := fun ρ3 => ∃ m', m' < m ∧ Iv m' ρ3, ct := fun ρ3 => ∃ m', m' < m ∧ Iv m' ρ3, bk := e.nx }) (e.nx ρ2)) : XS K (tWhile tt ts) ρ e :=
  let ⟨Iv, m0, h0, hs⟩ := h
  x_while Iv m0 h0 fun m ρ2 iv => let ⟨b, hb, q⟩ := hs m ρ2 iv; ⟨b, hb, q.1, q.2⟩
/-- a written power -/
def tPow (r : Int) (te : TE) : TE := te
theorem pe_pow {X : Cx} {e : Expr} {te : TE} (r : Int) (h : PE X e te) : PE X e (tPow r te) := h
theorem e_pow {i j r : Int} (hc : CPowB i j) (hr : i ^ j.toNat = r) : E K (tPow r (tOp (rI CPowB fun i j => V.int (i ^ j.toNat)) (tC (.int i)) (tC (.int j)))) ρ (.int r) := hr ▸ e_op e_int e_int (oe_iC hc)
/-! what can be shown -/
def Sh0 (d : PyData) : Prop := Sh 242 0 d
def Sh1 (d : PyData) : Prop := Sh 24403 1 d
def Sh2 (d : PyData) : Prop := Sh 14643003 2 d
def AllS (P : PyData → Prop) (ds : List PyData) : Prop := ∀ d ∈ ds, P d
theorem als_nil {P : PyData → Prop} : AllS P [] := fun _ h => nomatch h
theorem als_cons {P : PyData → Prop} (h : P d) (t : AllS P ds) : AllS P (d :: ds) := fun x hx => by
  rcases List.mem_cons.mp hx with rfl | hx
  · exact h
  · exact t x hx
theorem als_map {α : Type} {P : PyData → Prop} {l : List α} {f : α → PyData} (h : ∀ x ∈ l, P (f x)) : AllS P (l.map f) := fun y hy => by
  obtain ⟨x, hx, rfl⟩ := List.mem_map.mp hy
  exact h x hx
theorem s0_int {i : Int} (h : -(2 ^ 240) < i ∧ i < 2 ^ 240) : Sh0 (.int i) := sh_int h
theorem s0_non : Sh0 .none := sh_non
theorem s0_bool {b : Bool} : Sh0 (.bool b) := sh_bool
theorem s0_word {x : Str} (h : isWord x) : Sh0 (.str x) := sh_word h
theorem s1_0 (h : Sh0 d) : Sh1 d := Sh.mono h (by decide) (by decide)
theorem s1_tup (h : AllS Sh0 ds) (hl : ds.length ≤ 100) : Sh1 (.tuple ds) := sh_tup (k := 100) (m := 242) (dp := 0) h hl
theorem s1_lst (h : AllS Sh0 ds) (hl : ds.length ≤ 100) : Sh1 (.list ds) := sh_lst (k := 100) (m := 242) (dp := 0) h hl
theorem s2_1 (h : Sh1 d) : Sh2 d := Sh.mono h (by decide) (by decide)
theorem s2_tup (h : AllS Sh1 ds) (hl : ds.length ≤ 600) : Sh2 (.tuple ds) := sh_tup (k := 600) (m := 24403) (dp := 1) h hl
theorem s2_lst (h : AllS Sh1 ds) (hl : ds.length ≤ 600) : Sh2 (.list ds) := sh_lst (k := 600) (m := 24403) (dp := 1) h hl
theorem shw2 (h : Sh2 d) : Shw d := Sh.w h
/-! isinstance -/
def IsTy (d : PyData) (T : String) (b : Bool) : Prop := decide (tyD d = T ∨ tyD d = "bool" ∧ T = "int") = b
theorem isTy_t {T : String} (h : decide (tyD d = T ∨ tyD d = "bool" ∧ T = "int") = true) : IsTy d T true := h
theorem isTy_f {T : String} (h : decide (tyD d = T ∨ tyD d = "bool" ∧ T = "int") = false) : IsTy d T false := h
theorem isTy_id {T : String} (h : IsTy d T b) : IsTy d T b := h
theorem s_isi {T : String} (hm : T = "int" ∨ T = "bool" ∨ T = "str" ∨ T = "list" ∨ T = "tuple") (h : E K te ρ d) (hb : IsTy d T b) : E K (tCB (rIsi K) (tCons te (tCons (tC (.ty T)) tNil))) ρ (.bool b) := hb ▸ e_isi h hm
theorem s_slT {lo hi : Option Int} {tl th : TO} (h : E K te ρ (.tuple ds)) (hl : EP K tl ρ lo) (hh : EP K th ρ hi) (hw : Sd (¬ (HT.sIx ds.length 0 lo = 0 ∧ HT.sIx ds.length ds.length hi = ds.length))) : E K (tSl (rSlT K) te tl th) ρ (.tuple (cutD ds lo hi)) := e_slT h hl hh hw
theorem ifk_id {b : Bool} {A B : Prop} (h : Ifk b A B) : Ifk b A B := h
theorem shw_id (h : Shw d) : Shw d := h
theorem x_nev (h : False) : XS K tNever ρ e := h.elim
theorem x_retF (h : False) : XS K (tRet (tP (tC (.bl false)))) ρ e := h.elim
theorem e_chain3 {td : TE} {u : PyData} {r r' r'' : R2} {a b c : Bool} (ha : E K ta ρ x) (hb : E K tb ρ y) (hc : E K tc ρ z) (hd : E K td ρ u) (h1 : OpE K r x y (.bool a)) (h2 : OpE K r' y z (.bool b)) (h3 : OpE K r'' z u (.bool c)) : E K (tChain3 r r' r'' ta tb tc td) ρ (.bool (a && (b && c))) := fun cn F H σ en ex Q q =>
  ha cn F H σ en ex _ fun u1 F1 H1 g1 du => hb cn F1 H1 σ (en.gr g1) g1.fh _ fun v F2 H2 g2 dv => h1 F2 H2 u1 v g2.fh (du.ex g2.ff) dv _ fun w F3 H3 g3 dw => by
    cases dw
    refine ⟨a, rfl, ?_⟩
    cases a with
    | false =>
      rw [if_neg Bool.false_ne_true]
      exact q _ F3 H3 ((g1.trans g2).trans g3) (.bl _)
    | true =>
      rw [if_pos rfl]
      refine hc cn F3 H3 σ (((en.gr g1).gr g2).gr g3) g3.fh _ fun w4 F4 H4 g4 d4 => h2 F4 H4 v w4 g4.fh ((dv.ex g3.ff).ex g4.ff) d4 _ fun w5 F5 H5 g5 d5 => ?_
      cases d5
      refine ⟨b, rfl, ?_⟩
      have G := (((g1.trans g2).trans g3).trans g4).trans g5
      cases b with
      | false =>
        rw [if_neg Bool.false_ne_true]
        exact q _ F5 H5 G (.bl _)
      | true =>
        rw [if_pos rfl]
        exact hd cn F5 H5 σ (((((en.gr g1).gr g2).gr g3).gr g4).gr g5) g5.fh _ fun w6 F6 H6 g6 d6 => h3 F6 H6 w4 w6 g6.fh ((d4.ex g5.ff).ex g6.ff) d6 Q fun w7 F7 H7 g7 d7 => q w7 F7 H7 ((G.trans g6).trans g7) d7
theorem wo_scrM {ns : List Int} {m : List Int → List PyData → (List PyData → Prop) → Prop} {X : XK} (h : ρ[i]? = some (.scr ns)) (h2 : EA K t ρ ds) (hm : MC (m ns ds fun es => QA es ρ)) : WO K (tCall (SpS K m) [] X (tCons (tVar i) t)) ρ QA := wo_scr h h2 hm
/-- a place to stop at -/
def tSeqC (ts tu : TS) : TS := tSeq ts tu
theorem pss_stop {X : Cx} {st : Stmt} {sts : List Stmt} (h : PS X st ts) (r : PSs X sts tu') : PSs X (st :: sts) (tSeqC ts tu') := pss_cons h r
theorem x_go (h : XS K ts ρ { e with nx := fun ρ2 => XS K tu' ρ2 e }) : XS K (tSeqC ts tu') ρ e := x_seq h
/-- what holds there, told once -/
theorem x_cutC (M : List Sl → Prop) (h : XS K ts ρ { e with nx := M }) (k : ∀ ρ2, M ρ2 → XS K tu' ρ2 e) : XS K (tSeqC ts tu') ρ e := x_cut M h k
end
end
section
variable {K : PySem.W.Frag} {ρ : List Sl} {te : TE} {tt : TT} {Q : PyData → List Sl → Prop} {QA : List PyData → List Sl → Prop}
/-- a list of things that are drawn -/
def LcK (K : PySem.W.Frag) (g : TG) (tt : TT) (te : TE) (ws : List Nat) (items : List PyData) (ρ : List Sl) (QA : List PyData → List Sl → Prop) : Prop :=
  items.length ≤ 100000 ∧ ∃ Iv : Nat → List PyData → List Sl → Prop, Iv 0 [] ρ ∧
    (∀ m d acc ρ2, items[m]? = some d → Iv m acc ρ2 → acc.length ≤ m ∧ GC K g ws d (wipeS ρ2 ws) fun ρ3 => WT K tt ρ3 fun b ρ4 =>
      (b = true → W K te ρ4 fun y ρ5 => Iv (m + 1) (acc ++ [y]) (wipeS ρ5 ws)) ∧ (b = false → Iv (m + 1) acc (wipeS ρ4 ws))) ∧
    (∀ acc ρ2, Iv items.length acc ρ2 → QA acc ρ2)
def iW (wi : TI) : TI := wi
theorem wo_lcG {wi : TI} {g : TG} {ws : List Nat} (h : WI K wi ρ fun items ρ0 => LcK K g tt te ws items ρ0 QA) : WO K (tLc (iW wi) g tt te ws) ρ QA := wo_lcW h
theorem w_lcG {wi : TI} {g : TG} {ws : List Nat} (h : WI K wi ρ fun items ρ0 => LcK K g tt te ws items ρ0 fun ds ρ2 => Q (.list ds) ρ2) : W K (tLc (iW wi) g tt te ws) ρ Q := w_wo (wo_lcW h)
/-- .. of ints -/
theorem lc_i {α : Type} {g : TG} {ws : List Nat} (enc : α → PyData) (l : List α) {items : List PyData} (P : Int → Prop) (n c : Nat) (f : List PyData → List Sl) {T0 : List PyData} (tk0 : Tk n T0) (h0 : f T0 = ρ) (hn : l.length ≤ 100000)
    (hs : ∀ (m : Nat) (x : α) (T : List PyData), m < l.length → l[m]? = some x → Tk (n + c * m) T → GC K g ws (enc x) (wipeS (f T) ws) fun ρ3 => W K te ρ3 fun y ρ5 => ∃ (z : Int) (T' : List PyData), y = .int z ∧ P z ∧ Tk (n + c * m + c) T' ∧ wipeS ρ5 ws = f T')
    (hd : ∀ (xs : List Int) (T : List PyData), xs.length = l.length → (∀ x ∈ xs, P x) → Tk (n + c * l.length) T → QA (dI xs) (f T)) (he : items = l.map enc := by rfl) : LcK K g tYes te ws items ρ QA := by
  subst he
  refine ⟨by rw [List.length_map]; exact hn, fun m acc ρ' => ∃ (xs : List Int) (T : List PyData), acc = dI xs ∧ xs.length = m ∧ (∀ x ∈ xs, P x) ∧ Tk (n + c * m) T ∧ ρ' = f T, ⟨[], T0, rfl, rfl, (fun x hx => nomatch hx), tk0, h0.symm⟩, ?_, ?_⟩
  · rintro m d acc ρ2 hd ⟨xs, T, rfl, hx, hp, tk, rfl⟩
    refine ⟨by rw [dI_len]; omega, ?_⟩
    rw [List.getElem?_map] at hd
    cases q : l[m]? with
    | none => rw [q] at hd; cases hd
    | some x =>
      rw [q] at hd
      cases hd
      have lt := (List.getElem?_eq_some_iff.mp q).1
      intro c' F H σ v en ex dv Q' k
      refine hs m x T lt q tk c' F H σ v en ex dv Q' fun σ2 ρ2 a b o hw => k σ2 ρ2 a b o (wt_e et_yes ⟨fun _ => w_mono hw fun y ρ5 ⟨z, T', e, pz, tk', ew⟩ => ?_, fun h => nomatch h⟩)
      subst e
      refine ⟨xs ++ [z], T', by rw [dI_app]; rfl, by rw [List.length_append, hx]; rfl, fun u hu => ?_, tk'.mono (by rw [Nat.mul_succ]; omega), ew⟩
      rcases List.mem_append.mp hu with hu | hu
      · exact hp u hu
      · rw [List.mem_singleton.mp hu]
        exact pz
  · rintro acc ρ2 ⟨xs, T, rfl, hx, hp, tk, rfl⟩
    rw [List.length_map] at hx tk
    exact hd xs T hx hp tk
end
theorem flt_bools {α : Type} (l : List α) (f : α → Bool) : (l.map fun k => PyData.bool (f k)).all flt = true := by
  rw [List.all_map]
  exact List.all_eq_true.mpr fun _ _ => rfl
theorem bools_shaped {α : Type} (l : List α) (f : α → Bool) : SeqAt.shaped (.list (l.map fun k => PyData.bool (f k))) = true :=
  (ly_lst (dp := 0) fun d hd => by
    obtain ⟨x, _, rfl⟩ := List.mem_map.mp hd
    exact ly_bool).sh
theorem eqv_int (a b : Int) : PyData.eqv (.int a) (.int b) = decide (a = b) := by
  by_cases h : a = b
  · subst h; rw [decide_eq_true rfl]; exact eqv_sh ly_int.sh
  · rw [decide_eq_false h]; simp [PyData.eqv, h]
theorem range_at {k i : Nat} {pre post : List Nat} (h : List.range k = pre ++ i :: post) : i < k ∧ pre.length = i := by
  have l := congrArg List.length h
  rw [List.length_range, List.length_append, List.length_cons] at l
  have g := congrArg (fun l => l[pre.length]?) h
  simp only [List.getElem?_range (show pre.length < k by omega), List.getElem?_append_right (Nat.le_refl _), Nat.sub_self, List.getElem?_cons_zero, Option.some.injEq] at g
  omega
theorem isNo_non : isNo .none = true := rfl
theorem isNo_int (i : Int) : isNo (.int i) = false := rfl
theorem isNo_bl (i : Bool) : isNo (.bool i) = false := rfl
theorem isNo_str (i : Str) : isNo (.str i) = false := rfl
theorem isNo_tup (i : List PyData) : isNo (.tuple i) = false := rfl
theorem isNo_lst (i : List PyData) : isNo (.list i) = false := rfl
/-! a loop over things that are drawn -/
section
variable {K : PySem.W.Frag} {ρ : List Sl} {te : TE} {t : TA} {ts : TS} {wi : TI} {g : TG} {e : En} {Q : List PyData → List Sl → Prop}
theorem pi_w {X : Cx} {tg l : Expr} (h : PI X tg l wi) : PI X tg l (iW wi) := h
theorem x_forWE (hi : WI K wi ρ fun items ρ0 => ∃ Iv : Nat → List Sl → Prop, Iv 0 ρ0 ∧ (∀ m d ρ2, items[m]? = some d → Iv m ρ2 → G K g d ρ2 fun ρ3 => XS K ts ρ3 { e with nx := Iv (m + 1), ct := Iv (m + 1), bk := e.nx }) ∧ (∀ ρ2, Iv items.length ρ2 → e.nx ρ2)) : XS K (tFor (iW wi) g ts) ρ e := x_forW hi
theorem wi_tup (h : W K te ρ fun d ρ2 => ∃ ds, d = .tuple ds ∧ QA ds ρ2) : WI K (iTup K te) ρ QA := fun c F H σ st en R k => h c F H σ st en _ fun v F1 H1 d ρ2 e1 s1 n1 k1 dv ⟨ds, h0, q⟩ => by
  subst h0
  obtain ⟨a, xs, rfl, hl, dd⟩ := dv.tup_inv
  refine ⟨a, rfl, ⟨xs, ex_t s1.fh hl⟩, k _ F1 H1 ds ρ2 e1 s1 n1 k1 ⟨fun i H e lt => ?_, fun i F H d e1 e2 hd x H' y => ?_, fun i H e le => ?_⟩ q⟩
  · exact ⟨xs, xs[i]'(by rw [dd.len]; exact lt), ex_t e hl, List.getElem?_eq_getElem _⟩
  · obtain ⟨rfl, fx⟩ := y
    obtain ⟨v, hv, dv⟩ := dd.get hd
    have e := fx xs (ex_t e2 (ex_t e1 hl))
    rw [hv] at e
    cases e
    exact ⟨F, Gr.refl e2, dv.ex e1⟩
  · exact ⟨xs, ex_t e hl, by rw [dd.len]; exact le⟩
theorem wi_tupK (h : W K te ρ fun d ρ2 => ∃ ds, d = .tuple ds ∧ QA ds ρ2) : WI K (iTup K te) ρ QA := wi_tup h
theorem wi_listK (h : W K te ρ fun d ρ2 => ∃ ds, d = .list ds ∧ QA ds ρ2) : WI K (iList K te) ρ QA := wi_list h
theorem wi_r1K (h : WA K t ρ fun ds ρ2 => ∃ n : Int, ds = [.int n] ∧ QA (rg0 n.toNat) ρ2 ∧ Sd (-(2 ^ 62) ≤ n ∧ n < 2 ^ 62)) : WI K (iRng1 t) ρ QA :=
  wi_r1 fun c F H σ st en Q' k => h c F H σ st en Q' fun vs F2 H2 ds ρ2 a b c d e ⟨n, h1, h2, h3⟩ => k vs F2 H2 ds ρ2 a b c d e ⟨n, h1, h3, h2⟩
theorem k_i1 {Q : Int → Prop} {i : Int} (k : Q i) : ∃ n : Int, [PyData.int i] = [.int n] ∧ Q n := ⟨i, rfl, k⟩
end
/-- a loop over an enumeration -/
theorem k_forEn {K : PySem.W.Frag} {ρ : List Sl} {ts : TS} {g : TG} {α : Type} (enc : α → PyData) (l : List α) {items : List PyData} {Rt : PyData → List Sl → Prop} {Ro : List PyData → List Sl → Prop} {Bk N : List Sl → Prop} (Iv : List α → List Sl → Prop) (h0 : Iv [] ρ)
    (hs : ∀ pre x post ρ2, l = pre ++ x :: post → Iv pre ρ2 → G K g (.tuple [.int (pre.length : Nat), enc x]) ρ2 fun ρ3 => XS K ts ρ3 { nx := Iv (pre ++ [x]), rt := Rt, ro := Ro, bk := Bk, ct := Iv (pre ++ [x]) })
    (hd : ∀ ρ2, Iv l ρ2 → N ρ2) (he : items = enD (l.map enc) := by rfl) : ∃ Iv : Nat → List Sl → Prop, Iv 0 ρ ∧
    (∀ m d ρ2, items[m]? = some d → Iv m ρ2 → G K g d ρ2 fun ρ3 => XS K ts ρ3 { nx := Iv (m + 1), rt := Rt, ro := Ro, bk := Bk, ct := Iv (m + 1) }) ∧
    (∀ ρ2, Iv items.length ρ2 → N ρ2) := by
  subst he
  refine ⟨fun m ρ => Iv (l.take m) ρ, by simpa using h0, fun m d ρ2 hd iv => ?_, fun ρ2 iv => hd ρ2 (by rw [enD_len, List.length_map, List.take_length] at iv; exact iv)⟩
  obtain ⟨y, hy, rfl⟩ := enD_get hd
  rw [List.getElem?_map] at hy
  cases q : l[m]? with
  | none => rw [q] at hy; cases hy
  | some x =>
    rw [q] at hy
    cases hy
    have lt := (List.getElem?_eq_some_iff.mp q).1
    have ex : l[m] = x := (List.getElem?_eq_some_iff.mp q).2
    have sp : l = l.take m ++ x :: l.drop (m + 1) := by
      rw [← ex, List.getElem_cons_drop, List.take_append_drop]
    have := hs _ x _ ρ2 sp iv
    have tk : l.take m ++ [x] = l.take (m + 1) := by
      rw [List.take_succ, q]
      rfl
    rw [tk, List.length_take, Nat.min_eq_left (by omega)] at this
    exact this
theorem oe_isB {K : PySem.W.Frag} {i j : Bool} : OpE K rIsB (.bool i) (.bool j) (.bool (decide (i = j))) := fun F H u v ex hu hv Q q => by
  cases hu; cases hv
  exact ⟨i, j, rfl, rfl, q _ F H (Gr.refl ex) (.bl _)⟩
theorem oe_notB {K : PySem.W.Frag} {i j : Bool} : OpE K rNotB (.bool i) (.bool j) (.bool (!decide (i = j))) := fun F H u v ex hu hv Q q => by
  cases hu; cases hv
  exact ⟨i, j, rfl, rfl, q _ F H (Gr.refl ex) (.bl _)⟩
end PL
/-! PLG: the rules as constructors: one step is one look through them -/
namespace PL
open PySem PySem.Spec PyProof.Rows L2 Evl SB PW
def Tg (n : Nat) (P : Prop) : Prop := P
inductive GoI : Prop → Prop
  | p_nx {e : En} {ρ : List Sl} (p : Tg 1 (e.nx ρ)) : GoI (e.nx ρ)
  | p_bk {e : En} {ρ : List Sl} (p : Tg 1 (e.bk ρ)) : GoI (e.bk ρ)
  | p_ct {e : En} {ρ : List Sl} (p : Tg 1 (e.ct ρ)) : GoI (e.ct ρ)
  | p_rt {e : En} {ρ : List Sl} {d : PyData} (p : Tg 1 (e.rt d ρ)) : GoI (e.rt d ρ)
  | p_ro {e : En} {ρ : List Sl} {ds : List PyData} (p : Tg 1 (e.ro ds ρ)) : GoI (e.ro ds ρ)
  | x_seq {K : PySem.W.Frag} {ρ : List Sl} {e : En} {tu : TS} {ts : TS} (p0 : GoI (XS K ts ρ { e with nx := fun ρ2 => XS K tu ρ2 e })) : GoI (XS K (tSeq ts tu) ρ e)
  | s_setL {K : PySem.W.Frag} {ρ : List Sl} {e : En} {te : TE} {i : Nat} {b : Bool} {ds0 : List PyData} {ti : TE} (p0 : Tg 3 (ρ[i]? = some (.ow b ds0))) (p1 : GoI (W K te ρ fun d ρ1 => ∃ ds j, ρ1[i]? = some (.ow b ds) ∧ E K ti ρ1 (.int j) ∧ StA ds j d fun es => e.nx (ρ1.set i (.ow b es)))) : GoI (XS K (tAsg te (gSub (tVar i) ti rSetL)) ρ e)
  | x_asg {K : PySem.W.Frag} {ρ : List Sl} {e : En} {te : TE} {i : Nat} (p0 : GoI (W K te ρ fun d ρ2 => e.nx (ρ2.set i (.sh d)))) : GoI (XS K (tAsg te (gName i)) ρ e)
  | x_ownA {K : PySem.W.Frag} {ρ : List Sl} {e : En} {te : TE} {i : Nat} (p0 : GoI (WO K te ρ fun ds ρ2 => e.nx (ρ2.set i (.ow true ds)))) : GoI (XS K (tOwn (tAsg te (gName i))) ρ e)
  | x_par {K : PySem.W.Frag} {ρ : List Sl} {e : En} {t : TA} {i : Nat} {j : Nat} (p0 : GoI (WA K t ρ fun ds ρ2 => ∃ a b, ds = [a, b] ∧ e.nx ((ρ2.set i (.sh a)).set j (.sh b)))) : GoI (XS K (tPar i j t) ρ e)
  | x_par3 {K : PySem.W.Frag} {ρ : List Sl} {e : En} {t : TA} {i : Nat} {j : Nat} {l : Nat} (p0 : GoI (WA K t ρ fun ds ρ2 => ∃ a b z, ds = [a, b, z] ∧ e.nx (((ρ2.set i (.sh a)).set j (.sh b)).set l (.sh z)))) : GoI (XS K (tPar3 i j l t) ρ e)
  | x_parM {K : PySem.W.Frag} {ρ : List Sl} {e : En} {t : TA} {i : Nat} {j : Nat} (p0 : GoI (WM K t ρ fun ss ρ2 => ∃ s1 s2, ss = [s1, s2] ∧ e.nx ((ρ2.set i s1).set j s2))) : GoI (XS K (tOwn (tPar i j t)) ρ e)
  | x_parM3 {K : PySem.W.Frag} {ρ : List Sl} {e : En} {t : TA} {i : Nat} {j : Nat} {l : Nat} (p0 : GoI (WM K t ρ fun ss ρ2 => ∃ s1 s2 s3, ss = [s1, s2, s3] ∧ e.nx (((ρ2.set i s1).set j s2).set l s3))) : GoI (XS K (tOwn (tPar3 i j l t)) ρ e)
  | x_unp {K : PySem.W.Frag} {ρ : List Sl} {e : En} {te : TE} {g : TG} (p0 : GoI (W K te ρ fun d ρ2 => G K g d ρ2 fun ρ3 => e.nx ρ3)) : GoI (XS K (tAsg te g) ρ e)
  | x_ifk {K : PySem.W.Frag} {ρ : List Sl} {e : En} {tt : TT} {ts : TS} {tu' : TS} (p0 : GoI (WT K tt ρ fun b ρ2 => Ifk b (XS K ts ρ2 e) (XS K tu' ρ2 e))) : GoI (XS K (tIfS tt ts tu') ρ e)
  | x_retN {K : PySem.W.Frag} {ρ : List Sl} {e : En} (p0 : Tg 1 (e.rt .none ρ)) : GoI (XS K tRetN ρ e)
  | x_retOm {K : PySem.W.Frag} {ρ : List Sl} {e : En} {te : TE} (p0 : GoI (WO K te ρ fun ds ρ2 => e.ro ds ρ2)) : GoI (XS K (tRetO te) ρ e)
  | x_nev {K : PySem.W.Frag} {ρ : List Sl} {e : En} (p0 : Tg 9 False) : GoI (XS K tNever ρ e)
  | x_retB {K : PySem.W.Frag} {e : En} {ρ : List Sl} (p : Tg 10 (XS K (tRet (tP (tC (.bl false)))) ρ e)) : GoI (XS K (tRet (tP (tC (.bl false)))) ρ e)
  | x_retV {K : PySem.W.Frag} {ρ : List Sl} {e : En} {i : Nat} {ds : List PyData} (p0 : Tg 3 (ρ[i]? = some (.ow true ds))) (p1 : Tg 1 (e.ro ds ρ)) : GoI (XS K (tRet (tVar i)) ρ e)
  | x_ret {K : PySem.W.Frag} {ρ : List Sl} {e : En} {te : TE} (p0 : GoI (W K te ρ fun d ρ2 => e.rt d ρ2)) : GoI (XS K (tRet te) ρ e)
  | x_bk {K : PySem.W.Frag} {ρ : List Sl} {e : En} (p0 : Tg 1 (e.bk ρ)) : GoI (XS K tBreak ρ e)
  | x_ct {K : PySem.W.Frag} {ρ : List Sl} {e : En} (p0 : Tg 1 (e.ct ρ)) : GoI (XS K tCont ρ e)
  | x_nil {K : PySem.W.Frag} {ρ : List Sl} {e : En} (p0 : Tg 1 (e.nx ρ)) : GoI (XS K tNext ρ e)
  | x_ownU {K : PySem.W.Frag} {ρ : List Sl} {e : En} {t : TA} {is : List Nat} {g : TG} (p0 : Tg 3 (g = gTup K is.length (gNames is))) (p1 : GoI (WM K t ρ fun ss ρ2 => ss.length = is.length ∧ is.length ≤ 1000 ∧ e.nx (setSl ρ2 is ss))) : GoI (XS K (tOwnU is (tAsg (tTup t) g)) ρ e)
  | s_app {K : PySem.W.Frag} {ρ : List Sl} {e : En} {te : TE} {i : Nat} {b : Bool} {ds0 : List PyData} (p0 : Tg 3 (ρ[i]? = some (.ow b ds0))) (p1 : GoI (W K te ρ fun d ρ2 => ∃ ds, ρ2[i]? = some (.ow b ds) ∧ e.nx (ρ2.set i (.ow b (ds ++ [d]))) ∧ Sd (ds.length < 100000))) : GoI (XS K (tDrop (tBM K "list" rAppend (tVar i) (tCons te tNil))) ρ e)
  | s_pop {K : PySem.W.Frag} {ρ : List Sl} {e : En} {ds : List PyData} {i : Nat} {b : Bool} (p0 : Tg 3 (ρ[i]? = some (.ow b ds))) (p1 : Sd (ds ≠ [])) (p2 : Tg 1 (e.nx (ρ.set i (.ow b ds.dropLast)))) : GoI (XS K (tDrop (tBM0 K "list" rPop (tVar i))) ρ e)
  | s_ext {K : PySem.W.Frag} {ρ : List Sl} {e : En} {te : TE} {i : Nat} {b : Bool} {ds0 : List PyData} (p0 : Tg 3 (ρ[i]? = some (.ow b ds0))) (p1 : GoI (W K te ρ fun d ρ2 => ∃ ds es, ρ2[i]? = some (.ow b ds) ∧ d = .list es ∧ e.nx (ρ2.set i (.ow b (ds ++ es))) ∧ Sd (ds.length + es.length ≤ 100000))) : GoI (XS K (tDrop (tBM K "list" rExtend (tVar i) (tCons te tNil))) ρ e)
  | x_drop {K : PySem.W.Frag} {ρ : List Sl} {e : En} {te : TE} (p0 : GoI (W K te ρ fun _ ρ2 => e.nx ρ2)) : GoI (XS K (tDrop te) ρ e)
  | x_frz0 {K : PySem.W.Frag} {ρ : List Sl} {e : En} {ts : TS} (p0 : GoI (XS K ts ρ e)) : GoI (XS K (tFrz [] ts) ρ e)
  | x_frz {K : PySem.W.Frag} {ρ : List Sl} {e : En} {ts : TS} {i : Nat} {is : List Nat} {ds : List PyData} (p0 : Tg 3 (ρ[i]? = some (.ow true ds))) (p1 : GoI (XS K (tFrz is ts) (ρ.set i (.sh (.list ds))) e)) : GoI (XS K (tFrz (i :: is) ts) ρ e)
  | x_forWE {K : PySem.W.Frag} {ρ : List Sl} {e : En} {ts : TS} {wi : TI} {g : TG} (p0 : GoI (WI K wi ρ fun items ρ0 => ∃ Iv : Nat → List Sl → Prop, Iv 0 ρ0 ∧ (∀ m d ρ2, items[m]? = some d → Iv m ρ2 → G K g d ρ2 fun ρ3 => XS K ts ρ3 { e with nx := Iv (m + 1), ct := Iv (m + 1), bk := e.nx }) ∧ (∀ ρ2, Iv items.length ρ2 → e.nx ρ2))) : GoI (XS K (tFor (iW wi) g ts) ρ e)
  | x_forE {K : PySem.W.Frag} {ρ : List Sl} {e : En} {ts : TS} {wi : TI} {items : List PyData} {g : TG} (p0 : GoI (EI K wi ρ items)) (p1 : Tg 0 (∃ Iv : Nat → List Sl → Prop, Iv 0 ρ ∧ (∀ m d ρ2, items[m]? = some d → Iv m ρ2 → G K g d ρ2 fun ρ3 => XS K ts ρ3 { e with nx := Iv (m + 1), ct := Iv (m + 1), bk := e.nx }) ∧ (∀ ρ2, Iv items.length ρ2 → e.nx ρ2))) : GoI (XS K (tFor wi g ts) ρ e)
  | x_whileE {K : PySem.W.Frag} {ρ : List Sl} {e : En} {tt : TT} {ts : TS} (p0 : Tg 0 (∃ (Iv : Nat → List Sl → Prop) (m0 : Nat), Iv m0 ρ ∧ ∀ m ρ2, Iv m ρ2 → WhT K tt ρ2 fun b => Ifk b (XS K ts ρ2 { e with nx := fun ρ3 => ∃ m', m' < m ∧ Iv m' ρ3, ct := fun ρ3 => ∃ m', m' < m ∧ Iv m' ρ3, bk := e.nx }) (e.nx ρ2))) : GoI (XS K (tWhile tt ts) ρ e)
  | wh_p {K : PySem.W.Frag} {ρ : List Sl} {tt : TT} {b : Bool} {Q : Bool → Prop} (p0 : GoI (ET K tt ρ b)) (p1 : GoI (Q b)) : GoI (WhT K (tPT tt) ρ Q)
  | wh_lk {K : PySem.W.Frag} {ρ : List Sl} {tt : TT} {b : Bool} {Q : Bool → Prop} (p0 : GoI (ET K tt (ρ.map fz) b)) (p1 : GoI (Q b)) : GoI (WhT K (tLookT tt) ρ Q)
  | g_name {K : PySem.W.Frag} {ρ : List Sl} {P : List Sl → Prop} {d : PyData} {i : Nat} (p0 : GoI (P (ρ.set i (.sh d)))) : GoI (G K (gName i) d ρ P)
  | g_tup {K K' : PySem.W.Frag} {gs : TGs} {ds : List PyData} {ρ : List Sl} {P : List Sl → Prop} {n : Nat} (p0 : Tg 3 (K' = K)) (p2 : Tg 3 (ds.length = n)) (p1 : GoI (Gs K gs ds ρ P)) : GoI (G K (gTup K' n gs) (.tuple ds) ρ P)
  | g_tupD {K K' : PySem.W.Frag} {gs : TGs} {d : PyData} {ρ : List Sl} {P : List Sl → Prop} {n : Nat} (p : Tg 16 (G K (gTup K' n gs) d ρ P)) : GoI (G K (gTup K' n gs) d ρ P)
  | gs_cons {K : PySem.W.Frag} {ρ : List Sl} {P : List Sl → Prop} {d : PyData} {ds : List PyData} {g : TG} {gs : TGs} (p0 : GoI (G K g d ρ fun ρ2 => Gs K gs ds ρ2 P)) : GoI (Gs K (gCons g gs) (d :: ds) ρ P)
  | gc_name {K : PySem.W.Frag} {d : PyData} {ρ : List Sl} {P : List Sl → Prop} {i : Nat} {ws : List Nat} (p1 : Tg 6 (i ∈ ws)) (p0 : GoI (P (ρ.set i (.sh d)))) : GoI (GC K (gName i) ws d ρ P)
  | gc_tup {K K' : PySem.W.Frag} {gs : TGs} {ws : List Nat} {ds : List PyData} {ρ : List Sl} {P : List Sl → Prop} {n : Nat} (p0 : Tg 3 (K' = K)) (p2 : Tg 3 (ds.length = n)) (p1 : GoI (GCs K gs ws ds ρ P)) : GoI (GC K (gTup K' n gs) ws (.tuple ds) ρ P)
  | gc_tupD {K K' : PySem.W.Frag} {gs : TGs} {ws : List Nat} {d : PyData} {ρ : List Sl} {P : List Sl → Prop} {n : Nat} (p : Tg 17 (GC K (gTup K' n gs) ws d ρ P)) : GoI (GC K (gTup K' n gs) ws d ρ P)
  | gcs_cons {K : PySem.W.Frag} {ρ : List Sl} {P : List Sl → Prop} {d : PyData} {ds : List PyData} {g : TG} {gs : TGs} {ws : List Nat} (p0 : GoI (GC K g ws d ρ fun ρ2 => GCs K gs ws ds ρ2 P)) : GoI (GCs K (gCons g gs) ws (d :: ds) ρ P)
  | gcs_nil {K : PySem.W.Frag} {ρ : List Sl} {P : List Sl → Prop} {ws : List Nat} (p0 : GoI (P ρ)) : GoI (GCs K gNil ws [] ρ P)
  | gs_nil {K : PySem.W.Frag} {ρ : List Sl} {P : List Sl → Prop} (p0 : Tg 14 (P ρ)) : GoI (Gs K gNil [] ρ P)
  | ifk_t {A B : Prop} (p0 : GoI (A)) : GoI (Ifk true A B)
  | ifk_f {A B : Prop} (p0 : GoI (B)) : GoI (Ifk false A B)
  | k_op {K : PySem.W.Frag} {r : R2} {x y : PyData} {Q : PyData → Prop} (p : Tg 11 (∃ z, OpE K r x y z ∧ Q z)) : GoI (∃ z, OpE K r x y z ∧ Q z)
  | k_set {K : PySem.W.Frag} {ρ : List Sl} {ds : List PyData} {i : Nat} {b : Bool} {ti : TE} {j : Int} {P : List PyData → Int → Prop} (p0 : Tg 3 (ρ[i]? = some (.ow b ds))) (p1 : GoI (E K ti ρ (.int j))) (p2 : GoI (P ds j)) : GoI (∃ ds j, ρ[i]? = some (.ow b ds) ∧ E K ti ρ (.int j) ∧ P ds j)
  | k_cb {K : PySem.W.Frag} {z : PyData} {ds : List PyData} {rr : List V → Hp → VK → Prop} {Q : PyData → Prop} (p0 : GoI (CbE K rr ds z)) (p1 : GoI (Q z)) : GoI (∃ z, CbE K rr ds z ∧ Q z)
  | k_oo {K : PySem.W.Frag} {r : R2} {x : PyData} {y : PyData} {ds : List PyData} {Q : List PyData → Prop} (p0 : GoI (OpO K r x y ds)) (p1 : GoI (Q ds)) : GoI (∃ z, OpO K r x y z ∧ Q z)
  | k_bool {Q : Bool → Prop} {b : Bool} (p0 : GoI (Q b)) : GoI (∃ b', PyData.bool b = .bool b' ∧ Q b')
  | k_int {Q : Int → Prop} {i : Int} (p0 : GoI (Q i)) : GoI (∃ i', PyData.int i = .int i' ∧ Q i')
  | k_list {ds : List PyData} {Q : List PyData → Prop} (p0 : GoI (Q ds)) : GoI (∃ ds', PyData.list ds = .list ds' ∧ Q ds')
  | k_i1 {Q : Int → Prop} {i : Int} (p0 : GoI (Q i)) : GoI (∃ n : Int, [PyData.int i] = [.int n] ∧ Q n)
  | k_pair {x : PyData} {y : PyData} {Q : PyData → PyData → Prop} (p0 : GoI (Q x y)) : GoI (∃ a b, [x, y] = [a, b] ∧ Q a b)
  | k_trip {x : PyData} {y : PyData} {z : PyData} {Q : PyData → PyData → PyData → Prop} (p0 : GoI (Q x y z)) : GoI (∃ a b c, [x, y, z] = [a, b, c] ∧ Q a b c)
  | k_ss2 {P : Sl → Sl → Prop} {s1 s2 : Sl} (p0 : GoI (P s1 s2)) : GoI (∃ a b, [s1, s2] = [a, b] ∧ P a b)
  | k_ss3 {P : Sl → Sl → Sl → Prop} {s1 s2 s3 : Sl} (p0 : GoI (P s1 s2 s3)) : GoI (∃ a b c, [s1, s2, s3] = [a, b, c] ∧ P a b c)
  | k_app {ρ : List Sl} {ds : List PyData} {i : Nat} {b : Bool} {P : List PyData → Prop} (p0 : Tg 3 (ρ[i]? = some (.ow b ds))) (p1 : Sd (ds.length < 100000)) (p2 : GoI (P ds)) : GoI (∃ ds, ρ[i]? = some (.ow b ds) ∧ P ds ∧ Sd (ds.length < 100000))
  | k_ext {ρ : List Sl} {ds : List PyData} {es : List PyData} {i : Nat} {b : Bool} {P : List PyData → List PyData → Prop} (p0 : Tg 3 (ρ[i]? = some (.ow b ds))) (p1 : Sd (ds.length + es.length ≤ 100000)) (p2 : GoI (P ds es)) : GoI (∃ ds es', ρ[i]? = some (.ow b ds) ∧ PyData.list es = .list es' ∧ P ds es' ∧ Sd (ds.length + es'.length ≤ 100000))
  | k_tank {ρ : List Sl} {i : Nat} {b : Bool} {T1 : List PyData} {P : List PyData → Prop} (p0 : Tg 3 (ρ[i]? = some (.ow b T1))) (p1 : GoI (P T1)) : GoI (∃ T1, ρ[i]? = some (.ow b T1) ∧ P T1)
  | mcI {P : Prop} (p : MC P) : GoI (MC P)
  | w_p {K : PySem.W.Frag} {ρ : List Sl} {te : TE} {Q : PyData → List Sl → Prop} {d : PyData} (p0 : GoI (E K te ρ d)) (p1 : GoI (Q d ρ)) : GoI (W K (tP te) ρ Q)
  | wo_p {K : PySem.W.Frag} {ρ : List Sl} {te : TE} {QA : List PyData → List Sl → Prop} {ds : List PyData} (p0 : GoI (EO K te ρ ds)) (p1 : GoI (QA ds ρ)) : GoI (WO K (tP te) ρ QA)
  | wt_p {K : PySem.W.Frag} {ρ : List Sl} {tt : TT} {QT : Bool → List Sl → Prop} {b : Bool} (p0 : GoI (ET K tt ρ b)) (p1 : GoI (QT b ρ)) : GoI (WT K (tPT tt) ρ QT)
  | s_lk {K : PySem.W.Frag} {ρ : List Sl} {te : TE} {Q : PyData → List Sl → Prop} {d : PyData} (p0 : GoI (E K te (ρ.map fz) d)) (p1 : Sd (flt d = true)) (p2 : GoI (Q d ρ)) : GoI (W K (tLook te) ρ Q)
  | so_lk {K : PySem.W.Frag} {ρ : List Sl} {te : TE} {QA : List PyData → List Sl → Prop} {ds : List PyData} (p0 : GoI (EO K te (ρ.map fz) ds)) (p1 : Sd (ds.all flt = true)) (p2 : GoI (QA ds ρ)) : GoI (WO K (tLook te) ρ QA)
  | st_lk {K : PySem.W.Frag} {ρ : List Sl} {tt : TT} {QT : Bool → List Sl → Prop} {b : Bool} (p0 : GoI (ET K tt (ρ.map fz) b)) (p1 : GoI (QT b ρ)) : GoI (WT K (tLookT tt) ρ QT)
  | w_lcG {K : PySem.W.Frag} {ρ : List Sl} {te : TE} {tt : TT} {Q : PyData → List Sl → Prop} {wi : TI} {g : TG} {ws : List Nat} (p0 : GoI (WI K wi ρ fun items ρ0 => LcK K g tt te ws items ρ0 fun ds ρ2 => Q (.list ds) ρ2)) : GoI (W K (tLc (iW wi) g tt te ws) ρ Q)
  | wo_lcG {K : PySem.W.Frag} {ρ : List Sl} {te : TE} {tt : TT} {QA : List PyData → List Sl → Prop} {wi : TI} {g : TG} {ws : List Nat} (p0 : GoI (WI K wi ρ fun items ρ0 => LcK K g tt te ws items ρ0 QA)) : GoI (WO K (tLc (iW wi) g tt te ws) ρ QA)
  | w_lc {K : PySem.W.Frag} {ρ : List Sl} {te : TE} {tt : TT} {Q : PyData → List Sl → Prop} {ds : List PyData} {wi : TI} {g : TG} {ws : List Nat} (p0 : GoI (EO K (tLc wi g tt te ws) ρ ds)) (p1 : GoI (Q (.list ds) ρ)) : GoI (W K (tLc wi g tt te ws) ρ Q)
  | wo_lcP {K : PySem.W.Frag} {ρ : List Sl} {te : TE} {tt : TT} {QA : List PyData → List Sl → Prop} {ds : List PyData} {wi : TI} {g : TG} {ws : List Nat} (p0 : GoI (EO K (tLc wi g tt te ws) ρ ds)) (p1 : GoI (QA ds ρ)) : GoI (WO K (tLc wi g tt te ws) ρ QA)
  | e_lcE {K : PySem.W.Frag} {ρ : List Sl} {te : TE} {tt : TT} {ds : List PyData} {wi : TI} {g : TG} {ws : List Nat} (p0 : GoI (EO K (tLc wi g tt te ws) ρ ds)) : GoI (E K (tLc wi g tt te ws) ρ (.list ds))
  | w_cat {K : PySem.W.Frag} {ρ : List Sl} {ta : TE} {tb : TE} {Q : PyData → List Sl → Prop} (p0 : GoI (W K ta ρ fun d1 ρ1 => W K tb ρ1 fun d2 ρ2 => ∃ l1 l2, d1 = .list l1 ∧ d2 = .list l2 ∧ Q (.list (l1 ++ l2)) ρ2 ∧ Sd (l1.length + l2.length ≤ 100000))) : GoI (W K (tOp rCat ta tb) ρ Q)
  | w_op {K : PySem.W.Frag} {ρ : List Sl} {ta : TE} {tb : TE} {r : R2} {Q : PyData → List Sl → Prop} (p0 : GoI (W K ta ρ fun d1 ρ1 => W K tb ρ1 fun d2 ρ2 => ∃ z, OpE K r d1 d2 z ∧ Q z ρ2)) : GoI (W K (tOp r ta tb) ρ Q)
  | wo_cat {K : PySem.W.Frag} {ρ : List Sl} {ta : TE} {tb : TE} {QA : List PyData → List Sl → Prop} (p0 : GoI (W K ta ρ fun d1 ρ1 => W K tb ρ1 fun d2 ρ2 => ∃ l1 l2, d1 = .list l1 ∧ d2 = .list l2 ∧ QA (l1 ++ l2) ρ2 ∧ Sd (l1.length + l2.length ≤ 100000))) : GoI (WO K (tOp rCat ta tb) ρ QA)
  | wt_test {K : PySem.W.Frag} {ρ : List Sl} {te : TE} {QT : Bool → List Sl → Prop} (p0 : GoI (W K te ρ fun d ρ2 => ∃ b, d = .bool b ∧ QT b ρ2)) : GoI (WT K (tTest te) ρ QT)
  | wt_B {K : PySem.W.Frag} {ρ : List Sl} {te : TE} {QT : Bool → List Sl → Prop} (p0 : GoI (W K te ρ fun d ρ2 => ∃ b, d = .bool b ∧ QT b ρ2)) : GoI (WT K (tB te) ρ QT)
  | wt_andK {K : PySem.W.Frag} {ρ : List Sl} {tt : TT} {tu : TT} {QT : Bool → List Sl → Prop} (p0 : GoI (WT K tt ρ fun a ρ2 => Ifk a (WT K tu ρ2 QT) (QT false ρ2))) : GoI (WT K (tAnd tt tu) ρ QT)
  | wt_orK {K : PySem.W.Frag} {ρ : List Sl} {tt : TT} {tu : TT} {QT : Bool → List Sl → Prop} (p0 : GoI (WT K tt ρ fun a ρ2 => Ifk a (QT true ρ2) (WT K tu ρ2 QT))) : GoI (WT K (tOr tt tu) ρ QT)
  | wt_not {K : PySem.W.Frag} {ρ : List Sl} {tt : TT} {QT : Bool → List Sl → Prop} (p0 : GoI (WT K tt ρ fun b ρ2 => QT (!b) ρ2)) : GoI (WT K (tNot tt) ρ QT)
  | wa_cons {K : PySem.W.Frag} {ρ : List Sl} {te : TE} {tr : TA} {QA : List PyData → List Sl → Prop} (p0 : GoI (W K te ρ fun d ρ1 => WA K tr ρ1 fun ds ρ2 => QA (d :: ds) ρ2)) : GoI (WA K (tCons te tr) ρ QA)
  | wa_nil {K : PySem.W.Frag} {ρ : List Sl} {QA : List PyData → List Sl → Prop} (p0 : GoI (QA [] ρ)) : GoI (WA K tNil ρ QA)
  | wm_o {K : PySem.W.Frag} {ρ : List Sl} {te : TE} {tr : TA} {QM : List Sl → List Sl → Prop} (p0 : GoI (WO K te ρ fun ds ρ1 => WM K tr ρ1 fun ss ρ2 => QM (.ow true ds :: ss) ρ2)) : GoI (WM K (tCons (tO te) tr) ρ QM)
  | wm_sh {K : PySem.W.Frag} {ρ : List Sl} {te : TE} {tr : TA} {QM : List Sl → List Sl → Prop} (p0 : GoI (W K te ρ fun d ρ1 => WM K tr ρ1 fun ss ρ2 => QM (.sh d :: ss) ρ2)) : GoI (WM K (tCons te tr) ρ QM)
  | wm_nil {K : PySem.W.Frag} {ρ : List Sl} {QM : List Sl → List Sl → Prop} (p0 : GoI (QM [] ρ)) : GoI (WM K tNil ρ QM)
  | w_tupK {K : PySem.W.Frag} {ρ : List Sl} {t : TA} {Q : PyData → List Sl → Prop} (p0 : GoI (WA K t ρ fun ds ρ2 => Q (.tuple ds) ρ2 ∧ Sd (ds.length ≤ 100000))) : GoI (W K (tTup t) ρ Q)
  | w_lstK {K : PySem.W.Frag} {ρ : List Sl} {t : TA} {Q : PyData → List Sl → Prop} (p0 : GoI (WA K t ρ fun ds ρ2 => Q (.list ds) ρ2 ∧ Sd (ds.length ≤ 100000))) : GoI (W K (tLst t) ρ Q)
  | wo_lstK {K : PySem.W.Frag} {ρ : List Sl} {t : TA} {QA : List PyData → List Sl → Prop} (p0 : GoI (WA K t ρ fun ds ρ2 => QA ds ρ2 ∧ Sd (ds.length ≤ 100000))) : GoI (WO K (tLst t) ρ QA)
  | k_sd {A B : Prop} (p0 : Sd B) (p1 : GoI (A)) : GoI (A ∧ Sd B)
  | k_cat {ds : List PyData} {es : List PyData} {P : List PyData → List PyData → Prop} (p0 : GoI (P ds es)) : GoI (∃ l1 l2, PyData.list ds = .list l1 ∧ PyData.list es = .list l2 ∧ P l1 l2)
  | w_neg {K : PySem.W.Frag} {ρ : List Sl} {ta : TE} {Q : PyData → List Sl → Prop} {f : Int → Int} (p0 : GoI (W K ta ρ fun d ρ2 => ∃ i, d = .int i ∧ Q (.int (f i)) ρ2)) : GoI (W K (tUn (rU fun i => V.int (f i)) ta) ρ Q)
  | w_notV {K : PySem.W.Frag} {ρ : List Sl} {ta : TE} {Q : PyData → List Sl → Prop} (p0 : GoI (W K ta ρ fun d ρ2 => ∃ b, d = .bool b ∧ Q (.bool (!b)) ρ2)) : GoI (W K (tNotV ta) ρ Q)
  | w_andV {K : PySem.W.Frag} {ρ : List Sl} {ta : TE} {tb : TE} {Q : PyData → List Sl → Prop} (p0 : GoI (W K ta ρ fun d ρ1 => ∃ a, d = .bool a ∧ Ifk a (W K tb ρ1 Q) (Q (.bool false) ρ1))) : GoI (W K (tAndV ta tb) ρ Q)
  | w_orV {K : PySem.W.Frag} {ρ : List Sl} {ta : TE} {tb : TE} {Q : PyData → List Sl → Prop} (p0 : GoI (W K ta ρ fun d ρ1 => ∃ a, d = .bool a ∧ Ifk a (Q (.bool true) ρ1) (W K tb ρ1 Q))) : GoI (W K (tOrV ta tb) ρ Q)
  | w_if_I {K : PySem.W.Frag} {ρ : List Sl} {ta : TE} {tb : TE} {tt : TT} {Q : PyData → List Sl → Prop} (p0 : GoI (W K (tIf tt ta tb) ρ Q)) : GoI (W K (tIfeI tt ta tb) ρ Q)
  | w_if_S {K : PySem.W.Frag} {ρ : List Sl} {ta : TE} {tb : TE} {tt : TT} {Q : PyData → List Sl → Prop} (p0 : GoI (W K (tIf tt ta tb) ρ Q)) : GoI (W K (tIfeS tt ta tb) ρ Q)
  | w_if_B {K : PySem.W.Frag} {ρ : List Sl} {ta : TE} {tb : TE} {tt : TT} {Q : PyData → List Sl → Prop} (p0 : GoI (W K (tIf tt ta tb) ρ Q)) : GoI (W K (tIfeB tt ta tb) ρ Q)
  | w_if_L {K : PySem.W.Frag} {ρ : List Sl} {ta : TE} {tb : TE} {tt : TT} {Q : PyData → List Sl → Prop} (p0 : GoI (W K (tIf tt ta tb) ρ Q)) : GoI (W K (tIfeL tt ta tb) ρ Q)
  | wo_if_L {K : PySem.W.Frag} {ρ : List Sl} {ta : TE} {tb : TE} {tt : TT} {QA : List PyData → List Sl → Prop} (p0 : GoI (WO K (tIf tt ta tb) ρ QA)) : GoI (WO K (tIfeL tt ta tb) ρ QA)
  | w_ifW {K : PySem.W.Frag} {ρ : List Sl} {ta : TE} {tb : TE} {tt : TT} {Q : PyData → List Sl → Prop} (p0 : GoI (WT K tt ρ fun b ρ2 => Ifk b (W K ta ρ2 Q) (W K tb ρ2 Q))) : GoI (W K (tIf tt ta tb) ρ Q)
  | wo_ifW {K : PySem.W.Frag} {ρ : List Sl} {ta : TE} {tb : TE} {tt : TT} {QA : List PyData → List Sl → Prop} (p0 : GoI (WT K tt ρ fun b ρ2 => Ifk b (WO K ta ρ2 QA) (WO K tb ρ2 QA))) : GoI (WO K (tIf tt ta tb) ρ QA)
  | w_list {K : PySem.W.Frag} {ρ : List Sl} {t : TA} {Q : PyData → List Sl → Prop} (p0 : GoI (WA K t ρ fun ds ρ2 => ∃ l, ds = [.list l] ∧ Q (.list l) ρ2)) : GoI (W K (tCB (fun xs H Q => ∃ p ys, xs = [V.ref p] ∧ (SqL K H p ys ∨ SqT K H p ys) ∧ ∀ (l : Addr), H l = none → Q (V.ref l) (upd H l (HO.lst ys))) t) ρ Q)
  | w_cb {K : PySem.W.Frag} {ρ : List Sl} {t : TA} {Q : PyData → List Sl → Prop} {rr : List V → Hp → VK → Prop} (p0 : GoI (WA K t ρ fun ds ρ2 => ∃ z, CbE K rr ds z ∧ Q z ρ2)) : GoI (W K (tCB rr t) ρ Q)
  | w_callN {K : PySem.W.Frag} {ρ : List Sl} {t : TA} {Q : PyData → List Sl → Prop} {m : Mn} {X : XK} (p0 : GoI (WA K t ρ fun ds ρ2 => MC (m ds fun z => Q z ρ2))) : GoI (W K (tCall (SpN K m) [] X t) ρ Q)
  | wo_callO {K : PySem.W.Frag} {ρ : List Sl} {t : TA} {QA : List PyData → List Sl → Prop} {m : Mo} {X : XK} (p0 : GoI (WA K t ρ fun ds ρ2 => MC (m ds fun z => QA z ρ2))) : GoI (WO K (tCall (SpO K m) [] X t) ρ QA)
  | w_callO {K : PySem.W.Frag} {ρ : List Sl} {t : TA} {Q : PyData → List Sl → Prop} {m : Mo} {X : XK} (p0 : GoI (WA K t ρ fun ds ρ2 => MC (m ds fun z => Q (.list z) ρ2))) : GoI (W K (tCall (SpO K m) [] X t) ρ Q)
  | w_callT {K : PySem.W.Frag} {ρ : List Sl} {t : TA} {Q : PyData → List Sl → Prop} {i : Nat} {b : Bool} {T : List PyData} {m : Mt} {X : XK} (p0 : Tg 3 (ρ[i]? = some (.ow b T))) (p1 : GoI (WA K t ρ fun ds ρ1 => ∃ T1, ρ1[i]? = some (.ow b T1) ∧ MC (m T1 ds fun d T2 => Q d (ρ1.set i (.ow b T2))))) : GoI (W K (tCall (SpT K m) [] X (tCons (tVar i) t)) ρ Q)
  | wo_callTO {K : PySem.W.Frag} {ρ : List Sl} {t : TA} {QA : List PyData → List Sl → Prop} {i : Nat} {b : Bool} {T : List PyData} {m : Mto} {X : XK} (p0 : Tg 3 (ρ[i]? = some (.ow b T))) (p1 : GoI (WA K t ρ fun ds ρ1 => ∃ T1, ρ1[i]? = some (.ow b T1) ∧ MC (m T1 ds fun d T2 => QA d (ρ1.set i (.ow b T2))))) : GoI (WO K (tCall (SpTO K m) [] X (tCons (tVar i) t)) ρ QA)
  | w_callTO {K : PySem.W.Frag} {ρ : List Sl} {t : TA} {Q : PyData → List Sl → Prop} {i : Nat} {b : Bool} {T : List PyData} {m : Mto} {X : XK} (p0 : Tg 3 (ρ[i]? = some (.ow b T))) (p1 : GoI (WA K t ρ fun ds ρ1 => ∃ T1, ρ1[i]? = some (.ow b T1) ∧ MC (m T1 ds fun d T2 => Q (.list d) (ρ1.set i (.ow b T2))))) : GoI (W K (tCall (SpTO K m) [] X (tCons (tVar i) t)) ρ Q)
  | e_var {K : PySem.W.Frag} {ρ : List Sl} {d : PyData} {i : Nat} (p0 : Tg 3 (ρ[i]? = some (.sh d))) : GoI (E K (tVar i) ρ d)
  | e_pow {K : PySem.W.Frag} {ρ : List Sl} {i j r : Int} (p0 : Tg 7 (CPowB i j)) (p1 : Tg 8 (i ^ j.toNat = r)) : GoI (E K (tPow r (tOp (rI CPowB fun i j => V.int (i ^ j.toNat)) (tC (.int i)) (tC (.int j)))) ρ (.int r))
  | e_int {K : PySem.W.Frag} {ρ : List Sl} {i : Int} : GoI (E K (tC (.int i)) ρ (.int i))
  | e_bl {K : PySem.W.Frag} {ρ : List Sl} {b : Bool} : GoI (E K (tC (.bl b)) ρ (.bool b))
  | e_str {K : PySem.W.Frag} {ρ : List Sl} {s : Str} : GoI (E K (tC (.str s)) ρ (.str s))
  | e_non {K : PySem.W.Frag} {ρ : List Sl} : GoI (E K (tC .non) ρ .none)
  | ea_nil {K : PySem.W.Frag} {ρ : List Sl} : GoI (EA K tNil ρ [])
  | et_yes {K : PySem.W.Frag} {ρ : List Sl} : GoI (ET K tYes ρ true)
  | oe_i {K : PySem.W.Frag} {f : Int → Int → Int} {i j : Int} : GoI (OpE K (rI0 fun i j => V.int (f i j)) (.int i) (.int j) (.int (f i j)))
  | oe_c {K : PySem.W.Frag} {f : Int → Int → Bool} {i j : Int} : GoI (OpE K (rI0 fun i j => V.bl (f i j)) (.int i) (.int j) (.bool (f i j)))
  | oe_eqI {K : PySem.W.Frag} {i j : Int} : GoI (OpE K rEq (.int i) (.int j) (.bool (decide (i = j))))
  | oe_neI {K : PySem.W.Frag} {i j : Int} : GoI (OpE K rNe (.int i) (.int j) (.bool (!decide (i = j))))
  | oe_eqS {K : PySem.W.Frag} {i j : Str} : GoI (OpE K rEq (.str i) (.str j) (.bool (decide (i = j))))
  | oe_neS {K : PySem.W.Frag} {i j : Str} : GoI (OpE K rNe (.str i) (.str j) (.bool (!decide (i = j))))
  | oe_eqB {K : PySem.W.Frag} {i j : Bool} : GoI (OpE K rEq (.bool i) (.bool j) (.bool (i == j)))
  | oe_neB {K : PySem.W.Frag} {i j : Bool} : GoI (OpE K rNe (.bool i) (.bool j) (.bool (!(i == j))))
  | oe_is {K : PySem.W.Frag} {x : PyData} : GoI (OpE K (fun x y H Q => y = V.non ∧ Q (V.bl (decide (x = V.non))) H) x .none (.bool (isNo x)))
  | oe_isnot {K : PySem.W.Frag} {x : PyData} : GoI (OpE K (fun x y H Q => y = V.non ∧ Q (V.bl !decide (x = V.non)) H) x .none (.bool (!isNo x)))
  | oe_isB {K : PySem.W.Frag} {i j : Bool} : GoI (OpE K rIsB (.bool i) (.bool j) (.bool (decide (i = j))))
  | oe_notB {K : PySem.W.Frag} {i j : Bool} : GoI (OpE K rNotB (.bool i) (.bool j) (.bool (!decide (i = j))))
  | cb_lenL {K : PySem.W.Frag} {ds : List PyData} : GoI (CbE K (fun xs H Q => ∃ p ys, xs = [V.ref p] ∧ (SqL K H p ys ∨ SqT K H p ys) ∧ Q (V.int (ys.length : Int)) H) [.list ds] (.int (ds.length : Int)))
  | cb_lenT {K : PySem.W.Frag} {ds : List PyData} : GoI (CbE K (fun xs H Q => ∃ p ys, xs = [V.ref p] ∧ (SqL K H p ys ∨ SqT K H p ys) ∧ Q (V.int (ys.length : Int)) H) [.tuple ds] (.int (ds.length : Int)))
  | cb_int {K : PySem.W.Frag} {i : Int} : GoI (CbE K (fun xs H Q => (∃ i, xs = [V.int i] ∧ Q (V.int i) H) ∨ ∃ k, xs = [V.bl k] ∧ Q (V.int (if k = true then 1 else 0)) H) [.int i] (.int i))
  | cb_intB {K : PySem.W.Frag} {b : Bool} : GoI (CbE K (fun xs H Q => (∃ i, xs = [V.int i] ∧ Q (V.int i) H) ∨ ∃ k, xs = [V.bl k] ∧ Q (V.int (if k = true then 1 else 0)) H) [.bool b] (.int (if b = true then 1 else 0)))
  | cb_abs {K : PySem.W.Frag} {i : Int} : GoI (CbE K (fun xs H Q => ∃ i, xs = [V.int i] ∧ Q (V.int (if i < 0 then -i else i)) H) [.int i] (.int (if i < 0 then -i else i)))
  | cb_2 {K : PySem.W.Frag} {f : Int → Int → Int} {i j : Int} : GoI (CbE K (fun xs H Q => ∃ i j, xs = [V.int i, V.int j] ∧ Q (V.int (f i j)) H) [.int i, .int j] (.int (f i j)))
  | cb_gcd {K : PySem.W.Frag} {i j : Int} : GoI (CbE K rGcd [.int i, .int j] (.int ((Nat.gcd i.natAbs j.natAbs : Nat) : Int)))
  | co_list {K : PySem.W.Frag} {ds : List PyData} : GoI (CbO K (fun xs H Q => ∃ p ys, xs = [V.ref p] ∧ (SqL K H p ys ∨ SqT K H p ys) ∧ ∀ (l : Addr), H l = none → Q (V.ref l) (upd H l (HO.lst ys))) [.list ds] ds)
  | co_listT {K : PySem.W.Frag} {ds : List PyData} : GoI (CbO K (fun xs H Q => ∃ p ys, xs = [V.ref p] ∧ (SqL K H p ys ∨ SqT K H p ys) ∧ ∀ (l : Addr), H l = none → Q (V.ref l) (upd H l (HO.lst ys))) [.tuple ds] ds)
  | cb_tuple {K : PySem.W.Frag} {ds : List PyData} : GoI (CbE K (fun xs H Q => ∃ p ys, xs = [V.ref p] ∧ ((SqL K H p ys ∧ ∀ (l : Addr), H l = none → Q (V.ref l) (upd H l (HO.tup ys))) ∨ SqT K H p ys ∧ Q (V.ref p) H)) [.list ds] (.tuple ds))
  | ce_N {K : PySem.W.Frag} {d : PyData} {ds : List PyData} {m : Mn} (p0 : Tg 2 (m ds fun z => z = d)) : GoI (CE K (SpN K m) ds d)
  | ce_O {K : PySem.W.Frag} {ds : List PyData} {es : List PyData} {m : Mo} (p0 : Tg 2 (m ds fun z => z = es)) : GoI (CE K (SpO K m) ds (.list es))
  | eqE {K : PySem.W.Frag} {ρ : List Sl} {te : TE} {x : PyData} {y : PyData} (p0 : Tg 13 (E K te ρ x)) (p1 : Sd (x = y)) : GoI (EqE K te ρ y)
  | eqP {K : PySem.W.Frag} {ρ : List Sl} {te : TE} {tt : TT} {d : PyData} {b : Bool} (p0 : GoI (EqT K tt ρ b)) (p1 : b = true → GoI (EqE K te ρ d)) : GoI (EqP K tt te ρ b d)
  | eqT {K : PySem.W.Frag} {ρ : List Sl} {tt : TT} {a : Bool} {b : Bool} (p0 : Tg 13 (ET K tt ρ a)) (p1 : Sd (a = b)) : GoI (EqT K tt ρ b)
  | e_p {K : PySem.W.Frag} {ρ : List Sl} {te : TE} {d : PyData} (p0 : GoI (E K te ρ d)) : GoI (E K (tP te) ρ d)
  | e_lk {K : PySem.W.Frag} {ρ : List Sl} {te : TE} {d : PyData} (p0 : GoI (E K te ρ d)) : GoI (E K (tLook te) ρ d)
  | et_p {K : PySem.W.Frag} {ρ : List Sl} {tt : TT} {b : Bool} (p0 : GoI (ET K tt ρ b)) : GoI (ET K (tPT tt) ρ b)
  | et_lk {K : PySem.W.Frag} {ρ : List Sl} {tt : TT} {b : Bool} (p0 : GoI (ET K tt ρ b)) : GoI (ET K (tLookT tt) ρ b)
  | ea_cons {K : PySem.W.Frag} {ρ : List Sl} {te : TE} {d : PyData} {ds : List PyData} {tr : TA} (p0 : GoI (E K te ρ d)) (p1 : GoI (EA K tr ρ ds)) : GoI (EA K (tCons te tr) ρ (d :: ds))
  | s_cat {K : PySem.W.Frag} {ρ : List Sl} {ta : TE} {tb : TE} {ds : List PyData} {es : List PyData} (p0 : GoI (E K ta ρ (.list ds))) (p1 : GoI (E K tb ρ (.list es))) (p2 : Sd (ds.length + es.length ≤ 100000)) : GoI (E K (tOp rCat ta tb) ρ (.list (ds ++ es)))
  | so_cat {K : PySem.W.Frag} {ρ : List Sl} {ta : TE} {tb : TE} {ds : List PyData} {es : List PyData} (p0 : GoI (E K ta ρ (.list ds))) (p1 : GoI (E K tb ρ (.list es))) (p2 : Sd (ds.length + es.length ≤ 100000)) : GoI (EO K (tOp rCat ta tb) ρ (ds ++ es))
  | s_rep {K : PySem.W.Frag} {ρ : List Sl} {ta : TE} {tb : TE} {ds : List PyData} {k : Int} (p0 : GoI (E K ta ρ (.list ds))) (p1 : GoI (E K tb ρ (.int k))) (p2 : Sd (-(2 ^ 63) ≤ k ∧ k < 2 ^ 63 ∧ ds.length * k.toNat ≤ 100000)) : GoI (E K (tOp rRep ta tb) ρ (.list (List.replicate k.toNat ds).flatten))
  | so_rep {K : PySem.W.Frag} {ρ : List Sl} {ta : TE} {tb : TE} {ds : List PyData} {k : Int} (p0 : GoI (E K ta ρ (.list ds))) (p1 : GoI (E K tb ρ (.int k))) (p2 : Sd (-(2 ^ 63) ≤ k ∧ k < 2 ^ 63 ∧ ds.length * k.toNat ≤ 100000)) : GoI (EO K (tOp rRep ta tb) ρ (List.replicate k.toNat ds).flatten)
  | e_op {K : PySem.W.Frag} {ρ : List Sl} {ta : TE} {tb : TE} {r : R2} {x : PyData} {y : PyData} {z : PyData} (p0 : GoI (E K ta ρ x)) (p1 : GoI (E K tb ρ y)) (p2 : GoI (OpE K r x y z)) : GoI (E K (tOp r ta tb) ρ z)
  | e_neg {K : PySem.W.Frag} {ρ : List Sl} {ta : TE} {f : Int → Int} {i : Int} (p0 : GoI (E K ta ρ (.int i))) : GoI (E K (tUn (rU fun i => V.int (f i)) ta) ρ (.int (f i)))
  | e_chain {K : PySem.W.Frag} {ρ : List Sl} {ta : TE} {tb : TE} {tc : TE} {r : R2} {x : PyData} {y : PyData} {z : PyData} {a : Bool} {b : Bool} {r' : R2} (p0 : GoI (E K ta ρ x)) (p1 : GoI (E K tb ρ y)) (p2 : GoI (E K tc ρ z)) (p3 : GoI (OpE K r x y (.bool a))) (p4 : GoI (OpE K r' y z (.bool b))) : GoI (E K (tChain r r' ta tb tc) ρ (.bool (a && b)))
  | e_chain3 {K : PySem.W.Frag} {ρ : List Sl} {ta : TE} {tb : TE} {tc : TE} {x : PyData} {y : PyData} {z : PyData} {td : TE} {u : PyData} {r r' r'' : R2} {a b c : Bool} (p0 : GoI (E K ta ρ x)) (p1 : GoI (E K tb ρ y)) (p2 : GoI (E K tc ρ z)) (p3 : GoI (E K td ρ u)) (p4 : GoI (OpE K r x y (.bool a))) (p5 : GoI (OpE K r' y z (.bool b))) (p6 : GoI (OpE K r'' z u (.bool c))) : GoI (E K (tChain3 r r' r'' ta tb tc td) ρ (.bool (a && (b && c))))
  | e_andV {K : PySem.W.Frag} {ρ : List Sl} {ta : TE} {tb : TE} {a : Bool} {b : Bool} (p0 : GoI (E K ta ρ (.bool a))) (p1 : a = true → GoI (E K tb ρ (.bool b))) : GoI (E K (tAndV ta tb) ρ (.bool (a && b)))
  | e_orV {K : PySem.W.Frag} {ρ : List Sl} {ta : TE} {tb : TE} {a : Bool} {b : Bool} (p0 : GoI (E K ta ρ (.bool a))) (p1 : a = false → GoI (E K tb ρ (.bool b))) : GoI (E K (tOrV ta tb) ρ (.bool (a || b)))
  | e_notV {K : PySem.W.Frag} {ρ : List Sl} {ta : TE} {a : Bool} (p0 : GoI (E K ta ρ (.bool a))) : GoI (E K (tNotV ta) ρ (.bool (!a)))
  | e_if_I {K : PySem.W.Frag} {ρ : List Sl} {ta : TE} {tb : TE} {tt : TT} {a : Bool} {i j : Int} (p0 : GoI (ET K tt ρ a)) (p1 : a = true → GoI (E K ta ρ (.int i))) (p2 : a = false → GoI (E K tb ρ (.int j))) : GoI (E K (tIfeI tt ta tb) ρ (.int (if a = true then i else j)))
  | e_if_S {K : PySem.W.Frag} {ρ : List Sl} {ta : TE} {tb : TE} {tt : TT} {a : Bool} {i j : Str} (p0 : GoI (ET K tt ρ a)) (p1 : a = true → GoI (E K ta ρ (.str i))) (p2 : a = false → GoI (E K tb ρ (.str j))) : GoI (E K (tIfeS tt ta tb) ρ (.str (if a = true then i else j)))
  | e_if_B {K : PySem.W.Frag} {ρ : List Sl} {ta : TE} {tb : TE} {tt : TT} {a : Bool} {i j : Bool} (p0 : GoI (ET K tt ρ a)) (p1 : a = true → GoI (E K ta ρ (.bool i))) (p2 : a = false → GoI (E K tb ρ (.bool j))) : GoI (E K (tIfeB tt ta tb) ρ (.bool (if a = true then i else j)))
  | e_if_L {K : PySem.W.Frag} {ρ : List Sl} {ta : TE} {tb : TE} {tt : TT} {ds : List PyData} {es : List PyData} {a : Bool} (p0 : GoI (ET K tt ρ a)) (p1 : a = true → GoI (E K ta ρ (.list ds))) (p2 : a = false → GoI (E K tb ρ (.list es))) : GoI (E K (tIfeL tt ta tb) ρ (.list (if a = true then ds else es)))
  | eo_if_L {K : PySem.W.Frag} {ρ : List Sl} {ta : TE} {tb : TE} {tt : TT} {ds : List PyData} {es : List PyData} {a : Bool} (p0 : GoI (ET K tt ρ a)) (p1 : a = true → GoI (EO K ta ρ ds)) (p2 : a = false → GoI (EO K tb ρ es)) : GoI (EO K (tIfeL tt ta tb) ρ (if a = true then ds else es))
  | e_ifD {K : PySem.W.Frag} {ρ : List Sl} {ta : TE} {tb : TE} {tt : TT} {x : PyData} {y : PyData} {a : Bool} (p0 : GoI (ET K tt ρ a)) (p1 : a = true → GoI (E K ta ρ x)) (p2 : a = false → GoI (E K tb ρ y)) : GoI (E K (tIf tt ta tb) ρ (if a = true then x else y))
  | et_test {K : PySem.W.Frag} {ρ : List Sl} {te : TE} {b : Bool} (p0 : GoI (E K te ρ (.bool b))) : GoI (ET K (tTest te) ρ b)
  | et_B {K : PySem.W.Frag} {ρ : List Sl} {te : TE} {b : Bool} (p0 : GoI (E K te ρ (.bool b))) : GoI (ET K (tB te) ρ b)
  | et_not {K : PySem.W.Frag} {ρ : List Sl} {tt : TT} {a : Bool} (p0 : GoI (ET K tt ρ a)) : GoI (ET K (tNot tt) ρ (!a))
  | et_and {K : PySem.W.Frag} {ρ : List Sl} {tt : TT} {tu : TT} {a : Bool} {b : Bool} (p0 : GoI (ET K tt ρ a)) (p1 : a = true → GoI (ET K tu ρ b)) : GoI (ET K (tAnd tt tu) ρ (a && b))
  | et_or {K : PySem.W.Frag} {ρ : List Sl} {tt : TT} {tu : TT} {a : Bool} {b : Bool} (p0 : GoI (ET K tt ρ a)) (p1 : a = false → GoI (ET K tu ρ b)) : GoI (ET K (tOr tt tu) ρ (a || b))
  | et_truL {K : PySem.W.Frag} {ρ : List Sl} {te : TE} {ds : List PyData} (p0 : GoI (E K te ρ (.list ds))) : GoI (ET K (fun σ H Q => te σ H fun x H' => ∃ k, TruV K x H' k ∧ Q k H') ρ (!ds.isEmpty))
  | s_tup {K : PySem.W.Frag} {ρ : List Sl} {t : TA} {ds : List PyData} (p0 : GoI (EA K t ρ ds)) (p1 : Sd (ds.length ≤ 100000)) : GoI (E K (tTup t) ρ (.tuple ds))
  | s_lst {K : PySem.W.Frag} {ρ : List Sl} {t : TA} {ds : List PyData} (p0 : GoI (EA K t ρ ds)) (p1 : Sd (ds.length ≤ 100000)) : GoI (E K (tLst t) ρ (.list ds))
  | so_lst {K : PySem.W.Frag} {ρ : List Sl} {t : TA} {ds : List PyData} (p0 : GoI (EA K t ρ ds)) (p1 : Sd (ds.length ≤ 100000)) : GoI (EO K (tLst t) ρ ds)
  | e_slL {K : PySem.W.Frag} {ρ : List Sl} {te : TE} {ds : List PyData} {tl : TO} {th : TO} {lo : Option Int} {hi : Option Int} (p0 : GoI (E K te ρ (.list ds))) (p1 : GoI (EP K tl ρ lo)) (p2 : GoI (EP K th ρ hi)) : GoI (E K (tSl (rSlL K) te tl th) ρ (.list (cutD ds lo hi)))
  | eo_slL {K : PySem.W.Frag} {ρ : List Sl} {te : TE} {ds : List PyData} {tl : TO} {th : TO} {lo : Option Int} {hi : Option Int} (p0 : GoI (E K te ρ (.list ds))) (p1 : GoI (EP K tl ρ lo)) (p2 : GoI (EP K th ρ hi)) : GoI (EO K (tSl (rSlL K) te tl th) ρ (cutD ds lo hi))
  | e_rev {K : PySem.W.Frag} {ρ : List Sl} {te : TE} {ds : List PyData} (p0 : GoI (E K te ρ (.list ds))) : GoI (E K (tRevL K te) ρ (.list ds.reverse))
  | eo_rev {K : PySem.W.Frag} {ρ : List Sl} {te : TE} {ds : List PyData} (p0 : GoI (E K te ρ (.list ds))) : GoI (EO K (tRevL K te) ρ ds.reverse)
  | ep_some {K : PySem.W.Frag} {ρ : List Sl} {te : TE} {i : Int} (p0 : GoI (E K te ρ (.int i))) : GoI (EP K (tPart te) ρ (some i))
  | ep_none {K : PySem.W.Frag} {ρ : List Sl} {to : TO} (p0 : Tg 3 (to = fun _ H Q => Q none H)) : GoI (EP K to ρ none)
  | lenV {K : PySem.W.Frag} {ρ : List Sl} {i : Nat} {d : PyData} (p : Tg 18 (E K (tCB (fun xs H Q => ∃ p ys, xs = [V.ref p] ∧ (SqL K H p ys ∨ SqT K H p ys) ∧ Q (V.int (ys.length : Int)) H) (tCons (tVar i) tNil)) ρ d)) : GoI (E K (tCB (fun xs H Q => ∃ p ys, xs = [V.ref p] ∧ (SqL K H p ys ∨ SqT K H p ys) ∧ Q (V.int (ys.length : Int)) H) (tCons (tVar i) tNil)) ρ d)
  | s_isi {K : PySem.W.Frag} {ρ : List Sl} {te : TE} {d : PyData} {b : Bool} {T : String} (p0 : Tg 4 (T = "int" ∨ T = "bool" ∨ T = "str" ∨ T = "list" ∨ T = "tuple")) (p1 : GoI (E K te ρ d)) (p2 : Tg 5 (IsTy d T b)) : GoI (E K (tCB (rIsi K) (tCons te (tCons (tC (.ty T)) tNil))) ρ (.bool b))
  | s_slT {K : PySem.W.Frag} {ρ : List Sl} {te : TE} {ds : List PyData} {lo hi : Option Int} {tl th : TO} (p0 : GoI (E K te ρ (.tuple ds))) (p1 : GoI (EP K tl ρ lo)) (p2 : GoI (EP K th ρ hi)) (p3 : Sd (¬ (HT.sIx ds.length 0 lo = 0 ∧ HT.sIx ds.length ds.length hi = ds.length))) : GoI (E K (tSl (rSlT K) te tl th) ρ (.tuple (cutD ds lo hi)))
  | wo_scrM {K : PySem.W.Frag} {ρ : List Sl} {t : TA} {QA : List PyData → List Sl → Prop} {ds : List PyData} {i : Nat} {ns : List Int} {m : List Int → List PyData → (List PyData → Prop) → Prop} {X : XK} (p0 : Tg 3 (ρ[i]? = some (.scr ns))) (p1 : GoI (EA K t ρ ds)) (p2 : MC (m ns ds fun es => QA es ρ)) : GoI (WO K (tCall (SpS K m) [] X (tCons (tVar i) t)) ρ QA)
  | e_call {K : PySem.W.Frag} {ρ : List Sl} {t : TA} {d : PyData} {ds : List PyData} {sp : Sp} {X : XK} (p0 : GoI (EA K t ρ ds)) (p1 : GoI (CE K sp ds d)) : GoI (E K (tCall sp [] X t) ρ d)
  | eo_callO {K : PySem.W.Frag} {ρ : List Sl} {t : TA} {ds : List PyData} {es : List PyData} {m : Mo} {X : XK} (p0 : GoI (EA K t ρ ds)) (p1 : Tg 2 (m ds fun z => z = es)) : GoI (EO K (tCall (SpO K m) [] X t) ρ es)
  | e_callKN {K : PySem.W.Frag} {ρ : List Sl} {tr : TA} {d : PyData} {ds : List PyData} {m : Mn} {X : XK} {perm : List Nat} (p0 : GoI (EA K tr ρ ds)) (p1 : Tg 2 (MC (m (gPm perm [] ds) fun z => z = d))) : GoI (E K (tCallK (SpN K m) (gPm perm) X tNil tr) ρ d)
  | e_callKO {K : PySem.W.Frag} {ρ : List Sl} {tr : TA} {ds : List PyData} {es : List PyData} {m : Mo} {X : XK} {perm : List Nat} (p0 : GoI (EA K tr ρ ds)) (p1 : Tg 2 (MC (m (gPm perm [] ds) fun z => z = es))) : GoI (E K (tCallK (SpO K m) (gPm perm) X tNil tr) ρ (.list es))
  | eo_callKO {K : PySem.W.Frag} {ρ : List Sl} {tr : TA} {ds : List PyData} {es : List PyData} {m : Mo} {X : XK} {perm : List Nat} (p0 : GoI (EA K tr ρ ds)) (p1 : Tg 2 (MC (m (gPm perm [] ds) fun z => z = es))) : GoI (EO K (tCallK (SpO K m) (gPm perm) X tNil tr) ρ es)
  | cem {K : PySem.W.Frag} {d : PyData} {ds : List PyData} (p0 : Tg 2 (m ds fun o => optD o = d)) : GoI (CE K (SpM K m) ds d)
  | ei_list {K : PySem.W.Frag} {ρ : List Sl} {te : TE} {ds : List PyData} (p0 : GoI (E K te ρ (.list ds))) : GoI (EI K (iList K te) ρ ds)
  | ei_tup {K : PySem.W.Frag} {ρ : List Sl} {te : TE} {ds : List PyData} (p0 : GoI (E K te ρ (.tuple ds))) : GoI (EI K (iTup K te) ρ ds)
  | s_r1 {K : PySem.W.Frag} {ρ : List Sl} {t : TA} {n : Int} (p0 : GoI (EA K t ρ [.int n])) (p1 : Sd (-(2 ^ 62) ≤ n ∧ n < 2 ^ 62)) : GoI (EI K (iRng1 t) ρ (rg0 n.toNat))
  | s_r2 {K : PySem.W.Frag} {ρ : List Sl} {t : TA} {lo hi : Int} (p0 : GoI (EA K t ρ [.int lo, .int hi])) (p1 : Sd (-(2 ^ 62) ≤ lo ∧ lo < 2 ^ 62 ∧ -(2 ^ 62) ≤ hi ∧ hi < 2 ^ 62)) : GoI (EI K (iRng2 t) ρ (rgD lo (hi - lo).toNat))
  | ei_enum {K : PySem.W.Frag} {ρ : List Sl} {t : TA} {ds : List PyData} (p0 : GoI (EA K t ρ [.list ds])) : GoI (EI K (iEnum K t) ρ (enD ds))
  | ei_zip {K : PySem.W.Frag} {ρ : List Sl} {t : TA} {ds : List PyData} {es : List PyData} (p0 : GoI (EA K t ρ [.list ds, .list es])) : GoI (EI K (iZip K t) ρ (zpD ds es))
  | wi_listK {K : PySem.W.Frag} {ρ : List Sl} {te : TE} {QA : List PyData → List Sl → Prop} (p0 : GoI (W K te ρ fun d ρ2 => ∃ ds, d = .list ds ∧ QA ds ρ2)) : GoI (WI K (iList K te) ρ QA)
  | wi_tupK {K : PySem.W.Frag} {ρ : List Sl} {te : TE} {QA : List PyData → List Sl → Prop} (p0 : GoI (W K te ρ fun d ρ2 => ∃ ds, d = .tuple ds ∧ QA ds ρ2)) : GoI (WI K (iTup K te) ρ QA)
  | wi_r1K {K : PySem.W.Frag} {ρ : List Sl} {t : TA} {QA : List PyData → List Sl → Prop} (p0 : GoI (WA K t ρ fun ds ρ2 => ∃ n : Int, ds = [.int n] ∧ QA (rg0 n.toNat) ρ2 ∧ Sd (-(2 ^ 62) ≤ n ∧ n < 2 ^ 62))) : GoI (WI K (iRng1 t) ρ QA)
  | ixT {K K' : PySem.W.Frag} {x y z : PyData} (p : Tg 12 (OpE K (rIxT K') x y z)) : GoI (OpE K (rIxT K') x y z)
  | ixL {K K' : PySem.W.Frag} {x y z : PyData} (p : Tg 12 (OpE K (rIxL K') x y z)) : GoI (OpE K (rIxL K') x y z)
  | s_iC {K : PySem.W.Frag} {C : Int → Int → Prop} {f : Int → Int → Int} {i j : Int} (p0 : Sd (C i j)) : GoI (OpE K (rI C fun i j => V.int (f i j)) (.int i) (.int j) (.int (f i j)))
  | s_eqD {K : PySem.W.Frag} {x : PyData} {y : PyData} (p0 : Sd (SeqAt.shaped x = true)) (p1 : Sd (SeqAt.shaped y = true)) : GoI (OpE K (rEqD K) x y (.bool (PyData.eqv x y)))
  | s_neD {K : PySem.W.Frag} {x : PyData} {y : PyData} (p0 : Sd (SeqAt.shaped x = true)) (p1 : Sd (SeqAt.shaped y = true)) : GoI (OpE K (rNeD K) x y (.bool (!PyData.eqv x y)))
  | s_inL {K : PySem.W.Frag} {x : PyData} {ds : List PyData} {neg : Bool} (p0 : Sd (flt x = true)) (p1 : Sd (ds.all flt = true)) : GoI (OpE K (rIn K neg) x (.list ds) (.bool (if neg then !inV (flv x) (ds.map flv) else inV (flv x) (ds.map flv))))
  | s_inT {K : PySem.W.Frag} {x : PyData} {ds : List PyData} {neg : Bool} (p0 : Sd (flt x = true)) (p1 : Sd (ds.all flt = true)) : GoI (OpE K (rIn K neg) x (.tuple ds) (.bool (if neg then !inV (flv x) (ds.map flv) else inV (flv x) (ds.map flv))))
  | s_catT {K : PySem.W.Frag} {ds : List PyData} {es : List PyData} (p0 : Sd (ds ≠ [])) (p1 : Sd (ds.length + es.length ≤ 100000)) : GoI (OpE K (rCatT K) (.tuple ds) (.tuple es) (.tuple (ds ++ es)))
  | s_addS {K : PySem.W.Frag} {i j : Str} (p0 : Sd (i.length + j.length ≤ sizeLine)) : GoI (OpE K (fun x y H Q => ∃ i j, x = V.str i ∧ y = V.str j ∧ i.length + j.length ≤ sizeLine ∧ Q (V.str (i ++ j)) H) (.str i) (.str j) (.str (i ++ j)))
  | s_maxM {K : PySem.W.Frag} {α : Type} {l : List α} {f : α → Int} {m : Int} (p0 : Sd (Mx (l.map f) m)) : GoI (CbE K (rMax K) [.list (l.map fun r => .int (f r))] (.int m))
  | s_minM {K : PySem.W.Frag} {α : Type} {l : List α} {f : α → Int} {m : Int} (p0 : Sd (Mi (l.map f) m)) : GoI (CbE K (rMin K) [.list (l.map fun r => .int (f r))] (.int m))
  | s_sumM {K : PySem.W.Frag} {α : Type} {l : List α} {f : α → Int} : GoI (CbE K (rSum K) [.list (l.map fun r => .int (f r))] (.int (l.map f).sum))
  | s_allM {K : PySem.W.Frag} {α : Type} {l : List α} {f : α → Bool} : GoI (CbE K (rAll K) [.list (l.map fun r => .bool (f r))] (.bool (l.all f)))
  | s_anyM {K : PySem.W.Frag} {α : Type} {l : List α} {f : α → Bool} : GoI (CbE K (rAny K) [.list (l.map fun r => .bool (f r))] (.bool (l.any f)))
  | s_max {K : PySem.W.Frag} {ns : List Int} {m : Int} (p0 : Sd (Mx ns m)) : GoI (CbE K (rMax K) [.list (dI ns)] (.int m))
  | s_min {K : PySem.W.Frag} {ns : List Int} {m : Int} (p0 : Sd (Mi ns m)) : GoI (CbE K (rMin K) [.list (dI ns)] (.int m))
  | cb_sum {K : PySem.W.Frag} {ns : List Int} : GoI (CbE K (rSum K) [.list (dI ns)] (.int ns.sum))
  | cb_all {K : PySem.W.Frag} {bs : List Bool} : GoI (CbE K (rAll K) [.list (bs.map PyData.bool)] (.bool (bs.all id)))
  | cb_any {K : PySem.W.Frag} {bs : List Bool} : GoI (CbE K (rAny K) [.list (bs.map PyData.bool)] (.bool (bs.any id)))
  | s_repr {K : PySem.W.Frag} {d : PyData} (p0 : Sd (Shw d)) : GoI (CbE K (rRp K) [d] (.str d.shown))
  | e_cb {K : PySem.W.Frag} {ρ : List Sl} {t : TA} {d : PyData} {ds : List PyData} {rr : List V → Hp → VK → Prop} (p0 : GoI (EA K t ρ ds)) (p1 : GoI (CbE K rr ds d)) : GoI (E K (tCB rr t) ρ d)
  | e_lsL {K : PySem.W.Frag} {ρ : List Sl} {t : TA} {ds : List PyData} {es : List PyData} {rr : List V → Hp → VK → Prop} (p0 : GoI (EA K t ρ ds)) (p1 : GoI (CbO K rr ds es)) : GoI (E K (tCB rr t) ρ (.list es))
  | eo_cb {K : PySem.W.Frag} {ρ : List Sl} {t : TA} {ds : List PyData} {es : List PyData} {rr : List V → Hp → VK → Prop} (p0 : GoI (EA K t ρ ds)) (p1 : GoI (CbO K rr ds es)) : GoI (EO K (tCB rr t) ρ es)
  | ifk {b : Bool} {A B : Prop} (p : Tg 15 (Ifk b A B)) : GoI (Ifk b A B)
  | of {P : Prop} (p : Tg 0 P) : GoI P
theorem GoI.ok {P : Prop} (h : GoI P) : P := by
  induction h with
  | p_nx p => exact p
  | p_bk p => exact p
  | p_ct p => exact p
  | p_rt p => exact p
  | p_ro p => exact p
  | x_seq p0 ip0 => exact PL.x_seq ip0
  | s_setL p0 p1 ip1 => exact PL.s_setL p0 ip1
  | x_asg p0 ip0 => exact PL.x_asg ip0
  | x_ownA p0 ip0 => exact PL.x_ownA ip0
  | x_par p0 ip0 => exact PL.x_par ip0
  | x_par3 p0 ip0 => exact PL.x_par3 ip0
  | x_parM p0 ip0 => exact PL.x_parM ip0
  | x_parM3 p0 ip0 => exact PL.x_parM3 ip0
  | x_unp p0 ip0 => exact PL.x_unp ip0
  | x_ifk p0 ip0 => exact PL.x_ifk ip0
  | x_retN p0 => exact PL.x_retN p0
  | x_retOm p0 ip0 => exact PL.x_retOm ip0
  | x_nev p0 => exact PL.x_nev p0
  | x_retB p => exact p
  | x_retV p0 p1 => exact PL.x_retV p0 p1
  | x_ret p0 ip0 => exact PL.x_ret ip0
  | x_bk p0 => exact PL.x_bk p0
  | x_ct p0 => exact PL.x_ct p0
  | x_nil p0 => exact PL.x_nil p0
  | x_ownU p0 p1 ip1 => exact PL.x_ownU p0 ip1
  | s_app p0 p1 ip1 => exact PL.s_app p0 ip1
  | s_pop p0 p1 p2 => exact PL.s_pop p0 p1 p2
  | s_ext p0 p1 ip1 => exact PL.s_ext p0 ip1
  | x_drop p0 ip0 => exact PL.x_drop ip0
  | x_frz0 p0 ip0 => exact PL.x_frz0 ip0
  | x_frz p0 p1 ip1 => exact PL.x_frz p0 ip1
  | x_forWE p0 ip0 => exact PL.x_forWE ip0
  | x_forE p0 p1 ip0 => exact PL.x_forE ip0 p1
  | x_whileE p0 => exact PL.x_whileE p0
  | wh_p p0 p1 ip0 ip1 => exact PL.wh_p ip0 ip1
  | wh_lk p0 p1 ip0 ip1 => exact PL.wh_lk ip0 ip1
  | g_name p0 ip0 => exact PL.g_name ip0
  | g_tup p0 p2 p1 ip1 => exact (by have e : _ = _ := p0; subst e; exact PL.g_tup ip1 p2)
  | g_tupD p => exact p
  | gs_cons p0 ip0 => exact PL.gs_cons ip0
  | gc_name p1 p0 ip0 => exact PL.gc_name ip0 p1
  | gc_tup p0 p2 p1 ip1 => exact (by have e : _ = _ := p0; subst e; exact PL.gc_tup ip1 p2)
  | gc_tupD p => exact p
  | gcs_cons p0 ip0 => exact PL.gcs_cons ip0
  | gcs_nil p0 ip0 => exact PL.gcs_nil ip0
  | gs_nil p0 => exact PL.gs_nil p0
  | ifk_t p0 ip0 => exact PL.ifk_t ip0
  | ifk_f p0 ip0 => exact PL.ifk_f ip0
  | k_op p => exact p
  | k_set p0 p1 p2 ip1 ip2 => exact PL.k_set p0 ip1 ip2
  | k_cb p0 p1 ip0 ip1 => exact PL.k_cb ip0 ip1
  | k_oo p0 p1 ip0 ip1 => exact PL.k_oo ip0 ip1
  | k_bool p0 ip0 => exact PL.k_bool ip0
  | k_int p0 ip0 => exact PL.k_int ip0
  | k_list p0 ip0 => exact PL.k_list ip0
  | k_i1 p0 ip0 => exact PL.k_i1 ip0
  | k_pair p0 ip0 => exact PL.k_pair ip0
  | k_trip p0 ip0 => exact PL.k_trip ip0
  | k_ss2 p0 ip0 => exact PL.k_ss2 ip0
  | k_ss3 p0 ip0 => exact PL.k_ss3 ip0
  | k_app p0 p1 p2 ip2 => exact PL.k_app p0 p1 ip2
  | k_ext p0 p1 p2 ip2 => exact PL.k_ext p0 p1 ip2
  | k_tank p0 p1 ip1 => exact PL.k_tank p0 ip1
  | mcI p => exact p
  | w_p p0 p1 ip0 ip1 => exact PL.w_p ip0 ip1
  | wo_p p0 p1 ip0 ip1 => exact PL.wo_p ip0 ip1
  | wt_p p0 p1 ip0 ip1 => exact PL.wt_p ip0 ip1
  | s_lk p0 p1 p2 ip0 ip2 => exact PL.s_lk ip0 p1 ip2
  | so_lk p0 p1 p2 ip0 ip2 => exact PL.so_lk ip0 p1 ip2
  | st_lk p0 p1 ip0 ip1 => exact PL.st_lk ip0 ip1
  | w_lcG p0 ip0 => exact PL.w_lcG ip0
  | wo_lcG p0 ip0 => exact PL.wo_lcG ip0
  | w_lc p0 p1 ip0 ip1 => exact PL.w_lc ip0 ip1
  | wo_lcP p0 p1 ip0 ip1 => exact PL.wo_lcP ip0 ip1
  | e_lcE p0 ip0 => exact PL.e_lcE ip0
  | w_cat p0 ip0 => exact PL.w_cat ip0
  | w_op p0 ip0 => exact PL.w_op ip0
  | wo_cat p0 ip0 => exact PL.wo_cat ip0
  | wt_test p0 ip0 => exact PL.wt_test ip0
  | wt_B p0 ip0 => exact PL.wt_B ip0
  | wt_andK p0 ip0 => exact PL.wt_andK ip0
  | wt_orK p0 ip0 => exact PL.wt_orK ip0
  | wt_not p0 ip0 => exact PL.wt_not ip0
  | wa_cons p0 ip0 => exact PL.wa_cons ip0
  | wa_nil p0 ip0 => exact PL.wa_nil ip0
  | wm_o p0 ip0 => exact PL.wm_o ip0
  | wm_sh p0 ip0 => exact PL.wm_sh ip0
  | wm_nil p0 ip0 => exact PL.wm_nil ip0
  | w_tupK p0 ip0 => exact PL.w_tupK ip0
  | w_lstK p0 ip0 => exact PL.w_lstK ip0
  | wo_lstK p0 ip0 => exact PL.wo_lstK ip0
  | k_sd p0 p1 ip1 => exact PL.k_sd p0 ip1
  | k_cat p0 ip0 => exact PL.k_cat ip0
  | w_neg p0 ip0 => exact PL.w_neg ip0
  | w_notV p0 ip0 => exact PL.w_notV ip0
  | w_andV p0 ip0 => exact PL.w_andV ip0
  | w_orV p0 ip0 => exact PL.w_orV ip0
  | w_if_I p0 ip0 => exact PL.w_if_I ip0
  | w_if_S p0 ip0 => exact PL.w_if_S ip0
  | w_if_B p0 ip0 => exact PL.w_if_B ip0
  | w_if_L p0 ip0 => exact PL.w_if_L ip0
  | wo_if_L p0 ip0 => exact PL.wo_if_L ip0
  | w_ifW p0 ip0 => exact PL.w_ifW ip0
  | wo_ifW p0 ip0 => exact PL.wo_ifW ip0
  | w_list p0 ip0 => exact PL.w_list ip0
  | w_cb p0 ip0 => exact PL.w_cb ip0
  | w_callN p0 ip0 => exact PL.w_callN ip0
  | wo_callO p0 ip0 => exact PL.wo_callO ip0
  | w_callO p0 ip0 => exact PL.w_callO ip0
  | w_callT p0 p1 ip1 => exact PL.w_callT p0 ip1
  | wo_callTO p0 p1 ip1 => exact PL.wo_callTO p0 ip1
  | w_callTO p0 p1 ip1 => exact PL.w_callTO p0 ip1
  | e_var p0 => exact PL.e_var p0
  | e_pow p0 p1 => exact PL.e_pow p0 p1
  | e_int  => exact PL.e_int 
  | e_bl  => exact PL.e_bl 
  | e_str  => exact PL.e_str 
  | e_non  => exact PL.e_non 
  | ea_nil  => exact PL.ea_nil 
  | et_yes  => exact PL.et_yes 
  | oe_i  => exact PL.oe_i 
  | oe_c  => exact PL.oe_c 
  | oe_eqI  => exact PL.oe_eqI 
  | oe_neI  => exact PL.oe_neI 
  | oe_eqS  => exact PL.oe_eqS 
  | oe_neS  => exact PL.oe_neS 
  | oe_eqB  => exact PL.oe_eqB 
  | oe_neB  => exact PL.oe_neB 
  | oe_is  => exact PL.oe_is 
  | oe_isnot  => exact PL.oe_isnot 
  | oe_isB  => exact PL.oe_isB 
  | oe_notB  => exact PL.oe_notB 
  | cb_lenL  => exact PL.cb_lenL 
  | cb_lenT  => exact PL.cb_lenT 
  | cb_int  => exact PL.cb_int 
  | cb_intB  => exact PL.cb_intB 
  | cb_abs  => exact PL.cb_abs 
  | cb_2  => exact PL.cb_2 
  | cb_gcd  => exact PL.cb_gcd 
  | co_list  => exact PL.co_list 
  | co_listT  => exact PL.co_listT 
  | cb_tuple  => exact PL.cb_tuple 
  | ce_N p0 => exact PL.ce_N p0
  | ce_O p0 => exact PL.ce_O p0
  | eqE p0 p1 => exact PL.eqE p0 p1
  | eqP p0 p1 ip0 ip1 => exact PL.eqP ip0 ip1
  | eqT p0 p1 => exact PL.eqT p0 p1
  | e_p p0 ip0 => exact PL.e_p ip0
  | e_lk p0 ip0 => exact PL.e_lk ip0
  | et_p p0 ip0 => exact PL.et_p ip0
  | et_lk p0 ip0 => exact PL.et_lk ip0
  | ea_cons p0 p1 ip0 ip1 => exact PL.ea_cons ip0 ip1
  | s_cat p0 p1 p2 ip0 ip1 => exact PL.s_cat ip0 ip1 p2
  | so_cat p0 p1 p2 ip0 ip1 => exact PL.so_cat ip0 ip1 p2
  | s_rep p0 p1 p2 ip0 ip1 => exact PL.s_rep ip0 ip1 p2
  | so_rep p0 p1 p2 ip0 ip1 => exact PL.so_rep ip0 ip1 p2
  | e_op p0 p1 p2 ip0 ip1 ip2 => exact PL.e_op ip0 ip1 ip2
  | e_neg p0 ip0 => exact PL.e_neg ip0
  | e_chain p0 p1 p2 p3 p4 ip0 ip1 ip2 ip3 ip4 => exact PL.e_chain ip0 ip1 ip2 ip3 ip4
  | e_chain3 p0 p1 p2 p3 p4 p5 p6 ip0 ip1 ip2 ip3 ip4 ip5 ip6 => exact PL.e_chain3 ip0 ip1 ip2 ip3 ip4 ip5 ip6
  | e_andV p0 p1 ip0 ip1 => exact PL.e_andV ip0 ip1
  | e_orV p0 p1 ip0 ip1 => exact PL.e_orV ip0 ip1
  | e_notV p0 ip0 => exact PL.e_notV ip0
  | e_if_I p0 p1 p2 ip0 ip1 ip2 => exact PL.e_if_I ip0 ip1 ip2
  | e_if_S p0 p1 p2 ip0 ip1 ip2 => exact PL.e_if_S ip0 ip1 ip2
  | e_if_B p0 p1 p2 ip0 ip1 ip2 => exact PL.e_if_B ip0 ip1 ip2
  | e_if_L p0 p1 p2 ip0 ip1 ip2 => exact PL.e_if_L ip0 ip1 ip2
  | eo_if_L p0 p1 p2 ip0 ip1 ip2 => exact PL.eo_if_L ip0 ip1 ip2
  | e_ifD p0 p1 p2 ip0 ip1 ip2 => exact PL.e_ifD ip0 ip1 ip2
  | et_test p0 ip0 => exact PL.et_test ip0
  | et_B p0 ip0 => exact PL.et_B ip0
  | et_not p0 ip0 => exact PL.et_not ip0
  | et_and p0 p1 ip0 ip1 => exact PL.et_and ip0 ip1
  | et_or p0 p1 ip0 ip1 => exact PL.et_or ip0 ip1
  | et_truL p0 ip0 => exact PL.et_truL ip0
  | s_tup p0 p1 ip0 => exact PL.s_tup ip0 p1
  | s_lst p0 p1 ip0 => exact PL.s_lst ip0 p1
  | so_lst p0 p1 ip0 => exact PL.so_lst ip0 p1
  | e_slL p0 p1 p2 ip0 ip1 ip2 => exact PL.e_slL ip0 ip1 ip2
  | eo_slL p0 p1 p2 ip0 ip1 ip2 => exact PL.eo_slL ip0 ip1 ip2
  | e_rev p0 ip0 => exact PL.e_rev ip0
  | eo_rev p0 ip0 => exact PL.eo_rev ip0
  | ep_some p0 ip0 => exact PL.ep_some ip0
  | ep_none p0 => exact PL.ep_none p0
  | lenV p => exact p
  | s_isi p0 p1 p2 ip1 => exact PL.s_isi p0 ip1 p2
  | s_slT p0 p1 p2 p3 ip0 ip1 ip2 => exact PL.s_slT ip0 ip1 ip2 p3
  | wo_scrM p0 p1 p2 ip1 => exact PL.wo_scrM p0 ip1 p2
  | e_call p0 p1 ip0 ip1 => exact PL.e_call ip0 ip1
  | eo_callO p0 p1 ip0 => exact PL.eo_callO ip0 p1
  | e_callKN p0 p1 ip0 => exact PL.e_callKN ip0 p1
  | e_callKO p0 p1 ip0 => exact PL.e_callKO ip0 p1
  | eo_callKO p0 p1 ip0 => exact PL.eo_callKO ip0 p1
  | cem p0 => exact PL.cem p0
  | ei_list p0 ip0 => exact PL.ei_list ip0
  | ei_tup p0 ip0 => exact PL.ei_tup ip0
  | s_r1 p0 p1 ip0 => exact PL.s_r1 ip0 p1
  | s_r2 p0 p1 ip0 => exact PL.s_r2 ip0 p1
  | ei_enum p0 ip0 => exact PL.ei_enum ip0
  | ei_zip p0 ip0 => exact PL.ei_zip ip0
  | wi_listK p0 ip0 => exact PL.wi_listK ip0
  | wi_tupK p0 ip0 => exact PL.wi_tupK ip0
  | wi_r1K p0 ip0 => exact PL.wi_r1K ip0
  | ixT p => exact p
  | ixL p => exact p
  | s_iC p0 => exact PL.s_iC p0
  | s_eqD p0 p1 => exact PL.s_eqD p0 p1
  | s_neD p0 p1 => exact PL.s_neD p0 p1
  | s_inL p0 p1 => exact PL.s_inL p0 p1
  | s_inT p0 p1 => exact PL.s_inT p0 p1
  | s_catT p0 p1 => exact PL.s_catT p0 p1
  | s_addS p0 => exact PL.s_addS p0
  | s_maxM p0 => exact PL.s_maxM p0
  | s_minM p0 => exact PL.s_minM p0
  | s_sumM  => exact PL.s_sumM 
  | s_allM  => exact PL.s_allM 
  | s_anyM  => exact PL.s_anyM 
  | s_max p0 => exact PL.s_max p0
  | s_min p0 => exact PL.s_min p0
  | cb_sum  => exact PL.cb_sum 
  | cb_all  => exact PL.cb_all 
  | cb_any  => exact PL.cb_any 
  | s_repr p0 => exact PL.s_repr p0
  | e_cb p0 p1 ip0 ip1 => exact PL.e_cb ip0 ip1
  | e_lsL p0 p1 ip0 ip1 => exact PL.e_lsL ip0 ip1
  | eo_cb p0 p1 ip0 ip1 => exact PL.eo_cb ip0 ip1
  | ifk p => exact p
  | of p => exact p
theorem goI {P : Prop} (h : GoI P) : GoI P := h
theorem goP {P : Prop} (h : P) : GoI P := .of h
theorem tg {n : Nat} {P : Prop} (h : P) : Tg n P := h
theorem tg0 {P : Prop} (h : P) : Tg 0 P := h
theorem tg1 {P : Prop} (h : GoI P) : Tg 1 P := h.ok
theorem tg13 {P : Prop} (h : GoI P) : Tg 13 P := h.ok
theorem tg14 {P : Prop} (h : GoI P) : Tg 14 P := h.ok
theorem tg2 {P : Prop} (h : P) : Tg 2 P := h
theorem tg3 {P : Prop} (h : P) : Tg 3 P := h
theorem tg4 {P : Prop} (h : P) : Tg 4 P := h
theorem tg5 {P : Prop} (h : P) : Tg 5 P := h
theorem tg6 {P : Prop} (h : P) : Tg 6 P := h
theorem tg7 {P : Prop} (h : P) : Tg 7 P := h
theorem tg8 {P : Prop} (h : P) : Tg 8 P := h
theorem tg9 {P : Prop} (h : P) : Tg 9 P := h
theorem tg15 {P : Prop} (h : P) : Tg 15 P := h
theorem tg16 {P : Prop} (h : P) : Tg 16 P := h
theorem tg17 {P : Prop} (h : P) : Tg 17 P := h
theorem tg10a {K : PySem.W.Frag} {ρ : List Sl} {e : En} (h : False) : Tg 10 (XS K (tRet (tP (tC (.bl false)))) ρ e) := h.elim
theorem tg10b {K : PySem.W.Frag} {ρ : List Sl} {e : En} (h : GoI (XS K (tRet (tP (tC (.bl false)))) ρ e)) : Tg 10 (XS K (tRet (tP (tC (.bl false)))) ρ e) := h.ok
theorem x_retW {K : PySem.W.Frag} {ρ : List Sl} {e : En} (h : GoI (W K (tP (tC (.bl false))) ρ fun d ρ2 => e.rt d ρ2)) : Tg 10 (XS K (tRet (tP (tC (.bl false)))) ρ e) := x_ret h.ok
theorem tg11 {K : PySem.W.Frag} {r : R2} {x y z : PyData} {Q : PyData → Prop} (h : OpE K r x y z) (k : GoI (Q z)) : Tg 11 (∃ z, OpE K r x y z ∧ Q z) := ⟨z, h, k.ok⟩
theorem tg12 {P : Prop} (h : P) : Tg 12 P := h
theorem tg18a {K : PySem.W.Frag} {ρ : List Sl} {i : Nat} {ns : List Int} (h : ρ[i]? = some (.scr ns)) : Tg 18 (E K (tCB (fun xs H Q => ∃ p ys, xs = [V.ref p] ∧ (SqL K H p ys ∨ SqT K H p ys) ∧ Q (V.int (ys.length : Int)) H) (tCons (tVar i) tNil)) ρ (.int (ns.length : Int))) := e_lenS h
theorem tg18b {K : PySem.W.Frag} {ρ : List Sl} {i : Nat} {d : PyData} {ds : List PyData} (h : GoI (EA K (tCons (tVar i) tNil) ρ ds)) (hr : GoI (CbE K (fun xs H Q => ∃ p ys, xs = [V.ref p] ∧ (SqL K H p ys ∨ SqT K H p ys) ∧ Q (V.int (ys.length : Int)) H) ds d)) : Tg 18 (E K (tCB (fun xs H Q => ∃ p ys, xs = [V.ref p] ∧ (SqL K H p ys ∨ SqT K H p ys) ∧ Q (V.int (ys.length : Int)) H) (tCons (tVar i) tNil)) ρ d) := e_cb h.ok hr.ok
theorem ifkG {b : Bool} {A B : Prop} (h : b = true → GoI A) (g : b = false → GoI B) : Ifk b A B := ⟨fun e => (h e).ok, fun e => (g e).ok⟩
theorem in_XS {K : PySem.W.Frag} {ts : TS} {ρ : List Sl} {e : En} (h : GoI (XS K ts ρ e)) : XS K ts ρ e := h.ok
theorem in_W {K : PySem.W.Frag} {ρ : List Sl} {te : TE} {Q : PyData → List Sl → Prop} (h : GoI (W K te ρ Q)) : W K te ρ Q := h.ok
theorem in_WO {K : PySem.W.Frag} {ρ : List Sl} {te : TE} {Q : List PyData → List Sl → Prop} (h : GoI (WO K te ρ Q)) : WO K te ρ Q := h.ok
theorem in_WA {K : PySem.W.Frag} {ρ : List Sl} {t : TA} {Q : List PyData → List Sl → Prop} (h : GoI (WA K t ρ Q)) : WA K t ρ Q := h.ok
theorem in_WT {K : PySem.W.Frag} {ρ : List Sl} {t : TT} {Q : Bool → List Sl → Prop} (h : GoI (WT K t ρ Q)) : WT K t ρ Q := h.ok
theorem in_WM {K : PySem.W.Frag} {ρ : List Sl} {t : TA} {Q : List Sl → List Sl → Prop} (h : GoI (WM K t ρ Q)) : WM K t ρ Q := h.ok
theorem in_E {K : PySem.W.Frag} {ρ : List Sl} {te : TE} {d : PyData} (h : GoI (E K te ρ d)) : E K te ρ d := h.ok
theorem in_EO {K : PySem.W.Frag} {ρ : List Sl} {te : TE} {d : List PyData} (h : GoI (EO K te ρ d)) : EO K te ρ d := h.ok
theorem in_EA {K : PySem.W.Frag} {ρ : List Sl} {te : TA} {d : List PyData} (h : GoI (EA K te ρ d)) : EA K te ρ d := h.ok
theorem in_ET {K : PySem.W.Frag} {ρ : List Sl} {te : TT} {d : Bool} (h : GoI (ET K te ρ d)) : ET K te ρ d := h.ok
theorem in_EP {K : PySem.W.Frag} {ρ : List Sl} {te : TO} {d : Option Int} (h : GoI (EP K te ρ d)) : EP K te ρ d := h.ok
theorem in_EI {K : PySem.W.Frag} {ρ : List Sl} {te : TI} {d : List PyData} (h : GoI (EI K te ρ d)) : EI K te ρ d := h.ok
theorem in_WI {K : PySem.W.Frag} {ρ : List Sl} {wi : TI} {Q : List PyData → List Sl → Prop} (h : GoI (WI K wi ρ Q)) : WI K wi ρ Q := h.ok
theorem in_G {K : PySem.W.Frag} {ρ : List Sl} {g : TG} {d : PyData} {P : List Sl → Prop} (h : GoI (G K g d ρ P)) : G K g d ρ P := h.ok
theorem in_Gs {K : PySem.W.Frag} {ρ : List Sl} {g : TGs} {d : List PyData} {P : List Sl → Prop} (h : GoI (Gs K g d ρ P)) : Gs K g d ρ P := h.ok
theorem in_GC {K : PySem.W.Frag} {ρ : List Sl} {g : TG} {ws : List Nat} {d : PyData} {P : List Sl → Prop} (h : GoI (GC K g ws d ρ P)) : GC K g ws d ρ P := h.ok
theorem in_GCs {K : PySem.W.Frag} {ρ : List Sl} {g : TGs} {ws : List Nat} {d : List PyData} {P : List Sl → Prop} (h : GoI (GCs K g ws d ρ P)) : GCs K g ws d ρ P := h.ok
theorem in_OpE {K : PySem.W.Frag} {r : R2} {x y z : PyData} (h : GoI (OpE K r x y z)) : OpE K r x y z := h.ok
theorem in_WhT {K : PySem.W.Frag} {ρ : List Sl} {tt : TT} {Q : Bool → Prop} (h : GoI (WhT K tt ρ Q)) : WhT K tt ρ Q := h.ok
theorem in_EqE {K : PySem.W.Frag} {ρ : List Sl} {te : TE} {d : PyData} (h : GoI (EqE K te ρ d)) : EqE K te ρ d := h.ok
theorem in_EqT {K : PySem.W.Frag} {ρ : List Sl} {te : TT} {d : Bool} (h : GoI (EqT K te ρ d)) : EqT K te ρ d := h.ok
theorem in_EqP {K : PySem.W.Frag} {ρ : List Sl} {tt : TT} {te : TE} {b : Bool} {d : PyData} (h : GoI (EqP K tt te ρ b d)) : EqP K tt te ρ b d := h.ok
theorem in_CE {K : PySem.W.Frag} {sp : Sp} {ds : List PyData} {d : PyData} (h : GoI (CE K sp ds d)) : CE K sp ds d := h.ok
theorem in_CbE {K : PySem.W.Frag} {rr : List V → Hp → VK → Prop} {ds : List PyData} {d : PyData} (h : GoI (CbE K rr ds d)) : CbE K rr ds d := h.ok
theorem in_CbO {K : PySem.W.Frag} {rr : List V → Hp → VK → Prop} {ds : List PyData} {d : List PyData} (h : GoI (CbO K rr ds d)) : CbO K rr ds d := h.ok
theorem in_OpO {K : PySem.W.Frag} {r : R2} {x y : PyData} {z : List PyData} (h : GoI (OpO K r x y z)) : OpO K r x y z := h.ok
theorem in_k_set {K : PySem.W.Frag} {ρ : List Sl} {i : Nat} {b : Bool} {ti : TE} {P : List PyData → Int → Prop} (h : GoI (∃ ds j, ρ[i]? = some (.ow b ds) ∧ E K ti ρ (.int j) ∧ P ds j)) : ∃ ds j, ρ[i]? = some (.ow b ds) ∧ E K ti ρ (.int j) ∧ P ds j := h.ok
theorem in_k_cb {K : PySem.W.Frag} {ds : List PyData} {rr : List V → Hp → VK → Prop} {Q : PyData → Prop} (h : GoI (∃ z, CbE K rr ds z ∧ Q z)) : ∃ z, CbE K rr ds z ∧ Q z := h.ok
theorem in_k_oo {K : PySem.W.Frag} {r : R2} {x : PyData} {y : PyData} {Q : List PyData → Prop} (h : GoI (∃ z, OpO K r x y z ∧ Q z)) : ∃ z, OpO K r x y z ∧ Q z := h.ok
theorem in_k_bool {Q : Bool → Prop} {b : Bool} (h : GoI (∃ b', PyData.bool b = .bool b' ∧ Q b')) : ∃ b', PyData.bool b = .bool b' ∧ Q b' := h.ok
theorem in_k_int {Q : Int → Prop} {i : Int} (h : GoI (∃ i', PyData.int i = .int i' ∧ Q i')) : ∃ i', PyData.int i = .int i' ∧ Q i' := h.ok
theorem in_k_list {ds : List PyData} {Q : List PyData → Prop} (h : GoI (∃ ds', PyData.list ds = .list ds' ∧ Q ds')) : ∃ ds', PyData.list ds = .list ds' ∧ Q ds' := h.ok
theorem in_k_pair {x : PyData} {y : PyData} {Q : PyData → PyData → Prop} (h : GoI (∃ a b, [x, y] = [a, b] ∧ Q a b)) : ∃ a b, [x, y] = [a, b] ∧ Q a b := h.ok
theorem in_k_trip {x : PyData} {y : PyData} {z : PyData} {Q : PyData → PyData → PyData → Prop} (h : GoI (∃ a b c, [x, y, z] = [a, b, c] ∧ Q a b c)) : ∃ a b c, [x, y, z] = [a, b, c] ∧ Q a b c := h.ok
theorem in_k_ss2 {P : Sl → Sl → Prop} {s1 s2 : Sl} (h : GoI (∃ a b, [s1, s2] = [a, b] ∧ P a b)) : ∃ a b, [s1, s2] = [a, b] ∧ P a b := h.ok
theorem in_k_ss3 {P : Sl → Sl → Sl → Prop} {s1 s2 s3 : Sl} (h : GoI (∃ a b c, [s1, s2, s3] = [a, b, c] ∧ P a b c)) : ∃ a b c, [s1, s2, s3] = [a, b, c] ∧ P a b c := h.ok
theorem in_k_app {ρ : List Sl} {i : Nat} {b : Bool} {P : List PyData → Prop} (h : GoI (∃ ds, ρ[i]? = some (.ow b ds) ∧ P ds ∧ Sd (ds.length < 100000))) : ∃ ds, ρ[i]? = some (.ow b ds) ∧ P ds ∧ Sd (ds.length < 100000) := h.ok
theorem in_k_ext {ρ : List Sl} {es : List PyData} {i : Nat} {b : Bool} {P : List PyData → List PyData → Prop} (h : GoI (∃ ds es', ρ[i]? = some (.ow b ds) ∧ PyData.list es = .list es' ∧ P ds es' ∧ Sd (ds.length + es'.length ≤ 100000))) : ∃ ds es', ρ[i]? = some (.ow b ds) ∧ PyData.list es = .list es' ∧ P ds es' ∧ Sd (ds.length + es'.length ≤ 100000) := h.ok
theorem in_k_tank {ρ : List Sl} {i : Nat} {b : Bool} {P : List PyData → Prop} (h : GoI (∃ T1, ρ[i]? = some (.ow b T1) ∧ P T1)) : ∃ T1, ρ[i]? = some (.ow b T1) ∧ P T1 := h.ok
theorem in_k_cat {ds : List PyData} {es : List PyData} {P : List PyData → List PyData → Prop} (h : GoI (∃ l1 l2, PyData.list ds = .list l1 ∧ PyData.list es = .list l2 ∧ P l1 l2)) : ∃ l1 l2, PyData.list ds = .list l1 ∧ PyData.list es = .list l2 ∧ P l1 l2 := h.ok
theorem in_k_sd {A B : Prop} (h : GoI (A ∧ Sd B)) : A ∧ Sd B := h.ok
theorem in_k_op {K : PySem.W.Frag} {r : R2} {x y : PyData} {Q : PyData → Prop} (h : GoI (∃ z, OpE K r x y z ∧ Q z)) : ∃ z, OpE K r x y z ∧ Q z := h.ok
theorem in_Ifk {b : Bool} {A B : Prop} (h : GoI (Ifk b A B)) : Ifk b A B := h.ok
theorem in_nx {e : En} {ρ : List Sl} (h : GoI (e.nx ρ)) : e.nx ρ := h.ok
theorem in_bk {e : En} {ρ : List Sl} (h : GoI (e.bk ρ)) : e.bk ρ := h.ok
theorem in_ct {e : En} {ρ : List Sl} (h : GoI (e.ct ρ)) : e.ct ρ := h.ok
theorem in_rt {e : En} {d : PyData} {ρ : List Sl} (h : GoI (e.rt d ρ)) : e.rt d ρ := h.ok
theorem in_ro {e : En} {d : List PyData} {ρ : List Sl} (h : GoI (e.ro d ρ)) : e.ro d ρ := h.ok
theorem in_ex {α : Type} {P : α → Prop} (h : GoI (∃ x, P x)) : ∃ x, P x := h.ok
theorem in_sd {A B : Prop} (h : GoI (A ∧ Sd B)) : A ∧ Sd B := h.ok
end PL
/-! PS0: windows of looks, as data -/
namespace PL
open PySem PySem.Spec PyProof.Rows L2 Evl SB PW
abbrev Tr := Int × Int × Int
abbrev t3D : Tr → PyData := fun r => .tuple [.int r.1, .int r.2.1, .int r.2.2]
def winT (n s : Nat) : List Tr := (List.range (n - s)).map (fun i : Nat => ((i : Int), (i : Int), (i : Int) + 1)) ++ (List.range s).map fun i : Nat => ((n : Int) - s + i, (n : Int) - s, (n : Int))
theorem winT_len {n s : Nat} (h : s ≤ n) : (winT n s).length = n := by
  unfold winT
  simp
  omega
theorem winT_win {n s : Nat} (h : s ≤ n) : win n s = (winT n s).map fun r => [r.1, r.2.1, r.2.2] := by
  unfold win winT
  rw [List.map_append, List.map_map, List.map_map]
  congr 1
  refine List.map_congr_left fun i hi => ?_
  show [((n - s + i : Nat) : Int), ((n - s : Nat) : Int), (n : Int)] = [(n : Int) - s + i, (n : Int) - s, (n : Int)]
  rw [show ((n - s + i : Nat) : Int) = (n : Int) - s + i by omega, show ((n - s : Nat) : Int) = (n : Int) - s by omega]
theorem winT_mem {n s : Nat} (h : s + 2 ≤ n) {r : Tr} (hr : r ∈ winT n s) : ∃ p f l : Nat, r = ((p : Int), (f : Int), (l : Int)) ∧ p < n ∧ ((p < n - s ∧ f = p ∧ l = p + 1) ∨ (n - s ≤ p ∧ f = n - s ∧ l = n)) := by
  have : [r.1, r.2.1, r.2.2] ∈ win n s := by
    rw [winT_win (by omega)]
    exact List.mem_map.mpr ⟨r, hr, rfl⟩
  obtain ⟨p, f, l, e, h1, h2⟩ := (win_mem h).mp this
  refine ⟨p, f, l, ?_, h1, h2⟩
  simp only [List.cons.injEq, and_true] at e
  exact Prod.ext e.1 (Prod.ext e.2.1 e.2.2)
theorem loL_T {n s : Nat} {g w st : Int} (h : s ≤ n) : loL n s g w st = (winT n s).map fun r => ceilI (g * (w + st * r.1 + 1)) r.2.2 := by
  unfold loL
  rw [winT_win h, List.map_map]
  rfl
theorem hiL_T {n s : Nat} {g w st : Int} (h : s ≤ n) : hiL n s g w st = ((winT n s).filter fun r => decide (0 < r.2.1)).map fun r => lookI g w st r.1 / r.2.1 := by
  unfold hiL
  rw [winT_win h, List.filterMap_map]
  induction winT n s with
  | nil => rfl
  | cons r l ih =>
    rw [List.filterMap_cons, List.filter_cons]
    by_cases c : 0 < r.2.1
    · simp only [Function.comp, r3_mk, if_pos c, decide_eq_true c, if_true, List.map_cons]
      rw [← ih]
    · simp only [Function.comp, r3_mk, if_neg c, decide_eq_false c]
      exact ih
theorem gdL_T {n s : Nat} {g w st x : Int} (h : s ≤ n) : gdL n s g w st x = (winT n s).map fun r => r.2.1 * x - g * (w + st * r.1) := by
  unfold gdL
  rw [winT_win h, List.map_map]
  rfl
theorem gdH_T {n s : Nat} {g w st x : Int} (h : s ≤ n) : gdH n s g w st x = (winT n s).map fun r => r.2.2 * x - 1 - g * (w + st * r.1) := by
  unfold gdH
  rw [winT_win h, List.map_map]
  rfl
theorem RcOk.clk {g w st : Int} (h : RcOk g w st) : Clk g w st := ⟨h.1, h.2.1, h.2.2.1⟩
def optP (lo hi : Int) : PyData := if lo ≤ hi then .tuple [.int lo, .int hi] else .none
def mWindows : Mo := fun ds R => ∃ b p s, ds = [shD b p s] ∧ ShOk b s ∧ R ((winT (sz b p s) s).map t3D)
def mCeil : Mn := fun ds R => ∃ x l : Int, ds = [.int x, .int l] ∧ 0 < l ∧ l < 2 ^ 240 ∧ R (.int (ceilI x l))
def mStretch : Mn := fun ds R => ∃ lo hi : Int, ds = [.int lo, .int hi] ∧ R (optP lo hi)
def mLimits : Mn := fun ds R => ∃ b p s, ∃ g w st lo hi : Int, ds = [shD b p s, rcD g w st] ∧ ShOk b s ∧ RcOk g w st ∧ Mx (loL (sz b p s) s g w st) lo ∧ Mi (hiL (sz b p s) s g w st) hi ∧ R (.tuple [.int lo, .int hi])
def mGood : Mn := fun ds R => ∃ b p s, ∃ g w st x lo hi : Int, ds = [shD b p s, rcD g w st, .int x] ∧ ShOk b s ∧ RcOk g w st ∧ 1 ≤ x ∧ x < 2 ^ 239 ∧ Mx (0 :: gdL (sz b p s) s g w st x) lo ∧ Mi ((g - 1) :: gdH (sz b p s) s g w st x) hi ∧ R (optP lo hi)
def mHolds : Mn := fun ds R => ∃ b p s, ∃ g w st x y lo hi : Int, ds = [shD b p s, rcD g w st, .int x, .int y] ∧ ShOk b s ∧ RcOk g w st ∧ Mx (loL (sz b p s) s g w st) lo ∧ Mi (hiL (sz b p s) s g w st) hi ∧ R (.bool (decide (lo ≤ x) && decide (y ≤ hi)))
end PL
namespace PL
open PySem PySem.Spec PyProof.Rows L2 Evl SB PW
/-- whether each look at an offset lies in its level -/
def rowG (g w st x off : Int) (r : Tr) : Bool := decide (x * r.2.1 ≤ off + g * (w + st * r.1)) && decide (off + g * (w + st * r.1) < x * r.2.2)
def goodT (n s : Nat) (g w st x off : Int) : Bool := (winT n s).all (rowG g w st x off)
theorem goodT_eq {n s : Nat} (h : s ≤ n) (g w st x off : Int) : goodT n s g w st x off = goodB (win n s) g w st x off := by
  unfold goodT goodB
  rw [winT_win h, List.all_map]
  rfl
def mGoodL : Mn := fun ds R => ∃ b p s, ∃ g w st x off : Int, ds = [shD b p s, rcD g w st, .int x, .int off] ∧ ShOk b s ∧ RcOk g w st ∧ -(2 ^ 239) < x ∧ x < 2 ^ 239 ∧ -(2 ^ 239) < off ∧ off < 2 ^ 239 ∧ R (.bool (goodT (sz b p s) s g w st x off))
theorem RcOk.stb {g w st : Int} (h : RcOk g w st) {k : Nat} (hk : k ≤ 13) : 0 ≤ st * (k : Int) ∧ st * (k : Int) < 2 ^ 110 := by
  obtain ⟨h1, h2, h3, h4, h5, h6⟩ := h
  have : st * (k : Int) ≤ st * 13 := Int.mul_le_mul_of_nonneg_left (by omega) (by omega)
  have := Int.mul_nonneg (show 0 ≤ st by omega) (show 0 ≤ (k : Int) by omega)
  omega
theorem RcOk.lookb {g w st : Int} (h : RcOk g w st) {p : Nat} (hk : p ≤ 13) : 0 ≤ g * (w + st * (p : Int)) ∧ g * (w + st * (p : Int)) < 2 ^ 220 := by
  have b := h.stb hk
  obtain ⟨h1, h2, h3, h4, h5, h6⟩ := h
  generalize st * (p : Int) = u at b
  have e : g * (w + u) ≤ 2 ^ 100 * (2 ^ 111) := Int.mul_le_mul (by omega) (by omega) (by omega) (by omega)
  have := Int.mul_nonneg (show 0 ≤ g by omega) (show 0 ≤ w + u by omega)
  omega
theorem look_leM {n : Nat} {g w st : Int} (hn : n ≤ 13) (rok : RcOk g w st) {p : Nat} (hp : p < n) : lookI g w st p + g ≤ g * (w + 13 * st + 1) := by
  obtain ⟨h1, h2, h3, h4, h5, h6⟩ := rok
  unfold lookI
  rw [show g * (w + st * (p : Int)) + g = g * (w + st * (p : Int) + 1) by rw [Int.mul_add g (w + st * (p : Int)) 1, Int.mul_one]]
  refine Int.mul_le_mul_of_nonneg_left ?_ (by omega)
  have : st * (p : Int) ≤ st * 13 := Int.mul_le_mul_of_nonneg_left (by omega) (by omega)
  omega
theorem lo_leM {n s : Nat} {g w st lo : Int} (h : s + 2 ≤ n ∧ n ≤ 13) (rok : RcOk g w st) (m : Mx (loL n s g w st) lo) : lo ≤ g * (w + 13 * st + 1) := by
  obtain ⟨p, f, l, hp, hc, rfl⟩ := (loL_mem h.1).mp m.1
  have a := look_leM h.2 rok hp
  have b := rok.clk.look0 p
  rw [look_next]
  have c := (ceil_bd (x := lookI g w st p + g) (l := (l : Int)) (by omega) (by have := rok.1; omega)).2
  omega
theorem hi_leM {n s : Nat} {g w st hi : Int} (h : s + 2 ≤ n ∧ n ≤ 13) (rok : RcOk g w st) (m : Mi (hiL n s g w st) hi) : hi ≤ g * (w + 13 * st + 1) := by
  obtain ⟨p, f, l, hp, hc, hf, rfl⟩ := (hiL_mem h.1).mp m.1
  have a := look_leM h.2 rok hp
  have b := rok.clk.look0 p
  have c : lookI g w st p / (f : Int) ≤ lookI g w st p := Int.ediv_le_self _ b
  have := rok.1
  omega
end PL
/-! PS1: offsets of a text without gaps -/
namespace PL
open PySem PySem.Spec PyProof.Rows L2 Evl SB PW
theorem bezout : ∀ (b a : Nat), ∃ x y : Int, x * a + y * b = (Nat.gcd a b : Nat) := by
  intro b
  induction b using Nat.strongRecOn with
  | ind b ih =>
    intro a
    by_cases h : b = 0
    · subst h
      exact ⟨1, 0, by rw [Nat.gcd_zero_right]; omega⟩
    · obtain ⟨x, y, e⟩ := ih (a % b) (Nat.mod_lt _ (by omega)) b
      refine ⟨y, x - y * (a / b : Nat), ?_⟩
      rw [show Nat.gcd a b = Nat.gcd b (a % b) by rw [Nat.gcd_comm b, ← Nat.gcd_rec, Nat.gcd_comm], ← e]
      have d := Nat.div_add_mod a b
      have d' : (a : Int) = b * (a / b : Nat) + (a % b : Nat) := by
        have : ((b * (a / b) + a % b : Nat) : Int) = a := by rw [d]
        rw [← this, Int.natCast_add, Int.natCast_mul]
      generalize ((a / b : Nat) : Int) = q at d'
      generalize ((a % b : Nat) : Int) = r at d' 
      rw [d', Int.mul_add, Int.sub_mul, ← Int.mul_assoc y, Int.mul_comm y b, Int.mul_assoc, Int.mul_assoc]
      rw [Int.mul_comm (b : Int) (y * q), Int.mul_assoc, Int.mul_comm q b]
      omega
/-- what a phase leads to: the offsets that are equal to it by the modulus -/
theorem reach {g u r v : Int} (hg : 1 ≤ g) (hu : 0 ≤ u) (v0 : 0 ≤ v) (v1 : v < g) (h : (v - r) % (Nat.gcd g.natAbs u.natAbs : Nat) = 0) :
    ∃ k : Nat, (k : Int) < g / (Nat.gcd g.natAbs u.natAbs : Nat) ∧ (r - k * u) % g = v := by
  obtain ⟨x, y, e⟩ := bezout u.natAbs g.natAbs
  have mg : ((Nat.gcd g.natAbs u.natAbs : Nat) : Int) ∣ g := by
    have := Nat.gcd_dvd_left g.natAbs u.natAbs
    have := Int.natCast_dvd_natCast.mpr this
    rwa [show (g.natAbs : Int) = g by omega] at this
  have mu : ((Nat.gcd g.natAbs u.natAbs : Nat) : Int) ∣ u := by
    have := Nat.gcd_dvd_right g.natAbs u.natAbs
    have := Int.natCast_dvd_natCast.mpr this
    rwa [show (u.natAbs : Int) = u by omega] at this
  have m1 : 1 ≤ ((Nat.gcd g.natAbs u.natAbs : Nat) : Int) := by
    have := Nat.gcd_pos_of_pos_left u.natAbs (show 0 < g.natAbs by omega)
    omega
  rw [show (g.natAbs : Int) = g by omega, show (u.natAbs : Int) = u by omega] at e
  generalize ((Nat.gcd g.natAbs u.natAbs : Nat) : Int) = m at *
  obtain ⟨g', rfl⟩ := mg
  obtain ⟨u', rfl⟩ := mu
  have g1 : 1 ≤ g' := by
    refine Classical.byContradiction fun z => ?_
    have : m * g' ≤ m * 0 := Int.mul_le_mul_of_nonneg_left (by omega) (by omega)
    omega
  have eg : m * g' / m = g' := Int.mul_ediv_cancel_left _ (by omega)
  rw [eg]
  obtain ⟨t, ht⟩ := Int.dvd_of_emod_eq_zero h
  -- k0 = - y t
  have k0 := Int.emod_nonneg (-(y * t)) (show g' ≠ 0 by omega)
  have k1 := Int.emod_lt_of_pos (-(y * t)) (show 0 < g' by omega)
  refine ⟨((-(y * t)) % g').toNat, by omega, ?_⟩
  rw [show (((-(y * t)) % g').toNat : Int) = (-(y * t)) % g' by omega]
  have dm := Int.emod_add_mul_ediv (-(y * t)) g'
  generalize (-(y * t)) % g' = k at *
  generalize (-(y * t)) / g' = d at dm
  -- r - k u = v + multiple of g
  have key : r - k * (m * u') = v + m * g' * (u' * d - x * t) := by
    have e1 : k = -(y * t) - g' * d := by omega
    have e2 : v = r + m * t := by omega
    have e3 : m * t = (x * (m * g') + y * (m * u')) * t := by rw [e]
    rw [e1, e2, e3]
    have a1 : (-(y * t) - g' * d) * (m * u') = -(y * t * (m * u')) - g' * d * (m * u') := by rw [Int.sub_mul, Int.neg_mul]
    have a2 : (x * (m * g') + y * (m * u')) * t = x * (m * g') * t + y * (m * u') * t := by rw [Int.add_mul]
    have a3 : y * t * (m * u') = y * (m * u') * t := by rw [Int.mul_assoc, Int.mul_comm t, ← Int.mul_assoc]
    have a4 : g' * d * (m * u') = m * g' * (u' * d) := by
      rw [Int.mul_comm g' d, Int.mul_assoc d, Int.mul_comm d, Int.mul_comm g', Int.mul_assoc m, Int.mul_comm u' g', ← Int.mul_assoc m, Int.mul_assoc (m * g')]
    have a5 : m * g' * (u' * d - x * t) = m * g' * (u' * d) - m * g' * (x * t) := by rw [Int.mul_sub]
    have a6 : m * g' * (x * t) = x * (m * g') * t := by rw [← Int.mul_assoc, Int.mul_comm (m * g') x]
    rw [a1, a2, a3, a4, a5, a6]
    omega
  rw [key, Int.add_mul_emod_self_left, Int.emod_eq_of_lt v0 v1]
theorem reach_mod {g u r : Int} (k : Int) : (r - k * u) % g % (Nat.gcd g.natAbs u.natAbs : Nat) = r % (Nat.gcd g.natAbs u.natAbs : Nat) := by
  have mg : ((Nat.gcd g.natAbs u.natAbs : Nat) : Int) ∣ g := by
    have := Int.natCast_dvd_natCast.mpr (Nat.gcd_dvd_left g.natAbs u.natAbs)
    refine Int.dvd_trans this ?_
    rcases Int.natAbs_eq g with h | h
    · rw [← h]; exact Int.dvd_refl _
    · exact ⟨-1, by omega⟩
  have mu : ((Nat.gcd g.natAbs u.natAbs : Nat) : Int) ∣ u := by
    have := Int.natCast_dvd_natCast.mpr (Nat.gcd_dvd_right g.natAbs u.natAbs)
    refine Int.dvd_trans this ?_
    rcases Int.natAbs_eq u with h | h
    · rw [← h]; exact Int.dvd_refl _
    · exact ⟨-1, by omega⟩
  rw [Int.emod_emod_of_dvd _ mg]
  obtain ⟨u', hu'⟩ := mu
  generalize ((Nat.gcd g.natAbs u.natAbs : Nat) : Int) = m at *
  rw [hu', show k * (m * u') = m * (k * u') by rw [← Int.mul_assoc, Int.mul_comm k m, Int.mul_assoc], Int.sub_mul_emod_self_left]
theorem gcd_dv {g u : Int} : ((Nat.gcd g.natAbs u.natAbs : Nat) : Int) ∣ g := by
  have := Int.natCast_dvd_natCast.mpr (Nat.gcd_dvd_left g.natAbs u.natAbs)
  refine Int.dvd_trans this ?_
  rcases Int.natAbs_eq g with h | h
  · rw [← h]; exact Int.dvd_refl _
  · exact ⟨-1, by omega⟩
theorem gcd_bd {g u : Int} (hg : 1 ≤ g) : 1 ≤ ((Nat.gcd g.natAbs u.natAbs : Nat) : Int) ∧ ((Nat.gcd g.natAbs u.natAbs : Nat) : Int) ≤ g := by
  have := Nat.gcd_pos_of_pos_left u.natAbs (show 0 < g.natAbs by omega)
  have := Nat.gcd_le_left u.natAbs (show 0 < g.natAbs by omega)
  omega
theorem fine_class {g u lo hi r : Int} (hg : 1 ≤ g) (hu : 0 ≤ u) (l0 : 0 ≤ lo) (h1 : hi < g) :
    (∀ k : Nat, (k : Int) < g / (Nat.gcd g.natAbs u.natAbs : Nat) → lo ≤ (r - k * u) % g ∧ (r - k * u) % g ≤ hi) ↔ lo ≤ r % (Nat.gcd g.natAbs u.natAbs : Nat) ∧ r % (Nat.gcd g.natAbs u.natAbs : Nat) ≤ hi - (g - (Nat.gcd g.natAbs u.natAbs : Nat)) := by
  have mb := gcd_bd (u := u) hg
  obtain ⟨c, hc⟩ := gcd_dv (g := g) (u := u)
  have c1 : 1 ≤ c := by
    refine Classical.byContradiction fun z => ?_
    have : ((Nat.gcd g.natAbs u.natAbs : Nat) : Int) * c ≤ ((Nat.gcd g.natAbs u.natAbs : Nat) : Int) * 0 := Int.mul_le_mul_of_nonneg_left (by omega) (by omega)
    omega
  have r0 := Int.emod_nonneg r (show ((Nat.gcd g.natAbs u.natAbs : Nat) : Int) ≠ 0 by omega)
  have r1 := Int.emod_lt_of_pos r (show 0 < ((Nat.gcd g.natAbs u.natAbs : Nat) : Int) by omega)
  have rd := Int.emod_add_mul_ediv r ((Nat.gcd g.natAbs u.natAbs : Nat) : Int)
  constructor
  · intro h
    obtain ⟨k, hk, ek⟩ := reach (r := r) hg hu r0 (by omega) (show (r % (Nat.gcd g.natAbs u.natAbs : Nat) - r) % (Nat.gcd g.natAbs u.natAbs : Nat) = 0 by
      rw [show r % (Nat.gcd g.natAbs u.natAbs : Nat) - r = (Nat.gcd g.natAbs u.natAbs : Nat) * -(r / (Nat.gcd g.natAbs u.natAbs : Nat)) by rw [Int.mul_neg]; omega]
      exact Int.mul_emod_right _ _)
    obtain ⟨k2, hk2, ek2⟩ := reach (r := r) (v := r % (Nat.gcd g.natAbs u.natAbs : Nat) + (g - (Nat.gcd g.natAbs u.natAbs : Nat))) hg hu (by omega) (by omega) (by
      rw [show r % (Nat.gcd g.natAbs u.natAbs : Nat) + (g - (Nat.gcd g.natAbs u.natAbs : Nat)) - r = (Nat.gcd g.natAbs u.natAbs : Nat) * (-(r / (Nat.gcd g.natAbs u.natAbs : Nat)) + c - 1) by
        rw [Int.mul_sub, Int.mul_add, Int.mul_neg, Int.mul_one]; omega]
      exact Int.mul_emod_right _ _)
    have a := h k hk
    have b := h k2 hk2
    omega
  · intro h k hk
    have e := reach_mod (g := g) (u := u) (r := r) k
    have v0 := Int.emod_nonneg (r - k * u) (show g ≠ 0 by omega)
    have v1 := Int.emod_lt_of_pos (r - k * u) (show 0 < g by omega)
    generalize (r - k * u) % g = v at *
    generalize ((Nat.gcd g.natAbs u.natAbs : Nat) : Int) = m at *
    have vd := Int.emod_add_mul_ediv v m
    have q0 : 0 ≤ v / m := Int.ediv_nonneg v0 (by omega)
    have q1 : v / m ≤ c - 1 := by
      refine Classical.byContradiction fun z => ?_
      have : m * c ≤ m * (v / m) := Int.mul_le_mul_of_nonneg_left (by omega) (by omega)
      omega
    have a1 : 0 ≤ m * (v / m) := Int.mul_nonneg (by omega) q0
    have a2 : m * (v / m) ≤ m * (c - 1) := Int.mul_le_mul_of_nonneg_left q1 (by omega)
    rw [Int.mul_sub, Int.mul_one] at a2
    omega
/-- good offsets are one stretch -/
theorem goodT_iff {n s : Nat} {g w st x lo hi off : Int} (hs : s ≤ n) (m1 : Mx (0 :: gdL n s g w st x) lo) (m2 : Mi ((g - 1) :: gdH n s g w st x) hi) (h0 : 0 ≤ off) (h1 : off < g) : goodT n s g w st x off = decide (lo ≤ off ∧ off ≤ hi) := by
  rw [goodT_eq hs]
  cases e : goodB (win n s) g w st x off with
  | true => exact (decide_eq_true ((gd_iff m1 m2 h0 h1).mp e)).symm
  | false => exact (decide_eq_false fun z => by rw [(gd_iff m1 m2 h0 h1).mpr z] at e; cases e).symm
theorem gdb_lo {n s : Nat} {g w st x lo : Int} (z : s + 2 ≤ n ∧ n ≤ 13) (rok : RcOk g w st) (x1 : 1 ≤ x) (x2 : x < 2 ^ 230) (m : Mx (0 :: gdL n s g w st x) lo) : lo < 2 ^ 235 := by
  rcases List.mem_cons.mp m.1 with e | e
  · omega
  · rw [gdL_T (by omega)] at e
    obtain ⟨r, hr, rfl⟩ := List.mem_map.mp e
    obtain ⟨k, f, l, rfl, k1, k2⟩ := winT_mem z.1 hr
    have b := rok.lookb (p := k) (by omega)
    dsimp only
    have : (f : Int) * x ≤ 13 * x := Int.mul_le_mul_of_nonneg_right (by omega) (by omega)
    omega
theorem gdb_hi {n s : Nat} {g w st x hi : Int} (z : s + 2 ≤ n ∧ n ≤ 13) (rok : RcOk g w st) (x1 : 1 ≤ x) (x2 : x < 2 ^ 230) (m : Mi ((g - 1) :: gdH n s g w st x) hi) : -(2 ^ 235) < hi := by
  obtain ⟨r1, r2, r3, r4, r5, r6⟩ := id rok
  rcases List.mem_cons.mp m.1 with e | e
  · omega
  · rw [gdH_T (by omega)] at e
    obtain ⟨r, hr, rfl⟩ := List.mem_map.mp e
    obtain ⟨k, f, l, rfl, k1, k2⟩ := winT_mem z.1 hr
    have b := rok.lookb (p := k) (by omega)
    dsimp only
    have : 0 ≤ (l : Int) * x := Int.mul_nonneg (by omega) (by omega)
    omega
end PL
namespace PL
open PySem PySem.Spec PyProof.Rows L2 Evl SB PW
end PL
namespace PL
open PySem PySem.Spec PyProof.Rows L2 Evl SB PW
theorem inV_bl (b : Bool) {α : Type} (l : List α) (f : α → Bool) : inV (flv (.bool b)) ((l.map fun k => PyData.bool (f k)).map flv) = l.any fun k => f k == b := by
  unfold inV
  rw [List.map_map, List.any_map]
  refine congrArg (List.any l) (funext fun k => ?_)
  show eqV (.bl (f k)) (.bl b) = _
  cases f k <;> cases b <;> decide
theorem notin_f {α : Type} (l : List α) (f : α → Bool) : (!inV (flv (.bool false)) ((l.map fun k => PyData.bool (f k)).map flv)) = l.all f := by
  rw [inV_bl, List.not_any_eq_all_not]
  refine congrArg (List.all l) (funext fun k => ?_)
  cases f k <;> rfl
theorem notin_t {α : Type} (l : List α) (f : α → Bool) : (!inV (flv (.bool true)) ((l.map fun k => PyData.bool (f k)).map flv)) = l.all fun k => !f k := by
  rw [inV_bl, List.not_any_eq_all_not]
  refine congrArg (List.all l) (funext fun k => ?_)
  cases f k <;> rfl
end PL
/-! PS2: waits, as the least and the greatest of lists -/
namespace PL
open PySem PySem.Spec PyProof.Rows L2 Evl SB PW
noncomputable def mxL (l : List Int) : Int := if h : l ≠ [] then Classical.choose (Mx.exists h) else 0
noncomputable def miL (l : List Int) : Int := if h : l ≠ [] then Classical.choose (Mi.exists h) else 0
theorem mxL_ok {l : List Int} (h : l ≠ []) : Mx l (mxL l) := by
  unfold mxL
  rw [dif_pos h]
  exact Classical.choose_spec (Mx.exists h)
theorem miL_ok {l : List Int} (h : l ≠ []) : Mi l (miL l) := by
  unfold miL
  rw [dif_pos h]
  exact Classical.choose_spec (Mi.exists h)
theorem mx_le {l : List Int} {m y : Int} (h : Mx l m) : m ≤ y ↔ ∀ a ∈ l, a ≤ y := ⟨fun e a ha => Int.le_trans (h.2 a ha) e, fun e => e m h.1⟩
theorem le_mi {l : List Int} {m y : Int} (h : Mi l m) : y ≤ m ↔ ∀ a ∈ l, y ≤ a := ⟨fun e a ha => Int.le_trans e (h.2 a ha), fun e => e m h.1⟩
theorem winT_ne {n s : Nat} (h : s + 2 ≤ n) : winT n s ≠ [] := fun e => by
  have := winT_len (n := n) (s := s) (by omega)
  rw [e] at this
  simp at this
  omega
theorem winT_zero {n s : Nat} (h : s + 2 ≤ n) : ((0 : Int), (0 : Int), (1 : Int)) ∈ winT n s := by
  unfold winT
  refine List.mem_append_left _ (List.mem_map.mpr ⟨0, List.mem_range.mpr (by omega), rfl⟩)
theorem winT_one {n s : Nat} (h : s + 2 ≤ n) : ((1 : Int), (1 : Int), (2 : Int)) ∈ winT n s := by
  unfold winT
  refine List.mem_append_left _ (List.mem_map.mpr ⟨1, List.mem_range.mpr (by omega), rfl⟩)
/-- the waits from which on the looks are behind the begins, for a length -/
def waL (n s : Nat) (g st y : Int) : List Int := (winT n s).map fun r => ceilI (r.2.1 * y) g - st * r.1
def waH (n s : Nat) (g st y : Int) : List Int := (winT n s).map fun r => r.2.2 * y / g - 1 - st * r.1
noncomputable def Lw (n s : Nat) (g st y : Int) : Int := mxL (waL n s g st y)
noncomputable def Uw (n s : Nat) (g st y : Int) : Int := miL (waH n s g st y)
section
variable {n s : Nat} {g st : Int}
theorem Lw_mx (h : s + 2 ≤ n) (y : Int) : Mx (waL n s g st y) (Lw n s g st y) := mxL_ok (by unfold waL; exact fun e => winT_ne h (List.map_eq_nil_iff.mp e))
theorem Uw_mi (h : s + 2 ≤ n) (y : Int) : Mi (waH n s g st y) (Uw n s g st y) := miL_ok (by unfold waH; exact fun e => winT_ne h (List.map_eq_nil_iff.mp e))
theorem Lw_le (h : s + 2 ≤ n) (hg : 1 ≤ g) {y w : Int} : Lw n s g st y ≤ w ↔ ∀ r ∈ winT n s, r.2.1 * y ≤ g * (w + st * r.1) := by
  rw [mx_le (Lw_mx h y)]
  unfold waL
  constructor
  · intro e r hr
    have := e _ (List.mem_map.mpr ⟨r, hr, rfl⟩)
    have := (ceil_le (x := r.2.1 * y) (l := g) (y := w + st * r.1) (by omega)).mp (by omega)
    rw [Int.mul_comm g]
    exact this
  · intro e a ha
    obtain ⟨r, hr, rfl⟩ := List.mem_map.mp ha
    have := e r hr
    have := (ceil_le (x := r.2.1 * y) (l := g) (y := w + st * r.1) (by omega)).mpr (by rw [Int.mul_comm (w + st * r.1)]; exact this)
    omega
theorem le_Uw (h : s + 2 ≤ n) (hg : 1 ≤ g) {y w : Int} : w ≤ Uw n s g st y ↔ ∀ r ∈ winT n s, g * (w + st * r.1 + 1) ≤ r.2.2 * y := by
  rw [le_mi (Uw_mi h y)]
  unfold waH
  constructor
  · intro e r hr
    have := e _ (List.mem_map.mpr ⟨r, hr, rfl⟩)
    have := (Int.le_ediv_iff_mul_le (c := g) (a := w + st * r.1 + 1) (b := r.2.2 * y) (by omega)).mp (by omega)
    rw [Int.mul_comm g]
    exact this
  · intro e a ha
    obtain ⟨r, hr, rfl⟩ := List.mem_map.mp ha
    have := e r hr
    have := (Int.le_ediv_iff_mul_le (c := g) (a := w + st * r.1 + 1) (b := r.2.2 * y) (by omega)).mpr (by rw [Int.mul_comm (w + st * r.1 + 1)]; exact this)
    omega
theorem winT_nn (h : s + 2 ≤ n) {r : Tr} (hr : r ∈ winT n s) : 0 ≤ r.1 ∧ 0 ≤ r.2.1 ∧ 1 ≤ r.2.2 := by
  obtain ⟨k, f, l, rfl, k1, k2⟩ := winT_mem h hr
  dsimp only
  omega
theorem Lw_mono (h : s + 2 ≤ n) (hg : 1 ≤ g) {y z : Int} (hy : y ≤ z) : Lw n s g st y ≤ Lw n s g st z := by
  rw [Lw_le h hg]
  intro r hr
  have := (Lw_le (st := st) h hg).mp (Int.le_refl (Lw n s g st z)) r hr
  exact Int.le_trans (Int.mul_le_mul_of_nonneg_left hy (winT_nn h hr).2.1) this
theorem Uw_mono (h : s + 2 ≤ n) (hg : 1 ≤ g) {y z : Int} (hy : y ≤ z) : Uw n s g st y ≤ Uw n s g st z := by
  rw [le_Uw h hg]
  intro r hr
  have := (le_Uw (st := st) h hg).mp (Int.le_refl (Uw n s g st y)) r hr
  exact Int.le_trans this (Int.mul_le_mul_of_nonneg_left hy (by have := (winT_nn h hr).2.2; omega))
theorem Lw_nn (h : s + 2 ≤ n) (y : Int) : 0 ≤ Lw n s g st y := by
  refine (Lw_mx h y).2 0 (List.mem_map.mpr ⟨_, winT_zero h, ?_⟩)
  show -(-(0 * y) / g) - st * 0 = 0
  rw [Int.zero_mul, Int.neg_zero, Int.zero_ediv]
  omega
theorem Uw_le (h : s + 2 ≤ n) (y : Int) : Uw n s g st y ≤ y / g - 1 := by
  have := (Uw_mi (g := g) (st := st) h y).2 _ (List.mem_map.mpr ⟨_, winT_zero h, rfl⟩)
  dsimp only at this
  rw [Int.one_mul, Int.mul_zero] at this
  omega
theorem Lw_cons (h : s + 2 ≤ n) (y : Int) : Mx (0 :: waL n s g st y) (Lw n s g st y) := by
  refine ⟨List.mem_cons_of_mem _ (Lw_mx h y).1, fun a ha => ?_⟩
  rcases List.mem_cons.mp ha with rfl | ha
  · exact Lw_nn h y
  · exact (Lw_mx h y).2 a ha
/-- safe lengths and waits -/
theorem lo_Uw (h : s + 2 ≤ n) (hs : 1 ≤ s) {w lo y : Int} (c : Clk g w st) (m : Mx (loL n s g w st) lo) : lo ≤ y ↔ w ≤ Uw n s g st y := by
  have hg := c.1
  rw [le_Uw h hg, lo_iff h hs m]
  constructor
  · intro e r hr
    obtain ⟨k, f, l, rfl, k1, k2⟩ := winT_mem h hr
    have := e k f l k1 k2
    dsimp only
    rw [look_next, Int.mul_comm (l : Int)]
    exact this
  · intro e p f l hp hc
    have hr : ((p : Int), (f : Int), (l : Int)) ∈ winT n s := by
      have : [(p : Int), (f : Int), (l : Int)] ∈ win n s := (win_mem h).mpr ⟨p, f, l, rfl, hp, hc⟩
      rw [winT_win (by omega)] at this
      obtain ⟨r, hr, er⟩ := List.mem_map.mp this
      simp only [List.cons.injEq, and_true] at er
      have : r = ((p : Int), (f : Int), (l : Int)) := Prod.ext er.1 (Prod.ext er.2.1 er.2.2)
      rw [← this]
      exact hr
    have := e _ hr
    dsimp only at this
    rw [look_next, Int.mul_comm (l : Int)] at this
    exact this
theorem hi_Lw (h : s + 2 ≤ n) {w hi y : Int} (c : Clk g w st) (m : Mi (hiL n s g w st) hi) : y ≤ hi ↔ Lw n s g st y ≤ w := by
  have hg := c.1
  rw [Lw_le h hg, hi_iff h c m]
  constructor
  · intro e r hr
    obtain ⟨k, f, l, rfl, k1, k2⟩ := winT_mem h hr
    have := e k f l k1 k2
    dsimp only
    rw [Int.mul_comm (f : Int)]
    exact this
  · intro e p f l hp hc
    have hr : ((p : Int), (f : Int), (l : Int)) ∈ winT n s := by
      have : [(p : Int), (f : Int), (l : Int)] ∈ win n s := (win_mem h).mpr ⟨p, f, l, rfl, hp, hc⟩
      rw [winT_win (by omega)] at this
      obtain ⟨r, hr, er⟩ := List.mem_map.mp this
      simp only [List.cons.injEq, and_true] at er
      have : r = ((p : Int), (f : Int), (l : Int)) := Prod.ext er.1 (Prod.ext er.2.1 er.2.2)
      rw [← this]
      exact hr
    have := e _ hr
    dsimp only at this
    rw [Int.mul_comm (f : Int)] at this
    exact this
/-- a wait with a margin of so much -/
def HasM (n s : Nat) (g st x w k : Int) : Prop := Lw n s g st (x + k) ≤ w ∧ w ≤ Uw n s g st (x - k)
def OkM (n s : Nat) (g st x k : Int) : Prop := Lw n s g st (x + k) ≤ Uw n s g st (x - k)
theorem OkM.anti (h : s + 2 ≤ n) (hg : 1 ≤ g) {x k j : Int} (o : OkM n s g st x k) (hj : j ≤ k) : OkM n s g st x j :=
  Int.le_trans (Lw_mono h hg (show x + j ≤ x + k by omega)) (Int.le_trans o (Uw_mono h hg (by omega)))
theorem HasM.anti (h : s + 2 ≤ n) (hg : 1 ≤ g) {x w k j : Int} (o : HasM n s g st x w k) (hj : j ≤ k) : HasM n s g st x w j :=
  ⟨Int.le_trans (Lw_mono h hg (show x + j ≤ x + k by omega)) o.1, Int.le_trans o.2 (Uw_mono h hg (by omega))⟩
theorem HasM.ok {x w k : Int} (o : HasM n s g st x w k) : OkM n s g st x k := Int.le_trans o.1 o.2
/-- what a best wait is -/
def BestW (n s : Nat) (g st x : Int) (d : PyData) : Prop := (d = .none ∧ ¬ OkM n s g st x 0) ∨ ∃ m : Int, 0 ≤ m ∧ OkM n s g st x m ∧ ¬ OkM n s g st x (m + 1) ∧ d = .int (Lw n s g st (x + m))
theorem ok_uniq (h : s + 2 ≤ n) (hg : 1 ≤ g) {x m j : Int} (a : OkM n s g st x m) (b : ¬ OkM n s g st x (m + 1)) (a' : OkM n s g st x j) (b' : ¬ OkM n s g st x (j + 1)) : m = j := by
  rcases Int.lt_trichotomy m j with e | e | e
  · exact absurd (a'.anti h hg (show m + 1 ≤ j by omega)) b
  · exact e
  · exact absurd (a.anti h hg (show j + 1 ≤ m by omega)) b'
theorem BestW.uniq (h : s + 2 ≤ n) (hg : 1 ≤ g) {x : Int} {d e : PyData} (a : BestW n s g st x d) (b : BestW n s g st x e) : d = e := by
  rcases a with ⟨rfl, a⟩ | ⟨m, m0, a, a1, rfl⟩ <;> rcases b with ⟨rfl, b⟩ | ⟨j, j0, b, b1, rfl⟩
  · rfl
  · exact absurd (b.anti h hg j0) a
  · exact absurd (a.anti h hg m0) b
  · rw [ok_uniq h hg a a1 b b1]
def MarW (n s : Nat) (g st x w : Int) (d : PyData) : Prop := (d = .none ∧ ¬ HasM n s g st x w 0) ∨ ∃ m : Int, 0 ≤ m ∧ HasM n s g st x w m ∧ ¬ HasM n s g st x w (m + 1) ∧ d = .int m
theorem MarW.uniq (h : s + 2 ≤ n) (hg : 1 ≤ g) {x w : Int} {d e : PyData} (a : MarW n s g st x w d) (b : MarW n s g st x w e) : d = e := by
  rcases a with ⟨rfl, a⟩ | ⟨m, m0, a, a1, rfl⟩ <;> rcases b with ⟨rfl, b⟩ | ⟨j, j0, b, b1, rfl⟩
  · rfl
  · exact absurd (b.anti h hg j0) a
  · exact absurd (a.anti h hg m0) b
  · rcases Int.lt_trichotomy m j with e | e | e
    · exact absurd (b.anti h hg (show m + 1 ≤ j by omega)) a1
    · rw [e]
    · exact absurd (a.anti h hg (show j + 1 ≤ m by omega)) b1
theorem mar_of (h : s + 2 ≤ n) (hs : 1 ≤ s) {w lo hi x : Int} (c : Clk g w st) (m1 : Mx (loL n s g w st) lo) (m2 : Mi (hiL n s g w st) hi) :
    MarW n s g st x w (if lo ≤ x ∧ x ≤ hi then .int (if x - lo ≤ hi - x then x - lo else hi - x) else .none) := by
  have a : ∀ y, lo ≤ y ↔ w ≤ Uw n s g st y := fun y => lo_Uw h hs c m1
  have b : ∀ y, y ≤ hi ↔ Lw n s g st y ≤ w := fun y => hi_Lw h c m2
  unfold MarW HasM
  by_cases e : lo ≤ x ∧ x ≤ hi
  · rw [if_pos e]
    refine .inr ⟨_, ?_, ⟨(b _).mp ?_, (a _).mp ?_⟩, fun z => ?_, rfl⟩
    · split <;> omega
    · split <;> omega
    · split <;> omega
    · have z1 := (b _).mpr z.1
      have z2 := (a _).mpr z.2
      revert z1 z2
      split <;> omega
  · rw [if_neg e]
    refine .inl ⟨rfl, fun z => e ?_⟩
    rw [Int.add_zero, Int.sub_zero] at z
    exact ⟨(a _).mpr z.2, (b _).mpr z.1⟩
/-- the margin of the best wait -/
theorem best_mar (h : s + 2 ≤ n) (hg : 1 ≤ g) {x m : Int} (m0 : 0 ≤ m) (a : OkM n s g st x m) (b : ¬ OkM n s g st x (m + 1)) : MarW n s g st x (Lw n s g st (x + m)) (.int m) :=
  .inr ⟨m, m0, ⟨Int.le_refl _, a⟩, fun z => b z.ok, rfl⟩
end
def mCheckFrom : Mn := fun ds R => ∃ l x : Int, ds = [.int l, .int x] ∧ l ≤ x ∧ R .none
theorem isNo_optP (a b : Int) : isNo (optP a b) = !decide (a ≤ b) := by
  unfold optP
  by_cases h : a ≤ b
  · rw [if_pos h, decide_eq_true h]; rfl
  · rw [if_neg h, decide_eq_false h]; rfl
theorem optP_pos {a b : Int} (h : a ≤ b) : optP a b = .tuple [.int a, .int b] := if_pos h
theorem ok_zero {n s : Nat} {g st x : Int} : OkM n s g st x 0 ↔ Lw n s g st x ≤ Uw n s g st x := by
  unfold OkM
  rw [Int.add_zero, Int.sub_zero]
theorem ok_top {n s : Nat} {g st x : Int} (h : s + 2 ≤ n) (hg : 1 ≤ g) : ¬ OkM n s g st x x := fun z => by
  have a := Lw_nn (g := g) (st := st) h (x + x)
  have b := Uw_le (g := g) (st := st) h (x - x)
  unfold OkM at z
  rw [Int.sub_self, Int.zero_ediv] at b
  rw [Int.sub_self] at z
  omega
theorem mar_ex {n s : Nat} {g w st : Int} (x : Int) (h : s + 2 ≤ n) (hs : 1 ≤ s) (c : Clk g w st) : ∃ D, MarW n s g st x w D := by
  obtain ⟨lo, mlo⟩ := lo_ex g w st h
  obtain ⟨hi, mhi⟩ := hi_ex g w st h
  exact ⟨_, mar_of h hs c mlo mhi⟩
theorem best_ex {n s : Nat} {g st x : Int} (h : s + 2 ≤ n) (hg : 1 ≤ g) (hx : 0 ≤ x) : ∃ D, BestW n s g st x D := by
  by_cases o : OkM n s g st x 0
  · have key : ∀ k : Nat, ¬ OkM n s g st x k → ∃ m : Int, 0 ≤ m ∧ OkM n s g st x m ∧ ¬ OkM n s g st x (m + 1) := fun k => by
      induction k with
      | zero => exact fun c => absurd o c
      | succ k ih =>
        intro c
        by_cases c2 : OkM n s g st x k
        · exact ⟨k, by omega, c2, c⟩
        · exact ih c2
    obtain ⟨m, m0, a, b⟩ := key x.toNat (by rw [show ((x.toNat : Nat) : Int) = x by omega]; exact ok_top h hg)
    exact ⟨_, .inr ⟨m, m0, a, b, rfl⟩⟩
  · exact ⟨_, .inl ⟨rfl, o⟩⟩
theorem OkM.lt {n s : Nat} {g st x m : Int} (h : s + 2 ≤ n) (hg : 1 ≤ g) (o : OkM n s g st x m) : m < x :=
  Int.not_le.mp fun c => ok_top h hg (o.anti h hg c)
theorem mar_shw {n s : Nat} {g st x w : Int} {D : PyData} (h : s + 2 ≤ n) (hg : 1 ≤ g) (hx : x < 2 ^ 230) (m : MarW n s g st x w D) : Shw D := by
  rcases m with ⟨rfl, _⟩ | ⟨m, m0, a, b, rfl⟩
  · exact shw2 (s2_1 (s1_0 s0_non))
  · have := a.ok.lt h hg
    exact shw2 (s2_1 (s1_0 (s0_int (by omega))))
theorem best_shw {n s : Nat} {g st x : Int} {D : PyData} (h : s + 2 ≤ n) (hg : 1 ≤ g) (hx : x < 2 ^ 230) (x0 : 0 ≤ x) (m : BestW n s g st x D) : Shw D := by
  rcases m with ⟨rfl, _⟩ | ⟨m, m0, a, b, rfl⟩
  · exact shw2 (s2_1 (s1_0 s0_non))
  · have l := a.lt h hg
    have o : Lw n s g st (x + m) ≤ Uw n s g st (x - m) := a
    have u := Uw_le (g := g) (st := st) h (x - m)
    have p := Lw_nn (g := g) (st := st) h (x + m)
    have q : (x - m) / g ≤ x - m := Int.ediv_le_self _ (by omega)
    exact shw2 (s2_1 (s1_0 (s0_int (by omega))))
end PL
/-! PS3: sums of quotients; the first number at risk -/
namespace PL
open PySem PySem.Spec PyProof.Rows L2 Evl SB PW
def sumR : Nat → (Nat → Int) → Int
  | 0, _ => 0
  | n + 1, h => sumR n h + h n
theorem sumR_congr {n : Nat} {h h' : Nat → Int} (e : ∀ k, k < n → h k = h' k) : sumR n h = sumR n h' := by
  induction n with
  | zero => rfl
  | succ n ih =>
    show sumR n h + h n = sumR n h' + h' n
    rw [ih (fun k hk => e k (by omega)), e n (by omega)]
theorem sumR_front (n : Nat) : ∀ h : Nat → Int, sumR (n + 1) h = h 0 + sumR n fun k => h (k + 1) := by
  induction n with
  | zero => intro h; show 0 + h 0 = h 0 + 0; omega
  | succ n ih =>
    intro h
    show sumR (n + 1) h + h (n + 1) = h 0 + (sumR n (fun k => h (k + 1)) + h (n + 1))
    rw [ih h]
    omega
theorem sumR_rev (n : Nat) : ∀ h : Nat → Int, sumR n h = sumR n fun k => h (n - 1 - k) := by
  induction n with
  | zero => intro h; rfl
  | succ n ih =>
    intro h
    rw [sumR_front n (fun k => h (n + 1 - 1 - k))]
    show sumR n h + h n = _
    rw [ih h, show n + 1 - 1 - 0 = n by omega]
    have : sumR n (fun k => h (n - 1 - k)) = sumR n fun k => h (n + 1 - 1 - (k + 1)) := sumR_congr fun k hk => by
      rw [show n + 1 - 1 - (k + 1) = n - 1 - k by omega]
    rw [this]
    omega
theorem sumR_add {n : Nat} {h h' : Nat → Int} : sumR n (fun k => h k + h' k) = sumR n h + sumR n h' := by
  induction n with
  | zero => rfl
  | succ n ih =>
    show sumR n _ + (h n + h' n) = sumR n h + h n + (sumR n h' + h' n)
    rw [ih]
    omega
theorem sumR_sub {n : Nat} {h h' : Nat → Int} : sumR n (fun k => h k - h' k) = sumR n h - sumR n h' := by
  induction n with
  | zero => rfl
  | succ n ih =>
    show sumR n _ + (h n - h' n) = sumR n h + h n - (sumR n h' + h' n)
    rw [ih]
    omega
theorem sumR_one (n : Nat) : sumR n (fun _ => 1) = n := by
  induction n with
  | zero => rfl
  | succ n ih =>
    show sumR n _ + 1 = _
    rw [ih]
    omega
theorem sumR_const (n : Nat) (c : Int) : sumR n (fun _ => c) = n * c := by
  induction n with
  | zero => show (0 : Int) = 0 * c; rw [Int.zero_mul]
  | succ n ih =>
    show sumR n _ + c = _
    rw [ih, Int.natCast_add, Int.add_mul]
    show _ = _ + 1 * c
    rw [Int.one_mul]
theorem tri_succ (n : Nat) : ((n : Int) + 1) * n / 2 = (n : Int) * (n - 1) / 2 + n := by
  have e : ((n : Int) + 1) * n = n * (n - 1) + n * 2 := by
    rw [Int.add_mul, Int.mul_sub]
    omega
  rw [e, Int.add_mul_ediv_right _ _ (by decide)]
theorem sumR_lin (n : Nat) (c : Int) : sumR n (fun k => c * k) = (n : Int) * (n - 1) / 2 * c := by
  induction n with
  | zero => show (0 : Int) = 0 * (0 - 1) / 2 * c; rw [Int.zero_mul, Int.zero_ediv, Int.zero_mul]
  | succ n ih =>
    show sumR n _ + c * n = _
    rw [ih, show ((n + 1 : Nat) : Int) - 1 = n by omega, show ((n + 1 : Nat) : Int) = (n : Int) + 1 by omega, tri_succ, Int.add_mul, Int.mul_comm c]
/-- the sum of the quotients (b + a k) / m -/
def sq (n : Nat) (m a b : Int) : Int := sumR n fun k => (b + a * k) / m
theorem sq_red {n : Nat} {m a b : Int} (hm : 1 ≤ m) : sq n m a b = (n : Int) * (n - 1) / 2 * (a / m) + n * (b / m) + sq n m (a % m) (b % m) := by
  unfold sq
  have : ∀ k : Nat, (b + a * k) / m = (a / m * k + b / m) + (b % m + a % m * k) / m := fun k => by
    have e1 := Int.emod_add_mul_ediv a m
    have e2 := Int.emod_add_mul_ediv b m
    have e : b + a * k = (b % m + a % m * k) + m * (a / m * k + b / m) := by
      rw [Int.mul_add, ← Int.mul_assoc]
      generalize a % m = r at *
      generalize a / m = q at *
      generalize b % m = r2 at *
      generalize b / m = q2 at *
      rw [← e1, ← e2, Int.add_mul]
      omega
    rw [e, Int.add_mul_ediv_left _ _ (by omega)]
    omega
  rw [sumR_congr (fun k _ => this k), sumR_add, sumR_add, sumR_lin, sumR_const]
theorem sq_zero {n : Nat} {m a b : Int} (ha : 0 ≤ a) (hb : 0 ≤ b) (h : a * n + b < m) : sq n m a b = 0 := by
  unfold sq
  rw [sumR_congr (h' := fun _ => 0) fun k hk => ?_]
  · rw [sumR_const, Int.mul_zero]
  · have : a * k ≤ a * n := Int.mul_le_mul_of_nonneg_left (by omega) ha
    have := Int.mul_nonneg ha (show 0 ≤ (k : Int) by omega)
    exact Int.ediv_eq_zero_of_lt (by omega) (by omega)
/-- as points below a line, counted along the other axis -/
theorem sq_swap {m a b : Int} (ha : 1 ≤ a) (am : a < m) (hb : 0 ≤ b) (bm : b < m) (n : Nat) : sq n m a b = sumR ((a * n + b) / m).toNat fun j => (a * n + b - m * (j + 1)) / a := by
  induction n with
  | zero =>
    have : (a * ((0 : Nat) : Int) + b) / m = 0 := by
      show (a * 0 + b) / m = 0
      rw [Int.mul_zero, Int.zero_add]
      exact Int.ediv_eq_zero_of_lt hb bm
    rw [this]
    rfl
  | succ n ih =>
    show sq n m a b + (b + a * n) / m = _
    rw [ih]
    have an : 0 ≤ a * (n : Int) := Int.mul_nonneg (by omega) (by omega)
    have e1 : a * ((n + 1 : Nat) : Int) = a * n + a := by
      rw [Int.natCast_add, Int.mul_add]
      show _ + a * 1 = _
      rw [Int.mul_one]
    rw [e1]
    generalize a * (n : Int) = y at *
    have d1 := Int.emod_add_mul_ediv (y + b) m
    have r1 := Int.emod_nonneg (y + b) (show m ≠ 0 by omega)
    have r2 := Int.emod_lt_of_pos (y + b) (show 0 < m by omega)
    have q0 : 0 ≤ (y + b) / m := Int.ediv_nonneg (by omega) (by omega)
    rw [show b + y = y + b by omega]
    obtain ⟨N, hN⟩ : ∃ N : Nat, (y + b) / m = N := ⟨((y + b) / m).toNat, by omega⟩
    rw [hN] at d1 ⊢
    have step : ∀ j : Nat, (y + a + b - m * (j + 1)) / a = (y + b - m * (j + 1)) / a + 1 := fun j => by
      rw [show y + a + b - m * ((j : Int) + 1) = (y + b - m * ((j : Int) + 1)) + 1 * a by omega, Int.add_mul_ediv_right _ _ (by omega)]
    have up : sumR N (fun j => (y + a + b - m * (j + 1)) / a) = sumR N (fun j => (y + b - m * (j + 1)) / a) + N := by
      rw [sumR_congr (fun j _ => step j), sumR_add, sumR_one]
    rw [show ((N : Int)).toNat = N by omega]
    rcases Int.lt_or_le ((y + b) % m + a) m with c | c
    · have : (y + a + b) / m = N := by
        rw [show y + a + b = ((y + b) % m + a) + m * N by omega, Int.add_mul_ediv_left _ _ (by omega), Int.ediv_eq_zero_of_lt (by omega) c]
        omega
      rw [this, show ((N : Int)).toNat = N by omega, up]
    · have : (y + a + b) / m = (N + 1 : Nat) := by
        have e3 : m * ((N + 1 : Nat) : Int) = m * N + m := by
          rw [Int.natCast_add, Int.mul_add]
          show _ + m * 1 = _
          rw [Int.mul_one]
        rw [show y + a + b = ((y + b) % m + a - m) + m * ((N + 1 : Nat) : Int) by omega, Int.add_mul_ediv_left _ _ (by omega), Int.ediv_eq_zero_of_lt (by omega) (by omega)]
        omega
      rw [this, show (((N + 1 : Nat) : Int)).toNat = N + 1 by omega]
      show _ = sumR N (fun j => (y + a + b - m * (j + 1)) / a) + (y + a + b - m * ((N : Int) + 1)) / a
      have z : (y + a + b - m * ((N : Int) + 1)) / a = 0 := by
        rw [Int.mul_add, Int.mul_one]
        exact Int.ediv_eq_zero_of_lt (by omega) (by omega)
      rw [up, z]
      omega
theorem sq_turn {m a b : Int} (ha : 1 ≤ a) (am : a < m) (hb : 0 ≤ b) (bm : b < m) (n : Nat) : sq n m a b = sq ((a * n + b) / m).toNat a m ((a * n + b) % m) := by
  rw [sq_swap ha am hb bm, sumR_rev]
  unfold sq
  have an : 0 ≤ a * (n : Int) := Int.mul_nonneg (by omega) (by omega)
  generalize a * (n : Int) = y at *
  have d1 := Int.emod_add_mul_ediv (y + b) m
  have q0 : 0 ≤ (y + b) / m := Int.ediv_nonneg (by omega) (by omega)
  refine sumR_congr fun k hk => ?_
  congr 1
  have : (((((y + b) / m).toNat - 1 - k : Nat) : Int)) + 1 = (y + b) / m - k := by omega
  rw [this, Int.mul_sub]
  omega
/-! the numbers at risk -/
def offK (g u ph : Int) (k : Nat) : Int := (ph - k * u) % g
/-- how many of the first numbers have an offset that is not between two bounds -/
def badN (g u ph lo hi : Int) (n : Nat) : Int := sumR n fun k => if lo ≤ offK g u ph k ∧ offK g u ph k ≤ hi then 0 else 1
theorem one_quot {g x lo hi : Int} (hg : 1 ≤ g) (l0 : 0 ≤ lo) (lh : lo ≤ hi) (hg2 : hi < g) : (x - lo) / g - (x - hi - 1) / g = if lo ≤ x % g ∧ x % g ≤ hi then 1 else 0 := by
  have d := Int.emod_add_mul_ediv x g
  have r0 := Int.emod_nonneg x (show g ≠ 0 by omega)
  have r1 := Int.emod_lt_of_pos x (show 0 < g by omega)
  generalize x % g = r at *
  generalize x / g = q at *
  subst d
  rw [show r + g * q - lo = (r - lo) + g * q by omega, show r + g * q - hi - 1 = (r - hi - 1) + g * q by omega, Int.add_mul_ediv_left _ _ (by omega), Int.add_mul_ediv_left _ _ (by omega)]
  have neg : ∀ z : Int, -g ≤ z → z < 0 → z / g = -1 := fun z h1 h2 => by
    rw [show z = (z + g) + g * (-1) by omega, Int.add_mul_ediv_left _ _ (by omega), Int.ediv_eq_zero_of_lt (by omega) (by omega)]
    omega
  have pos : ∀ z : Int, 0 ≤ z → z < g → z / g = 0 := fun z h1 h2 => Int.ediv_eq_zero_of_lt h1 h2
  by_cases c1 : lo ≤ r
  · by_cases c2 : r ≤ hi
    · rw [if_pos ⟨c1, c2⟩, pos (r - lo) (by omega) (by omega), neg (r - hi - 1) (by omega) (by omega)]
      omega
    · rw [if_neg (by omega), pos (r - lo) (by omega) (by omega), pos (r - hi - 1) (by omega) (by omega)]
      omega
  · rw [if_neg (by omega), neg (r - lo) (by omega) (by omega), neg (r - hi - 1) (by omega) (by omega)]
    omega
theorem offK_by {g u ph : Int} (hg : 1 ≤ g) (k : Nat) : (ph + -u % g * k) % g = offK g u ph k := by
  unfold offK
  have d := Int.emod_add_mul_ediv (-u) g
  generalize -u % g = a at *
  generalize -u / g = q at d
  have e : a = -u - g * q := by omega
  have h : ph + a * k = (ph - k * u) + g * (-(q * k)) := by
    rw [e, Int.sub_mul, Int.mul_neg, ← Int.mul_assoc, Int.neg_mul, Int.mul_comm u]
    omega
  rw [h, Int.add_mul_emod_self_left]
theorem badN_sq {g u ph lo hi : Int} (hg : 1 ≤ g) (l0 : 0 ≤ lo) (lh : lo ≤ hi) (hg2 : hi < g) (n : Nat) : badN g u ph lo hi n = n - (sq n g (-u % g) (ph - lo) - sq n g (-u % g) (ph - hi - 1)) := by
  unfold badN sq
  rw [← sumR_sub]
  have : (n : Int) = sumR n fun _ => 1 := (sumR_one n).symm
  rw [this, ← sumR_sub]
  refine sumR_congr fun k hk => ?_
  have q := one_quot (x := ph + -u % g * k) hg l0 lh hg2
  rw [offK_by hg] at q
  rw [show ph - lo + -u % g * (k : Int) = ph + -u % g * k - lo by omega, show ph - hi - 1 + -u % g * (k : Int) = ph + -u % g * k - hi - 1 by omega, q]
  split <;> omega
theorem badN_none {g u ph lo hi : Int} (h : ¬ lo ≤ hi) (n : Nat) : badN g u ph lo hi n = n := by
  unfold badN
  rw [sumR_congr (h' := fun _ => 1) fun k _ => if_neg (by omega), sumR_one]
def Risk (g u ph lo hi : Int) (k : Nat) : Prop := ¬ (lo ≤ offK g u ph k ∧ offK g u ph k ≤ hi)
theorem badN_nn {g u ph lo hi : Int} (n : Nat) : 0 ≤ badN g u ph lo hi n := by
  unfold badN
  induction n with
  | zero => exact Int.le_refl _
  | succ n ih =>
    show 0 ≤ sumR n _ + (if lo ≤ offK g u ph n ∧ offK g u ph n ≤ hi then 0 else 1)
    split <;> omega
theorem badN_le {g u ph lo hi : Int} (n : Nat) : badN g u ph lo hi n ≤ n := by
  unfold badN
  induction n with
  | zero => exact Int.le_refl _
  | succ n ih =>
    show sumR n _ + (if lo ≤ offK g u ph n ∧ offK g u ph n ≤ hi then 0 else 1) ≤ ((n + 1 : Nat) : Int)
    split <;> omega
theorem badN_zero {g u ph lo hi : Int} (n : Nat) : badN g u ph lo hi n = 0 ↔ ∀ k, k < n → ¬ Risk g u ph lo hi k := by
  induction n with
  | zero => exact ⟨fun _ k hk => absurd hk (Nat.not_lt_zero k), fun _ => rfl⟩
  | succ n ih =>
    have e : badN g u ph lo hi (n + 1) = badN g u ph lo hi n + (if lo ≤ offK g u ph n ∧ offK g u ph n ≤ hi then 0 else 1) := rfl
    have nn := badN_nn (g := g) (u := u) (ph := ph) (lo := lo) (hi := hi) n
    constructor
    · intro h k hk r
      rw [e] at h
      by_cases c : lo ≤ offK g u ph n ∧ offK g u ph n ≤ hi
      · rw [if_pos c] at h
        rcases Nat.lt_or_ge k n with l | l
        · exact ih.mp (by omega) k l r
        · rw [show k = n by omega] at r
          exact r c
      · rw [if_neg c] at h
        omega
    · intro h
      rw [e, if_pos (Classical.byContradiction fun c => h n (by omega) c), ih.mpr fun k hk => h k (by omega)]
      rfl
/-- the offsets come again -/
theorem offK_per {g u ph : Int} (hg : 1 ≤ g) (k : Nat) : offK g u ph (k % (g / (Nat.gcd g.natAbs u.natAbs : Nat)).toNat) = offK g u ph k := by
  obtain ⟨c, hc⟩ := gcd_dv (g := g) (u := u)
  have mb := gcd_bd (u := u) hg
  have mu : ((Nat.gcd g.natAbs u.natAbs : Nat) : Int) ∣ u := by
    have := Int.natCast_dvd_natCast.mpr (Nat.gcd_dvd_right g.natAbs u.natAbs)
    refine Int.dvd_trans this ?_
    rcases Int.natAbs_eq u with h | h
    · rw [← h]; exact Int.dvd_refl _
    · exact ⟨-1, by omega⟩
  obtain ⟨v, hv⟩ := mu
  generalize ((Nat.gcd g.natAbs u.natAbs : Nat) : Int) = m at *
  have c1 : 1 ≤ c := by
    refine Classical.byContradiction fun z => ?_
    have : m * c ≤ m * 0 := Int.mul_le_mul_of_nonneg_left (by omega) (by omega)
    omega
  have gc : g / m = c := by rw [hc]; exact Int.mul_ediv_cancel_left _ (by omega)
  rw [gc]
  have dm := Nat.div_add_mod k c.toNat
  unfold offK
  have ek : (k : Int) = c * (k / c.toNat : Nat) + (k % c.toNat : Nat) := by
    have : ((c.toNat * (k / c.toNat) + k % c.toNat : Nat) : Int) = k := by rw [dm]
    rw [Int.natCast_add, Int.natCast_mul, show ((c.toNat : Nat) : Int) = c by omega] at this
    exact this.symm
  generalize ((k % c.toNat : Nat) : Int) = r at *
  generalize ((k / c.toNat : Nat) : Int) = q at *
  have e : ph - (k : Int) * u = (ph - r * u) + g * (-(q * v)) := by
    rw [ek, Int.add_mul]
    have : c * q * u = g * (q * v) := by
      rw [hc, hv]
      have : c * q * (m * v) = m * c * (q * v) := by
        rw [Int.mul_comm c q, Int.mul_assoc q c, Int.mul_comm c (m * v), Int.mul_assoc m v c, Int.mul_comm v c, ← Int.mul_assoc m c v, ← Int.mul_assoc q, Int.mul_comm q (m * c), Int.mul_assoc]
      exact this
    rw [this, Int.mul_neg]
    omega
  rw [e, Int.add_mul_emod_self_left]
/-- what a first number at risk is -/
def FirstR (B : Nat → Prop) (D : PyData) : Prop := (D = .none ∧ ∀ k, ¬ B k) ∨ ∃ k : Nat, B k ∧ (∀ j, j < k → ¬ B j) ∧ D = .int k
theorem FirstR.uniq {B : Nat → Prop} {D E : PyData} (a : FirstR B D) (b : FirstR B E) : D = E := by
  rcases a with ⟨rfl, a⟩ | ⟨k, a1, a2, rfl⟩ <;> rcases b with ⟨rfl, b⟩ | ⟨j, b1, b2, rfl⟩
  · rfl
  · exact absurd b1 (a j)
  · exact absurd a1 (b k)
  · rcases Nat.lt_trichotomy k j with c | c | c
    · exact absurd a1 (b2 k c)
    · rw [c]
    · exact absurd b1 (a2 j c)
theorem FirstR.iff {B C : Nat → Prop} (e : ∀ k, B k ↔ C k) {D : PyData} (a : FirstR B D) : FirstR C D := by
  rcases a with ⟨h, a⟩ | ⟨k, a1, a2, h⟩
  · exact .inl ⟨h, fun k c => a k ((e k).mpr c)⟩
  · exact .inr ⟨k, (e k).mp a1, fun j hj c => a2 j hj ((e j).mpr c), h⟩
theorem FirstR.ex (B : Nat → Prop) : ∃ D, FirstR B D := by
  by_cases h : ∃ k, B k
  · obtain ⟨k, hk⟩ := h
    induction k using Nat.strongRecOn with
    | ind k ih =>
      by_cases c : ∃ j, j < k ∧ B j
      · obtain ⟨j, hj, bj⟩ := c
        exact ih j hj bj
      · exact ⟨_, .inr ⟨k, hk, fun j hj b => c ⟨j, hj, b⟩, rfl⟩⟩
  · exact ⟨_, .inl ⟨rfl, fun k hk => h ⟨k, hk⟩⟩⟩
theorem risk_shw {g u ph lo hi : Int} {D : PyData} (hg : 1 ≤ g) (g2 : g < 2 ^ 200) (f : FirstR (Risk g u ph lo hi) D) : Shw D := by
  rcases f with ⟨rfl, _⟩ | ⟨k, a, b, rfl⟩
  · exact shw2 (s2_1 (s1_0 s0_non))
  · refine shw2 (s2_1 (s1_0 (s0_int ?_)))
    have mb := gcd_bd (u := u) hg
    have l : (k : Int) < g := by
      refine Classical.byContradiction fun c => ?_
      have gm : g / (Nat.gcd g.natAbs u.natAbs : Nat) ≤ g := Int.ediv_le_self _ (by omega)
      have g1 : 1 ≤ g / (Nat.gcd g.natAbs u.natAbs : Nat) := by
        obtain ⟨c2, hc⟩ := gcd_dv (g := g) (u := u)
        have : 0 < g / (Nat.gcd g.natAbs u.natAbs : Nat) := Int.ediv_pos_of_pos_of_dvd (by omega) (by omega) ⟨c2, hc⟩
        omega
      have lt : k % (g / (Nat.gcd g.natAbs u.natAbs : Nat)).toNat < k := by
        have := Nat.mod_lt k (show 0 < (g / (Nat.gcd g.natAbs u.natAbs : Nat)).toNat by omega)
        omega
      refine b _ lt fun z => a ?_
      rw [offK_per hg] at z
      exact z
    omega
def mSumQ : Mn := fun ds R => ∃ (n m a b : Int), ds = [.int n, .int m, .int a, .int b] ∧ 0 ≤ n ∧ n < 2 ^ 100 ∧ 1 ≤ m ∧ m < 2 ^ 100 ∧ 0 ≤ a ∧ a < 2 ^ 100 ∧ -(2 ^ 238) < b ∧ b < 2 ^ 238 ∧ R (.int (sq n.toNat m a b))
def mCount : Mn := fun ds R => ∃ (b : Nat) (p : Pa) (s : Nat) (g w st x ph lo hi n : Int), ds = [shD b p s, rcD g w st, .int x, .int ph, .int n] ∧ ShOk b s ∧ RcOk g w st ∧ 1 ≤ x ∧ x < 2 ^ 220 ∧ 0 ≤ ph ∧ ph < g ∧ 0 ≤ n ∧ n < 2 ^ 100 ∧ Mx (0 :: gdL (sz b p s) s g w st x) lo ∧ Mi ((g - 1) :: gdH (sz b p s) s g w st x) hi ∧ R (.int (badN g (sz b p s * x) ph lo hi n.toNat))
def mFirstR : Mn := fun ds R => ∃ (b : Nat) (p : Pa) (s : Nat) (g w st x ph lo hi : Int) (D : PyData), ds = [shD b p s, rcD g w st, .int x, .int ph] ∧ ShOk b s ∧ RcOk g w st ∧ 1 ≤ x ∧ x < 2 ^ 220 ∧ 0 ≤ ph ∧ ph < g ∧ Mx (0 :: gdL (sz b p s) s g w st x) lo ∧ Mi ((g - 1) :: gdH (sz b p s) s g w st x) hi ∧ FirstR (Risk g (sz b p s * x) ph lo hi) D ∧ R D
def mTextAt : Mn := fun ds R => ∃ (b : Nat) (p : Pa) (s : Nat) (g w st x ph : Int), ds = [shD b p s, rcD g w st, .int x, .int ph] ∧ ShOk b s ∧ RcOk g w st ∧ 1 ≤ x ∧ 0 ≤ ph ∧ ph < g ∧ R .none
theorem per_bd {g u : Int} (hg : 1 ≤ g) : 1 ≤ g / (Nat.gcd g.natAbs u.natAbs : Nat) ∧ g / (Nat.gcd g.natAbs u.natAbs : Nat) ≤ g := by
  have mb := gcd_bd (u := u) hg
  refine ⟨?_, Int.ediv_le_self _ (by omega)⟩
  have : 0 < g / (Nat.gcd g.natAbs u.natAbs : Nat) := Int.ediv_pos_of_pos_of_dvd (by omega) (by omega) gcd_dv
  omega
theorem risk_none {g u ph lo hi : Int} (hg : 1 ≤ g) (h : badN g u ph lo hi (g / (Nat.gcd g.natAbs u.natAbs : Nat)).toNat = 0) (k : Nat) : ¬ Risk g u ph lo hi k := fun r => by
  have p := per_bd (u := u) hg
  refine (badN_zero _).mp h (k % (g / (Nat.gcd g.natAbs u.natAbs : Nat)).toNat) (Nat.mod_lt _ (by omega)) ?_
  unfold Risk at r ⊢
  rw [offK_per hg]
  exact r
theorem risk_some {g u ph lo hi : Int} {k : Nat} (h0 : badN g u ph lo hi k = 0) (h1 : ¬ badN g u ph lo hi (k + 1) = 0) : FirstR (Risk g u ph lo hi) (.int k) := by
  have a := (badN_zero _).mp h0
  refine .inr ⟨k, Classical.byContradiction fun c => h1 ((badN_zero _).mpr fun j hj => ?_), a, rfl⟩
  rcases Nat.lt_or_ge j k with l | l
  · exact a j l
  · rw [show j = k by omega]
    exact c
theorem atI_range {g v : Int} {h : Nat → PyData} (v0 : 0 ≤ v) (vg : v < g) : atI ((List.range g.toNat).map h) v = some (h v.toNat) := by
  obtain ⟨n, rfl⟩ : ∃ n : Nat, v = n := ⟨v.toNat, by omega⟩
  refine atI_nat ?_
  rw [List.getElem?_map, List.getElem?_range (by omega)]
  rfl
end PL
/-! PS4: a receiver whose looks lie in their windows reads right -/
namespace PL
open PySem PySem.Spec PyProof.Rows L2 Evl SB PW
theorem at_cnt {sg : List Int} (h : Asc sg) {t c : Int} (hc : sg[cnt sg t]? = some c) : cnt sg c = cnt sg t + 1 := by
  have lo : cnt sg t < cnt sg c := cnt_up h hc (Int.le_refl c)
  refine Nat.le_antisymm (Nat.le_of_not_lt fun z => ?_) lo
  have lt : cnt sg t + 1 < sg.length := Nat.lt_of_lt_of_le z (cnt_le sg c)
  have e : sg[cnt sg t + 1]? = some sg[cnt sg t + 1] := List.getElem?_eq_getElem lt
  have l := (at_le h e c).mpr z
  have lt0 : cnt sg t < sg.length := (List.getElem?_eq_some_iff.mp hc).1
  have hcv : sg[cnt sg t] = c := (List.getElem?_eq_some_iff.mp hc).2
  have := List.pairwise_iff_getElem.mp h (cnt sg t) (cnt sg t + 1) lt0 lt (by omega)
  omega
theorem lv_cnt {sg : List Int} {t u : Int} (h : cnt sg u = cnt sg t + 1) : lv sg u = 1 - lv sg t := by
  unfold lv
  omega
theorem nxt_self {g B look : Int} (h0 : B ≤ look) (h1 : look < B + g) : nxt g B look = look := by
  unfold nxt
  rw [Int.emod_eq_of_lt (by omega) (by omega)]
  omega
theorem nxt_shift {g B look : Int} (k : Int) : nxt g B (look + k * g) = nxt g B look := by
  unfold nxt
  rw [show look + k * g - B = (look - B) + k * g by omega, Int.add_mul_emod_self_right]
/-- the start look of a frame that begins on a quiet line -/
theorem rds_to {L : Ln} {B look : Int} (q : ∀ t, look ≤ t → t < B → lv L.sg t = 1) (lb : look < B + L.g) (z : lv L.sg (nxt L.g B look) = 0) : rds L look = rds L (nxt L.g B look) := by
  by_cases c : B ≤ look
  · rw [nxt_self c lb]
  · have l1 := q look (Int.le_refl _) (by omega)
    have ge := nxt_ge (g := L.g) (c := B) (look := look) L.g1
    have lt := nxt_lt (g := L.g) (c := B) (look := look) L.g1
    have up : cnt L.sg look < cnt L.sg (nxt L.g B look) := lv_ne (by omega) (by rw [l1, z]; decide)
    obtain ⟨ch, hch⟩ : ∃ ch, L.sg[cnt L.sg look]? = some ch := ⟨_, List.getElem?_eq_getElem (Nat.lt_of_lt_of_le up (cnt_le _ _))⟩
    have gt := next_gt L.asc hch
    have le : ch ≤ nxt L.g B look := (at_le L.asc hch _).mpr up
    have l0 : lv L.sg ch = 0 := by rw [lv_cnt (at_cnt L.asc hch), l1]; rfl
    have geB : B ≤ ch := Int.not_lt.mp fun x => by
      rw [q ch (by omega) x] at l0
      cases l0
    rw [rds_next (by rw [l1]; decide) hch]
    obtain ⟨k, hk⟩ := nxt_grid (g := L.g) (c := B) (look := look) L.g1
    obtain ⟨j, hj⟩ := nxt_grid (g := L.g) (c := ch) (look := look) L.g1
    have a := nxt_ge (g := L.g) (c := ch) (look := look) L.g1
    have b := nxt_lt (g := L.g) (c := ch) (look := look) L.g1
    have : nxt L.g ch look = nxt L.g B look := grid_uniq L.g1 (k := k - j) a b le (by omega) (by rw [hk, hj, Int.sub_mul]; omega)
    rw [this]
theorem rds_quiet {L : Ln} {look : Int} (q : ∀ t, look ≤ t → lv L.sg t = 1) : rds L look = [] := by
  have l1 := q look (Int.le_refl _)
  refine rds_end (by rw [l1]; decide) ?_
  cases h : L.sg[cnt L.sg look]? with
  | none => rfl
  | some c =>
    have l0 : lv L.sg c = 0 := by rw [lv_cnt (at_cnt L.asc h), l1]; rfl
    rw [q c (Int.le_of_lt (next_gt L.asc h))] at l0
    cases l0
theorem read_one {L : Ln} {s x : Int} (h0 : 0 ≤ x) (h1 : x < 2 ^ L.b) (z : lv L.sg s = 0) (hl : lvs L s = frm L.b L.p L.s x) : rds L s = (s, ("good" : Str), x) :: rds L (lk L s (L.n - 1) + L.g) := by
  rw [rds_0 z]
  have n3 := L.n_bd
  have z0 : lv L.sg (lk L s 0) = 0 := by
    have := lvs_at (L := L) (start := s) (i := 0) (by have := L.s1; omega)
    rw [hl] at this
    have e : (frm L.b L.p L.s x)[0]? = some 0 := rfl
    rw [e] at this
    exact (Option.some.inj this).symm
  have f : fram L s = ⟨s, lk L s (L.n - 1), "good", x⟩ := by
    unfold fram
    rw [if_neg (by rw [z0]; decide), hl, out_frm L.s1 h0 h1]
    rfl
  rw [f]
  have b : bad ("good" : Str) = false := by decide +kernel
  show (rdg ⟨s, lk L s (L.n - 1), "good", x⟩).toList ++ (if bad ("good" : Str) = true then _ else _) = _
  rw [b, if_neg Bool.false_ne_true]
  have d : ¬ (("good" : Str) = "dropped") := by decide +kernel
  unfold rdg
  rw [if_neg d]
  rfl
/-- a number and the ticks at which its levels begin -/
abbrev Rw := Int × (Nat → Int)
def RowsOk (L : Ln) : Int → List Rw → Prop
  | a, [] => ∀ t, a ≤ t → lv L.sg t = 1
  | a, r :: rs => a ≤ r.2 0 ∧ (∀ t, a ≤ t → t < r.2 0 → lv L.sg t = 1) ∧ (∀ j, j < L.n → ∀ t, r.2 j ≤ t → t < r.2 (j + 1) → lv L.sg t = (frm L.b L.p L.s r.1).getD j 1) ∧ RowsOk L (r.2 L.n) rs
/-- the looks of a start look so far behind the begin lie in their windows -/
def WinOff (L : Ln) (τ : Nat → Int) (off : Int) : Prop := ∀ p f l : Nat, p < L.n → ((p < L.n - L.s ∧ f = p ∧ l = p + 1) ∨ (L.n - L.s ≤ p ∧ f = L.n - L.s ∧ l = L.n)) → τ f ≤ τ 0 + off + lookI L.g L.w L.st p ∧ τ 0 + off + lookI L.g L.w L.st p < τ l
def Wins (L : Ln) (τ : Nat → Int) : Prop := ∀ off, 0 ≤ off → off < L.g → WinOff L τ off
theorem find_lev {τ : Nat → Int} {t : Int} {m : Nat} : ∀ k : Nat, τ m ≤ t → t < τ (m + k) → ∃ j, m ≤ j ∧ j < m + k ∧ τ j ≤ t ∧ t < τ (j + 1)
  | 0, h1, h2 => by rw [Nat.add_zero] at h2; omega
  | k + 1, h1, h2 => by
    by_cases c : t < τ (m + k)
    · obtain ⟨j, a, b, d⟩ := find_lev k h1 c
      exact ⟨j, a, by omega, d⟩
    · exact ⟨m + k, by omega, by omega, by omega, h2⟩
theorem frm_stop {b : Nat} {p : Pa} {s : Nat} {x : Int} {j : Nat} (h : sz b p s - s ≤ j) : (frm b p s x).getD j 1 = 1 := by
  rw [List.getD_eq_getElem?_getD]
  cases e : (frm b p s x)[j]? with
  | none => rfl
  | some y =>
    have lt := (List.getElem?_eq_some_iff.mp e).1
    rw [frm_sz] at lt
    have hsz : sz b p s = 1 + b + plen p + s := rfl
    have pl : (parL b p x).length = plen p := by
      have := frm_len b p s x
      rw [frm_sz] at this
      omega
    unfold frm at e
    rw [show j = (j - 1) + 1 by omega, List.getElem?_cons_succ, ← List.append_assoc, List.getElem?_append_right (by rw [List.length_append, bits_len]; omega), List.getElem?_replicate] at e
    split at e
    · exact (Option.some.inj e).symm
    · cases e
theorem win_lev {L : Ln} {x : Int} {τ : Nat → Int} (hl : ∀ j, j < L.n → ∀ t, τ j ≤ t → t < τ (j + 1) → lv L.sg t = (frm L.b L.p L.s x).getD j 1) {off : Int} (w : WinOff L τ off) {p : Nat} (hp : p < L.n) : lv L.sg (lk L (τ 0 + off) p) = (frm L.b L.p L.s x).getD p 1 := by
  have n3 := L.n_bd
  have e : lk L (τ 0 + off) p = τ 0 + off + lookI L.g L.w L.st p := rfl
  rw [e]
  by_cases c : p < L.n - L.s
  · obtain ⟨a, b⟩ := w p p (p + 1) hp (.inl ⟨c, rfl, rfl⟩)
    exact hl p hp _ a b
  · obtain ⟨a, b⟩ := w p (L.n - L.s) L.n hp (.inr ⟨by omega, rfl, rfl⟩)
    obtain ⟨j, j1, j2, j3, j4⟩ := find_lev (m := L.n - L.s) L.s a (by rw [show L.n - L.s + L.s = L.n by omega]; exact b)
    rw [hl j (by omega) _ j3 j4, frm_stop (show sz L.b L.p L.s - L.s ≤ j from j1), frm_stop (show sz L.b L.p L.s - L.s ≤ p by have : L.n = sz L.b L.p L.s := rfl; omega)]
theorem lvs_frm {L : Ln} {x : Int} {s : Int} (h : ∀ p, p < L.n → lv L.sg (lk L s p) = (frm L.b L.p L.s x).getD p 1) : lvs L s = frm L.b L.p L.s x := by
  refine List.ext_getElem? fun i => ?_
  by_cases c : i < L.n
  · rw [lvs_at c, h i c, List.getD_eq_getElem?_getD]
    have : i < (frm L.b L.p L.s x).length := by rw [frm_sz]; exact c
    rw [List.getElem?_eq_getElem this]
    rfl
  · rw [List.getElem?_eq_none (by rw [lvs_len]; omega), List.getElem?_eq_none (by rw [frm_sz]; exact Nat.le_of_not_lt c)]
/-- one row is read right; behind it the line is quiet up to the next begin -/
theorem row_read {L : Ln} {x : Int} {τ : Nat → Int} {look : Int} (x0 : 0 ≤ x) (x1 : x < 2 ^ L.b) (q : ∀ t, look ≤ t → t < τ 0 → lv L.sg t = 1) (lb : look < τ 0 + L.g)
    (hl : ∀ j, j < L.n → ∀ t, τ j ≤ t → t < τ (j + 1) → lv L.sg t = (frm L.b L.p L.s x).getD j 1) (w : WinOff L τ (nxt L.g (τ 0) look - τ 0)) :
    ∃ k : Int, rds L look = (nxt L.g (τ 0) look, ("good" : Str), x) :: rds L (look + k * L.g) ∧ look + k * L.g < τ L.n + L.g ∧ ∀ t, look + k * L.g ≤ t → t < τ L.n → lv L.sg t = 1 := by
  have n3 := L.n_bd
  have ge := nxt_ge (g := L.g) (c := τ 0) (look := look) L.g1
  have lt := nxt_lt (g := L.g) (c := τ 0) (look := look) L.g1
  obtain ⟨k, hk⟩ := nxt_grid (g := L.g) (c := τ 0) (look := look) L.g1
  have e0 : τ 0 + (nxt L.g (τ 0) look - τ 0) = nxt L.g (τ 0) look := by omega
  have at_ : ∀ p, p < L.n → lv L.sg (lk L (nxt L.g (τ 0) look) p) = (frm L.b L.p L.s x).getD p 1 := fun p hp => by
    have := win_lev hl w hp
    rw [e0] at this
    exact this
  have z : lv L.sg (nxt L.g (τ 0) look) = 0 := by
    obtain ⟨a, b⟩ := w 0 0 1 (by have := L.s1; omega) (.inl ⟨by have := L.s1; omega, rfl, rfl⟩)
    have w0 : 0 ≤ lookI L.g L.w L.st (0 : Nat) := by
      unfold lookI
      have := L.w0
      have := Int.mul_nonneg (show 0 ≤ L.g by have := L.g1; omega) (show 0 ≤ L.w + L.st * ((0 : Nat) : Int) by simp; omega)
      exact this
    rw [hl 0 (by have := L.s1; omega) (nxt L.g (τ 0) look) ge (by show _ < τ 1; omega)]
    rfl
  have r := read_one x0 x1 z (lvs_frm at_)
  have m1 : L.n - 1 < L.n := by have := L.s1; omega
  obtain ⟨a, b⟩ := w (L.n - 1) (L.n - L.s) L.n m1 (.inr ⟨by have := L.s1; omega, rfl, rfl⟩)
  have el : lk L (nxt L.g (τ 0) look) (L.n - 1) = τ 0 + (nxt L.g (τ 0) look - τ 0) + lookI L.g L.w L.st (L.n - 1 : Nat) := by
    rw [e0]
    rfl
  have eg : lk L (nxt L.g (τ 0) look) (L.n - 1) + L.g = look + (k + (L.w + L.st * ((L.n - 1 : Nat) : Int)) + 1) * L.g := by
    unfold lk
    rw [hk, Int.add_mul, Int.add_mul, Int.one_mul, Int.mul_comm L.g]
    omega
  refine ⟨k + (L.w + L.st * ((L.n - 1 : Nat) : Int)) + 1, ?_, ?_, ?_⟩
  · rw [rds_to q lb z, r, eg]
  · rw [← eg, el]
    omega
  · intro t h1 h2
    rw [← eg, el] at h1
    have g1 := L.g1
    obtain ⟨j, j1, j2, j3, j4⟩ := find_lev (τ := τ) (m := L.n - L.s) (t := t) L.s (by omega) (by rw [show L.n - L.s + L.s = L.n by omega]; exact h2)
    rw [hl j (by omega) _ j3 j4, frm_stop (show sz L.b L.p L.s - L.s ≤ j from j1)]
theorem rows_read {L : Ln} : ∀ (rows : List Rw) (a look : Int), RowsOk L a rows → (∀ r ∈ rows, 0 ≤ r.1 ∧ r.1 < 2 ^ L.b) → (∀ r ∈ rows, Wins L r.2) → (∀ t, look ≤ t → t < a → lv L.sg t = 1) → (∀ r, rows.head? = some r → look < r.2 0 + L.g) →
    rds L look = rows.map fun r => (nxt L.g (r.2 0) look, ("good" : Str), r.1)
  | [], a, look, h, _, _, q, _ => rds_quiet fun t ht => by
    by_cases c : a ≤ t
    · exact h t c
    · exact q t ht (by omega)
  | r :: rs, a, look, ⟨h1, h2, h3, h4⟩, hx, hw, q, lb => by
    have lb0 := lb r rfl
    have ge := nxt_ge (g := L.g) (c := r.2 0) (look := look) L.g1
    have lt := nxt_lt (g := L.g) (c := r.2 0) (look := look) L.g1
    obtain ⟨x0, x1⟩ := hx r (List.mem_cons_self ..)
    obtain ⟨k, e, l, q2⟩ := row_read x0 x1 (fun t t1 t2 => by
      by_cases c : a ≤ t
      · exact h2 t c t2
      · exact q t t1 (by omega)) lb0 h3 (hw r (List.mem_cons_self ..) _ (by omega) (by omega))
    rw [e, rows_read rs (r.2 L.n) (look + k * L.g) h4 (fun r' h' => hx r' (List.mem_cons_of_mem _ h')) (fun r' h' => hw r' (List.mem_cons_of_mem _ h')) q2 (fun r' h' => ?_), List.map_cons]
    · congr 1
      exact List.map_congr_left fun r' _ => by rw [nxt_shift]
    · cases rs with
      | nil => cases h'
      | cons r2 rs2 =>
        cases h'
        have := h4.1
        omega
/-- safe lengths put all looks into their windows -/
theorem safe_wins {L : Ln} {τ : Nat → Int} {lo hi low high : Int} (m1 : Mx (loL L.n L.s L.g L.w L.st) lo) (m2 : Mi (hiL L.n L.s L.g L.w L.st) hi) (h1 : lo ≤ low) (h2 : high ≤ hi)
    (t1 : ∀ j : Nat, j ≤ L.n → low * j ≤ τ j - τ 0) (t2 : ∀ j : Nat, j ≤ L.n - L.s → τ j - τ 0 ≤ high * j) : Wins L τ := by
  intro off o0 o1 p f l hp hc
  have n3 := L.n_bd
  have clk : Clk L.g L.w L.st := ⟨L.g1, L.w0, L.t1⟩
  have a := (lo_iff (by omega) L.s1 m1).mp h1 p f l hp hc
  have b := (hi_iff (by omega) clk m2).mp h2 p f l hp hc
  have c := t1 l (by omega)
  have d := t2 f (by omega)
  omega
/-! levels of one signal behind another -/
theorem lv_app_l {a b : List Int} {t : Int} (h : ∀ x ∈ b, t < x) : lv (a ++ b) t = lv a t := by
  unfold lv
  rw [cnt_app, cnt_non h, Nat.add_zero]
theorem lv_app_r {a b : List Int} {t : Int} (h : ∀ x ∈ a, x ≤ t) (e : a.length % 2 = 0) : lv (a ++ b) t = lv b t := by
  unfold lv
  rw [cnt_app, cnt_all h]
  omega
theorem ch_even {b : Nat} {p : Pa} {s : Nat} {x : Int} (hs : 1 ≤ s) (T : Nat → Int) : (ch (frm b p s x) T (sz b p s)).length % 2 = 0 := by
  have := ch_par (z1_frm (b := b) (p := p) (s := s) x) T (sz b p s)
  have e := frm_end (b := b) (p := p) (s := s) x hs
  rw [frm_sz] at e
  rw [e] at this
  omega
theorem lv_nil (t : Int) : lv [] t = 1 := rfl
end PL
/-! PS5: the rows of sendings and of texts -/
namespace PL
open PySem PySem.Spec PyProof.Rows L2 Evl SB PW
/-- begins that lie far enough from each other -/
def Far (d : Int) : Int → List (Int × Int) → Prop
  | _, [] => True
  | a, q :: r => a ≤ q.1 ∧ Far d (q.1 + d) r
def rowS (ln : Int) (q : Int × Int) : Rw := (q.2, fun j => q.1 + (j : Int) * ln)
theorem ch_mem {ls : List Int} {T : Nat → Int} (h : ∀ i j, i < j → T i < T j) {n : Nat} {x : Int} (hx : x ∈ ch ls T n) : ∃ i, i < n ∧ x = T i := (ch_asc h n).2 x hx
theorem sig_cons (b : Nat) (p : Pa) (s : Nat) (ln : Int) (q : Int × Int) (r : List (Int × Int)) : sig b p s ln (q :: r) = ch (frm b p s q.2) (fun i => q.1 + (i : Int) * ln) (sz b p s) ++ sig b p s ln r := by
  unfold sig
  rw [List.map_cons, List.flatten_cons]
theorem lin_lt {B ln : Int} (h : 1 ≤ ln) {i j : Nat} (ij : i < j) : B + (i : Int) * ln < B + (j : Int) * ln := by
  have : ((i : Int) + 1) * ln ≤ (j : Int) * ln := Int.mul_le_mul_of_nonneg_right (by omega) (by omega)
  rw [Int.add_mul, Int.one_mul] at this
  omega
theorem lin_le {B ln : Int} (h : 1 ≤ ln) {i j : Nat} (ij : i ≤ j) : B + (i : Int) * ln ≤ B + (j : Int) * ln := by
  have : (i : Int) * ln ≤ (j : Int) * ln := Int.mul_le_mul_of_nonneg_right (by omega) (by omega)
  omega
theorem sig_ge {b : Nat} {p : Pa} {s : Nat} {ln : Int} (hl : 1 ≤ ln) : ∀ (snd : List (Int × Int)) (a : Int), Far ((sz b p s : Nat) * ln) a snd → ∀ x ∈ sig b p s ln snd, a ≤ x
  | [], a, _, x, hx => by cases hx
  | q :: r, a, ⟨h1, h2⟩, x, hx => by
    rw [sig_cons] at hx
    rcases List.mem_append.mp hx with hx | hx
    · obtain ⟨i, hi, rfl⟩ := ch_mem (fun i j ij => lin_lt hl ij) hx
      have := lin_le (B := q.1) hl (Nat.zero_le i)
      simp only [Int.natCast_zero, Int.zero_mul, Int.add_zero] at this
      omega
    · have := sig_ge hl r _ h2 x hx
      have n0 := Int.mul_nonneg (show 0 ≤ ((sz b p s : Nat) : Int) by omega) (show 0 ≤ ln by omega)
      omega
theorem sig_asc {b : Nat} {p : Pa} {s : Nat} {ln : Int} (hs : 1 ≤ s) (hl : 1 ≤ ln) : ∀ (snd : List (Int × Int)) (a : Int), Far ((sz b p s : Nat) * ln) a snd → Asc (sig b p s ln snd)
  | [], _, _ => List.Pairwise.nil
  | q :: r, a, ⟨h1, h2⟩ => by
    rw [sig_cons]
    refine List.pairwise_append.mpr ⟨(ch_asc (fun i j ij => lin_lt hl ij) _).1, sig_asc hs hl r _ h2, fun x hx y hy => ?_⟩
    obtain ⟨i, hi, rfl⟩ := ch_mem (fun i j ij => lin_lt hl ij) hx
    have := sig_ge hl r _ h2 y hy
    have := lin_lt (B := q.1) hl hi
    omega
theorem sig_len {b : Nat} {p : Pa} {s : Nat} {ln : Int} : ∀ snd : List (Int × Int), (sig b p s ln snd).length ≤ snd.length * sz b p s
  | [] => by simp [sig]
  | q :: r => by
    rw [sig_cons, List.length_append, List.length_cons, Nat.add_mul]
    have := sig_len (b := b) (p := p) (s := s) (ln := ln) r
    have := ch_len (frm b p s q.2) (fun i => q.1 + (i : Int) * ln) (sz b p s)
    omega
theorem sig_rows {L : Ln} {ln : Int} (hl : 1 ≤ ln) : ∀ (snd : List (Int × Int)) (pre : List Int) (a : Int), L.sg = pre ++ sig L.b L.p L.s ln snd → pre.length % 2 = 0 → (∀ x ∈ pre, x ≤ a) → Far ((L.n : Nat) * ln) a snd → RowsOk L a (snd.map (rowS ln))
  | [], pre, a, e, ev, hp, _ => fun t ht => by
    rw [e, lv_app_r (fun x hx => Int.le_trans (hp x hx) ht) ev]
    rfl
  | q :: r, pre, a, e, ev, hp, ⟨h1, h2⟩ => by
    have n3 := L.n_bd
    have mono : ∀ i j : Nat, i < j → q.1 + (i : Int) * ln < q.1 + (j : Int) * ln := fun i j ij => lin_lt hl ij
    have t0 : q.1 + ((0 : Nat) : Int) * ln = q.1 := by simp
    have cge : ∀ x ∈ ch (frm L.b L.p L.s q.2) (fun i => q.1 + (i : Int) * ln) L.n, q.1 ≤ x ∧ x < q.1 + (L.n : Int) * ln := fun x hx => by
      obtain ⟨i, hi, rfl⟩ := ch_mem mono hx
      have a1 := lin_le (B := q.1) hl (Nat.zero_le i)
      rw [t0] at a1
      exact ⟨a1, mono i L.n hi⟩
    have rge : ∀ x ∈ sig L.b L.p L.s ln r, q.1 + (L.n : Int) * ln ≤ x := sig_ge hl r _ h2
    rw [sig_cons] at e
    show RowsOk L a (rowS ln q :: r.map (rowS ln))
    refine ⟨by show a ≤ q.1 + ((0 : Nat) : Int) * ln; omega, fun t t1 t2 => ?_, fun j hj t t1 t2 => ?_, ?_⟩
    · have t2 : t < q.1 + ((0 : Nat) : Int) * ln := t2
      rw [e, lv_app_r (fun x hx => Int.le_trans (hp x hx) t1) ev]
      unfold lv
      rw [cnt_non]
      · rfl
      · intro x hx
        rcases List.mem_append.mp hx with hx | hx
        · have := (cge x hx).1
          omega
        · have := rge x hx
          have n0 := Int.mul_nonneg (show 0 ≤ ((L.n : Nat) : Int) by omega) (show 0 ≤ ln by omega)
          omega
    · have t1 : q.1 + (j : Int) * ln ≤ t := t1
      have t2 : t < q.1 + ((j + 1 : Nat) : Int) * ln := t2
      have a1 := lin_le (B := q.1) hl (Nat.zero_le j)
      rw [t0] at a1
      have a2 := lin_le (B := q.1) hl (show j + 1 ≤ L.n from hj)
      rw [e, lv_app_r (fun x hx => Int.le_trans (hp x hx) (by omega)) ev, lv_app_l (fun x hx => by have := rge x hx; omega)]
      rw [show sz L.b L.p L.s = L.n from rfl, lv_ch (z1_frm q.2) (k := j + 1) (fun i hi => ?_) L.n hj (fun i hi _ => ?_)]
      · rfl
      · have := lin_le (B := q.1) hl (show i ≤ j by omega)
        omega
      · have := lin_le (B := q.1) hl (show j + 1 ≤ i by omega)
        omega
    · refine sig_rows hl r (pre ++ ch (frm L.b L.p L.s q.2) (fun i => q.1 + (i : Int) * ln) L.n) _ (by rw [e, List.append_assoc]; rfl) ?_ (fun x hx => ?_) h2
      · rw [List.length_append]
        have := ch_even (b := L.b) (p := L.p) (s := L.s) (x := q.2) L.s1 (fun i => q.1 + (i : Int) * ln)
        rw [show L.n = sz L.b L.p L.s from rfl]
        omega
      · show x ≤ q.1 + (L.n : Int) * ln
        have n0 := Int.mul_nonneg (show 0 ≤ ((L.n : Nat) : Int) by omega) (show 0 ≤ ln by omega)
        rcases List.mem_append.mp hx with hx | hx
        · have := hp x hx
          omega
        · have := (cge x hx).2
          omega
/-- a sending at a safe length is read right -/
theorem sent_read {L : Ln} {ln lo hi look : Int} {snd : List (Int × Int)} {a : Int} (hsg : L.sg = sig L.b L.p L.s ln snd) (far : Far ((L.n : Nat) * ln) a snd) (hl : 1 ≤ ln) (hx : ∀ q ∈ snd, 0 ≤ q.2 ∧ q.2 < 2 ^ L.b)
    (m1 : Mx (loL L.n L.s L.g L.w L.st) lo) (m2 : Mi (hiL L.n L.s L.g L.w L.st) hi) (h1 : lo ≤ ln) (h2 : ln ≤ hi) (lk : ∀ q, snd.head? = some q → look < q.1 + L.g) : rds L look = snd.map fun q => (nxt L.g q.1 look, ("good" : Str), q.2) := by
  have ro := sig_rows (L := L) hl snd [] a (by rw [hsg]; rfl) rfl (fun x hx => nomatch hx) far
  have e : ∀ q : Int × Int, (rowS ln q).2 0 = q.1 := fun q => by show q.1 + ((0 : Nat) : Int) * ln = q.1; simp
  have w : ∀ q : Int × Int, Wins L (rowS ln q).2 := fun q => safe_wins m1 m2 h1 h2 (fun j _ => by
    rw [e]
    show ln * j ≤ q.1 + (j : Int) * ln - q.1
    rw [Int.mul_comm]
    omega) fun j _ => by
    rw [e]
    show q.1 + (j : Int) * ln - q.1 ≤ ln * j
    rw [Int.mul_comm ln]
    omega
  -- the line is quiet ahead of the first begin, whatever the bound
  have ro2 : ∃ a', RowsOk L a' (snd.map (rowS ln)) ∧ ∀ t, look ≤ t → t < a' → lv L.sg t = 1 := by
    cases snd with
    | nil => exact ⟨a, ro, fun t _ _ => by rw [hsg]; rfl⟩
    | cons q r =>
      have far2 : Far ((L.n : Nat) * ln) q.1 (q :: r) := ⟨Int.le_refl _, far.2⟩
      refine ⟨q.1, sig_rows (L := L) hl (q :: r) [] q.1 (by rw [hsg]; rfl) rfl (fun x hx => nomatch hx) far2, fun t _ ht => ?_⟩
      rw [hsg]
      unfold lv
      rw [cnt_non fun x hx => ?_]
      · rfl
      · have := sig_ge hl (q :: r) q.1 far2 x hx
        omega
  obtain ⟨a', ra, qa⟩ := ro2
  rw [rows_read (snd.map (rowS ln)) a' look ra (fun r hr => ?_) (fun r hr => ?_) qa (fun r hr => ?_), List.map_map]
  · refine List.map_congr_left fun q _ => ?_
    show (nxt L.g ((rowS ln q).2 0) look, _, _) = _
    rw [e]
    rfl
  · obtain ⟨q, hq, rfl⟩ := List.mem_map.mp hr
    exact hx q hq
  · obtain ⟨q, hq, rfl⟩ := List.mem_map.mp hr
    exact w q
  · cases snd with
    | nil => cases hr
    | cons q r' =>
      cases hr
      rw [e]
      exact lk q rfl
theorem sig_snoc {b : Nat} {p : Pa} {s : Nat} {ln : Int} (snd : List (Int × Int)) (q : Int × Int) : sig b p s ln (snd ++ [q]) = sig b p s ln snd ++ ch (frm b p s q.2) (fun i => q.1 + (i : Int) * ln) (sz b p s) := by
  unfold sig
  rw [List.map_append, List.flatten_append]
  simp
theorem far_next {d : Int} : ∀ (pre : List (Int × Int)) (a : Int) (y x : Int × Int) (post : List (Int × Int)), Far d a (pre ++ y :: x :: post) → y.1 + d ≤ x.1
  | [], a, y, x, post, h => h.2.1
  | z :: pre, a, y, x, post, h => far_next pre _ y x post h.2
/-- the item ahead of one, by a negative index at the begin -/
theorem at_prev {α : Type} (enc : α → PyData) {l pre : List α} {x : α} {post : List α} (h : l = pre ++ x :: post) : ∃ y, atI (l.map enc) ((pre.length : Int) - 1) = some (enc y) ∧ ∀ pre' z, pre = pre' ++ [z] → y = z := by
  rcases List.eq_nil_or_concat pre with rfl | ⟨pre', z, rfl⟩
  · have ne : l ≠ [] := by rw [h]; simp
    refine ⟨l.getLast ne, ?_, fun pre' z e => absurd e (by simp)⟩
    have p1 : 0 < l.length := List.length_pos_iff.mpr ne
    have e1 : ixN (l.map enc).length (-1) = some (l.length - 1) := by
      unfold ixN
      rw [List.length_map, if_neg (by decide), if_pos (by omega)]
      congr 1
      omega
    show atI (l.map enc) (-1) = _
    unfold atI
    rw [e1]
    show (l.map enc)[l.length - 1]? = _
    rw [List.getElem?_map, List.getElem?_eq_getElem (by omega), List.getLast_eq_getElem]
    rfl
  · rw [List.concat_eq_append] at *
    refine ⟨z, ?_, fun p2 z2 e => ?_⟩
    · rw [List.length_append, List.length_singleton, show ((pre'.length + 1 : Nat) : Int) - 1 = (pre'.length : Nat) by omega]
      refine atI_nat ?_
      rw [h, List.map_append, List.map_append, List.append_assoc, List.getElem?_append_right (by simp)]
      simp
    · exact (List.append_inj' e rfl).2 |> fun w => by simpa using w
theorem eqvAll_dI : ∀ l m : List Int, PyData.eqvAll (dI l) (dI m) = decide (l = m)
  | [], [] => by simp [dI, PyData.eqvAll]
  | [], y :: m => by simp [dI, PyData.eqvAll]
  | x :: l, [] => by simp [dI, PyData.eqvAll]
  | x :: l, y :: m => by
    have := eqvAll_dI l m
    unfold dI at *
    rw [List.map_cons, List.map_cons]
    simp only [PyData.eqvAll, this, PyData.eqv]
    rw [Bool.eq_iff_iff]
    simp
theorem eqv_dI (l m : List Int) : PyData.eqv (.list (dI l)) (.list (dI m)) = decide (l = m) := by
  rw [← eqvAll_dI]
  simp only [PyData.eqv]
def mReads : Mn := fun ds R => ∃ (L : Ln) (t : Int) (ns : List Int), ds = [shD L.b L.p L.s, rcD L.g L.w L.st, .int t, .list (dI L.sg), .list (dI ns)] ∧ LnOk L ∧ L.sg.length ≤ 800 ∧ ns.length ≤ 60 ∧ (∀ n ∈ ns, 0 ≤ n ∧ n < 2 ^ L.b) ∧ R (.bool ((rds L t).all (fun r => decide (r.2.1 = ("good" : Str))) && decide ((rds L t).map (fun r => r.2.2) = ns)))
theorem far_l {d : Int} : ∀ (l : List (Int × Int)) (a : Int) (r : List (Int × Int)), Far d a (l ++ r) → Far d a l
  | [], _, _, _ => trivial
  | q :: l, a, r, h => ⟨h.1, far_l l _ r h.2⟩
theorem far_snoc {d : Int} : ∀ (l : List (Int × Int)) (a : Int) (q q' r : Int × Int), Far d a (l ++ [q]) → q'.1 = q.1 → q.1 + d ≤ r.1 → Far d a ((l ++ [q']) ++ [r])
  | [], a, q, q', r, h, e, g => ⟨by have := h.1; omega, by rw [e]; omega, trivial⟩
  | z :: l, a, q, q', r, h, e, g => ⟨h.1, far_snoc l _ q q' r h.2 e g⟩
theorem p2_bd {b : Nat} (h : b ≤ 9) : 1 ≤ (2 : Int) ^ ((b : Nat) : Int).toNat ∧ (2 : Int) ^ ((b : Nat) : Int).toNat ≤ 512 := by
  rw [Int.toNat_natCast]
  have : b = 0 ∨ b = 1 ∨ b = 2 ∨ b = 3 ∨ b = 4 ∨ b = 5 ∨ b = 6 ∨ b = 7 ∨ b = 8 ∨ b = 9 := by omega
  rcases this with rfl | rfl | rfl | rfl | rfl | rfl | rfl | rfl | rfl | rfl <;> decide
theorem xor_one : ∀ x : Nat, x < 512 → Builtin.bitXor (x : Int) 1 = (x : Int) + 1 - 2 * ((x : Int) % 2) := by
  have : (List.range 512).all (fun x => decide (Builtin.bitXor ((x : Nat) : Int) 1 = (x : Int) + 1 - 2 * ((x : Int) % 2))) = true := by decide +kernel
  intro x hx
  exact of_decide_eq_true (List.all_eq_true.mp this x (List.mem_range.mpr hx))
theorem xor_bd {b : Nat} {x : Int} (hb : 1 ≤ b ∧ b ≤ 9) (h0 : 0 ≤ x) (h1 : x < 2 ^ b) : 0 ≤ Builtin.bitXor x 1 ∧ Builtin.bitXor x 1 < 2 ^ b ∧ Builtin.bitXor x 1 ≠ x := by
  have : b = 1 ∨ b = 2 ∨ b = 3 ∨ b = 4 ∨ b = 5 ∨ b = 6 ∨ b = 7 ∨ b = 8 ∨ b = 9 := by omega
  have l : x < 512 := by
    rcases this with rfl | rfl | rfl | rfl | rfl | rfl | rfl | rfl | rfl <;> omega
  obtain ⟨n, rfl⟩ : ∃ n : Nat, x = n := ⟨x.toNat, by omega⟩
  rw [xor_one n (by omega)]
  rcases this with rfl | rfl | rfl | rfl | rfl | rfl | rfl | rfl | rfl <;> omega
theorem cut_from1 (x : PyData) (l : List PyData) : cutD (x :: l) (some 1) none = l := by
  unfold cutD HT.sIx
  simp
theorem atI_zero (x : PyData) (l : List PyData) : atI (x :: l) 0 = some x := atI_nat (j := 0) rfl
theorem atI_last (x : PyData) (l : List PyData) : atI (l ++ [x]) (-1) = some x := by
  unfold atI
  have e1 : ixN (l ++ [x]).length (-1) = some l.length := by
    unfold ixN
    rw [List.length_append, List.length_singleton, if_neg (by decide), if_pos (by omega)]
    congr 1
    omega
  rw [e1]
  show (l ++ [x])[l.length]? = _
  simp
end PL
/-! PS6: a receiver that reads all pairs right has its looks in their windows -/
namespace PL
open PySem PySem.Spec PyProof.Rows L2 Evl SB PW
theorem out_bits {b : Nat} {p : Pa} {s : Nat} {ls : List Int} (hs : 1 ≤ s) (z : All01 ls) (hl : ls.length = sz b p s) (h0 : ls.getD 0 1 = 0) (hg : (out b p s ls).2.1 = ("good" : Str)) : frm b p s (out b p s ls).2.2 = ls := by
  have hsz : sz b p s = 1 + b + plen p + s := rfl
  cases ls with
  | nil => simp at hl; omega
  | cons x r =>
    have x0 : x = 0 := h0
    subst x0
    have rl : r.length = b + plen p + s := by simp at hl; omega
    unfold out at hg ⊢
    cases hz : zat (0 :: r) (sz b p s - s) s with
    | some i =>
      rw [hz] at hg
      exfalso
      revert hg
      show (if 1 ∈ (0 :: r).take i then ("frame" : Str) else "break") = "good" → False
      split <;> decide +kernel
    | none =>
      rw [hz] at hg
      have hg : (if prt p ((r.take (sz b p s - s - 1)).sum) = true then ("good" : Str) else "parity") = "good" := hg
      have pr : prt p ((r.take (b + plen p)).sum) = true := by
        rw [show sz b p s - s - 1 = b + plen p by omega] at hg
        split at hg
        · assumption
        · exact absurd hg (by decide +kernel)
      show frm b p s (num (r.take b)) = 0 :: r
      have tl : (r.take b).length = b := by rw [List.length_take]; omega
      have bn : bits b (num (r.take b)) = r.take b := by
        have := bits_num (z.tail.take b)
        rw [tl] at this
        exact this
      have st : r.drop (b + plen p) = List.replicate s 1 := by
        refine List.eq_replicate_iff.mpr ⟨by rw [List.length_drop]; omega, fun y hy => ?_⟩
        obtain ⟨i, hi, e⟩ := List.mem_iff_getElem.mp hy
        rw [List.length_drop] at hi
        rw [List.getElem_drop] at e
        have := zat_none.mp hz (b + plen p + i + 1) (by omega) (by omega)
        rw [List.getD_eq_getElem?_getD, List.getElem?_cons_succ, List.getElem?_eq_getElem (by omega), e] at this
        rcases z y (List.mem_cons_of_mem _ (e ▸ List.getElem_mem _)) with h | h
        · exact absurd h this
        · exact h
      have sp : r = r.take b ++ ((r.drop b).take (plen p) ++ List.replicate s 1) := by
        rw [← st, ← List.drop_drop, List.take_append_drop, List.take_append_drop]
      have pe : parL b p (num (r.take b)) = (r.drop b).take (plen p) := by
        cases p with
        | no => rfl
        | ev =>
          obtain ⟨y, hy⟩ : ∃ y, r[b]? = some y := ⟨_, List.getElem?_eq_getElem (by rw [rl]; show b < b + 1 + s; omega)⟩
          have e1 : (r.drop b).take (plen Pa.ev) = [y] := by
            show (r.drop b).take 1 = [y]
            rw [List.take_one, List.head?_drop, hy]
            rfl
          have e2 : (r.take (b + plen Pa.ev)).sum = (r.take b).sum + y := by
            show (r.take (b + 1)).sum = _
            rw [List.take_succ, hy, List.sum_append]
            simp
          rw [e2] at pr
          have y1 := z y (List.mem_cons_of_mem _ (List.mem_of_getElem? hy))
          rw [e1]
          show [(bits b (num (r.take b))).sum % 2] = [y]
          rw [bn]
          have pr : decide (((r.take b).sum + y) % 2 = 0) = true := pr
          have := of_decide_eq_true pr
          congr 1
          omega
        | od =>
          obtain ⟨y, hy⟩ : ∃ y, r[b]? = some y := ⟨_, List.getElem?_eq_getElem (by rw [rl]; show b < b + 1 + s; omega)⟩
          have e1 : (r.drop b).take (plen Pa.od) = [y] := by
            show (r.drop b).take 1 = [y]
            rw [List.take_one, List.head?_drop, hy]
            rfl
          have e2 : (r.take (b + plen Pa.od)).sum = (r.take b).sum + y := by
            show (r.take (b + 1)).sum = _
            rw [List.take_succ, hy, List.sum_append]
            simp
          rw [e2] at pr
          have y1 := z y (List.mem_cons_of_mem _ (List.mem_of_getElem? hy))
          rw [e1]
          show [1 - (bits b (num (r.take b))).sum % 2] = [y]
          rw [bn]
          have pr : decide (((r.take b).sum + y) % 2 = 1) = true := pr
          have := of_decide_eq_true pr
          congr 1
          omega
      unfold frm
      rw [bn, pe, ← sp]
theorem rds_cons {L : Ln} : ∀ (n : Nat) (look : Int) (r : Int × Str × Int) (rs : List (Int × Str × Int)), L.sg.length - cnt L.sg look ≤ n → rds L look = r :: rs → look ≤ r.1 ∧ lv L.sg (lk L r.1 0) = 0 ∧ r.2 = (out L.b L.p L.s (lvs L r.1)).2 ∧ (r.2.1 = ("good" : Str) → rs = rds L (lk L r.1 (L.n - 1) + L.g))
  | n, look, r, rs, hn, hr => by
    cases h : fsee L 0 look with
    | none => unfold rds at hr; rw [run_none h] at hr; cases hr
    | some s =>
      obtain ⟨a, b, -, -⟩ := fsee_some _ _ _ (Nat.le_refl _) h
      have e : rds L look = rds L s := by
        unfold rds
        rw [run_some h, run_some (fsee_here b)]
      rw [e, rds_0 b] at hr
      rcases lv_01 L.sg (lk L s 0) with z | z
      · have f : fram L s = ⟨s, lk L s (out L.b L.p L.s (lvs L s)).1, (out L.b L.p L.s (lvs L s)).2.1, (out L.b L.p L.s (lvs L s)).2.2⟩ := by
          unfold fram
          rw [if_neg (by rw [z]; decide)]
        have nd := (out_end (b := L.b) (p := L.p) (ls := lvs L s) L.s1).2.2.2
        have g : rdg (fram L s) = some (s, (out L.b L.p L.s (lvs L s)).2) := by
          rw [f]
          unfold rdg
          rw [if_neg nd]
        rw [g] at hr
        have hr1 : (s, (out L.b L.p L.s (lvs L s)).2) = r := (List.cons.inj hr).1
        have hr2 := (List.cons.inj hr).2
        subst hr1
        refine ⟨a, z, rfl, fun hg => ?_⟩
        have hg : (out L.b L.p L.s (lvs L s)).2.1 = ("good" : Str) := hg
        have nb : bad ("good" : Str) = false := by decide +kernel
        rw [f] at hr2
        have hr2 : (if bad (out L.b L.p L.s (lvs L s)).2.1 = true then rdsW L (lk L s (out L.b L.p L.s (lvs L s)).1 + L.g) else rds L (lk L s (out L.b L.p L.s (lvs L s)).1 + L.g)) = rs := hr2
        rw [hg, nb, if_neg Bool.false_ne_true, (out_good L.s1 hg).1] at hr2
        exact hr2.symm
      · have f : fram L s = ⟨s, lk L s 0, "dropped", 0⟩ := by
          unfold fram
          rw [if_pos z]
        have nb : bad ("dropped" : Str) = false := by decide +kernel
        rw [f] at hr
        have hr : rds L (lk L s 0 + L.g) = r :: rs := by
          have e2 : rdg ⟨s, lk L s 0, "dropped", 0⟩ = none := by
            unfold rdg
            rw [if_pos rfl]
          rw [e2] at hr
          have hr : (if bad ("dropped" : Str) = true then rdsW L (lk L s 0 + L.g) else rds L (lk L s 0 + L.g)) = r :: rs := hr
          rw [nb, if_neg Bool.false_ne_true] at hr
          exact hr
        have ge : s ≤ lk L s 0 := by
          unfold lk
          have := Int.mul_nonneg (show 0 ≤ L.g by have := L.g1; omega) (show 0 ≤ L.w + L.st * ((0 : Nat) : Int) by have := L.w0; simp; omega)
          omega
        have c1 := cnt_mono (sg := L.sg) a
        have c2 := lv_ne (sg := L.sg) ge (by rw [b, z]; decide)
        have c3 := cnt_mono (sg := L.sg) (show lk L s 0 ≤ lk L s 0 + L.g by have := L.g1; omega)
        have c4 := cnt_le L.sg (lk L s 0 + L.g)
        match n, hn with
        | 0, hn => omega
        | n + 1, hn =>
          obtain ⟨i1, i2⟩ := rds_cons n _ r rs (by omega) hr
          have := L.g1
          exact ⟨by omega, i2⟩
theorem rds_start {L : Ln} {o : Int} {r : Int × Str × Int} {rs : List (Int × Str × Int)} (z : lv L.sg o = 0) (z2 : lv L.sg (lk L o 0) = 0) (h : rds L o = r :: rs) : r.1 = o := by
  have nd := (out_end (b := L.b) (p := L.p) (ls := lvs L o) L.s1).2.2.2
  have f : fram L o = ⟨o, lk L o (out L.b L.p L.s (lvs L o)).1, (out L.b L.p L.s (lvs L o)).2.1, (out L.b L.p L.s (lvs L o)).2.2⟩ := by
    unfold fram
    rw [if_neg (by rw [z2]; decide)]
  have g : rdg (fram L o) = some (o, (out L.b L.p L.s (lvs L o)).2) := by
    rw [f]
    unfold rdg
    rw [if_neg nd]
  rw [rds_0 z, g] at h
  exact (congrArg Prod.fst (List.cons.inj h).1).symm
/-- how often levels change up to a place -/
def nc (ls : List Int) (n : Nat) : Nat := (ch ls (fun _ => 0) n).length
theorem nc_succ (ls : List Int) (i : Nat) : nc ls (i + 1) = nc ls i + (if ls.getD i 1 = pvl ls i then 0 else 1) := by
  unfold nc
  rw [ch_succ, List.length_append]
  split <;> rfl
theorem nc_ch (ls : List Int) (T : Nat → Int) : ∀ n, (ch ls T n).length = nc ls n
  | 0 => rfl
  | n + 1 => by
    rw [ch_succ, List.length_append, nc_ch ls T n, nc_succ]
    split <;> rfl
theorem ch_at {ls : List Int} {T : Nat → Int} {i : Nat} (h : ls.getD i 1 ≠ pvl ls i) : ∀ {n : Nat}, i < n → (ch ls T n)[nc ls i]? = some (T i)
  | 0, hi => by omega
  | n + 1, hi => by
    rw [ch_succ]
    by_cases c : i < n
    · have := ch_at h (T := T) c
      rw [List.getElem?_append_left (List.getElem?_eq_some_iff.mp this).1]
      exact this
    · obtain rfl : i = n := by omega
      rw [if_neg h, List.getElem?_append_right (by rw [nc_ch]; exact Nat.le_refl _), nc_ch, Nat.sub_self]
      rfl
theorem cnt_run {sg : List Int} {T : Nat → Int} {ls : List Int} {n : Nat} (h : ∀ i, i < n → lv sg (T i) = ls.getD i 1) (m : ∀ i, i + 1 < n → T i ≤ T (i + 1)) {i : Nat} : ∀ {j : Nat}, i ≤ j → j < n → cnt sg (T i) + nc ls (j + 1) ≤ cnt sg (T j) + nc ls (i + 1)
  | 0, ij, _ => by obtain rfl : i = 0 := by omega
                   omega
  | j + 1, ij, hj => by
    by_cases c : i = j + 1
    · subst c
      omega
    · have ih := cnt_run h m (show i ≤ j by omega) (by omega)
      rw [nc_succ ls (j + 1)]
      have mj := m j hj
      have a := h j (by omega)
      have b := h (j + 1) hj
      split
      · have := cnt_mono (sg := sg) mj
        omega
      · rename_i ne
        have ne : ls.getD (j + 1) 1 ≠ ls.getD j 1 := ne
        have := lv_ne (sg := sg) mj (by rw [a, b]; exact fun e => ne e.symm)
        omega
theorem lk_step {L : Ln} {s : Int} (i : Nat) : lk L s (i + 1) = lk L s i + L.g * L.st := by
  unfold lk
  rw [show ((i + 1 : Nat) : Int) = (i : Int) + 1 by omega, Int.mul_add L.st, Int.mul_one, ← Int.add_assoc L.w, Int.mul_add L.g (L.w + L.st * (i : Int))]
  omega
theorem gst_pos (L : Ln) : 1 ≤ L.g * L.st := by
  have := Int.mul_le_mul L.g1 L.t1 (by omega) (by have := L.g1; omega)
  simpa using this
/-- the line of a pair of numbers -/
def prL (L : Ln) (ln : Int) (hl : 1 ≤ ln) (a c : Int) : Ln := { L with sg := sig L.b L.p L.s ln [(0, a), ((L.n : Int) * ln, c)], asc := sig_asc L.s1 hl _ 0 ⟨Int.le_refl _, by show 0 + (L.n : Int) * ln ≤ _; simp, trivial⟩ }
theorem two_cnt {L : Ln} {ln : Int} {hl : 1 ≤ ln} {o a c s1 s2 : Int} (hr : rds (prL L ln hl a c) o = [(s1, ("good" : Str), a), (s2, ("good" : Str), c)]) : o ≤ s1 ∧ ∀ i, i < L.n → cnt (prL L ln hl a c).sg (lk L s1 i) = nc (frm L.b L.p L.s a) (i + 1) := by
  obtain ⟨o1, z1, n1, t1⟩ := rds_cons _ _ _ _ (Nat.le_refl _) hr
  have t1 := t1 rfl
  obtain ⟨o2, z2, n2, _⟩ := rds_cons _ _ _ _ (Nat.le_refl _) t1.symm
  have n3 := L.n_bd
  have s1b := L.s1
  have rd : ∀ (s x : Int), lv (prL L ln hl a c).sg (lk L s 0) = 0 → ((("good" : Str), x) : Str × Int) = (out L.b L.p L.s (lvs (prL L ln hl a c) s)).2 → lvs (prL L ln hl a c) s = frm L.b L.p L.s x := fun s x z e => by
    have ll : (lvs (prL L ln hl a c) s).length = sz L.b L.p L.s := lvs_len _ _
    have e0 : (lvs (prL L ln hl a c) s).getD 0 1 = 0 := by
      rw [List.getD_eq_getElem?_getD, lvs_at (L := prL L ln hl a c) (by show 0 < L.n; omega)]
      exact z
    have := out_bits L.s1 (lvs_01 _ s) ll e0 (by rw [← e])
    rw [← e] at this
    exact this.symm
  have r1 := rd s1 a z1 n1
  have r2 := rd s2 c z2 n2
  have at_ : ∀ {s x : Int}, lvs (prL L ln hl a c) s = frm L.b L.p L.s x → ∀ i, i < L.n → lv (prL L ln hl a c).sg (lk L s i) = (frm L.b L.p L.s x).getD i 1 := fun {s x} e i hi => by
    rw [← e, List.getD_eq_getElem?_getD, lvs_at (L := prL L ln hl a c) hi]
    rfl
  have gs := gst_pos L
  have mono : ∀ s i, i + 1 < L.n → lk L s i ≤ lk L s (i + 1) := fun s i _ => by rw [lk_step]; omega
  have len : (prL L ln hl a c).sg.length = nc (frm L.b L.p L.s a) L.n + nc (frm L.b L.p L.s c) L.n := by
    show (sig L.b L.p L.s ln [(0, a), ((L.n : Int) * ln, c)]).length = _
    rw [sig_cons, sig_cons, List.length_append, List.length_append, nc_ch, nc_ch]
    show _ + (_ + 0) = _
    rfl
  refine ⟨o1, fun i hi => ?_⟩
  have one : ∀ x, nc (frm L.b L.p L.s x) 1 = 1 := fun x => rfl
  have c1 := cnt_run (at_ r1) (mono s1) (Nat.zero_le i) hi
  have c2 := cnt_run (at_ r1) (mono s1) (show i ≤ L.n - 1 by omega) (by omega)
  have c3 := cnt_run (at_ r2) (mono s2) (Nat.zero_le (L.n - 1)) (by omega)
  have c4 := cnt_le (prL L ln hl a c).sg (lk L s2 (L.n - 1))
  have w0 : s2 ≤ lk L s2 0 := by
    unfold lk
    have := Int.mul_nonneg (show 0 ≤ L.g by have := L.g1; omega) (show 0 ≤ L.w + L.st * ((0 : Nat) : Int) by have := L.w0; simp; omega)
    omega
  have g1 := L.g1
  have o2 : lk L s1 (L.n - 1) + L.g ≤ s2 := o2
  have l1 : lv (prL L ln hl a c).sg (lk L s1 (L.n - 1)) = 1 := by
    rw [at_ r1 _ (by omega), frm_stop]
    show L.n - L.s ≤ L.n - 1
    omega
  have c5 := lv_ne (sg := (prL L ln hl a c).sg) (show lk L s1 (L.n - 1) ≤ lk L s2 0 by omega) (by rw [l1, show lv (prL L ln hl a c).sg (lk L s2 0) = 0 from z2]; decide)
  have c6 : 1 ≤ cnt (prL L ln hl a c).sg (lk L s1 0) := by
    have z1 : lv (prL L ln hl a c).sg (lk L s1 0) = 0 := z1
    unfold lv at z1
    omega
  rw [show L.n - 1 + 1 = L.n by omega] at c2 c3
  rw [one] at c1 c3
  omega
theorem pr_lo {L : Ln} {ln : Int} {hl : 1 ≤ ln} {a c t : Int} {i : Nat} (hi : i < L.n) (hc : cnt (prL L ln hl a c).sg t = nc (frm L.b L.p L.s a) (i + 1)) (hd : (frm L.b L.p L.s a).getD i 1 ≠ pvl (frm L.b L.p L.s a) i) : (i : Int) * ln ≤ t := by
  have e : (prL L ln hl a c).sg[nc (frm L.b L.p L.s a) i]? = some (0 + (i : Int) * ln) := by
    show (sig L.b L.p L.s ln [(0, a), ((L.n : Int) * ln, c)])[_]? = _
    rw [sig_cons]
    have := ch_at (T := fun j : Nat => (0 : Int) + (j : Int) * ln) hd (n := sz L.b L.p L.s) hi
    rw [List.getElem?_append_left (List.getElem?_eq_some_iff.mp this).1]
    exact this
  have := (at_le (prL L ln hl a c).asc e t).mpr (by rw [hc, nc_succ, if_neg hd]; omega)
  omega
theorem pr_hi {L : Ln} {ln : Int} {hl : 1 ≤ ln} {a c t : Int} {i : Nat} (hi : i + 1 < L.n) (hc : cnt (prL L ln hl a c).sg t = nc (frm L.b L.p L.s a) (i + 1)) (hd : (frm L.b L.p L.s a).getD (i + 1) 1 ≠ (frm L.b L.p L.s a).getD i 1) : t < ((i + 1 : Nat) : Int) * ln := by
  have e : (prL L ln hl a c).sg[nc (frm L.b L.p L.s a) (i + 1)]? = some (0 + ((i + 1 : Nat) : Int) * ln) := by
    show (sig L.b L.p L.s ln [(0, a), ((L.n : Int) * ln, c)])[_]? = _
    rw [sig_cons]
    have := ch_at (ls := frm L.b L.p L.s a) (T := fun j : Nat => (0 : Int) + (j : Int) * ln) (i := i + 1) hd (n := sz L.b L.p L.s) hi
    rw [List.getElem?_append_left (List.getElem?_eq_some_iff.mp this).1]
    exact this
  have := fun x => (at_le (prL L ln hl a c).asc e t).mp x
  rw [hc] at this
  refine Int.not_le.mp fun x => Nat.lt_irrefl _ (this (by omega))
theorem pr_end {L : Ln} {ln : Int} {hl : 1 ≤ ln} {a c t : Int} (hc : cnt (prL L ln hl a c).sg t = nc (frm L.b L.p L.s a) L.n) : t < (L.n : Int) * ln := by
  have e : (prL L ln hl a c).sg[nc (frm L.b L.p L.s a) L.n]? = some ((L.n : Int) * ln + ((0 : Nat) : Int) * ln) := by
    show (sig L.b L.p L.s ln [(0, a), ((L.n : Int) * ln, c)])[_]? = _
    have h1 := L.n_bd
    have h2 := L.s1
    rw [sig_cons, sig_cons, List.getElem?_append_right (by rw [nc_ch]; exact Nat.le_refl _), nc_ch, show nc (frm L.b L.p L.s a) L.n - nc (frm L.b L.p L.s a) (sz L.b L.p L.s) = 0 from Nat.sub_self _]
    have := ch_at (ls := frm L.b L.p L.s c) (T := fun j : Nat => (L.n : Int) * ln + (j : Int) * ln) (i := 0) (by show (0 : Int) ≠ 1; decide) (n := sz L.b L.p L.s) (show 0 < L.n by omega)
    rw [show nc (frm L.b L.p L.s c) 0 = 0 from rfl] at this
    rw [List.getElem?_append_left (List.getElem?_eq_some_iff.mp this).1]
    exact this
  have := fun x => (at_le (prL L ln hl a c).asc e t).mp x
  rw [hc] at this
  refine Int.not_le.mp fun x => Nat.lt_irrefl _ (this (by simpa using x))
theorem frm_bit {b : Nat} {p : Pa} {s : Nat} {x : Int} {i : Nat} (h : i < b) : (frm b p s x).getD (i + 1) 1 = x / 2 ^ i % 2 := by
  unfold frm
  rw [List.getD_eq_getElem?_getD, List.getElem?_cons_succ, List.getElem?_append_left (by rw [bits_len]; exact h)]
  unfold bits
  rw [List.getElem?_map, List.getElem?_range h]
  rfl
theorem frm_ev {b : Nat} {s : Nat} {x : Int} : (frm b .ev s x).getD (b + 1) 1 = (bits b x).sum % 2 := by
  unfold frm
  rw [List.getD_eq_getElem?_getD, List.getElem?_cons_succ, List.getElem?_append_right (by rw [bits_len]; exact Nat.le_refl _), bits_len, Nat.sub_self]
  rfl
theorem frm_od {b : Nat} {s : Nat} {x : Int} : (frm b .od s x).getD (b + 1) 1 = 1 - (bits b x).sum % 2 := by
  unfold frm
  rw [List.getD_eq_getElem?_getD, List.getElem?_cons_succ, List.getElem?_append_right (by rw [bits_len]; exact Nat.le_refl _), bits_len, Nat.sub_self]
  rfl
theorem sum_b01 {b : Nat} (h : 1 ≤ b ∧ b ≤ 9) : (bits b 0).sum = 0 ∧ (bits b 1).sum = 1 := by
  have : b = 1 ∨ b = 2 ∨ b = 3 ∨ b = 4 ∨ b = 5 ∨ b = 6 ∨ b = 7 ∨ b = 8 ∨ b = 9 := by omega
  rcases this with rfl | rfl | rfl | rfl | rfl | rfl | rfl | rfl | rfl <;> decide +kernel
theorem one_bit : ∀ i : Nat, i < 9 → (2 : Int) ^ i / 2 ^ i % 2 = 1 ∧ (2 : Int) ^ i / 2 ^ (i + 1) % 2 = 0 ∧ (0 < i → (2 : Int) ^ i / 2 ^ (i - 1) % 2 = 0) ∧ (0 : Int) / 2 ^ i % 2 = 0 ∧ (0 < i → (1 : Int) / 2 ^ i % 2 = 0) := by
  intro i hi
  have : i = 0 ∨ i = 1 ∨ i = 2 ∨ i = 3 ∨ i = 4 ∨ i = 5 ∨ i = 6 ∨ i = 7 ∨ i = 8 := by omega
  rcases this with rfl | rfl | rfl | rfl | rfl | rfl | rfl | rfl | rfl <;> decide +kernel
theorem pw_in {b i : Nat} (hb : b ≤ 9) (h : i < b) : 0 ≤ (2 : Int) ^ i ∧ (2 : Int) ^ i < 2 ^ b := by
  have p0 : (0 : Int) < 2 ^ i := Int.pow_pos (by decide)
  refine ⟨by omega, ?_⟩
  have e : (2 : Int) ^ b = 2 ^ i * 2 ^ (b - i) := by rw [← Int.pow_add]; congr 1; omega
  have p1 : (2 : Int) ≤ 2 ^ (b - i) := by
    obtain ⟨k, hk⟩ : ∃ k, b - i = k + 1 := ⟨b - i - 1, by omega⟩
    rw [hk, Int.pow_succ]
    have : (0 : Int) < 2 ^ k := Int.pow_pos (by decide)
    omega
  have := Int.mul_le_mul_of_nonneg_left p1 (show (0 : Int) ≤ 2 ^ i by omega)
  omega
/-- a receiver that reads all pairs right from a tick has its looks in their windows -/
theorem conv {L : Ln} {ln o : Int} (hl : 1 ≤ ln) (o0 : 0 ≤ o) (h : ∀ a c : Int, 0 ≤ a → a < 2 ^ L.b → 0 ≤ c → c < 2 ^ L.b → ∃ s1 s2, rds (prL L ln hl a c) o = [(s1, ("good" : Str), a), (s2, ("good" : Str), c)]) : WinOff L (fun j => (j : Int) * ln) o := by
  have n3 := L.n_bd
  have hn : L.n = 1 + L.b + plen L.p + L.s := rfl
  have b1 := L.b1
  have b9 := L.b9
  have s1' := L.s1
  have g1 := L.g1
  have gs := gst_pos L
  have in0 : (0 : Int) ≤ 0 ∧ (0 : Int) < 2 ^ L.b := ⟨Int.le_refl _, by have := (pw_in b9 (show 0 < L.b by omega)).2; simp at this; omega⟩
  have in1 : (0 : Int) ≤ 1 ∧ (1 : Int) < 2 ^ L.b := ⟨by decide, by have := (pw_in b9 (show 0 < L.b by omega)).2; simp at this; omega⟩
  -- the first look of all
  have t0 : lk L o 0 < ln := by
    obtain ⟨s1, s2, e⟩ := h 1 0 in1.1 in1.2 in0.1 in0.2
    obtain ⟨o1, c⟩ := two_cnt e
    have := pr_hi (i := 0) (by omega) (c 0 (by omega)) (by
      rw [frm_bit (show 0 < L.b by omega)]
      show (1 : Int) / 2 ^ 0 % 2 ≠ 0
      decide)
    have : lk L s1 0 < ln := by simpa using this
    unfold lk at this ⊢
    omega
  have w0 : o ≤ lk L o 0 := by
    unfold lk
    have := Int.mul_nonneg (show 0 ≤ L.g by omega) (show 0 ≤ L.w + L.st * ((0 : Nat) : Int) by have := L.w0; simp; omega)
    omega
  have all : ∀ a : Int, 0 ≤ a → a < 2 ^ L.b → ∀ i, i < L.n → cnt (prL L ln hl a 0).sg (lk L o i) = nc (frm L.b L.p L.s a) (i + 1) := fun a a0 a1 => by
    obtain ⟨s1, s2, e⟩ := h a 0 a0 a1 in0.1 in0.2
    have ro := sig_rows (L := prL L ln hl a 0) hl [(0, a), ((L.n : Int) * ln, 0)] [] 0 rfl rfl (fun x hx => nomatch hx) ⟨Int.le_refl _, by show 0 + (L.n : Int) * ln ≤ _; simp, trivial⟩
    have z : ∀ t, 0 ≤ t → t < ln → lv (prL L ln hl a 0).sg t = 0 := fun t x y => by
      have := ro.2.2.1 0 (show 0 < L.n by omega) t (by show 0 + ((0 : Nat) : Int) * ln ≤ t; simpa using x) (by show t < 0 + ((0 + 1 : Nat) : Int) * ln; simpa using y)
      exact this
    have es : s1 = o := by
      exact rds_start (z o o0 (by omega)) (z (lk L o 0) (by omega) t0) e
    rw [← es]
    exact (two_cnt e).2
  have lo : ∀ (a : Int) (i : Nat), 0 ≤ a → a < 2 ^ L.b → i < L.n → (frm L.b L.p L.s a).getD i 1 ≠ pvl (frm L.b L.p L.s a) i → (i : Int) * ln ≤ lk L o i := fun a i a0 a1 hi hd => pr_lo hi (all a a0 a1 i hi) hd
  have up : ∀ (a : Int) (i : Nat), 0 ≤ a → a < 2 ^ L.b → i + 1 < L.n → (frm L.b L.p L.s a).getD (i + 1) 1 ≠ (frm L.b L.p L.s a).getD i 1 → lk L o i < ((i + 1 : Nat) : Int) * ln := fun a i a0 a1 hi hd => pr_hi hi (all a a0 a1 i (by omega)) hd
  have last : lk L o (L.n - 1) < (L.n : Int) * ln := pr_end (by
    have := all 0 in0.1 in0.2 (L.n - 1) (by omega)
    rw [show L.n - 1 + 1 = L.n by omega] at this
    exact this)
  have mono : ∀ i k : Nat, lk L o i ≤ lk L o (i + k) := fun i k => by
    induction k with
    | zero => exact Int.le_refl _
    | succ k ih =>
      rw [show i + (k + 1) = (i + k) + 1 by omega, lk_step]
      omega
  obtain ⟨sb0, sb1⟩ := sum_b01 ⟨b1, b9⟩
  -- the place ahead of the stops can be 0
  have stop0 : ∃ a : Int, 0 ≤ a ∧ a < 2 ^ L.b ∧ (frm L.b L.p L.s a).getD (L.n - L.s - 1) 1 = 0 := by
    cases hp : L.p with
    | no =>
      have e : L.n - L.s - 1 = (L.b - 1) + 1 := by rw [hn, hp]; show 1 + L.b + 0 + L.s - L.s - 1 = _; omega
      refine ⟨0, in0.1, in0.2, ?_⟩
      rw [e, frm_bit (by omega)]
      exact (one_bit (L.b - 1) (by omega)).2.2.2.1
    | ev =>
      have e : L.n - L.s - 1 = L.b + 1 := by rw [hn, hp]; show 1 + L.b + 1 + L.s - L.s - 1 = _; omega
      refine ⟨0, in0.1, in0.2, ?_⟩
      rw [e, frm_ev, sb0]
      decide
    | od =>
      have e : L.n - L.s - 1 = L.b + 1 := by rw [hn, hp]; show 1 + L.b + 1 + L.s - L.s - 1 = _; omega
      refine ⟨1, in1.1, in1.2, ?_⟩
      rw [e, frm_od, sb1]
      decide
  obtain ⟨a0, a00, a01, az⟩ := stop0
  have st1 : (frm L.b L.p L.s a0).getD (L.n - L.s - 1 + 1) 1 = 1 := frm_stop (by show L.n - L.s ≤ _; omega)
  have hS : lk L o (L.n - L.s - 1) < ((L.n - L.s : Nat) : Int) * ln := by
    have := up a0 (L.n - L.s - 1) a00 a01 (by omega) (by rw [az, st1]; decide)
    rw [show L.n - L.s - 1 + 1 = L.n - L.s by omega] at this
    exact this
  have lS : ((L.n - L.s : Nat) : Int) * ln ≤ lk L o (L.n - L.s) := by
    have := lo a0 (L.n - L.s - 1 + 1) a00 a01 (by omega) (by
      rw [st1]
      show (1 : Int) ≠ (frm L.b L.p L.s a0).getD (L.n - L.s - 1) 1
      rw [az]
      decide)
    rw [show L.n - L.s - 1 + 1 = L.n - L.s by omega] at this
    exact this
  -- data places, from below, and from above but the last
  have dlo : ∀ i, i < L.b → ((i + 1 : Nat) : Int) * ln ≤ lk L o (i + 1) := fun i hi => by
    obtain ⟨p0, p1⟩ := pw_in b9 hi
    obtain ⟨x1, x2, x3, _⟩ := one_bit i (by omega)
    refine lo (2 ^ i) (i + 1) p0 p1 (by omega) ?_
    rw [frm_bit hi, x1]
    show (1 : Int) ≠ (frm L.b L.p L.s (2 ^ i)).getD i 1
    cases i with
    | zero => show (1 : Int) ≠ 0; decide
    | succ k =>
      rw [frm_bit (by omega), show (2 : Int) ^ (k + 1) / 2 ^ k % 2 = 0 from x3 (by omega)]
      decide
  have dup : ∀ i, i + 1 < L.b → lk L o (i + 1) < ((i + 2 : Nat) : Int) * ln := fun i hi => by
    obtain ⟨p0, p1⟩ := pw_in b9 (show i < L.b by omega)
    obtain ⟨x1, x2, x3, _⟩ := one_bit i (by omega)
    refine up (2 ^ i) (i + 1) p0 p1 (by omega) ?_
    rw [frm_bit hi, frm_bit (by omega), x1, x2]
    decide
  -- between the last data place and the parity
  have mid : L.p ≠ .no → lk L o L.b < ((L.b + 1 : Nat) : Int) * ln ∧ ((L.b + 1 : Nat) : Int) * ln ≤ lk L o (L.b + 1) := fun hp => by
    have dif : (∃ a : Int, 0 ≤ a ∧ a < 2 ^ L.b ∧ (frm L.b L.p L.s a).getD (L.b + 1) 1 ≠ (frm L.b L.p L.s a).getD L.b 1) → lk L o L.b < ((L.b + 1 : Nat) : Int) * ln ∧ ((L.b + 1 : Nat) : Int) * ln ≤ lk L o (L.b + 1) := fun ⟨a, a0, a1, hd⟩ => by
      have pl : 1 ≤ plen L.p := by
        cases hp2 : L.p with
        | no => exact absurd hp2 hp
        | ev => exact Nat.le_refl _
        | od => exact Nat.le_refl _
      exact ⟨up a L.b a0 a1 (by omega) hd, lo a (L.b + 1) a0 a1 (by omega) hd⟩
    cases hp2 : L.p with
    | no => exact absurd hp2 hp
    | od =>
      refine dif ⟨0, in0.1, in0.2, ?_⟩
      rw [hp2, frm_od, sb0]
      have := frm_bit (b := L.b) (p := .od) (s := L.s) (x := 0) (i := L.b - 1) (by omega)
      rw [show L.b - 1 + 1 = L.b by omega, (one_bit (L.b - 1) (by omega)).2.2.2.1] at this
      rw [this]
      decide
    | ev =>
      by_cases c : L.b = 1
      · have z0 := lk_step (L := L) (s := o) 0
        have z1 := lk_step (L := L) (s := o) 1
        have z2 := lk_step (L := L) (s := o) 2
        have d1 := dlo 0 (by omega)
        have en : L.n - L.s = 3 := by rw [hn, hp2, c]; show 1 + 1 + 1 + L.s - L.s = 3; omega
        rw [en] at hS lS
        have hS : lk L o 2 < ((3 : Nat) : Int) * ln := hS
        rw [c]
        have d1 : ((1 : Nat) : Int) * ln ≤ lk L o 1 := d1
        have z0 : lk L o 1 = lk L o 0 + L.g * L.st := z0
        have z1 : lk L o 2 = lk L o 1 + L.g * L.st := z1
        have z2 : lk L o 3 = lk L o 2 + L.g * L.st := z2
        generalize L.g * L.st = q at z0 z1 z2
        show lk L o 1 < ((2 : Nat) : Int) * ln ∧ ((2 : Nat) : Int) * ln ≤ lk L o 2
        omega
      · refine dif ⟨1, in1.1, in1.2, ?_⟩
        rw [hp2, frm_ev, sb1]
        have := frm_bit (b := L.b) (p := .ev) (s := L.s) (x := 1) (i := L.b - 1) (by omega)
        rw [show L.b - 1 + 1 = L.b by omega, (one_bit (L.b - 1) (by omega)).2.2.2.2 (by omega)] at this
        rw [this]
        decide
  intro p f l hp hc
  show (f : Int) * ln ≤ ((0 : Nat) : Int) * ln + o + lookI L.g L.w L.st p ∧ ((0 : Nat) : Int) * ln + o + lookI L.g L.w L.st p < (l : Int) * ln
  have e : ((0 : Nat) : Int) * ln + o + lookI L.g L.w L.st p = lk L o p := by
    unfold lk lookI
    simp
  rw [e]
  rcases hc with ⟨c, rfl, rfl⟩ | ⟨c, rfl, rfl⟩
  · cases f with
    | zero => exact ⟨by simp; omega, by simpa using t0⟩
    | succ i =>
      by_cases d : i < L.b
      · refine ⟨dlo i d, ?_⟩
        by_cases d2 : i + 1 < L.b
        · exact dup i d2
        · have e2 : i + 1 = L.b := by omega
          by_cases hpn : L.p = .no
          · have e3 : L.n - L.s = L.b + 1 := by rw [hn, hpn]; show 1 + L.b + 0 + L.s - L.s = _; omega
            rw [e3] at hS
            rw [e2]
            exact hS
          · rw [e2]
            exact (mid hpn).1
      · have hpn : L.p ≠ .no := fun x => by
          rw [hn, x] at c
          have : i + 1 < 1 + L.b + 0 + L.s - L.s := c
          omega
        have pl : plen L.p = 1 := by
          cases hp2 : L.p with
          | no => exact absurd hp2 hpn
          | ev => rfl
          | od => rfl
        have e2 : i = L.b := by omega
        subst e2
        refine ⟨(mid hpn).2, ?_⟩
        have e3 : L.n - L.s = L.b + 2 := by omega
        rw [e3] at hS
        exact hS
  · refine ⟨?_, ?_⟩
    · have := mono (L.n - L.s) (p - (L.n - L.s))
      rw [show L.n - L.s + (p - (L.n - L.s)) = p by omega] at this
      omega
    · have := mono p (L.n - 1 - p)
      rw [show p + (L.n - 1 - p) = L.n - 1 by omega] at this
      omega
end PL
/-! PS7: texts, misread pairs, papers -/
namespace PL
open PySem PySem.Spec PyProof.Rows L2 Evl SB PW
section
variable {K : PySem.W.Frag} {ρ : List Sl} {te : TE}
theorem eo_lstRg {n : Int} (h : E K te ρ (.int n)) (h0 : 0 ≤ n) (h1 : n ≤ 100000) : EO K (tLstRg (tRg1 te)) ρ (dI ((List.range n.toNat).map fun i : Nat => (i : Int))) := fun c F H σ en ex Q q =>
  h c F H σ en ex _ fun v F1 H1 g dv => by
    cases dv
    refine ⟨n, rfl, RgOk.of_le (by omega) (by omega) (by omega) h0, fun p nn => q p (rgV 0 n) F1 _ (g.trans (Gr.own g.fh nn)) (fresh_back g.hh nn) (fresh_back g.fh nn) upd_same ?_⟩
    have e : rgV 0 n = ((List.range n.toNat).map fun i : Nat => (i : Int)).map V.int := by
      unfold rgV
      rw [List.map_map, Int.sub_zero]
      exact List.map_congr_left fun i _ => by show V.int (0 + (i : Int)) = V.int i; rw [Int.zero_add]
    rw [e]
    exact VdAll.ints _
end
theorem cb_ofO {K : PySem.W.Frag} {rr : List V → Hp → VK → Prop} {ds es : List PyData} (h : CbO K rr ds es) : CbE K rr ds (.list es) := fun F H vs ex dvs Q q =>
  h F H vs ex dvs Q fun p xs F2 H2 g n f hl d => q _ _ H2 (g.freeze n f hl) (.lst upd_same (d.ex (Ex.new f)))
/-- numbers one behind another -/
def rowsT (D : Int) : Int → List Int → List (Int × Int)
  | _, [] => []
  | t, a :: r => (t, a) :: rowsT D (t + D) r
theorem far_text {D : Int} : ∀ (ns : List Int) (t : Int), Far D t (rowsT D t ns)
  | [], _ => trivial
  | a :: r, t => ⟨Int.le_refl _, far_text r (t + D)⟩
theorem rowsT_map {D : Int} : ∀ (ns : List Int) (t : Int), (rowsT D t ns).map (fun q => q.2) = ns
  | [], _ => rfl
  | a :: r, t => by
    show a :: (rowsT D (t + D) r).map (fun q => q.2) = a :: r
    rw [rowsT_map r]
theorem rowsT_ge {D : Int} (hD : 0 ≤ D) : ∀ (ns : List Int) (t : Int), ∀ q ∈ rowsT D t ns, t ≤ q.1 ∧ q.2 ∈ ns
  | [], _, q, hq => nomatch hq
  | a :: r, t, q, hq => by
    rcases List.mem_cons.mp hq with rfl | hq
    · exact ⟨Int.le_refl _, List.mem_cons_self ..⟩
    · have := rowsT_ge hD r (t + D) q hq
      exact ⟨by omega, List.mem_cons_of_mem _ this.2⟩
theorem text_sg {b : Nat} {p : Pa} {s : Nat} {ln : Int} (hs : 1 ≤ s) : ∀ (ns : List Int) (t : Int), ch (frms b p s ns) (fun i => t + (i : Int) * ln) (frms b p s ns).length = sig b p s ln (rowsT ((sz b p s : Int) * ln) t ns)
  | [], t => rfl
  | a :: r, t => by
    have e : frms b p s (a :: r) = frm b p s a ++ frms b p s r := rfl
    rw [e, List.length_append, ch_app (frm_end a hs) _ (Nat.le_refl _)]
    show _ = sig b p s ln ((t, a) :: rowsT ((sz b p s : Int) * ln) (t + (sz b p s : Int) * ln) r)
    rw [sig_cons, frm_sz, ← text_sg hs r]
    congr 1
    exact ch_congr fun i _ => by
      show t + ((sz b p s + i : Nat) : Int) * ln = t + (sz b p s : Int) * ln + (i : Int) * ln
      rw [show ((sz b p s + i : Nat) : Int) = (sz b p s : Int) + (i : Int) by omega, Int.add_mul]
      omega
/-- what a line of a text wants -/
abbrev HB (b s : Nat) (g w st ln : Int) : Prop := (1 ≤ b ∧ b ≤ 9 ∧ 1 ≤ s ∧ s ≤ 2) ∧ 1 ≤ g ∧ 0 ≤ w ∧ 1 ≤ st ∧ 1 ≤ ln
def lnT (b : Nat) (p : Pa) (s : Nat) (g w st ln : Int) (ns : List Int) (h : HB b s g w st ln) : Ln := ⟨b, p, s, g, w, st, sig b p s ln (rowsT ((sz b p s : Int) * ln) 0 ns), h.1.1, h.1.2.1, h.1.2.2.1, h.1.2.2.2, h.2.1, h.2.2.1, h.2.2.2.1, sig_asc h.1.2.2.1 h.2.2.2.2 _ 0 (far_text ns 0)⟩
def rdB (L : Ln) (o : Int) (ns : List Int) : Bool := (rds L o).all (fun r => decide (r.2.1 = ("good" : Str))) && decide ((rds L o).map (fun r => r.2.2) = ns)
/-- is a text read wrong from a tick? -/
def misB (b : Nat) (p : Pa) (s : Nat) (g w st ln o : Int) (ns : List Int) : Bool := if h : HB b s g w st ln then !rdB (lnT b p s g w st ln ns h) o ns else true
theorem misB_eq {b : Nat} {p : Pa} {s : Nat} {g w st ln o : Int} {ns : List Int} (h : HB b s g w st ln) : misB b p s g w st ln o ns = !rdB (lnT b p s g w st ln ns h) o ns := dif_pos h
theorem hb_of {b s : Nat} {g w st ln : Int} (ok : ShOk b s) (rok : RcOk g w st) (l1 : 1 ≤ ln) : HB b s g w st ln := ⟨ok, rok.1, rok.2.1, rok.2.2.1, l1⟩
theorem sig_lenT {b : Nat} {p : Pa} {s : Nat} {ln : Int} (ns : List Int) : (rowsT ((sz b p s : Int) * ln) 0 ns).length = ns.length := by
  have := congrArg List.length (rowsT_map (D := (sz b p s : Int) * ln) ns 0)
  rw [List.length_map] at this
  exact this
theorem readsT {b : Nat} {p : Pa} {s : Nat} {g w st ln o : Int} {ns : List Int} {R : PyData → Prop} (ok : ShOk b s) (rok : RcOk g w st) (l1 : 1 ≤ ln) (hn : ns.length ≤ 60) (hx : ∀ x ∈ ns, 0 ≤ x ∧ x < 2 ^ b) (q : R (.bool (!misB b p s g w st ln o ns))) :
    mReads [shD b p s, rcD g w st, .int o, .list (dI (ch (frms b p s ns) (fun i => 0 + (i : Int) * ln) (frms b p s ns).length)), .list (dI ns)] R := by
  have h : HB b s g w st ln := hb_of ok rok l1
  have z := sz_bd' (p := p) ok
  have sl := sig_len (b := b) (p := p) (s := s) (ln := ln) (rowsT ((sz b p s : Int) * ln) 0 ns)
  rw [sig_lenT] at sl
  have sl2 : ns.length * sz b p s ≤ 60 * 13 := Nat.mul_le_mul hn z.2
  rw [text_sg ok.2.2.1]
  rw [misB_eq h, Bool.not_not] at q
  exact ⟨lnT b p s g w st ln ns h, o, ns, rfl, ⟨rok, by show (sig b p s ln _).length ≤ _; omega⟩, by show (sig b p s ln _).length ≤ _; omega, hn, hx, q⟩
theorem ln_sg {L : Ln} {x y : List Int} (hx : Asc x) (hy : Asc y) (e : x = y) : ({ L with sg := x, asc := hx } : Ln) = { L with sg := y, asc := hy } := by
  subst e
  rfl
theorem rdB_two {L : Ln} {o a c : Int} (h : rdB L o [a, c] = true) : ∃ s1 s2, rds L o = [(s1, ("good" : Str), a), (s2, ("good" : Str), c)] := by
  unfold rdB at h
  rw [Bool.and_eq_true] at h
  obtain ⟨h1, h2⟩ := h
  have h2 := of_decide_eq_true h2
  cases e : rds L o with
  | nil => rw [e] at h2; cases h2
  | cons r1 rs =>
    cases rs with
    | nil => rw [e] at h2; cases h2
    | cons r2 rs2 =>
      cases rs2 with
      | cons r3 rs3 => rw [e] at h2; cases h2
      | nil =>
        obtain ⟨t1, w1, n1⟩ := r1
        obtain ⟨t2, w2, n2⟩ := r2
        rw [e] at h1 h2
        have h2 : [n1, n2] = [a, c] := h2
        cases h2
        rw [List.all_eq_true] at h1
        have a1 := of_decide_eq_true (h1 _ (List.mem_cons_self ..))
        have a2 := of_decide_eq_true (h1 (t2, w2, _) (List.mem_cons_of_mem _ (List.mem_cons_self ..)))
        have a1 : w1 = ("good" : Str) := a1
        have a2 : w2 = ("good" : Str) := a2
        subst a1
        subst a2
        exact ⟨t1, t2, rfl⟩
/-- some pair is read wrong -/
def BadO (b : Nat) (p : Pa) (s : Nat) (g w st ln o : Int) : Prop := ∃ a c : Int, (0 ≤ a ∧ a < 2 ^ b) ∧ (0 ≤ c ∧ c < 2 ^ b) ∧ misB b p s g w st ln o [a, c] = true
theorem bad_pair {b : Nat} {p : Pa} {s : Nat} {g w st ln o : Int} (h : HB b s g w st ln) (o0 : 0 ≤ o) (bad : ¬ WinOff (lnT b p s g w st ln [] h) (fun j => (j : Int) * ln) o) : BadO b p s g w st ln o := by
  refine Classical.byContradiction fun no => bad (conv (L := lnT b p s g w st ln [] h) h.2.2.2.2 o0 fun a c a0 a1 c0 c1 => ?_)
  have m : misB b p s g w st ln o [a, c] = false := by
    cases e : misB b p s g w st ln o [a, c] with
    | false => rfl
    | true => exact absurd ⟨a, c, ⟨a0, a1⟩, ⟨c0, c1⟩, e⟩ no
  rw [misB_eq h] at m
  have m : rdB (lnT b p s g w st ln [a, c] h) o [a, c] = true := by
    revert m
    cases rdB (lnT b p s g w st ln [a, c] h) o [a, c] <;> simp
  have e : prL (lnT b p s g w st ln [] h) ln h.2.2.2.2 a c = lnT b p s g w st ln [a, c] h := by
    refine ln_sg (L := lnT b p s g w st ln [] h) _ (sig_asc h.1.2.2.1 h.2.2.2.2 _ 0 (far_text [a, c] 0)) ?_
    show sig b p s ln [(0, a), ((sz b p s : Int) * ln, c)] = sig b p s ln [(0, a), (0 + (sz b p s : Int) * ln, c)]
    rw [Int.zero_add]
  rw [e]
  exact rdB_two m
/-- safe lengths: no text is read wrong -/
theorem mis_safe {b : Nat} {p : Pa} {s : Nat} {g w st ln o lo hi : Int} {ns : List Int} (ok : ShOk b s) (rok : RcOk g w st) (l1 : 1 ≤ ln) (og : o < g) (hx : ∀ x ∈ ns, 0 ≤ x ∧ x < 2 ^ b) (m1 : Mx (loL (sz b p s) s g w st) lo) (m2 : Mi (hiL (sz b p s) s g w st) hi) (h1 : lo ≤ ln) (h2 : ln ≤ hi) : misB b p s g w st ln o ns = false := by
  have h : HB b s g w st ln := hb_of ok rok l1
  have D0 : 0 ≤ (sz b p s : Int) * ln := Int.mul_nonneg (by omega) (by omega)
  have r := sent_read (L := lnT b p s g w st ln ns h) (look := o) (snd := rowsT ((sz b p s : Int) * ln) 0 ns) rfl (far_text ns 0) l1 (fun q hq => hx _ (rowsT_ge D0 ns 0 q hq).2) m1 m2 h1 h2 (fun q hq => by
    cases ns with
    | nil => cases hq
    | cons a r => cases hq; show o < 0 + g; omega)
  rw [misB_eq h]
  unfold rdB
  rw [r, List.map_map]
  have e1 : ((rowsT ((sz b p s : Int) * ln) 0 ns).map fun q => (nxt (lnT b p s g w st ln ns h).g q.1 o, ("good" : Str), q.2)).all (fun r => decide (r.2.1 = ("good" : Str))) = true := by
    rw [List.all_map]
    exact List.all_eq_true.mpr fun q _ => by show decide (("good" : Str) = "good") = true; exact decide_eq_true rfl
  rw [e1]
  have e2 : (rowsT ((sz b p s : Int) * ln) 0 ns).map ((fun r : Int × Str × Int => r.2.2) ∘ fun q => (nxt (lnT b p s g w st ln ns h).g q.1 o, ("good" : Str), q.2)) = ns := rowsT_map ns 0
  rw [e2, decide_eq_true rfl]
  rfl
theorem win_good {b : Nat} {p : Pa} {s : Nat} {g w st ln o : Int} (h : HB b s g w st ln) (z : s + 2 ≤ sz b p s) : WinOff (lnT b p s g w st ln [] h) (fun j => (j : Int) * ln) o ↔ goodB (win (sz b p s) s) g w st ln o = true := by
  unfold goodB
  rw [List.all_eq_true]
  constructor
  · intro wo r hr
    obtain ⟨k, f, l, rfl, hk, hc⟩ := (win_mem z).mp hr
    have := wo k f l hk hc
    have this : (f : Int) * ln ≤ ((0 : Nat) : Int) * ln + o + g * (w + st * (k : Int)) ∧ ((0 : Nat) : Int) * ln + o + g * (w + st * (k : Int)) < (l : Int) * ln := this
    rw [r3_mk, Bool.and_eq_true, decide_eq_true_eq, decide_eq_true_eq, Int.mul_comm ln, Int.mul_comm ln]
    simp only [Int.natCast_zero, Int.zero_mul, Int.zero_add] at this
    exact this
  · intro hx k f l hk hc
    have := hx _ ((win_mem z).mpr ⟨k, f, l, rfl, hk, hc⟩)
    rw [r3_mk, Bool.and_eq_true, decide_eq_true_eq, decide_eq_true_eq, Int.mul_comm ln, Int.mul_comm ln] at this
    show (f : Int) * ln ≤ ((0 : Nat) : Int) * ln + o + g * (w + st * (k : Int)) ∧ ((0 : Nat) : Int) * ln + o + g * (w + st * (k : Int)) < (l : Int) * ln
    simp only [Int.natCast_zero, Int.zero_mul, Int.zero_add]
    exact this
/-- the phase of a paper is a bad one -/
theorem paper_bad {b : Nat} {p : Pa} {s : Nat} {g w st ln lo hi gl gh o : Int} (ok : ShOk b s) (rok : RcOk g w st) (l1 : 1 ≤ ln) (m1 : Mx (loL (sz b p s) s g w st) lo) (m2 : Mi (hiL (sz b p s) s g w st) hi) (m3 : Mx (0 :: gdL (sz b p s) s g w st ln) gl) (m4 : Mi ((g - 1) :: gdH (sz b p s) s g w st ln) gh)
    (ns : ¬ (lo ≤ ln ∧ ln ≤ hi)) (ho : (o = 0 ∧ (gh < gl ∨ 0 < gl)) ∨ (o = g - 1 ∧ ¬ 0 < gl)) : BadO b p s g w st ln o := by
  have h : HB b s g w st ln := hb_of ok rok l1
  have z := sz_bd' (p := p) ok
  have g1 := rok.1
  refine bad_pair h (by omega) fun wo => ?_
  have gd := (gd_iff m3 m4 (show 0 ≤ o by omega) (by omega)).mp ((win_good h z.1).mp wo)
  rcases ho with ⟨rfl, e⟩ | ⟨rfl, e⟩
  · omega
  · apply ns
    have clk : Clk g w st := ⟨rok.1, rok.2.1, rok.2.2.1⟩
    have w0 := (win_good h z.1).mpr ((gd_iff m3 m4 (Int.le_refl 0) (by omega)).mpr ⟨by omega, by have := m4.2; have := Int.le_trans (show (0 : Int) ≤ g - 1 by omega) gd.2; omega⟩)
    refine ⟨(lo_iff z.1 ok.2.2.1 m1).mpr fun k f l hk hc => ?_, (hi_iff z.1 clk m2).mpr fun k f l hk hc => ?_⟩
    · have := (wo k f l hk hc).2
      have this : ((0 : Nat) : Int) * ln + (g - 1) + lookI g w st k < (l : Int) * ln := this
      rw [Int.mul_comm ln]
      simp at this
      omega
    · have := (w0 k f l hk hc).1
      have this : (f : Int) * ln ≤ ((0 : Nat) : Int) * ln + 0 + lookI g w st k := this
      rw [Int.mul_comm ln]
      simp at this
      omega
def mMisread : Mn := fun ds R => ∃ b p s, ∃ (g w st ln o : Int) (ns : List Int), ds = [shD b p s, rcD g w st, .int ln, .int o, .list (dI ns)] ∧ ShOk b s ∧ RcOk g w st ∧ 1 ≤ ln ∧ ns.length ≤ 60 ∧ (∀ x ∈ ns, 0 ≤ x ∧ x < 2 ^ b) ∧ R (.bool (misB b p s g w st ln o ns))
def prodL (l : List Int) : List (Int × Int) := l.flatMap fun a => l.map fun c => (a, c)
def allP (b : Nat) : List (List Int) := [[0, 1, 1 * 2 ^ ((b : Nat) : Int).toNat - 1], (List.range (1 * 2 ^ ((b : Nat) : Int).toNat - 1 + 1 : Int).toNat).map fun i : Nat => (i : Int)]
def misQ (b : Nat) (p : Pa) (s : Nat) (g w st ln o : Int) (q : Int × Int) : Bool := misB b p s g w st ln o [q.1, q.2]
/-- the first pair that is read wrong -/
def pairOf (b : Nat) (p : Pa) (s : Nat) (g w st ln o : Int) : Int × Int := (((allP b).flatMap prodL).find? (misQ b p s g w st ln o)).getD (0, 0)
theorem find_at {α : Type} {f : α → Bool} {l A B : List α} {x : α} (e : l = A ++ x :: B) (h : ∀ q ∈ A, f q = false) (hx : f x = true) : l.find? f = some x := by
  subst e
  rw [List.find?_append, List.find?_eq_none.mpr (fun q hq => by rw [h q hq]; decide), List.find?_cons, hx]
  rfl
theorem allP_in {b : Nat} (hb : 1 ≤ b ∧ b ≤ 9) : ∀ l ∈ allP b, l.length ≤ 1000 ∧ ∀ z ∈ l, 0 ≤ z ∧ z < 2 ^ b := by
  have two : (2 : Int) ≤ 2 ^ b := by
    have := (pw_in hb.2 (show 0 < b from hb.1)).2
    simp at this
    omega
  have pw := p2_bd hb.2
  have pe : (2 : Int) ^ ((b : Nat) : Int).toNat = 2 ^ b := by rw [Int.toNat_natCast]
  intro l hl
  rcases List.mem_cons.mp hl with rfl | hl
  · refine ⟨by simp, fun z hz => ?_⟩
    simp only [List.mem_cons, List.not_mem_nil, or_false] at hz
    rw [pe] at hz
    omega
  · rw [List.mem_singleton] at hl
    subst hl
    refine ⟨by rw [List.length_map, List.length_range]; omega, fun z hz => ?_⟩
    obtain ⟨i, hi, rfl⟩ := List.mem_map.mp hz
    have := List.mem_range.mp hi
    rw [pe] at this
    omega
theorem allP_all {b : Nat} (hb : 1 ≤ b ∧ b ≤ 9) {x y : Int} (hx : 0 ≤ x ∧ x < 2 ^ b) (hy : 0 ≤ y ∧ y < 2 ^ b) : (x, y) ∈ (allP b).flatMap prodL := by
  have pe : (2 : Int) ^ ((b : Nat) : Int).toNat = 2 ^ b := by rw [Int.toNat_natCast]
  have r : ∀ z : Int, 0 ≤ z ∧ z < 2 ^ b → z ∈ (List.range (1 * 2 ^ ((b : Nat) : Int).toNat - 1 + 1 : Int).toNat).map fun i : Nat => (i : Int) := fun z hz =>
    List.mem_map.mpr ⟨z.toNat, List.mem_range.mpr (by rw [pe]; omega), by omega⟩
  exact List.mem_flatMap.mpr ⟨_, List.mem_cons_of_mem _ (List.mem_cons_self ..), List.mem_flatMap.mpr ⟨x, r x hx, List.mem_map.mpr ⟨y, r y hy, rfl⟩⟩⟩
theorem pair_ok {b : Nat} {p : Pa} {s : Nat} {g w st ln o : Int} (hb : 1 ≤ b ∧ b ≤ 9) (bad : BadO b p s g w st ln o) : (0 ≤ (pairOf b p s g w st ln o).1 ∧ (pairOf b p s g w st ln o).1 < 2 ^ b) ∧ (0 ≤ (pairOf b p s g w st ln o).2 ∧ (pairOf b p s g w st ln o).2 < 2 ^ b) ∧ misB b p s g w st ln o [(pairOf b p s g w st ln o).1, (pairOf b p s g w st ln o).2] = true := by
  obtain ⟨x, y, hx, hy, m⟩ := bad
  unfold pairOf
  cases e : ((allP b).flatMap prodL).find? (misQ b p s g w st ln o) with
  | none => exact absurd m (List.find?_eq_none.mp e (x, y) (allP_all hb hx hy))
  | some q =>
    obtain ⟨l, hl, hq⟩ := List.mem_flatMap.mp (List.mem_of_find?_eq_some e)
    obtain ⟨a, ha, hq⟩ := List.mem_flatMap.mp hq
    obtain ⟨c, hc, rfl⟩ := List.mem_map.mp hq
    exact ⟨(allP_in hb l hl).2 a ha, (allP_in hb l hl).2 c hc, (List.find?_some e : misQ b p s g w st ln o (a, c) = true)⟩
/-- a pair that is found in its turn -/
theorem pair_at {b : Nat} {p : Pa} {s : Nat} {g w st ln o : Int} {pre post : List (List Int)} {l pre2 post2 pre3 post3 : List Int} {a c : Int} (h1 : allP b = pre ++ l :: post) (h2 : l = pre2 ++ a :: post2) (h3 : l = pre3 ++ c :: post3)
    (f1 : ∀ q ∈ pre.flatMap prodL, misQ b p s g w st ln o q = false) (f2 : ∀ a' ∈ pre2, ∀ c' ∈ l, misQ b p s g w st ln o (a', c') = false) (f3 : ∀ c' ∈ pre3, misQ b p s g w st ln o (a, c') = false) (m : misB b p s g w st ln o [a, c] = true) : pairOf b p s g w st ln o = (a, c) := by
  have e : (allP b).flatMap prodL = (pre.flatMap prodL ++ ((pre2.flatMap fun a' => l.map fun c' => (a', c')) ++ pre3.map fun c' => (a, c'))) ++ (a, c) :: ((post3.map fun c' => (a, c')) ++ ((post2.flatMap fun a' => l.map fun c' => (a', c')) ++ post.flatMap prodL)) := by
    rw [h1, List.flatMap_append, List.flatMap_cons]
    have e2 : prodL l = (pre2.flatMap fun a' => l.map fun c' => (a', c')) ++ ((pre3.map fun c' => (a, c')) ++ (a, c) :: (post3.map fun c' => (a, c')) ++ (post2.flatMap fun a' => l.map fun c' => (a', c'))) := by
      have e3 : (l.map fun c' => (a, c')) = (pre3.map fun c' => (a, c')) ++ (a, c) :: (post3.map fun c' => (a, c')) := by
        conv => lhs; rw [h3]
        rw [List.map_append, List.map_cons]
      unfold prodL
      conv => lhs; arg 2; rw [h2]
      rw [List.flatMap_append, List.flatMap_cons, e3]
    rw [e2]
    simp only [List.append_assoc, List.cons_append]
  unfold pairOf
  rw [find_at e (fun q hq => ?_) m]
  · rfl
  · rcases List.mem_append.mp hq with hq | hq
    · exact f1 q hq
    · rcases List.mem_append.mp hq with hq | hq
      · obtain ⟨a', ha, hq⟩ := List.mem_flatMap.mp hq
        obtain ⟨c', hc, rfl⟩ := List.mem_map.mp hq
        exact f2 a' ha c' hc
      · obtain ⟨c', hc, rfl⟩ := List.mem_map.mp hq
        exact f3 c' hc
def mMisPair : Mn := fun ds R => ∃ b p s, ∃ (g w st ln o : Int), ds = [shD b p s, rcD g w st, .int ln, .int o] ∧ ShOk b s ∧ RcOk g w st ∧ 1 ≤ ln ∧ BadO b p s g w st ln o ∧ R (.tuple [.int (pairOf b p s g w st ln o).1, .int (pairOf b p s g w st ln o).2])
def papO (g gl gh : Int) : Int := if gh < gl ∨ 0 < gl then 0 else g - 1
/-- what a paper is -/
def PapD (b : Nat) (p : Pa) (s : Nat) (g w st ln lo hi : Int) (D : PyData) : Prop := ((lo ≤ ln ∧ ln ≤ hi) ∧ D = .none) ∨ (¬ (lo ≤ ln ∧ ln ≤ hi) ∧ ∃ gl gh, Mx (0 :: gdL (sz b p s) s g w st ln) gl ∧ Mi ((g - 1) :: gdH (sz b p s) s g w st ln) gh ∧ D = .tuple [.int (papO g gl gh), .list [.int (pairOf b p s g w st ln (papO g gl gh)).1, .int (pairOf b p s g w st ln (papO g gl gh)).2]])
theorem pap_ex {b : Nat} {p : Pa} {s : Nat} (g w st ln lo hi : Int) : ∃ D, PapD b p s g w st ln lo hi D := by
  by_cases c : lo ≤ ln ∧ ln ≤ hi
  · exact ⟨_, .inl ⟨c, rfl⟩⟩
  · obtain ⟨⟨gl, m3⟩, ⟨gh, m4⟩⟩ := gd_ex (n := sz b p s) (s := s) g w st ln
    exact ⟨_, .inr ⟨c, gl, gh, m3, m4, rfl⟩⟩
/-- what stands in a paper -/
theorem pap_in {b : Nat} {p : Pa} {s : Nat} {g w st ln lo hi : Int} {D : PyData} (ok : ShOk b s) (rok : RcOk g w st) (l1 : 1 ≤ ln) (m1 : Mx (loL (sz b p s) s g w st) lo) (m2 : Mi (hiL (sz b p s) s g w st) hi) (h : PapD b p s g w st ln lo hi D) (ns : ¬ (lo ≤ ln ∧ ln ≤ hi)) : ∃ o a c : Int, (0 ≤ o ∧ o < g) ∧ (0 ≤ a ∧ a < 2 ^ b) ∧ (0 ≤ c ∧ c < 2 ^ b) ∧ misB b p s g w st ln o [a, c] = true ∧ D = .tuple [.int o, .list [.int a, .int c]] := by
  rcases h with ⟨c, _⟩ | ⟨_, gl, gh, m3, m4, rfl⟩
  · exact absurd c ns
  · have g1 := rok.1
    have bad : BadO b p s g w st ln (papO g gl gh) := paper_bad ok rok l1 m1 m2 m3 m4 ns (by unfold papO; split <;> omega)
    obtain ⟨h1, h2, h3⟩ := pair_ok ⟨ok.1, ok.2.1⟩ bad
    exact ⟨_, _, _, by unfold papO; split <;> omega, h1, h2, h3, rfl⟩
def mPaper : Mn := fun ds R => ∃ b p s, ∃ (g w st ln lo hi : Int) (D : PyData), ds = [shD b p s, rcD g w st, .int ln] ∧ ShOk b s ∧ RcOk g w st ∧ 1 ≤ ln ∧ ln < 2 ^ 230 ∧ Mx (loL (sz b p s) s g w st) lo ∧ Mi (hiL (sz b p s) s g w st) hi ∧ PapD b p s g w st ln lo hi D ∧ R D
def mIsSafe : Mn := fun ds R => ∃ b p s, ∃ (g w st ln lo hi : Int), ds = [shD b p s, rcD g w st, .int ln] ∧ ShOk b s ∧ RcOk g w st ∧ 1 ≤ ln ∧ Mx (loL (sz b p s) s g w st) lo ∧ Mi (hiL (sz b p s) s g w st) hi ∧ R (.bool (decide (lo ≤ ln) && decide (ln ≤ hi)))
def mShows : Mn := fun ds R => ∃ b p s, ∃ (g w st ln o : Int) (ns : List Int), ds = [shD b p s, rcD g w st, .int ln, .tuple [.int o, .list (dI ns)]] ∧ ShOk b s ∧ RcOk g w st ∧ 1 ≤ ln ∧ 0 ≤ o ∧ o < g ∧ 1 ≤ ns.length ∧ ns.length ≤ 2 ∧ (∀ x ∈ ns, 0 ≤ x ∧ x < 2 ^ b) ∧ R (.bool (misB b p s g w st ln o ns))
end PL
/-! PS8: texts with levels of uneven lengths -/
namespace PL
open PySem PySem.Spec PyProof.Rows L2 Evl SB PW
/-- the rows of a text whose i-th level begins at T i -/
def rowsU (n : Nat) : (Nat → Int) → List Int → List Rw
  | _, [] => []
  | T, x :: r => (x, T) :: rowsU n (fun i => T (n + i)) r
theorem frms_cons {b : Nat} {p : Pa} {s : Nat} (x : Int) (r : List Int) : frms b p s (x :: r) = frm b p s x ++ frms b p s r := rfl
theorem mono_le {T : Nat → Int} (h : ∀ i j, i < j → T i < T j) {i j : Nat} (ij : i ≤ j) : T i ≤ T j := by
  rcases Nat.lt_or_eq_of_le ij with c | rfl
  · exact Int.le_of_lt (h i j c)
  · exact Int.le_refl _
theorem rows_T {L : Ln} : ∀ (ns : List Int) (pre : List Int) (T : Nat → Int) (a : Int), (∀ i j, i < j → T i < T j) → L.sg = pre ++ ch (frms L.b L.p L.s ns) T (frms L.b L.p L.s ns).length → pre.length % 2 = 0 → (∀ x ∈ pre, x ≤ a) → a ≤ T 0 → RowsOk L a (rowsU L.n T ns)
  | [], pre, T, a, hT, e, ev, hp, _ => fun t ht => by
    rw [e, lv_app_r (fun x hx => Int.le_trans (hp x hx) ht) ev]
    rfl
  | x :: r, pre, T, a, hT, e, ev, hp, h1 => by
    have n3 := L.n_bd
    have fl : (frm L.b L.p L.s x).length = L.n := frm_sz _ _ _ x
    rw [frms_cons, List.length_append, ch_app (frm_end x L.s1) _ (Nat.le_refl _), fl] at e
    have cge : ∀ y ∈ ch (frm L.b L.p L.s x) T L.n, T 0 ≤ y ∧ y < T L.n := fun y hy => by
      obtain ⟨i, hi, rfl⟩ := ch_mem hT hy
      exact ⟨mono_le hT (Nat.zero_le i), hT i L.n hi⟩
    have rge : ∀ y ∈ ch (frms L.b L.p L.s r) (fun i => T (L.n + i)) (frms L.b L.p L.s r).length, T L.n ≤ y := fun y hy => by
      obtain ⟨i, hi, rfl⟩ := ch_mem (fun i j ij => hT (L.n + i) (L.n + j) (by omega)) hy
      exact mono_le hT (by omega)
    have hTn : T 0 ≤ T L.n := mono_le hT (Nat.zero_le _)
    show RowsOk L a ((x, T) :: rowsU L.n (fun i => T (L.n + i)) r)
    refine ⟨h1, fun t t1 t2 => ?_, fun j hj t t1 t2 => ?_, ?_⟩
    · have t2 : t < T 0 := t2
      rw [e, lv_app_r (fun y hy => Int.le_trans (hp y hy) t1) ev]
      unfold lv
      rw [cnt_non]
      · rfl
      · intro y hy
        rcases List.mem_append.mp hy with hy | hy
        · have := (cge y hy).1
          omega
        · have := rge y hy
          omega
    · have t1 : T j ≤ t := t1
      have t2 : t < T (j + 1) := t2
      have a1 : T 0 ≤ T j := mono_le hT (Nat.zero_le j)
      have a2 : T (j + 1) ≤ T L.n := mono_le hT hj
      rw [e, lv_app_r (fun y hy => Int.le_trans (hp y hy) (by omega)) ev, lv_app_l (fun y hy => by have := rge y hy; omega)]
      rw [lv_ch (z1_frm x) (k := j + 1) (fun i hi => ?_) L.n hj (fun i hi _ => ?_)]
      · rfl
      · have := mono_le hT (show i ≤ j by omega)
        omega
      · have := mono_le hT (show j + 1 ≤ i by omega)
        omega
    · refine rows_T r (pre ++ ch (frm L.b L.p L.s x) T L.n) _ (T L.n) (fun i j ij => hT _ _ (by omega)) (by rw [e, List.append_assoc]) ?_ (fun y hy => ?_) (Int.le_refl _)
      · rw [List.length_append]
        have := ch_even (b := L.b) (p := L.p) (s := L.s) (x := x) L.s1 T
        rw [show L.n = sz L.b L.p L.s from rfl]
        omega
      · rcases List.mem_append.mp hy with hy | hy
        · have := hp y hy
          omega
        · have := (cge y hy).2
          omega
/-- where levels begin that last so long -/
def begT (t : Int) (ls : List Int) (i : Nat) : Int := t + (ls.take i).sum + ((i : Int) - (ls.take i).length)
theorem begT_lt {t : Int} {ls : List Int} (h : ∀ x ∈ ls, 1 ≤ x) : ∀ i j, i < j → begT t ls i < begT t ls j := by
  have st : ∀ i, begT t ls i < begT t ls (i + 1) := fun i => by
    unfold begT
    rw [List.take_succ]
    cases e : ls[i]? with
    | none => simp; omega
    | some x =>
      have := h x (List.mem_of_getElem? e)
      simp
      omega
  intro i j ij
  obtain ⟨k, rfl⟩ : ∃ k, j = i + 1 + k := ⟨j - i - 1, by omega⟩
  induction k with
  | zero => exact st i
  | succ k ih => exact Int.lt_trans (ih (by omega)) (st _)
theorem begT_in {t : Int} {ls : List Int} {i : Nat} (h : i ≤ ls.length) : begT t ls i = t + (ls.take i).sum := by
  unfold begT
  rw [List.length_take, Nat.min_eq_left h]
  omega
theorem rowsU_mem {n : Nat} : ∀ (ns : List Int) (T : Nat → Int) (r : Rw), r ∈ rowsU n T ns → r.1 ∈ ns ∧ ∃ k, k < ns.length ∧ r.2 = fun j => T (k * n + j)
  | [], _, _, h => nomatch h
  | x :: ns, T, r, h => by
    rcases List.mem_cons.mp h with rfl | h
    · exact ⟨List.mem_cons_self .., 0, by simp, by funext j; show T j = T (0 * n + j); rw [Nat.zero_mul, Nat.zero_add]⟩
    · obtain ⟨h1, k, hk, e⟩ := rowsU_mem ns _ r h
      refine ⟨List.mem_cons_of_mem _ h1, k + 1, by simp; omega, ?_⟩
      rw [e]
      funext j
      show T (n + (k * n + j)) = T ((k + 1) * n + j)
      rw [Nat.add_mul, Nat.one_mul]
      congr 1
      omega
theorem rowsU_map {n : Nat} : ∀ (ns : List Int) (T : Nat → Int), (rowsU n T ns).map (fun r => r.1) = ns
  | [], _ => rfl
  | x :: ns, T => by
    show x :: (rowsU n (fun i => T (n + i)) ns).map (fun r => r.1) = x :: ns
    rw [rowsU_map ns]
/-- lengths of levels between bounds, the last one of each frame may be longer -/
def Lasts (n : Nat) (low high : Int) (ls : List Int) : Prop := ∀ (i : Nat) (x : Int), ls[i]? = some x → low ≤ x ∧ ((i + 1) % n ≠ 0 → x ≤ high)
theorem sum_lo {low : Int} {ls : List Int} {m : Nat} (h : ∀ (i : Nat) (x : Int), ls[i]? = some x → low ≤ x) : ∀ j, m + j ≤ ls.length → low * j ≤ (ls.take (m + j)).sum - (ls.take m).sum
  | 0, _ => by simp
  | j + 1, hj => by
    have ih := sum_lo (m := m) h j (by omega)
    have e : ls[m + j]? = some (ls[m + j]'(by omega)) := List.getElem?_eq_getElem _
    have := h _ _ e
    rw [show m + (j + 1) = (m + j) + 1 by omega, List.take_succ, e, List.sum_append]
    rw [show ((j + 1 : Nat) : Int) = (j : Int) + 1 by omega, Int.mul_add, Int.mul_one]
    simp
    omega
theorem sum_hi {high : Int} {ls : List Int} {m : Nat} : ∀ j, m + j ≤ ls.length → (∀ (i : Nat) (x : Int), m ≤ i → i < m + j → ls[i]? = some x → x ≤ high) → (ls.take (m + j)).sum - (ls.take m).sum ≤ high * j
  | 0, _, _ => by simp
  | j + 1, hj, h => by
    have ih := sum_hi (m := m) (high := high) j (by omega) fun i x a b => h i x a (by omega)
    have e : ls[m + j]? = some (ls[m + j]'(by omega)) := List.getElem?_eq_getElem _
    have := h _ _ (by omega) (by omega) e
    rw [show m + (j + 1) = (m + j) + 1 by omega, List.take_succ, e, List.sum_append]
    rw [show ((j + 1 : Nat) : Int) = (j : Int) + 1 by omega, Int.mul_add, Int.mul_one]
    simp
    omega
/-- levels of uneven lengths between safe bounds are read right -/
theorem uneven_read {L : Ln} {ns ls : List Int} {t look lo hi low high : Int} (hsg : L.sg = ch (frms L.b L.p L.s ns) (begT t ls) (frms L.b L.p L.s ns).length) (hl : ls.length = ns.length * L.n) (hls : Lasts L.n low high ls) (l1 : 1 ≤ low) (hx : ∀ x ∈ ns, 0 ≤ x ∧ x < 2 ^ L.b)
    (m1 : Mx (loL L.n L.s L.g L.w L.st) lo) (m2 : Mi (hiL L.n L.s L.g L.w L.st) hi) (h1 : lo ≤ low) (h2 : high ≤ hi) (lk : look < t + L.g) : rdB L look ns = true ∧ (rds L look).map (fun r => r.2.2) = ns := by
  have n3 := L.n_bd
  have s1 := L.s1
  have pos : ∀ x ∈ ls, 1 ≤ x := fun x hx2 => by
    obtain ⟨i, hi2, rfl⟩ := List.mem_iff_getElem.mp hx2
    have := (hls i _ (List.getElem?_eq_getElem hi2)).1
    omega
  have hT := begT_lt (t := t) pos
  have t0 : begT t ls 0 = t := by rw [begT_in (Nat.zero_le _)]; simp
  have ro := rows_T (L := L) ns [] (begT t ls) (begT t ls 0) hT (by rw [hsg]; rfl) rfl (fun x hx => nomatch hx) (Int.le_refl _)
  have e := rows_read (L := L) (rowsU L.n (begT t ls) ns) (begT t ls 0) look ro (fun r hr => hx _ (rowsU_mem ns _ r hr).1) (fun r hr => by
    obtain ⟨_, k, hk, e⟩ := rowsU_mem ns _ r hr
    have kn : (k + 1) * L.n ≤ ns.length * L.n := Nat.mul_le_mul_right _ hk
    rw [Nat.add_mul, Nat.one_mul] at kn
    rw [e]
    refine safe_wins m1 m2 h1 h2 (fun j hj => ?_) fun j hj => ?_
    · show low * j ≤ begT t ls (k * L.n + j) - begT t ls (k * L.n + 0)
      rw [begT_in (by omega), begT_in (by omega), Nat.add_zero]
      have := sum_lo (m := k * L.n) (fun i x e => (hls i x e).1) j (by omega)
      omega
    · show begT t ls (k * L.n + j) - begT t ls (k * L.n + 0) ≤ high * j
      rw [begT_in (by omega), begT_in (by omega), Nat.add_zero]
      have := sum_hi (m := k * L.n) (high := high) j (by omega) fun i x a b e2 => (hls i x e2).2 (by
        obtain ⟨d, rfl⟩ : ∃ d, i = k * L.n + d := ⟨i - k * L.n, by omega⟩
        rw [show k * L.n + d + 1 = (d + 1) + L.n * k by rw [Nat.mul_comm]; omega, Nat.add_mul_mod_self_left, Nat.mod_eq_of_lt (by omega)]
        omega)
      omega) (fun u u1 u2 => by
    rw [hsg]
    unfold lv
    rw [cnt_non fun x hx2 => ?_]
    · rfl
    · obtain ⟨i, _, rfl⟩ := ch_mem hT hx2
      have := mono_le hT (Nat.zero_le i)
      omega) (fun r hr => by
    cases ns with
    | nil => cases hr
    | cons x ns => cases hr; show look < begT t ls 0 + L.g; omega)
  have e2 : (rds L look).map (fun r => r.2.2) = ns := by
    rw [e, List.map_map]
    exact rowsU_map ns _
  refine ⟨?_, e2⟩
  unfold rdB
  rw [e2, decide_eq_true rfl, e, List.all_map, Bool.and_true]
  exact List.all_eq_true.mpr fun q _ => by show decide (("good" : Str) = "good") = true; exact decide_eq_true rfl
theorem frm_zero {b : Nat} {p : Pa} {s : Nat} (hb : 1 ≤ b ∧ b ≤ 9) (hp : p ≠ .od) {j : Nat} (hj : j < sz b p s - s) : (frm b p s 0).getD j 1 = 0 := by
  cases j with
  | zero => rfl
  | succ i =>
    by_cases c : i < b
    · rw [frm_bit c]
      exact (one_bit i (by omega)).2.2.2.1
    · have hsz : sz b p s = 1 + b + plen p + s := rfl
      cases p with
      | no =>
        have : plen Pa.no = 0 := rfl
        omega
      | od => exact absurd rfl hp
      | ev =>
        have : plen Pa.ev = 1 := rfl
        obtain rfl : i = b := by omega
        rw [frm_ev, (sum_b01 hb).1]
        rfl
/-- too long levels of a zero, read from its begin, are read wrong, however long the stops are -/
theorem zero_bad {L : Ln} {ls : List Int} {x hi : Int} (hsg : L.sg = ch (frms L.b L.p L.s [0]) (begT 0 ls) (frms L.b L.p L.s [0]).length) (hl : ls.length = L.n) (pos : ∀ y ∈ ls, 1 ≤ y) (sum : begT 0 ls (L.n - L.s) = x * (L.n - L.s : Nat)) (hp : L.p ≠ .od) (m2 : Mi (hiL L.n L.s L.g L.w L.st) hi) (hx : hi < x) : rdB L 0 [0] = false := by
  have n3 := L.n_bd
  have s1 := L.s1
  have g1 := L.g1
  have hT := begT_lt (t := 0) pos
  have t0 : begT 0 ls 0 = 0 := by rw [begT_in (Nat.zero_le _)]; simp
  have ro := rows_T (L := L) [0] [] (begT 0 ls) 0 hT (by rw [hsg]; rfl) rfl (fun x hx => nomatch hx) (by omega)
  obtain ⟨_, _, lev, tail⟩ := ro
  have lev : ∀ j, j < L.n → ∀ t, begT 0 ls j ≤ t → t < begT 0 ls (j + 1) → lv L.sg t = (frm L.b L.p L.s 0).getD j 1 := lev
  have tail : ∀ t, begT 0 ls L.n ≤ t → lv L.sg t = 1 := tail
  have l0 : ∀ t, 0 ≤ t → t < x * (L.n - L.s : Nat) → lv L.sg t = 0 := fun t a c => by
    rw [← sum] at c
    obtain ⟨j, j1, j2, j3, j4⟩ := find_lev (τ := begT 0 ls) (m := 0) (t := t) (L.n - L.s) (by omega) (by rw [Nat.zero_add]; exact c)
    rw [lev j (by omega) t j3 j4]
    exact frm_zero ⟨L.b1, L.b9⟩ hp (by show j < L.n - L.s; omega)
  have l1 : ∀ t, x * (L.n - L.s : Nat) ≤ t → lv L.sg t = 1 := fun t a => by
    rw [← sum] at a
    by_cases c : begT 0 ls L.n ≤ t
    · exact tail t c
    · obtain ⟨j, j1, j2, j3, j4⟩ := find_lev (τ := begT 0 ls) (m := L.n - L.s) (t := t) L.s a (by rw [show L.n - L.s + L.s = L.n by omega]; omega)
      rw [lev j (by omega) t j3 j4]
      exact frm_stop (show L.n - L.s ≤ j from j1)
  cases e : rdB L 0 [0] with
  | false => rfl
  | true =>
    exfalso
    unfold rdB at e
    rw [Bool.and_eq_true] at e
    obtain ⟨e1, e2⟩ := e
    have e2 := of_decide_eq_true e2
    cases hr : rds L 0 with
    | nil => rw [hr] at e2; cases e2
    | cons r rs =>
      obtain ⟨o1, z1, n1, _⟩ := rds_cons _ _ _ _ (Nat.le_refl _) hr
      rw [hr, List.all_cons, Bool.and_eq_true] at e1
      have wd := of_decide_eq_true e1.1
      rw [hr] at e2
      have num : r.2.2 = 0 := (List.cons.inj e2).1
      have w0 : ∀ u : Int, u ≤ lk L u 0 := fun u => by
        unfold lk
        have := Int.mul_nonneg (show 0 ≤ L.g by omega) (show 0 ≤ L.w + L.st * ((0 : Nat) : Int) by have := L.w0; simp; omega)
        omega
      have xp : 0 < x * (L.n - L.s : Nat) := by
        have := hT 0 (L.n - L.s) (by omega)
        omega
      have hs : r.1 = 0 := by
        refine rds_start (l0 0 (Int.le_refl _) xp) ?_ hr
        rcases lv_01 L.sg (lk L 0 0) with h | h
        · exact h
        · have ge : x * (L.n - L.s : Nat) ≤ lk L 0 0 := Int.not_lt.mp fun c => by
            rw [l0 _ (w0 0) c] at h
            cases h
          have := l1 (lk L r.1 0) (by unfold lk at ge ⊢; omega)
          rw [this] at z1
          cases z1
      have fr : lvs L 0 = frm L.b L.p L.s 0 := by
        rw [hs] at n1
        have n1 : r.2 = (out L.b L.p L.s (lvs L 0)).2 := n1
        have e0 : (lvs L 0).getD 0 1 = 0 := by
          rw [List.getD_eq_getElem?_getD, lvs_at (by omega)]
          rw [hs] at z1
          exact z1
        have := out_bits L.s1 (lvs_01 _ 0) (lvs_len _ _) e0 (by rw [← n1]; exact wd)
        rw [← n1, num] at this
        exact this.symm
      have stop : ∀ p, L.n - L.s ≤ p → p < L.n → x * (L.n - L.s : Nat) ≤ lookI L.g L.w L.st p := fun p p1 p2 => by
        have : lv L.sg (lk L 0 p) = 1 := by
          have h := lvs_at (L := L) (start := 0) (i := p) p2
          rw [fr] at h
          have h2 := frm_stop (b := L.b) (p := L.p) (s := L.s) (x := 0) (show L.n - L.s ≤ p from p1)
          rw [List.getD_eq_getElem?_getD, h] at h2
          exact h2
        refine Int.not_lt.mp fun c => ?_
        have e3 : lk L 0 p = lookI L.g L.w L.st p := by unfold lk lookI; omega
        have clk : Clk L.g L.w L.st := ⟨L.g1, L.w0, L.t1⟩
        rw [e3, l0 _ (clk.look0 p) c] at this
        cases this
      have clk : Clk L.g L.w L.st := ⟨L.g1, L.w0, L.t1⟩
      refine absurd ((hi_iff (by omega) clk m2).mpr fun p f l hp2 hc => ?_) (Int.not_le.mpr hx)
      rcases hc with ⟨c, rfl, rfl⟩ | ⟨c, rfl, rfl⟩
      · have st := stop (L.n - L.s) (Nat.le_refl _) (by omega)
        refine Int.not_lt.mp fun lt => ?_
        -- a look ahead of its level means that a step is shorter than a level
        have e4 : lookI L.g L.w L.st f = L.g * L.w + L.g * L.st * (f : Int) := by unfold lookI; rw [Int.mul_add, Int.mul_assoc]
        have e5 : lookI L.g L.w L.st ((L.n - L.s : Nat) : Int) = L.g * L.w + L.g * L.st * ((L.n - L.s : Nat) : Int) := by unfold lookI; rw [Int.mul_add, Int.mul_assoc]
        rw [e5] at st
        rw [e4] at lt
        have gw : 0 ≤ L.g * L.w := Int.mul_nonneg (by omega) L.w0
        by_cases q : L.g * L.st < x
        · obtain ⟨d, hd⟩ : ∃ d : Nat, L.n - L.s = f + d := ⟨L.n - L.s - f, by omega⟩
          rw [hd, Int.natCast_add, Int.mul_add, Int.mul_add] at st
          have := Int.mul_le_mul_of_nonneg_right (show L.g * L.st ≤ x by omega) (show 0 ≤ (d : Int) by omega)
          omega
        · have := Int.mul_le_mul_of_nonneg_right (show x ≤ L.g * L.st by omega) (show 0 ≤ (f : Int) by omega)
          omega
      · exact stop p c hp2
def mSafeSpan : Mn := fun ds R => ∃ b p s, ∃ (g w st x y lo hi : Int), ds = [shD b p s, rcD g w st, .int x, .int y] ∧ ShOk b s ∧ RcOk g w st ∧ 1 ≤ x ∧ x ≤ y ∧ Mx (loL (sz b p s) s g w st) lo ∧ Mi (hiL (sz b p s) s g w st) hi ∧ R (.bool (decide (lo ≤ x) && decide (y ≤ hi)))
end PL
/-! PS9: what stands behind a text that is read right -/
namespace PL
open PySem PySem.Spec PyProof.Rows L2 Evl SB PW
theorem ln_ext {M N : Ln} (h1 : M.b = N.b) (h2 : M.p = N.p) (h3 : M.s = N.s) (h4 : M.g = N.g) (h5 : M.w = N.w) (h6 : M.st = N.st) (h7 : M.sg = N.sg) : M = N := by
  cases M
  cases N
  dsimp only at h1 h2 h3 h4 h5 h6 h7
  subst h1 h2 h3 h4 h5 h6 h7
  rfl
/-- the same line without its first changes -/
def cutL (L : Ln) (s2 : List Int) (h2 : Asc s2) : Ln := { L with sg := s2, asc := h2 }
section
variable {L : Ln} {a s2 : List Int} {h2 : Asc s2} (hsg : L.sg = a ++ s2) (ev : a.length % 2 = 0)
include hsg ev
theorem cnt_cut {t : Int} (h : ∀ x ∈ a, x ≤ t) : cnt L.sg t = a.length + cnt s2 t := by rw [hsg, cnt_app, cnt_all h]
theorem lv_cut {t : Int} (h : ∀ x ∈ a, x ≤ t) : lv (cutL L s2 h2).sg t = lv L.sg t := by
  rw [hsg]
  exact (lv_app_r h ev).symm
theorem at_cut {t : Int} (h : ∀ x ∈ a, x ≤ t) : (cutL L s2 h2).sg[cnt (cutL L s2 h2).sg t]? = L.sg[cnt L.sg t]? := by
  show s2[cnt s2 t]? = _
  rw [cnt_cut hsg ev h, hsg, List.getElem?_append_right (by omega)]
  congr 1
  omega
theorem fsee_cut {l : Int} : ∀ (n : Nat) (t : Int), (∀ x ∈ a, x ≤ t) → L.sg.length - cnt L.sg t ≤ n → fsee (cutL L s2 h2) l t = fsee L l t
  | n, t, h, hn => by
    have el : lv (cutL L s2 h2).sg t = lv L.sg t := lv_cut hsg ev h
    by_cases q : lv L.sg t = l
    · rw [fsee_here q, fsee_here (el.trans q)]
    · have q' : lv (cutL L s2 h2).sg t ≠ l := by rw [el]; exact q
      have eg := at_cut (h2 := h2) hsg ev h
      cases hc : L.sg[cnt L.sg t]? with
      | none =>
        rw [hc] at eg
        rw [fsee_end q hc, fsee_end q' eg]
      | some c =>
        rw [hc] at eg
        rw [fsee_next q hc, fsee_next q' eg]
        show fsee (cutL L s2 h2) l (nxt L.g c t) = _
        have h1 := cnt_up L.asc hc (nxt_ge (look := t) L.g1)
        have h3 := cnt_le L.sg (nxt L.g c t)
        have gt := next_gt L.asc hc
        have ge := nxt_ge (g := L.g) (c := c) (look := t) L.g1
        match n, hn with
        | 0, hn => omega
        | n + 1, hn => exact fsee_cut n _ (fun x hx => by have := h x hx; omega) (by omega)
theorem lvs_cut {s : Int} (h : ∀ x ∈ a, x ≤ s) : lvs (cutL L s2 h2) s = lvs L s := by
  unfold lvs
  refine List.map_congr_left fun i hi => ?_
  refine lv_cut hsg ev fun x hx => ?_
  have := h x hx
  have := lk_ge (L := L) (start := s) (i := i)
  exact Int.le_trans (h x hx) this
theorem fram_cut {s : Int} (h : ∀ x ∈ a, x ≤ s) : fram (cutL L s2 h2) s = fram L s := by
  unfold fram
  rw [lvs_cut hsg ev h]
  have e : lv (cutL L s2 h2).sg (lk (cutL L s2 h2) s 0) = lv L.sg (lk L s 0) := lv_cut hsg ev fun x hx => Int.le_trans (h x hx) (lk_ge (L := L) (start := s) (i := 0))
  rw [e]
  rfl
theorem idle_cut {f : Fr} (h : ∀ x ∈ a, x ≤ f.stop + L.g) : idle (cutL L s2 h2) f = idle L f := by
  unfold idle
  show (if bad f.word then (fsee (cutL L s2 h2) 1 (f.stop + L.g)).map _ else _) = _
  rw [fsee_cut hsg ev _ _ h (Nat.le_refl _)]
  rfl
theorem run_cut : ∀ (n : Nat) (t : Int), (∀ x ∈ a, x ≤ t) → L.sg.length - cnt L.sg t ≤ n → run (cutL L s2 h2) t = run L t
  | n, t, h, hn => by
    have e := fsee_cut (h2 := h2) (l := 0) hsg ev _ t h (Nat.le_refl _)
    cases q : fsee L 0 t with
    | none =>
      rw [q] at e
      rw [run_none q, run_none e]
    | some s =>
      rw [q] at e
      obtain ⟨a1, b1, _⟩ := fsee_some _ _ _ (Nat.le_refl _) q
      have hs : ∀ x ∈ a, x ≤ s := fun x hx => Int.le_trans (h x hx) a1
      have st := stop_ge L s
      have g1 := L.g1
      rw [run_some q, run_some e, fram_cut hsg ev hs, idle_cut hsg ev (fun x hx => by have := hs x hx; omega)]
      cases q2 : idle L (fram L s) with
      | none => rfl
      | some x =>
        have h3 := idle_up b1 q2
        have h4 := cnt_mono (sg := L.sg) a1
        have h5 := cnt_le L.sg x
        match n, hn with
        | 0, hn => omega
        | n + 1, hn =>
          show _ :: run _ x = _ :: run L x
          rw [run_cut n x (fun y hy => by have := hs y hy; omega) (by omega)]
theorem rds_cut {t : Int} (h : ∀ x ∈ a, x ≤ t) : rds (cutL L s2 h2) t = rds L t := by
  unfold rds
  rw [run_cut hsg ev _ _ h (Nat.le_refl _)]
end
/-- changes of a line that is quiet from a look on lie ahead of it -/
theorem quiet_past {sg : List Int} (hs : Asc sg) {t e x : Int} (q : ∀ u, t ≤ u → u < e → lv sg u = 1) (hx : x ∈ sg) (xe : x < e) : x ≤ t := by
  refine Int.not_lt.mp fun c => ?_
  have a := q (x - 1) (by omega) (by omega)
  have b := q x (by omega) xe
  obtain ⟨m, hm, e1⟩ := List.mem_iff_getElem.mp hx
  have em : sg[m]? = some x := by rw [List.getElem?_eq_getElem hm, e1]
  have up := (at_le hs em x).mp (Int.le_refl _)
  have dn : ¬ m < cnt sg (x - 1) := fun z => by
    have := (at_le hs em (x - 1)).mpr z
    omega
  obtain ⟨y, hy⟩ : ∃ y, sg[cnt sg (x - 1)]? = some y := ⟨_, List.getElem?_eq_getElem (show cnt sg (x - 1) < sg.length by omega)⟩
  have gt := next_gt hs hy
  have le : y ≤ x := (at_le hs hy x).mpr (by omega)
  obtain rfl : y = x := by omega
  have := lv_cnt (at_cnt hs hy)
  omega
/-- where rows end -/
def endR (n : Nat) : Int → List Rw → Int
  | a, [] => a
  | _, r :: rs => endR n (r.2 n) rs
/-- rows whose looks lie in their windows are read right; then the receiver is idle, and the line is quiet up to what stands behind them -/
theorem rows_pre {L : Ln} : ∀ (rows rest : List Rw) (a look : Int), RowsOk L a (rows ++ rest) → (∀ r ∈ rows, 0 ≤ r.1 ∧ r.1 < 2 ^ L.b) → (∀ r ∈ rows, WinOff L r.2 (nxt L.g (r.2 0) look - r.2 0)) → (∀ t, look ≤ t → t < a → lv L.sg t = 1) → (∀ r, (rows ++ rest).head? = some r → look < r.2 0 + L.g) →
    ∃ k : Int, rds L look = rows.map (fun r => (nxt L.g (r.2 0) look, ("good" : Str), r.1)) ++ rds L (look + k * L.g) ∧ RowsOk L (endR L.n a rows) rest ∧ (∀ t, look + k * L.g ≤ t → t < endR L.n a rows → lv L.sg t = 1) ∧ (∀ r, rest.head? = some r → look + k * L.g < r.2 0 + L.g)
  | [], rest, a, look, h, _, _, q, lb => ⟨0, by rw [Int.zero_mul, Int.add_zero]; rfl, h, by rw [Int.zero_mul, Int.add_zero]; exact q, by rw [Int.zero_mul, Int.add_zero]; exact lb⟩
  | r :: rs, rest, a, look, ⟨h1, h2, h3, h4⟩, hx, hw, q, lb => by
    have lb0 := lb r rfl
    obtain ⟨x0, x1⟩ := hx r (List.mem_cons_self ..)
    obtain ⟨k, e, l, q2⟩ := row_read x0 x1 (fun t t1 t2 => by
      by_cases c : a ≤ t
      · exact h2 t c t2
      · exact q t t1 (by omega)) lb0 h3 (hw r (List.mem_cons_self ..))
    have h4 : RowsOk L (r.2 L.n) (rs ++ rest) := h4
    obtain ⟨k2, e2, r2, q3, l2⟩ := rows_pre rs rest (r.2 L.n) (look + k * L.g) h4 (fun r' h' => hx r' (List.mem_cons_of_mem _ h')) (fun r' h' => by rw [nxt_shift]; exact hw r' (List.mem_cons_of_mem _ h')) q2 (fun r' h' => by
      cases c : rs ++ rest with
      | nil => rw [c] at h'; cases h'
      | cons r2 rs2 =>
        rw [c] at h' h4
        cases h'
        have := h4.1
        omega)
    have ek : look + (k + k2) * L.g = look + k * L.g + k2 * L.g := by rw [Int.add_mul]; omega
    refine ⟨k + k2, ?_, r2, by rw [ek]; exact q3, by rw [ek]; exact l2⟩
    rw [e, e2, ek, List.map_cons, List.cons_append]
    congr 2
    exact List.map_congr_left fun r' _ => by rw [nxt_shift]
theorem rowsT_app {D : Int} : ∀ (ns ms : List Int) (t : Int), rowsT D t (ns ++ ms) = rowsT D t ns ++ rowsT D (t + ns.length * D) ms
  | [], ms, t => by
    show rowsT D t ms = rowsT D (t + ((0 : Nat) : Int) * D) ms
    rw [Int.natCast_zero, Int.zero_mul, Int.add_zero]
  | a :: ns, ms, t => by
    show (t, a) :: rowsT D (t + D) (ns ++ ms) = (t, a) :: (rowsT D (t + D) ns ++ rowsT D _ ms)
    rw [rowsT_app ns ms (t + D), List.length_cons, show ((ns.length + 1 : Nat) : Int) = (ns.length : Int) + 1 by omega, Int.add_mul, Int.one_mul]
    congr 3
    omega
theorem sig_app (b : Nat) (p : Pa) (s : Nat) (ln : Int) (x y : List (Int × Int)) : sig b p s ln (x ++ y) = sig b p s ln x ++ sig b p s ln y := by
  unfold sig
  rw [List.map_append, List.flatten_append]
theorem sig_even {b : Nat} {p : Pa} {s : Nat} {ln : Int} (hs : 1 ≤ s) : ∀ snd : List (Int × Int), (sig b p s ln snd).length % 2 = 0
  | [] => rfl
  | q :: r => by
    rw [sig_cons, List.length_append]
    have := sig_even (b := b) (p := p) (ln := ln) hs r
    have := ch_even (b := b) (p := p) (s := s) (x := q.2) hs (fun i => q.1 + (i : Int) * ln)
    omega
theorem sig_lt {b : Nat} {p : Pa} {s : Nat} {ln : Int} (hl : 1 ≤ ln) : ∀ (ns : List Int) (t : Int), ∀ x ∈ sig b p s ln (rowsT ((sz b p s : Int) * ln) t ns), x < t + ns.length * ((sz b p s : Int) * ln)
  | [], t, x, hx => by cases hx
  | a :: r, t, x, hx => by
    have n0 := Int.mul_nonneg (show 0 ≤ ((sz b p s : Nat) : Int) by omega) (show 0 ≤ ln by omega)
    have n1 := Int.mul_nonneg (show 0 ≤ (r.length : Int) by omega) n0
    have hx : x ∈ sig b p s ln ((t, a) :: rowsT ((sz b p s : Int) * ln) (t + (sz b p s : Int) * ln) r) := hx
    rw [List.length_cons, show ((r.length + 1 : Nat) : Int) = (r.length : Int) + 1 by omega, Int.add_mul, Int.one_mul]
    rw [sig_cons] at hx
    rcases List.mem_append.mp hx with hx | hx
    · obtain ⟨i, hi, rfl⟩ := ch_mem (fun i j ij => lin_lt hl ij) hx
      have := lin_lt (B := t) hl hi
      show t + (i : Int) * ln < _
      omega
    · have := sig_lt hl r _ x hx
      omega
theorem ch_mv {ls : List Int} {T : Nat → Int} (m : Int) : ∀ n, ch ls (fun i => T i + m) n = (ch ls T n).map fun x => x * 1 + m
  | 0 => rfl
  | n + 1 => by
    rw [ch_succ, ch_succ, List.map_append, ch_mv m n]
    congr 1
    split
    · rfl
    · simp
theorem sig_mv {b : Nat} {p : Pa} {s : Nat} {ln : Int} {D : Int} (m : Int) : ∀ (ns : List Int) (t : Int), sig b p s ln (rowsT D (t + m) ns) = (sig b p s ln (rowsT D t ns)).map fun x => x * 1 + m
  | [], t => rfl
  | a :: r, t => by
    show sig b p s ln ((t + m, a) :: rowsT D (t + m + D) r) = (sig b p s ln ((t, a) :: rowsT D (t + D) r)).map _
    rw [sig_cons, sig_cons, List.map_append, show t + m + D = t + D + m by omega, sig_mv m r (t + D)]
    congr 1
    have := ch_mv (ls := frm b p s a) (T := fun i => t + (i : Int) * ln) m (sz b p s)
    rw [← this]
    exact ch_congr fun i _ => by show t + m + (i : Int) * ln = t + (i : Int) * ln + m; omega
/-- readings of a line that is moved -/
theorem rds_mv {M N : Ln} {m t : Int} (h1 : N.b = M.b) (h2 : N.p = M.p) (h3 : N.s = M.s) (h4 : N.g = M.g) (h5 : N.w = M.w) (h6 : N.st = M.st) (h7 : N.sg = M.sg.map fun x => x * 1 + m) : rds N (t + m) = (rds M t).map fun r => (r.1 * 1 + m, r.2) := by
  have e : N = scl M 1 m (Int.le_refl _) := ln_ext h1 h2 h3 (by show N.g = M.g * 1; omega) h5 h6 h7
  have := rds_sc (L := M) (m := m) (Int.le_refl 1) t
  rw [e, ← this, Int.mul_one]
theorem endR_rows {n : Nat} {ln : Int} : ∀ (ns : List Int) (t : Int), endR n t ((rowsT ((n : Int) * ln) t ns).map (rowS ln)) = t + ns.length * ((n : Int) * ln)
  | [], t => by
    show t = t + ((0 : Nat) : Int) * _
    simp
  | a :: r, t => by
    show endR n (t + (n : Int) * ln) ((rowsT ((n : Int) * ln) (t + (n : Int) * ln) r).map (rowS ln)) = _
    rw [endR_rows r, List.length_cons, show ((r.length + 1 : Nat) : Int) = (r.length : Int) + 1 by omega, Int.add_mul, Int.one_mul]
    omega
theorem rowsT_mem {D : Int} : ∀ (ns : List Int) (t : Int), ∀ q ∈ rowsT D t ns, ∃ k : Nat, k < ns.length ∧ q.1 = t + k * D ∧ q.2 ∈ ns
  | [], _, q, hq => nomatch hq
  | a :: r, t, q, hq => by
    rcases List.mem_cons.mp hq with rfl | hq
    · exact ⟨0, by simp, by simp, List.mem_cons_self ..⟩
    · obtain ⟨k, hk, e, h⟩ := rowsT_mem r (t + D) q hq
      refine ⟨k + 1, by simp; omega, ?_, List.mem_cons_of_mem _ h⟩
      rw [e, show ((k + 1 : Nat) : Int) = (k : Int) + 1 by omega, Int.add_mul, Int.one_mul]
      omega
theorem rds_mod {M : Ln} {t : Int} (ht : t < M.g) (h : M.sg = [] ∨ ∃ r, M.sg = 0 :: r) : (rds M t).map (fun r => r.2) = (rds M (t % M.g)).map fun r => r.2 := by
  have g1 := M.g1
  rcases h with e | ⟨r, e⟩
  · rw [rds_quiet (fun u _ => by rw [e]; rfl), rds_quiet (fun u _ => by rw [e]; rfl)]
  · by_cases c : 0 ≤ t
    · rw [Int.emod_eq_of_lt c ht]
    · have c0 : cnt M.sg t = 0 := by
        rw [e]
        exact cnt_cons_gt (e ▸ M.asc) (by omega)
      have l1 : lv M.sg t ≠ 0 := by unfold lv; rw [c0]; decide
      rw [rds_next l1 (c := 0) (by rw [c0, e]; rfl)]
      unfold nxt
      rw [Int.zero_add, Int.sub_zero]
/-- a text is read right if its begin is, and what stands behind it as if it stood alone -/
theorem text_tail {b : Nat} {p : Pa} {s : Nat} {g w st ln ph : Int} {ns ms : List Int} (h : HB b s g w st ln) (ph1 : ph < g) (hx : ∀ x ∈ ns, 0 ≤ x ∧ x < 2 ^ b)
    (hw : ∀ k : Nat, k < ns.length → WinOff (lnT b p s g w st ln [] h) (fun j => (j : Int) * ln) (offK g ((sz b p s : Int) * ln) ph k)) :
    misB b p s g w st ln ph (ns ++ ms) = misB b p s g w st ln (offK g ((sz b p s : Int) * ln) ph ns.length) ms := by
  have g1 := h.2.1
  have l1 := h.2.2.2.2
  have s1 := h.1.2.2.1
  rw [misB_eq h, misB_eq h]
  congr 1
  let L := lnT b p s g w st ln (ns ++ ms) h
  let U := (sz b p s : Int) * ln
  have sgL : L.sg = sig b p s ln (rowsT U 0 ns) ++ sig b p s ln (rowsT U (ns.length * U) ms) := by
    show sig b p s ln (rowsT U 0 (ns ++ ms)) = _
    rw [rowsT_app, sig_app, Int.zero_add]
  have ro := sig_rows (L := L) l1 (rowsT U 0 (ns ++ ms)) [] 0 rfl rfl (fun x hx => nomatch hx) (far_text (ns ++ ms) 0)
  rw [rowsT_app, List.map_append] at ro
  have e0 : ∀ q : Int × Int, (rowS ln q).2 0 = q.1 := fun q => by show q.1 + ((0 : Nat) : Int) * ln = q.1; simp
  have low : ∀ u : Int, u < 0 → lv L.sg u = 1 := fun u hu => by
    unfold lv
    rw [cnt_non fun x hx => ?_]
    · rfl
    · have := sig_ge l1 _ 0 (far_text (D := U) (ns ++ ms) 0) x hx
      omega
  obtain ⟨k, e1, r2, q2, l2⟩ := rows_pre ((rowsT U 0 ns).map (rowS ln)) _ 0 ph ro (fun r hr => by
    obtain ⟨q, hq, rfl⟩ := List.mem_map.mp hr
    obtain ⟨_, _, _, hm⟩ := rowsT_mem _ _ _ hq
    exact hx _ hm) (fun r hr => by
    obtain ⟨q, hq, rfl⟩ := List.mem_map.mp hr
    obtain ⟨i, hi, eq, _⟩ := rowsT_mem _ _ _ hq
    have hwi := hw i hi
    intro p' f l hp hc
    have := hwi p' f l hp hc
    have eo : nxt L.g ((rowS ln q).2 0) ph - (rowS ln q).2 0 = offK g U ph i := by
      rw [e0, eq]
      show 0 + (i : Int) * U + (ph - (0 + (i : Int) * U)) % g - (0 + (i : Int) * U) = (ph - i * U) % g
      rw [Int.zero_add]
      omega
    rw [eo, e0]
    have this : (f : Int) * ln ≤ ((0 : Nat) : Int) * ln + offK g U ph i + lookI g w st p' ∧ ((0 : Nat) : Int) * ln + offK g U ph i + lookI g w st p' < (l : Int) * ln := this
    rw [Int.natCast_zero, Int.zero_mul] at this
    show q.1 + (f : Int) * ln ≤ q.1 + offK g U ph i + lookI g w st p' ∧ q.1 + offK g U ph i + lookI g w st p' < q.1 + (l : Int) * ln
    omega) (fun u _ hu => low u hu) (fun r hr => by
    rw [← List.map_append, ← rowsT_app] at hr
    cases hq : ns ++ ms with
    | nil => rw [hq] at hr; cases hr
    | cons x y =>
      rw [hq] at hr
      cases hr
      rw [e0]
      show ph < 0 + g
      omega)
  have eR : endR L.n 0 ((rowsT U 0 ns).map (rowS ln)) = ns.length * U := by
    have := endR_rows (n := sz b p s) (ln := ln) ns 0
    rw [Int.zero_add] at this
    exact this
  rw [eR] at r2 q2
  -- all changes of the begin are past
  have past : ∀ x ∈ sig b p s ln (rowsT U 0 ns), x ≤ ph + k * g := fun x hx => by
    have xl := sig_lt (b := b) (p := p) (s := s) l1 ns 0 x hx
    rw [Int.zero_add] at xl
    exact quiet_past L.asc q2 (by rw [sgL]; exact List.mem_append_left _ hx) xl
  have as2 : Asc (sig b p s ln (rowsT U (ns.length * U) ms)) := sig_asc s1 l1 _ _ (far_text ms _)
  have c := rds_cut (L := L) (h2 := as2) sgL (sig_even s1 _) past
  let M := lnT b p s g w st ln ms h
  have mv := rds_mv (M := M) (N := cutL L (sig b p s ln (rowsT U (ns.length * U) ms)) as2) (m := ns.length * U) (t := ph + k * g - ns.length * U) rfl rfl rfl rfl rfl rfl (by
    show sig b p s ln (rowsT U (ns.length * U) ms) = (sig b p s ln (rowsT U 0 ms)).map _
    have := sig_mv (b := b) (p := p) (s := s) (ln := ln) (D := U) (ns.length * U) ms 0
    rw [Int.zero_add] at this
    exact this)
  rw [show ph + k * g - ns.length * U + ns.length * U = ph + k * g by omega, c] at mv
  have sM : M.sg = [] ∨ ∃ r, M.sg = 0 :: r := by
    cases ms with
    | nil => exact .inl rfl
    | cons x r =>
      have roM := sig_rows (L := M) l1 (rowsT U 0 (x :: r)) [] 0 rfl rfl (fun x hx => nomatch hx) (far_text (x :: r) 0)
      have n3 := M.n_bd
      have z := roM.2.2.1 0 (by omega) 0 (by show 0 + ((0 : Nat) : Int) * ln ≤ 0; simp) (by show 0 < 0 + ((0 + 1 : Nat) : Int) * ln; simp; omega)
      have z : lv M.sg 0 = 0 := z
      cases hq : M.sg with
      | nil => rw [hq] at z; cases z
      | cons y r' =>
        have y0 := sig_ge l1 _ 0 (far_text (D := U) (x :: r) 0) y (by show y ∈ M.sg; rw [hq]; exact List.mem_cons_self ..)
        have y1 := (at_le M.asc (m := 0) (x := y) (by rw [hq]; rfl) 0).mpr (by unfold lv at z; omega)
        obtain rfl : y = 0 := by omega
        exact .inr ⟨_, rfl⟩
  have tl : ∃ t : Int, t < g ∧ (rds L (ph + k * g)).map (fun r => r.2) = (rds M t).map (fun r => r.2) ∧ (t % g = offK g U ph ns.length ∨ ms = []) := by
    cases hm : ms with
    | nil =>
      refine ⟨0, by omega, ?_, .inr rfl⟩
      rw [mv, rds_quiet (L := M) (fun u _ => by show lv (sig b p s ln (rowsT U 0 ms)) u = 1; rw [hm]; rfl), rds_quiet (L := M) (fun u _ => by show lv (sig b p s ln (rowsT U 0 ms)) u = 1; rw [hm]; rfl)]
      rfl
    | cons x r =>
      refine ⟨ph + k * g - ns.length * U, ?_, by rw [mv, List.map_map]; rfl, .inl ?_⟩
      · have := l2 (rowS ln (ns.length * U, x)) (by rw [hm, Int.zero_add]; rfl)
        rw [e0] at this
        have this : ph + k * g < ns.length * U + g := this
        omega
      · unfold offK
        rw [show ph + k * g - ns.length * U = ph - ns.length * U + k * g by omega, Int.add_mul_emod_self_right]
  obtain ⟨t, tg, et, eo⟩ := tl
  have fin : (rds L (ph + k * g)).map (fun r => r.2) = (rds M (offK g U ph ns.length)).map (fun r => r.2) := by
    rw [et]
    rcases eo with eo | eo
    · rw [← eo]
      exact rds_mod tg sM
    · rw [rds_quiet (L := M) (fun u _ => by show lv (sig b p s ln (rowsT U 0 ms)) u = 1; rw [eo]; rfl), rds_quiet (L := M) (fun u _ => by show lv (sig b p s ln (rowsT U 0 ms)) u = 1; rw [eo]; rfl)]
  -- both judge by words and numbers alone
  have jd : ∀ (N : Ln) (o : Int) (xs : List Int), rdB N o xs = (((rds N o).map fun r => r.2).all (fun r => decide (r.1 = ("good" : Str))) && decide (((rds N o).map fun r => r.2).map (fun r => r.2) = xs)) := fun N o xs => by
    unfold rdB
    rw [List.all_map, List.map_map]
    rfl
  have e1 : rds L ph = ((rowsT U 0 ns).map (rowS ln)).map (fun r => (nxt L.g (r.2 0) ph, ("good" : Str), r.1)) ++ rds L (ph + k * g) := e1
  generalize hX : ((rowsT U 0 ns).map (rowS ln)).map (fun r => (nxt L.g (r.2 0) ph, ("good" : Str), r.1)) = X at e1
  have b1 : (X.map fun r => r.2).all (fun r => decide (r.1 = ("good" : Str))) = true := by
    rw [← hX, List.map_map, List.map_map, List.all_map]
    exact List.all_eq_true.mpr fun q _ => by show decide (("good" : Str) = "good") = true; exact decide_eq_true rfl
  have b2 : (X.map fun r => r.2).map (fun r => r.2) = ns := by
    rw [← hX, List.map_map, List.map_map, List.map_map]
    exact rowsT_map ns 0
  show rdB L ph (ns ++ ms) = rdB M (offK g U ph ns.length) ms
  rw [jd, jd, e1, List.map_append, fin, List.all_append, List.map_append, b1, Bool.true_and, b2]
  congr 1
  exact decide_eq_decide.mpr (List.append_right_inj ns)
/-- a text at offsets that are all good -/
theorem mis_good {b : Nat} {p : Pa} {s : Nat} {g w st ln ph : Int} {ns : List Int} (h : HB b s g w st ln) (ph1 : ph < g) (hx : ∀ x ∈ ns, 0 ≤ x ∧ x < 2 ^ b)
    (hw : ∀ k : Nat, k < ns.length → WinOff (lnT b p s g w st ln [] h) (fun j => (j : Int) * ln) (offK g ((sz b p s : Int) * ln) ph k)) : misB b p s g w st ln ph ns = false := by
  have := text_tail (ms := []) h ph1 hx hw
  rw [List.append_nil] at this
  rw [this, misB_eq h]
  have : rds (lnT b p s g w st ln [] h) (offK g ((sz b p s : Int) * ln) ph ns.length) = [] := rds_quiet fun u _ => rfl
  unfold rdB
  rw [this]
  rfl
end PL
/-! PS10: a receiver that is played from change to change; range with a step of 2; sorted -/
namespace PL
open PySem PySem.Spec PyProof.Rows L2 Evl SB PW
section
variable {K : PySem.W.Frag} {ρ : List Sl} {t : TA}
/-- 0, 2, 4 .. -/
def rg2 (n : Nat) : List PyData := (List.range n).map fun i : Nat => PyData.int (0 + (i : Int) * 2)
theorem rg2_len (n : Nat) : (rg2 n).length = n := by unfold rg2; rw [List.length_map, List.length_range]
theorem rg2_get {n i : Nat} {d : PyData} (h : (rg2 n)[i]? = some d) : i < n ∧ d = .int (0 + (i : Int) * 2) := by
  unfold rg2 at h
  rw [List.getElem?_map] at h
  by_cases c : i < n
  · rw [List.getElem?_range c] at h
    cases h
    exact ⟨c, rfl⟩
  · rw [List.getElem?_eq_none (by rw [List.length_range]; omega)] at h
    cases h
theorem it_2 (n : Nat) (F : Hp) : ItOk K (Itc 0 2 n) (rg2 n) F :=
  ⟨fun i H e lt => by rw [rg2_len] at lt; exact lt, (fun i F H d e1 e2 hd x H' y => by
    obtain ⟨rfl, rfl⟩ := y
    obtain ⟨_, rfl⟩ := rg2_get hd
    exact ⟨F, Gr.refl e2, .int _⟩), fun i H e le => by rw [rg2_len] at le; exact le⟩
theorem rgC2 {n : Nat} (h : n ≤ 1000000) : RgC 0 n 2 ((n + 1) / 2) := by
  have e : Builtin.Range.rangeSize 0 n 2 = (((n + 1) / 2 : Nat) : Int) := by
    unfold Builtin.Range.rangeSize
    rw [if_pos (by decide)]
    split <;> omega
  refine ⟨by decide, by decide, ?_, e⟩
  have f : ∀ x : Int, -(2 ^ 62) ≤ x → x < 2 ^ 62 → Builtin.Range.rangeFitsLong x = true := fun x h1 h2 => by
    unfold Builtin.Range.rangeFitsLong
    simp only [Bool.and_eq_true, decide_eq_true_eq]
    omega
  unfold Builtin.Range.small
  rw [e, if_pos (show (2 : Int) > 0 by decide), f 0 (by omega) (by omega), f n (by omega) (by omega), f 2 (by omega) (by omega), f _ (by omega) (by omega), f (n + (2 - 1)) (by omega) (by omega)]
  simp
theorem ei_r3 {n : Nat} (h : EA K t ρ [.int 0, .int (n : Int), .int 2]) (h1 : n ≤ 1000000) : EI K (iRng3 t) ρ (rg2 ((n + 1) / 2)) := fun c F H σ en ex R k => h c F H σ en ex _ fun vs F1 H1 g dv => by
  cases dv with
  | cons d1 d2 =>
    cases d2 with
    | cons d2 d3 =>
      cases d3 with
      | cons d3 d4 =>
        cases d4
        cases d1
        cases d2
        cases d3
        exact ⟨0, n, 2, _, rfl, rgC2 h1, k _ F1 H1 g (it_2 _ F1)⟩
def Srt (ns out : List Int) : Prop := out.Perm ns ∧ out.Pairwise (· ≤ ·)
theorem srt_ex (ns : List Int) : ∃ out, Srt ns out := by
  refine ⟨ns.mergeSort (fun a b => decide (a ≤ b)), List.mergeSort_perm _ _, ?_⟩
  have := List.pairwise_mergeSort (le := fun a b : Int => decide (a ≤ b)) (fun a b c h1 h2 => by simp at *; omega) (fun a b => by simp; omega) ns
  exact this.imp (fun h => of_decide_eq_true h)
theorem cb_sorted {ns out : List Int} (h : Srt ns out) : CbO K (rSortedI K) [.list (dI ns)] (dI out) := fun F H vs ex dvs Q q => by
  cases dvs with
  | cons h1 h2 =>
    cases h2
    obtain ⟨a, xs, rfl, hl, da⟩ := h1.list_inv
    have e := da.ints_inv
    subst e
    refine ⟨a, ns, rfl, sq_of (ex _ _ hl), fun ns' p hp hs n => ?_⟩
    have e2 : ns' = out := List.Perm.eq_of_pairwise (fun a b _ _ => Int.le_antisymm) hs h.2 (hp.trans h.1.symm)
    subst e2
    exact q p _ F _ (Gr.own ex n) n (fresh_back ex n) upd_same (VdAll.ints _)
end
/-! the first look that sees a level -/
theorem nxt_le {g c look r k : Int} (hg : 1 ≤ g) (h : c ≤ r) (e : r = look + k * g) : nxt g c look ≤ r := by
  obtain ⟨j, hj⟩ := nxt_grid (g := g) (c := c) (look := look) hg
  have lt := nxt_lt (g := g) (c := c) (look := look) hg
  refine Int.not_lt.mp fun z => ?_
  have d : (j - k) * g = nxt g c look - r := by rw [hj, e, Int.sub_mul]; omega
  have p : 1 ≤ j - k := by
    refine Int.not_lt.mp fun y => ?_
    have : (j - k) * g ≤ 0 * g := Int.mul_le_mul_of_nonneg_right (by omega) (by omega)
    omega
  have : 1 * g ≤ (j - k) * g := Int.mul_le_mul_of_nonneg_right p (by omega)
  omega
theorem fsee_is {L : Ln} {l : Int} : ∀ (n : Nat) (t r : Int), L.sg.length - cnt L.sg t ≤ n → t ≤ r → (∃ k : Int, r = t + k * L.g) → lv L.sg r = l → (∀ u, t ≤ u → u < r → (∃ k : Int, u = t + k * L.g) → lv L.sg u ≠ l) → fsee L l t = some r
  | n, t, r, hn, tr, ⟨k, hk⟩, lr, mn => by
    by_cases q : lv L.sg t = l
    · have : r = t := Classical.byContradiction fun c => mn t (Int.le_refl _) (by omega) ⟨0, by rw [Int.zero_mul, Int.add_zero]⟩ q
      rw [this]
      exact fsee_here q
    · have up := lv_ne (sg := L.sg) tr (fun e => q (e.trans lr))
      obtain ⟨c, hc⟩ : ∃ c, L.sg[cnt L.sg t]? = some c := ⟨_, List.getElem?_eq_getElem (Nat.lt_of_lt_of_le up (cnt_le _ _))⟩
      have cr := (at_le L.asc hc r).mpr up
      have gt := next_gt L.asc hc
      have ge := nxt_ge (g := L.g) (c := c) (look := t) L.g1
      have le := nxt_le (look := t) L.g1 cr hk
      obtain ⟨j, hj⟩ := nxt_grid (g := L.g) (c := c) (look := t) L.g1
      have up2 := cnt_up L.asc hc ge
      have cl := cnt_le L.sg (nxt L.g c t)
      rw [fsee_next q hc]
      match n, hn with
      | 0, hn => omega
      | n + 1, hn =>
        refine fsee_is n _ r (by omega) le ⟨k - j, by rw [hj, Int.sub_mul]; omega⟩ lr fun u u1 u2 ⟨m, hm⟩ => mn u (by omega) u2 ⟨j + m, by rw [hm, hj, Int.add_mul]; omega⟩
theorem fsee_no {L : Ln} {l t : Int} (h : ∀ u, t ≤ u → (∃ k : Int, u = t + k * L.g) → lv L.sg u ≠ l) : fsee L l t = none := by
  cases e : fsee L l t with
  | none => rfl
  | some r =>
    obtain ⟨a, b, _, k⟩ := fsee_some _ _ _ (Nat.le_refl _) e
    exact absurd b (h r a k)
/-! what a look at a time tells of a text -/
theorem rds_at {L : Ln} {t s : Int} (h : fsee L 0 t = some s) : rds L t = rds L s := by
  have z : lv L.sg s = 0 := (fsee_some _ _ _ (Nat.le_refl _) h).2.1
  unfold rds
  rw [run_some h, run_some (fsee_here z)]
theorem rdB_none {L : Ln} {t : Int} {xs : List Int} (h : fsee L 0 t = none) : rdB L t xs = decide (xs = []) := by
  have e : rds L t = [] := by
    unfold rds
    rw [run_none h]
    rfl
  unfold rdB
  rw [e]
  cases xs <;> rfl
theorem rdB_drop {L : Ln} {t s : Int} {xs : List Int} (h : fsee L 0 t = some s) (z : lv L.sg (lk L s 0) = 1) : rdB L t xs = rdB L (lk L s 0 + L.g) xs := by
  have b : lv L.sg s = 0 := (fsee_some _ _ _ (Nat.le_refl _) h).2.1
  have f : fram L s = ⟨s, lk L s 0, "dropped", 0⟩ := by
    unfold fram
    rw [if_pos z]
  have nb : bad ("dropped" : Str) = false := by decide +kernel
  have e2 : rdg ⟨s, lk L s 0, "dropped", 0⟩ = none := by
    unfold rdg
    rw [if_pos rfl]
  have e : rds L t = rds L (lk L s 0 + L.g) := by
    rw [rds_at h, rds_0 b, f, e2]
    show ([] : List (Int × Str × Int)) ++ (if bad ("dropped" : Str) = true then _ else _) = _
    rw [nb, if_neg Bool.false_ne_true]
    rfl
  unfold rdB
  rw [e]
theorem rdB_good {L : Ln} {t s x : Int} {xs : List Int} (h : fsee L 0 t = some s) (x0 : 0 ≤ x) (x1 : x < 2 ^ L.b) (hl : lvs L s = frm L.b L.p L.s x) : rdB L t (x :: xs) = rdB L (lk L s (L.n - 1) + L.g) xs := by
  have b : lv L.sg s = 0 := (fsee_some _ _ _ (Nat.le_refl _) h).2.1
  have e := read_one x0 x1 b hl
  unfold rdB
  rw [rds_at h, e, List.all_cons, List.map_cons]
  have e1 : decide ((s, ("good" : Str), x).2.1 = ("good" : Str)) = true := decide_eq_true rfl
  rw [e1, Bool.true_and]
  congr 1
  refine decide_eq_decide.mpr ⟨fun z => (List.cons.inj z).2, fun z => by rw [z]⟩
theorem rdB_bad {L : Ln} {t s : Int} {xs : List Int} (h : fsee L 0 t = some s) (z : lv L.sg (lk L s 0) = 0) (hb : ∀ x r, xs = x :: r → lvs L s ≠ frm L.b L.p L.s x) : rdB L t xs = false := by
  have b : lv L.sg s = 0 := (fsee_some _ _ _ (Nat.le_refl _) h).2.1
  have f : fram L s = ⟨s, lk L s (out L.b L.p L.s (lvs L s)).1, (out L.b L.p L.s (lvs L s)).2.1, (out L.b L.p L.s (lvs L s)).2.2⟩ := by
    unfold fram
    rw [if_neg (by rw [z]; decide)]
  have nd := (out_end (b := L.b) (p := L.p) (ls := lvs L s) L.s1).2.2.2
  have g : rdg (fram L s) = some (s, (out L.b L.p L.s (lvs L s)).2) := by
    rw [f]
    unfold rdg
    rw [if_neg nd]
  obtain ⟨rs, hr⟩ : ∃ rs, rds L t = (s, (out L.b L.p L.s (lvs L s)).2) :: rs := by
    rw [rds_at h, rds_0 b, g]
    exact ⟨_, rfl⟩
  cases e : rdB L t xs with
  | false => rfl
  | true =>
    exfalso
    unfold rdB at e
    rw [Bool.and_eq_true, hr, List.all_cons, Bool.and_eq_true] at e
    have wd : (out L.b L.p L.s (lvs L s)).2.1 = ("good" : Str) := of_decide_eq_true e.1.1
    have nm := of_decide_eq_true e.2
    rw [List.map_cons] at nm
    have n3 := L.n_bd
    have e0 : (lvs L s).getD 0 1 = 0 := by
      rw [List.getD_eq_getElem?_getD, lvs_at (by omega)]
      exact z
    have := out_bits L.s1 (lvs_01 _ s) (lvs_len _ _) e0 wd
    exact hb _ _ nm.symm this.symm
end PL
/-! PS11: sorted of pairs; signals joined: levels that are the lesser of two -/
namespace PL
open PySem PySem.Spec PyProof.Rows L2 Evl SB PW
def prD (p : Int × Int) : PyData := .tuple [.int p.1, .int p.2]
def prsD (l : List (Int × Int)) : List PyData := l.map prD
def Srt2 (l out : List (Int × Int)) : Prop := out.Perm l ∧ out.Pairwise fun p q => SrtO.lexB q p = false
def rSortedPT (K : PySem.W.Frag) : List V → Hp → VK → Prop := fun vs H Q => ∃ (a : Addr) (xs : List V) (l : List (Int × Int)), vs = [V.ref a] ∧ SqL K H a xs ∧ VdAll K H xs (prsD l) ∧
  ∀ (zs : List (V × (Int × Int))) p, zs.Perm (xs.zip l) → Srt2 l (zs.map Prod.snd) → H p = none → Q (.ref p) (upd H p (.lst (zs.map Prod.fst)))
theorem vd_pr {K : PySem.W.Frag} {H : Hp} {x : V} {p : Int × Int} (h : Vd K H x (prD p)) : ∃ t, x = .ref t ∧ SqT K H t [.int p.1, .int p.2] := by
  obtain ⟨a, xs, e, h1, h2⟩ := h.tup_inv
  cases h2 with
  | cons h3 h4 =>
    cases h4 with
    | cons h5 h6 =>
      cases h6
      cases h3
      cases h5
      exact ⟨a, e, h1⟩
theorem prs_map {K : PySem.W.Frag} {H : Hp} (k : V → Int × Int) : ∀ {xs : List V} {l : List (Int × Int)}, VdAll K H xs (prsD l) → (∀ x p, Vd K H x (prD p) → k x = p) → l = xs.map k ∧ xs.zip l = xs.map (fun x => (x, k x)) ∧ ∀ x ∈ xs, Vd K H x (prD (k x))
  | _, [], h, _ => by cases h; exact ⟨rfl, rfl, fun x hx => nomatch hx⟩
  | _, p :: l, h, hk => by
    cases h with
    | cons h1 h2 =>
      obtain ⟨e1, e2, e3⟩ := prs_map k h2 hk
      have e := hk _ _ h1
      refine ⟨by rw [List.map_cons, e, ← e1], by rw [List.zip_cons_cons, e2, List.map_cons, e], fun x hx => ?_⟩
      rcases List.mem_cons.mp hx with rfl | hx
      · rw [e]
        exact h1
      · exact e3 x hx
section
variable {X : Cx}
theorem cr_sortedPT : CallR X (.builtin "sorted") (rSortedPT X.K) := by
  intro pins s σ H vs us Q I r h
  obtain ⟨a, xs, l, rfl, hs, hx, q⟩ := h
  obtain ⟨its, rv, hl, hz⟩ := I.list hs
  obtain ⟨u, rfl, ru⟩ := vals1 r
  obtain rfl : u = Value.ref a := ru
  have one : ∀ x p q, Vd X.K H x (prD p) → Vd X.K H x (prD q) → p = q := fun x p q h1 h2 => by
    obtain ⟨t, rfl, g1⟩ := vd_pr h1
    obtain ⟨t', e, g2⟩ := vd_pr h2
    cases e
    have e := I.tuple_inj g1 g2
    injection e with e1 e2
    injection e2 with e2 e3
    injection e1 with e1
    injection e2 with e2
    exact Prod.ext e1 e2
  obtain ⟨k, hk⟩ : ∃ k : V → Int × Int, ∀ x p, Vd X.K H x (prD p) → k x = p := by
    refine ⟨fun x => Classical.epsilon fun p => Vd X.K H x (prD p), fun x p h => ?_⟩
    exact one x _ p (Classical.epsilon_spec (p := fun p => Vd X.K H x (prD p)) ⟨p, h⟩) h
  obtain ⟨e0, ez, e3⟩ := prs_map k hx hk
  obtain ⟨e1, e2⟩ := refs_back rv fun x m => by
    obtain ⟨t, e, _⟩ := vd_pr (e3 x m)
    exact ⟨t, e⟩
  refine SrtO.sorted_pairsO (k := fun u => k (backV u)) hl.isList (by rw [← rv.length]; exact hz) (fun v hv => ?_) fun h' d out h1 h2 kp hd hn => ?_
  · obtain ⟨t, rfl⟩ := e2 v hv
    have hm : V.ref t ∈ xs := by rw [e1]; exact List.mem_map.mpr ⟨_, hv, rfl⟩
    obtain ⟨t', e, ht⟩ := vd_pr (e3 _ hm)
    cases e
    obtain ⟨its2, r2, ⟨o, ho, hc, n, hd⟩, _⟩ := I.tuple ht
    obtain ⟨u1, u2, rfl, ri, rj⟩ := vals2 r2
    obtain ⟨t1, rfl⟩ := ri
    obtain ⟨t2, rfl⟩ := rj
    exact ⟨t, o, t1, t2, n, rfl, ho, hc, hd⟩
  · have h3 : ∀ u ∈ out, ∃ a, u = Value.ref a := fun u hu => e2 u (h2.perm.mem_iff.mp hu)
    obtain ⟨n, hn⟩ := hn
    have hb : (out.map backV).Perm xs := by
      rw [e1]
      exact h2.perm.map backV
    have z1 : ((out.map backV).map fun x => (x, k x)).map Prod.fst = out.map backV := by rw [List.map_map]; exact List.map_id _
    have z2 : ((out.map backV).map fun x => (x, k x)).map Prod.snd = (out.map backV).map k := by rw [List.map_map]; rfl
    have qq := q ((out.map backV).map fun x => (x, k x)) d (by rw [ez]; exact hb.map _) (by
      rw [z2]
      refine ⟨by rw [e0]; exact hb.map k, ?_⟩
      rw [List.pairwise_map, List.pairwise_map]
      exact h1) (I.hok.fresh hd)
    rw [z1] at qq
    refine ⟨.ref d, upd H d (.lst (out.map backV)), I.laid (t' := s.toks) kp hd ⟨?_, out, n, vals_back h3, hn⟩, rfl, qq⟩
    rw [hb.length_eq]
    exact hz
end
section
variable {K : PySem.W.Frag} {ρ : List Sl}
theorem vd_zip {F : Hp} : ∀ {xs : List V} {l : List (Int × Int)}, VdAll K F xs (prsD l) → ∀ z ∈ xs.zip l, Vd K F z.1 (prD z.2)
  | _, [], h, z, hz => by cases h; exact nomatch hz
  | _, p :: l, h, z, hz => by
    cases h with
    | cons h1 h2 =>
      rw [List.zip_cons_cons] at hz
      rcases List.mem_cons.mp hz with rfl | hz
      · exact h1
      · exact vd_zip h2 z hz
theorem vd_unzip {F : Hp} : ∀ {zs : List (V × (Int × Int))}, (∀ z ∈ zs, Vd K F z.1 (prD z.2)) → VdAll K F (zs.map Prod.fst) (prsD (zs.map Prod.snd))
  | [], _ => .nil
  | z :: zs, h => .cons (h z (List.mem_cons_self ..)) (vd_unzip fun y hy => h y (List.mem_cons_of_mem _ hy))
theorem srt2_one {l a b : List (Int × Int)} (h1 : Srt2 l a) (h2 : Srt2 l b) : a = b :=
  List.Perm.eq_of_pairwise (le := fun p q => SrtO.lexB q p = false) (fun p q _ _ h1 h2 => by
    have a := SrtO.lexB_no.mp h1
    have b := SrtO.lexB_no.mp h2
    exact Prod.ext (by omega) (by omega)) h1.2 h2.2 (h1.1.trans h2.1.symm)
theorem srt2_ex (l : List (Int × Int)) : ∃ out, Srt2 l out := by
  refine ⟨l.mergeSort (fun p q => !SrtO.lexB q p), List.mergeSort_perm _ _, ?_⟩
  have := List.pairwise_mergeSort (le := fun p q : Int × Int => !SrtO.lexB q p) (fun a b c h1 h2 => by
    rw [Bool.not_eq_true'] at *
    have a := SrtO.lexB_no.mp h1
    have b := SrtO.lexB_no.mp h2
    exact SrtO.lexB_no.mpr (by omega)) (fun a b => by
    rw [Bool.or_eq_true, Bool.not_eq_true', Bool.not_eq_true', SrtO.lexB_no, SrtO.lexB_no]
    omega) l
  exact this.imp (fun h => by rwa [Bool.not_eq_true'] at h)
theorem cb_sortedP {l out : List (Int × Int)} (h : Srt2 l out) : CbO K (rSortedPT K) [.list (prsD l)] (prsD out) := fun F H vs ex dvs Q q => by
  cases dvs with
  | cons h1 h2 =>
    cases h2
    obtain ⟨a, xs, rfl, hl, da⟩ := h1.list_inv
    refine ⟨a, xs, l, rfl, sq_of (ex _ _ hl), da.ex ex, fun zs p hp hs n => ?_⟩
    have e : zs.map Prod.snd = out := srt2_one hs h
    refine q p _ F _ (Gr.own ex n) n (fresh_back ex n) upd_same ?_
    rw [← e]
    exact vd_unzip fun z hz => vd_zip da z (hp.mem_iff.mp hz)
end
/-! signals told by their levels -/
theorem lv_one {x : Int} {sg : List Int} {t : Int} (h : x ≤ t) : lv (x :: sg) t = 1 - lv sg t := by
  unfold lv PW.cnt
  rw [List.filter_cons_of_pos (by simpa using h), List.length_cons]
  omega
theorem lv_none {sg : List Int} {t : Int} (h : ∀ x ∈ sg, t < x) : lv sg t = 1 := by
  unfold lv
  rw [cnt_non h]
  rfl
theorem lv_cons_gt {x : Int} {sg : List Int} {t : Int} (h : t < x) : lv (x :: sg) t = lv sg t := by
  unfold lv PW.cnt
  rw [List.filter_cons_of_neg (by simp; omega)]
theorem asc_tl {x : Int} {sg : List Int} (h : Asc (x :: sg)) : Asc sg ∧ ∀ y ∈ sg, x < y := ⟨(List.pairwise_cons.mp h).2, (List.pairwise_cons.mp h).1⟩
theorem asc_uniq : ∀ {a b : List Int}, Asc a → Asc b → (∀ t, lv a t = lv b t) → a = b
  | [], [], _, _, _ => rfl
  | [], y :: b, _, hb, h => by
    have e := h y
    rw [lv_one (Int.le_refl _), lv_none (asc_tl hb).2] at e
    have : lv [] y = 1 := rfl
    omega
  | x :: a, [], ha, _, h => by
    have e := h x
    rw [lv_one (Int.le_refl _), lv_none (asc_tl ha).2] at e
    have : lv [] x = 1 := rfl
    omega
  | x :: a, y :: b, ha, hb, h => by
    have a1 := asc_tl ha
    have b1 := asc_tl hb
    have e : x = y := by
      rcases Int.lt_trichotomy x y with c | c | c
      · have e := h x
        rw [lv_one (Int.le_refl _), lv_none a1.2, lv_cons_gt c, lv_none fun z hz => Int.lt_trans c (b1.2 z hz)] at e
        omega
      · exact c
      · have e := h y
        rw [lv_one (Int.le_refl _), lv_none b1.2, lv_cons_gt c, lv_none fun z hz => Int.lt_trans c (a1.2 z hz)] at e
        omega
    subst e
    rw [asc_uniq a1.1 b1.1 fun t => by
      have e := h t
      by_cases c : x ≤ t
      · rw [lv_one c, lv_one c] at e
        omega
      · rw [lv_none fun z hz => Int.lt_trans (by omega) (a1.2 z hz), lv_none fun z hz => Int.lt_trans (by omega) (b1.2 z hz)]]
def Tog (A B r : List Int) : Prop := Asc r ∧ ∀ t, lv r t = min (lv A t) (lv B t)
theorem Tog.one {A B r s : List Int} (h : Tog A B r) (g : Tog A B s) : r = s := asc_uniq h.1 g.1 fun t => by rw [h.2, g.2]
/-- what two signals joined are -/
noncomputable def tog (A B : List Int) : List Int := Classical.epsilon fun r => Tog A B r
theorem tog_eq {A B r : List Int} (h : Tog A B r) : tog A B = r := Tog.one (Classical.epsilon_spec (p := fun r => Tog A B r) ⟨r, h⟩) h
theorem tog_comm (A B : List Int) : tog A B = tog B A := by
  unfold tog
  congr 1
  funext r
  unfold Tog
  rw [propext (and_congr_right_iff.mpr fun _ => forall_congr' fun t => by rw [Int.min_comm])]
theorem tog_self {A : List Int} (h : Asc A) : tog A A = A := tog_eq ⟨h, fun t => by omega⟩
/-- a tick more -/
def turnO (l : List Int) (x : Int) : List Int := if l.getLast? = some x then l.dropLast else l ++ [x]
theorem lv_snoc (l : List Int) (x t : Int) : lv (l ++ [x]) t = if x ≤ t then 1 - lv l t else lv l t := by
  unfold lv
  rw [cnt_app]
  by_cases c : x ≤ t
  · rw [cnt_all (a := [x]) (by simpa using c), if_pos c, List.length_singleton]
    omega
  · rw [cnt_non (a := [x]) (by simpa using c), if_neg c, Nat.add_zero]
theorem turnO_ok {l : List Int} {x : Int} (h : Asc l) (le : ∀ y ∈ l, y ≤ x) : Asc (turnO l x) ∧ (∀ y ∈ turnO l x, y ≤ x) ∧ (turnO l x).length ≤ l.length + 1 ∧ ∀ t, lv (turnO l x) t = if x ≤ t then 1 - lv l t else lv l t := by
  unfold turnO
  by_cases c : l.getLast? = some x
  · rw [if_pos c]
    obtain ⟨m, rfl⟩ : ∃ m, l = m ++ [x] := by
      rcases List.eq_nil_or_concat l with rfl | ⟨m, z, rfl⟩
      · cases c
      · rw [List.concat_eq_append, List.getLast?_concat] at c
        cases c
        exact ⟨m, List.concat_eq_append⟩
    rw [List.dropLast_concat]
    refine ⟨(List.pairwise_append.mp h).1, fun y hy => le y (List.mem_append_left _ hy), by rw [List.length_append]; omega, fun t => ?_⟩
    rw [lv_snoc]
    split <;> omega
  · rw [if_neg c]
    refine ⟨List.pairwise_append.mpr ⟨h, List.pairwise_singleton _ _, fun a ha b hb => ?_⟩, fun y hy => ?_, by rw [List.length_append, List.length_singleton]; omega, fun t => lv_snoc l x t⟩
    · rw [List.mem_singleton.mp hb]
      have := le a ha
      rcases Int.lt_or_eq_of_le this with q | q
      · exact q
      · exfalso
        subst q
        rcases List.eq_nil_or_concat l with rfl | ⟨m, z, rfl⟩
        · exact nomatch ha
        · rw [List.concat_eq_append] at *
          have zx := le z (by simp)
          have az : a ≤ z := by
            rcases List.mem_append.mp ha with q | q
            · exact Int.le_of_lt ((List.pairwise_append.mp h).2.2 a q z (by simp))
            · rw [List.mem_singleton.mp q]
              exact Int.le_refl _
          exact c (by rw [List.getLast?_concat, show z = a by omega])
    · rcases List.mem_append.mp hy with q | q
      · exact le y q
      · rw [List.mem_singleton.mp q]
        exact Int.le_refl _
def ticks (k : Int) (pre : List (Int × Int)) : List Int := (pre.filter fun q => decide (q.2 = k)).map Prod.fst
theorem ticks_yes (k x : Int) (pre : List (Int × Int)) : ticks k (pre ++ [(x, k)]) = ticks k pre ++ [x] := by
  unfold ticks
  rw [List.filter_append, List.map_append, List.filter_cons_of_pos (by simp)]
  rfl
theorem ticks_no {k j : Int} (h : j ≠ k) (x : Int) (pre : List (Int × Int)) : ticks k (pre ++ [(x, j)]) = ticks k pre := by
  unfold ticks
  rw [List.filter_append, List.map_append, List.filter_cons_of_neg (by simpa using h)]
  exact List.append_nil _
theorem ticks_le {k x : Int} {pre : List (Int × Int)} (h : ∀ q ∈ pre, q.1 ≤ x) : ∀ y ∈ ticks k pre, y ≤ x := fun y hy => by
  obtain ⟨q, hq, rfl⟩ := List.mem_map.mp hy
  exact h q (List.mem_filter.mp hq).1
theorem lv_all {l : List Int} {t : Int} (h : ∀ y ∈ l, y ≤ t) : lv l t = 1 - (l.length : Int) % 2 := by
  unfold lv
  rw [cnt_all h]
/-- what is known when some turns have been taken -/
structure Jn (pre : List (Int × Int)) (sg : List Int) (la lb : Int) : Prop where
  asc : Asc sg
  le : ∀ x, (∀ q ∈ pre, q.1 ≤ x) → ∀ y ∈ sg, y ≤ x
  len : sg.length ≤ pre.length
  lvs : ∀ t, lv sg t = min (lv (ticks 0 pre) t) (lv (ticks 1 pre) t)
  ea : la = 1 - ((ticks 0 pre).length : Int) % 2
  eb : lb = 1 - ((ticks 1 pre).length : Int) % 2
theorem jn_nil : Jn [] [] 1 1 := ⟨List.Pairwise.nil, fun x h y hy => (nomatch hy), Nat.le_refl _, fun t => rfl, rfl, rfl⟩
theorem jn_0 {pre : List (Int × Int)} {sg : List Int} {la lb x : Int} (j : Jn pre sg la lb) (hx : ∀ q ∈ pre, q.1 ≤ x) : (min (1 - la) lb ≠ min la lb → Jn (pre ++ [(x, 0)]) (turnO sg x) (1 - la) lb) ∧ (min (1 - la) lb = min la lb → Jn (pre ++ [(x, 0)]) sg (1 - la) lb) := by
  obtain ⟨a1, a2, a3, a4, a5, a6⟩ := j
  obtain ⟨t1, t2, t3, t4⟩ := turnO_ok a1 (a2 x hx)
  have up : ∀ t, x ≤ t → lv (ticks 0 pre) t = la ∧ lv (ticks 1 pre) t = lb := fun t ht => by
    rw [lv_all fun y hy => Int.le_trans (ticks_le hx y hy) ht, lv_all fun y hy => Int.le_trans (ticks_le hx y hy) ht, a5, a6]
    exact ⟨rfl, rfl⟩
  refine ⟨fun ne => ⟨t1, fun u hu y hy => Int.le_trans (t2 y hy) (hu (x, 0) (by simp)), by rw [List.length_append, List.length_singleton]; omega, fun t => ?_, ?_, ?_⟩, fun e => ⟨a1, fun u hu y hy => a2 u (fun q hq => hu q (List.mem_append_left _ hq)) y hy, by rw [List.length_append]; omega, fun t => ?_, ?_, ?_⟩⟩
  · rw [t4, ticks_yes, ticks_no (by decide), lv_snoc]
    by_cases c : x ≤ t
    · rw [if_pos c, if_pos c, a4 t, (up t c).1, (up t c).2]
      omega
    · rw [if_neg c, if_neg c, a4 t]
  · rw [ticks_yes, List.length_append, List.length_singleton]
    omega
  · rw [ticks_no (by decide)]
    exact a6
  · rw [ticks_yes, ticks_no (by decide), lv_snoc, a4 t]
    by_cases c : x ≤ t
    · rw [if_pos c, (up t c).1, (up t c).2]
      omega
    · rw [if_neg c]
  · rw [ticks_yes, List.length_append, List.length_singleton]
    omega
  · rw [ticks_no (by decide)]
    exact a6
theorem jn_1 {pre : List (Int × Int)} {sg : List Int} {la lb x : Int} (j : Jn pre sg la lb) (hx : ∀ q ∈ pre, q.1 ≤ x) : (min la (1 - lb) ≠ min la lb → Jn (pre ++ [(x, 1)]) (turnO sg x) la (1 - lb)) ∧ (min la (1 - lb) = min la lb → Jn (pre ++ [(x, 1)]) sg la (1 - lb)) := by
  obtain ⟨a1, a2, a3, a4, a5, a6⟩ := j
  obtain ⟨t1, t2, t3, t4⟩ := turnO_ok a1 (a2 x hx)
  have up : ∀ t, x ≤ t → lv (ticks 0 pre) t = la ∧ lv (ticks 1 pre) t = lb := fun t ht => by
    rw [lv_all fun y hy => Int.le_trans (ticks_le hx y hy) ht, lv_all fun y hy => Int.le_trans (ticks_le hx y hy) ht, a5, a6]
    exact ⟨rfl, rfl⟩
  refine ⟨fun ne => ⟨t1, fun u hu y hy => Int.le_trans (t2 y hy) (hu (x, 1) (by simp)), by rw [List.length_append, List.length_singleton]; omega, fun t => ?_, ?_, ?_⟩, fun e => ⟨a1, fun u hu y hy => a2 u (fun q hq => hu q (List.mem_append_left _ hq)) y hy, by rw [List.length_append]; omega, fun t => ?_, ?_, ?_⟩⟩
  · rw [t4, ticks_yes, ticks_no (by decide), lv_snoc]
    by_cases c : x ≤ t
    · rw [if_pos c, if_pos c, a4 t, (up t c).1, (up t c).2]
      omega
    · rw [if_neg c, if_neg c, a4 t]
  · rw [ticks_no (by decide)]
    exact a5
  · rw [ticks_yes, List.length_append, List.length_singleton]
    omega
  · rw [ticks_yes, ticks_no (by decide), lv_snoc, a4 t]
    by_cases c : x ≤ t
    · rw [if_pos c, (up t c).1, (up t c).2]
      omega
    · rw [if_neg c]
  · rw [ticks_no (by decide)]
    exact a5
  · rw [ticks_yes, List.length_append, List.length_singleton]
    omega
theorem lv_perm {a b : List Int} (h : a.Perm b) (t : Int) : lv a t = lv b t := by
  unfold lv PW.cnt
  rw [(h.filter _).length_eq]
theorem ticks_map (k : Int) (A : List Int) : ticks k (A.map fun x => (x, k)) = A := by
  unfold ticks
  rw [List.filter_eq_self.mpr (by intro q hq; obtain ⟨x, _, rfl⟩ := List.mem_map.mp hq; simp), List.map_map]
  exact List.map_id _
theorem ticks_map0 {k j : Int} (h : j ≠ k) (A : List Int) : ticks k (A.map fun x => (x, j)) = [] := by
  unfold ticks
  rw [List.filter_eq_nil_iff.mpr (by intro q hq; obtain ⟨x, _, rfl⟩ := List.mem_map.mp hq; simpa using h)]
  rfl
theorem ticks_app (k : Int) (a b : List (Int × Int)) : ticks k (a ++ b) = ticks k a ++ ticks k b := by
  unfold ticks
  rw [List.filter_append, List.map_append]
theorem jn_all {A B sg : List Int} {out : List (Int × Int)} {la lb : Int} (j : Jn out sg la lb) (h : Srt2 (A.map (fun x => (x, (0 : Int))) ++ B.map (fun x => (x, 1))) out) : Tog A B sg := by
  have p : ∀ k, (ticks k out).Perm (ticks k (A.map (fun x => (x, (0 : Int))) ++ B.map (fun x => (x, 1)))) := fun k => (h.1.filter _).map _
  refine ⟨j.asc, fun t => ?_⟩
  rw [j.lvs t, lv_perm (p 0), lv_perm (p 1), ticks_app, ticks_app, ticks_map, ticks_map, ticks_map0 (by decide), ticks_map0 (by decide), List.append_nil, List.nil_append]
theorem srt2_le {l pre post : List (Int × Int)} {q : Int × Int} (h : Srt2 l (pre ++ q :: post)) : ∀ r ∈ pre, r.1 ≤ q.1 := fun r hr => by
  have := SrtO.lexB_no.mp ((List.pairwise_append.mp h.2).2.2 r hr q (by simp))
  omega
theorem srt2_01 {A B : List Int} {pre post : List (Int × Int)} {q : Int × Int} (h : Srt2 (A.map (fun x => (x, (0 : Int))) ++ B.map (fun x => (x, 1))) (pre ++ q :: post)) : q.2 = 0 ∨ q.2 = 1 := by
  have m := h.1.mem_iff.mp (show q ∈ pre ++ q :: post by simp)
  rcases List.mem_append.mp m with m | m
  · obtain ⟨x, _, rfl⟩ := List.mem_map.mp m
    exact .inl rfl
  · obtain ⟨x, _, rfl⟩ := List.mem_map.mp m
    exact .inr rfl
end PL
/-! PS12: stretches of level 0, joined one after another -/
namespace PL
open PySem PySem.Spec PyProof.Rows L2 Evl SB PW
abbrev Str0 : Type := Int × Option Int
def zD (z : Str0) : PyData := .tuple [.int z.1, optI z.2]
def zAt (A : List Int) (i : Nat) : Str0 := (A.getD (2 * i) 0, A[2 * i + 1]?)
def zrs (A : List Int) : List Str0 := (List.range ((A.length + 1) / 2)).map (zAt A)
def inZ (z : Str0) (t : Int) : Prop := z.1 ≤ t ∧ ∀ e, z.2 = some e → t < e
def okZ (z : Str0) : Prop := ∀ e, z.2 = some e → z.1 < e
theorem zrs_len (A : List Int) : (zrs A).length = (A.length + 1) / 2 := by unfold zrs; rw [List.length_map, List.length_range]
theorem zrs_ok {A : List Int} (h : Asc A) : ∀ z ∈ zrs A, okZ z := fun z hz e he => by
  obtain ⟨i, hi, rfl⟩ := List.mem_map.mp hz
  have he : A[2 * i + 1]? = some e := he
  obtain ⟨lt, ee⟩ := List.getElem?_eq_some_iff.mp he
  show A.getD (2 * i) 0 < e
  rw [List.getD_eq_getElem?_getD, List.getElem?_eq_getElem (show 2 * i < A.length by omega), ← ee]
  exact List.pairwise_iff_getElem.mp h _ _ (by omega) lt (by omega)
theorem zrs_hit {A : List Int} (h : Asc A) (t : Int) : lv A t = 0 ↔ ∃ z ∈ zrs A, inZ z t := by
  have cl := cnt_le A t
  constructor
  · intro e
    have odd : PW.cnt A t % 2 = 1 := by unfold lv at e; omega
    have i2 : 2 * (PW.cnt A t / 2) + 1 = PW.cnt A t := by omega
    refine ⟨zAt A (PW.cnt A t / 2), List.mem_map.mpr ⟨_, List.mem_range.mpr (by omega), rfl⟩, ?_, fun e he => ?_⟩
    · show A.getD (2 * (PW.cnt A t / 2)) 0 ≤ t
      rw [List.getD_eq_getElem?_getD, List.getElem?_eq_getElem (show 2 * (PW.cnt A t / 2) < A.length by omega)]
      exact (at_le h (List.getElem?_eq_getElem _) t).mpr (by omega)
    · have he : A[2 * (PW.cnt A t / 2) + 1]? = some e := he
      have := at_le h he t
      omega
  · rintro ⟨z, hz, h1, h2⟩
    obtain ⟨i, hi, rfl⟩ := List.mem_map.mp hz
    have lt := List.mem_range.mp hi
    have h1 : A.getD (2 * i) 0 ≤ t := h1
    rw [List.getD_eq_getElem?_getD, List.getElem?_eq_getElem (show 2 * i < A.length by omega)] at h1
    have c1 := (at_le h (List.getElem?_eq_getElem (show 2 * i < A.length by omega)) t).mp h1
    have c2 : PW.cnt A t ≤ 2 * i + 1 := by
      cases q : A[2 * i + 1]? with
      | none => rw [List.getElem?_eq_none_iff] at q; omega
      | some e =>
        have := h2 e q
        have := at_le h q t
        omega
    unfold lv
    omega
/-! what has been joined -/
def tlZ (s : Int) : Option Int → List Int
  | none => [s]
  | some e => [s, e]
theorem lv_fl {fl : List Int} {s t : Int} {e : Option Int} (asc : Asc (fl ++ tlZ s e)) (ev : fl.length % 2 = 0) (st : s ≤ t) : lv (fl ++ tlZ s e) t = 0 ↔ ∀ v, e = some v → t < v := by
  have hs : ∀ x ∈ fl, x ≤ t := fun x hx => by
    have := (List.pairwise_append.mp asc).2.2 x hx s (by cases e <;> simp [tlZ])
    omega
  rw [lv_app_r hs ev]
  cases e with
  | none =>
    show lv [s] t = 0 ↔ _
    rw [lv_one st]
    exact ⟨fun _ => fun v h => (nomatch h), fun _ => rfl⟩
  | some v =>
    show lv [s, v] t = 0 ↔ _
    rw [lv_one st]
    by_cases c : v ≤ t
    · rw [lv_one c]
      exact ⟨fun h => by have : lv [] t = 1 := rfl; omega, fun h => absurd (h v rfl) (by omega)⟩
    · rw [lv_cons_gt (by omega)]
      exact ⟨fun _ u h => by cases h; omega, fun _ => rfl⟩
theorem lv_fl2 {fl : List Int} {s t : Int} {e : Option Int} (asc : Asc (fl ++ tlZ s e)) (st : t < s) : lv (fl ++ tlZ s e) t = lv fl t := by
  refine lv_app_l fun x hx => ?_
  cases e with
  | none => rw [List.mem_singleton.mp hx]; exact st
  | some v =>
    have a := (List.pairwise_append.mp asc).2.1
    have sv : s < v := (asc_tl a).2 v (by simp)
    rcases List.mem_cons.mp hx with rfl | hx
    · exact st
    · rw [List.mem_singleton.mp hx]
      omega
structure JZ (P : Int → Prop) (fl : List Int) (s : Int) (e : Option Int) : Prop where
  asc : Asc (fl ++ tlZ s e)
  ev : fl.length % 2 = 0
  hit : ∀ t, lv (fl ++ tlZ s e) t = 0 ↔ P t
theorem jz_one {b : Int} {e : Option Int} (h : okZ (b, e)) : JZ (inZ (b, e)) [] b e := by
  have a : Asc ([] ++ tlZ b e) := by
    cases e with
    | none => exact List.pairwise_singleton _ _
    | some v => exact List.pairwise_cons.mpr ⟨fun y hy => by rw [List.mem_singleton.mp hy]; exact h v rfl, List.pairwise_singleton _ _⟩
  refine ⟨a, rfl, fun t => ?_⟩
  by_cases c : b ≤ t
  · rw [lv_fl a rfl c]
    exact ⟨fun h => ⟨c, h⟩, fun h => h.2⟩
  · rw [lv_fl2 a (by omega)]
    exact ⟨fun h => by have : lv [] t = 1 := rfl; omega, fun h => absurd h.1 c⟩
def mxZ (v : Int) : Option Int → Option Int
  | none => none
  | some w => some (max v w)
theorem jz_ext {P : Int → Prop} {fl : List Int} {s v b : Int} {e : Option Int} (j : JZ P fl s (some v)) (sb : s ≤ b) (bv : b ≤ v) (h : okZ (b, e)) : JZ (fun t => P t ∨ inZ (b, e) t) fl s (mxZ v e) := by
  have a1 := List.pairwise_append.mp j.asc
  have sv : s < v := (asc_tl a1.2.1).2 v (by simp)
  have a : Asc (fl ++ tlZ s (mxZ v e)) := by
    refine List.pairwise_append.mpr ⟨a1.1, ?_, fun x hx y hy => ?_⟩
    · cases e with
      | none => exact List.pairwise_singleton _ _
      | some w => exact List.pairwise_cons.mpr ⟨fun y hy => by rw [List.mem_singleton.mp hy]; omega, List.pairwise_singleton _ _⟩
    · have xs := a1.2.2 x hx s (by simp [tlZ])
      cases e with
      | none => rw [List.mem_singleton.mp hy]; exact xs
      | some w =>
        rcases List.mem_cons.mp hy with rfl | hy
        · exact xs
        · rw [List.mem_singleton.mp hy]
          omega
  refine ⟨a, j.ev, fun t => ?_⟩
  rw [← j.hit t]
  by_cases c : s ≤ t
  · rw [lv_fl a j.ev c, lv_fl j.asc j.ev c]
    cases e with
    | none =>
      refine ⟨fun _ => ?_, fun _ v h => nomatch h⟩
      by_cases q : t < v
      · exact .inl fun u hu => by cases hu; exact q
      · exact .inr ⟨by show b ≤ t; omega, fun u hu => nomatch hu⟩
    | some w =>
      have bw : b < w := h w rfl
      constructor
      · intro g
        have g := g (max v w) rfl
        by_cases q : t < v
        · exact .inl fun u hu => by cases hu; exact q
        · exact .inr ⟨by show b ≤ t; omega, fun u hu => by cases hu; omega⟩
      · intro g u hu
        cases hu
        rcases g with g | ⟨g1, g2⟩
        · have := g v rfl
          omega
        · have := g2 w rfl
          omega
  · rw [lv_fl2 a (by omega), lv_fl2 j.asc (by omega)]
    exact ⟨fun h => .inl h, fun h => h.elim id fun g => absurd (show b ≤ t from g.1) (by omega)⟩
theorem jz_app {P : Int → Prop} {fl : List Int} {s v b : Int} {e : Option Int} (j : JZ P fl s (some v)) (vb : v < b) (h : okZ (b, e)) : JZ (fun t => P t ∨ inZ (b, e) t) (fl ++ [s, v]) b e := by
  have ja : Asc (fl ++ [s, v]) := j.asc
  have hv : ∀ x ∈ fl ++ [s, v], x ≤ v := fun x hx => by
    have a1 := List.pairwise_append.mp ja
    have sv : s < v := (asc_tl a1.2.1).2 v (by simp)
    rcases List.mem_append.mp hx with hx | hx
    · exact Int.le_of_lt (a1.2.2 x hx v (by simp))
    · simp at hx
      omega
  have a : Asc ((fl ++ [s, v]) ++ tlZ b e) := by
    refine List.pairwise_append.mpr ⟨ja, ?_, fun x hx y hy => ?_⟩
    · cases e with
      | none => exact List.pairwise_singleton _ _
      | some w => exact List.pairwise_cons.mpr ⟨fun y hy => by rw [List.mem_singleton.mp hy]; exact h w rfl, List.pairwise_singleton _ _⟩
    · have := hv x hx
      cases e with
      | none => rw [List.mem_singleton.mp hy]; omega
      | some w =>
        have bw : b < w := h w rfl
        simp [tlZ] at hy
        omega
  have ev : (fl ++ [s, v]).length % 2 = 0 := by have := j.ev; rw [List.length_append]; simp; omega
  refine ⟨a, ev, fun t => ?_⟩
  have jh := j.hit t
  have jh : lv (fl ++ [s, v]) t = 0 ↔ P t := jh
  rw [← jh]
  by_cases c : b ≤ t
  · rw [lv_fl a ev c]
    refine ⟨fun g => .inr ⟨c, g⟩, fun g => g.elim (fun g => ?_) fun g => g.2⟩
    exfalso
    have := lv_all (l := fl ++ [s, v]) (t := t) fun y hy => by have := hv y hy; omega
    omega
  · rw [lv_fl2 a (by omega)]
    exact ⟨fun h => .inl h, fun h => h.elim id fun g => absurd (show b ≤ t from g.1) c⟩
theorem jz_end {P : Int → Prop} {fl : List Int} {s b : Int} {e : Option Int} (j : JZ P fl s none) (sb : s ≤ b) : JZ (fun t => P t ∨ inZ (b, e) t) fl s none := by
  refine ⟨j.asc, j.ev, fun t => ?_⟩
  refine ⟨fun h => .inl ((j.hit t).mp h), fun h => h.elim (j.hit t).mpr fun g => ?_⟩
  rw [lv_fl j.asc j.ev (show s ≤ t from Int.le_trans sb g.1)]
  exact fun v h => nomatch h
theorem JZ.congr {P Q : Int → Prop} {fl : List Int} {s : Int} {e : Option Int} (j : JZ P fl s e) (h : ∀ t, P t ↔ Q t) : JZ Q fl s e := ⟨j.asc, j.ev, fun t => (j.hit t).trans (h t)⟩
/-! by the begins in their order -/
def zP (Z : List Str0) (pre : List (Int × Int)) (t : Int) : Prop := ∃ q ∈ pre, inZ (Z.getD q.2.toNat (0, none)) t
def zL (Z : List Str0) : List (Int × Int) := Z.zipIdx.map fun p => (p.1.1, (p.2 : Int))
theorem zP_snoc {Z : List Str0} {pre : List (Int × Int)} {q : Int × Int} {z : Str0} (h : Z.getD q.2.toNat (0, none) = z) (t : Int) : (zP Z pre t ∨ inZ z t) ↔ zP Z (pre ++ [q]) t := by
  subst h
  constructor
  · rintro (⟨r, hr, g⟩ | g)
    · exact ⟨r, List.mem_append_left _ hr, g⟩
    · exact ⟨q, by simp, g⟩
  · rintro ⟨r, hr, g⟩
    rcases List.mem_append.mp hr with hr | hr
    · exact .inl ⟨r, hr, g⟩
    · rw [List.mem_singleton.mp hr] at g
      exact .inr g
theorem zL_mem {Z : List Str0} {q : Int × Int} (h : q ∈ zL Z) : ∃ (i : Nat) (z : Str0), Z[i]? = some z ∧ q = (z.1, (i : Int)) := by
  obtain ⟨⟨z, i⟩, hp, rfl⟩ := List.mem_map.mp h
  exact ⟨i, z, List.mem_zipIdx_iff_getElem?.mp hp, rfl⟩
theorem zL_in {Z : List Str0} {i : Nat} {z : Str0} (h : Z[i]? = some z) : (z.1, (i : Int)) ∈ zL Z := List.mem_map.mpr ⟨(z, i), List.mem_zipIdx_iff_getElem?.mpr h, rfl⟩
theorem zP_all {Z : List Str0} {out : List (Int × Int)} (h : Srt2 (zL Z) out) (t : Int) : zP Z out t ↔ ∃ z ∈ Z, inZ z t := by
  constructor
  · rintro ⟨q, hq, g⟩
    obtain ⟨i, z, hz, rfl⟩ := zL_mem (h.1.mem_iff.mp hq)
    refine ⟨z, List.mem_of_getElem? hz, ?_⟩
    simpa [List.getD_eq_getElem?_getD, hz] using g
  · rintro ⟨z, hz, g⟩
    obtain ⟨i, hi⟩ := List.getElem?_of_mem hz
    refine ⟨(z.1, (i : Int)), h.1.mem_iff.mpr (zL_in hi), ?_⟩
    simpa [List.getD_eq_getElem?_getD, hi] using g
theorem zP_tog {A B fl : List Int} {s : Int} {e : Option Int} {out : List (Int × Int)} (ha : Asc A) (hb : Asc B) (h : Srt2 (zL (zrs A ++ zrs B)) out) (j : JZ (zP (zrs A ++ zrs B) out) fl s e) : Tog A B (fl ++ tlZ s e) := by
  refine ⟨j.asc, fun t => ?_⟩
  have e1 := zrs_hit ha t
  have e2 := zrs_hit hb t
  have e3 : lv (fl ++ tlZ s e) t = 0 ↔ lv A t = 0 ∨ lv B t = 0 := by
    rw [j.hit t, zP_all h, e1, e2]
    constructor
    · rintro ⟨z, hz, g⟩
      rcases List.mem_append.mp hz with hz | hz
      · exact .inl ⟨z, hz, g⟩
      · exact .inr ⟨z, hz, g⟩
    · rintro (⟨z, hz, g⟩ | ⟨z, hz, g⟩)
      · exact ⟨z, List.mem_append_left _ hz, g⟩
      · exact ⟨z, List.mem_append_right _ hz, g⟩
  rcases lv_01 (fl ++ tlZ s e) t with a | a <;> rcases lv_01 A t with b | b <;> rcases lv_01 B t with c | c <;> omega
/-- none more once there is no end -/
theorem jz_rest {Z : List Str0} {pre : List (Int × Int)} {fl : List Int} {s : Int} : ∀ (post : List (Int × Int)), JZ (zP Z pre) fl s none → (∀ q ∈ post, ∃ z, Z.getD q.2.toNat (0, none) = z ∧ s ≤ z.1) → JZ (zP Z (pre ++ post)) fl s none
  | [], j, _ => by rw [List.append_nil]; exact j
  | q :: post, j, h => by
    obtain ⟨z, hz, sz⟩ := h q (List.mem_cons_self ..)
    have j2 : JZ (zP Z (pre ++ [q])) fl s none := (jz_end (b := z.1) (e := z.2) j sz).congr (zP_snoc hz)
    rw [show pre ++ q :: post = (pre ++ [q]) ++ post by simp]
    exact jz_rest post j2 fun r hr => h r (List.mem_cons_of_mem _ hr)
theorem sta_neg {ds : List PyData} {d0 d : PyData} {P : List PyData → Prop} (k : P (ds ++ [d])) : StA (ds ++ [d0]) (-1) d P := by
  refine ⟨ds.length, ?_, ?_⟩
  · unfold ixN
    rw [List.length_append, List.length_singleton]
    simp
    omega
  · rw [List.set_append_right _ _ (Nat.le_refl _), Nat.sub_self]
    exact k
theorem tog_nil : tog [] [] = [] := tog_self List.Pairwise.nil
theorem sh_found (l : List Int) (o : Option Int) : SeqAt.shaped (.list (dI l ++ [optI o])) = true :=
  (ly_lst (dp := 0) fun d hd => by
    rcases List.mem_append.mp hd with hd | hd
    · obtain ⟨x, _, rfl⟩ := List.mem_map.mp hd
      exact ly_int
    · rw [List.mem_singleton.mp hd]
      cases o
      · exact ly_non
      · exact ly_int).sh
theorem fl_found (l : List Int) (o : Option Int) : (dI l ++ [optI o]).all flt = true := by
  rw [List.all_append]
  have : (dI l).all flt = true := by
    unfold dI
    rw [List.all_map]
    exact List.all_eq_true.mpr fun _ _ => rfl
  rw [this]
  cases o <;> rfl
theorem fl_two (l : List Int) (o p : Option Int) (b : Int) : ((dI l ++ [optI o]) ++ [.int b, optI p]).all flt = true := by
  rw [List.all_append, fl_found]
  cases p <;> rfl
theorem shw_dI {l : List Int} (hl : l.length ≤ 800) (h : ∀ x ∈ l, -(2 ^ 240) < x ∧ x < 2 ^ 240) : Shw (.list (dI l)) :=
  (sh_lst (m := 242) (dp := 0) (k := 800) (fun d hd => by
    obtain ⟨x, hx, rfl⟩ := List.mem_map.mp hd
    exact sh_int (h x hx)) (by rw [dI_len]; exact hl)).w
theorem asc_sub : ∀ (r C : List Int), Asc r → (∀ x ∈ r, x ∈ C) → r.length ≤ C.length
  | [], _, _, _ => Nat.zero_le _
  | x :: r, C, h, hs => by
    have t := asc_tl h
    have a := asc_sub r (C.filter fun y => decide (x < y)) t.1 fun y hy => List.mem_filter.mpr ⟨hs y (List.mem_cons_of_mem _ hy), decide_eq_true (t.2 y hy)⟩
    have lt : (C.filter fun y => decide (x < y)).length < C.length := List.length_filter_lt_length_iff_exists.mpr ⟨x, hs x (List.mem_cons_self ..), by simp⟩
    rw [List.length_cons]
    omega
theorem cnt_before {l : List Int} {x : Int} (h : x ∉ l) : PW.cnt l x = PW.cnt l (x - 1) := by
  unfold PW.cnt
  congr 1
  refine List.filter_congr fun y hy => ?_
  have : y ≠ x := fun e => h (e ▸ hy)
  exact decide_eq_decide.mpr (by omega)
theorem tog_mem {A B r : List Int} (h : Tog A B r) : ∀ x ∈ r, x ∈ A ++ B := fun x hx => by
  refine Classical.byContradiction fun c => ?_
  rw [List.mem_append, not_or] at c
  obtain ⟨i, hi⟩ := List.getElem?_of_mem hx
  have c1 := (at_le h.1 hi x).mp (Int.le_refl _)
  have c2 : ¬ i < PW.cnt r (x - 1) := fun q => by
    have := (at_le h.1 hi (x - 1)).mpr q
    omega
  have c3 : PW.cnt r x ≤ i + 1 := by
    refine Classical.byContradiction fun q => ?_
    have lt : i + 1 < r.length := by have := cnt_le r x; omega
    have g := (at_le h.1 (List.getElem?_eq_getElem lt) x).mpr (by omega)
    have lt0 := (List.getElem?_eq_some_iff.mp hi).1
    have e0 := (List.getElem?_eq_some_iff.mp hi).2
    have := List.pairwise_iff_getElem.mp h.1 i (i + 1) lt0 lt (by omega)
    omega
  have c4 : i ≤ PW.cnt r (x - 1) := by
    refine Classical.byContradiction fun q => ?_
    have lt0 := (List.getElem?_eq_some_iff.mp hi).1
    have e0 := (List.getElem?_eq_some_iff.mp hi).2
    have lt : PW.cnt r (x - 1) < r.length := by omega
    have := List.pairwise_iff_getElem.mp h.1 (PW.cnt r (x - 1)) i lt lt0 (by omega)
    have := (at_le h.1 (List.getElem?_eq_getElem lt) (x - 1)).mp (by omega)
    omega
  have a := h.2 x
  have b := h.2 (x - 1)
  unfold lv at a b
  rw [cnt_before c.1, cnt_before c.2] at a
  omega
theorem jn_ex {A B : List Int} {out : List (Int × Int)} (h : Srt2 (A.map (fun x => (x, (0 : Int))) ++ B.map (fun x => (x, 1))) out) : ∀ n, n ≤ out.length → ∃ sg la lb, Jn (out.take n) sg la lb
  | 0, _ => ⟨_, _, _, by rw [List.take_zero]; exact jn_nil⟩
  | n + 1, hn => by
    obtain ⟨sg, la, lb, j⟩ := jn_ex h n (by omega)
    have e : out = out.take n ++ out[n] :: out.drop (n + 1) := by rw [← List.drop_eq_getElem_cons, List.take_append_drop]
    have et : out.take (n + 1) = out.take n ++ [out[n]] := (List.take_append_getElem (by omega)).symm
    have hx : ∀ q ∈ out.take n, q.1 ≤ (out[n]).1 := srt2_le (e ▸ h)
    rw [et]
    rcases h2 : out[n] with ⟨x, k⟩
    rw [h2] at hx
    rcases (show k = 0 ∨ k = 1 from by have := srt2_01 (e ▸ h); rw [h2] at this; exact this) with rfl | rfl
    · by_cases c : min (1 - la) lb = min la lb
      · exact ⟨_, _, _, (jn_0 j hx).2 c⟩
      · exact ⟨_, _, _, (jn_0 j hx).1 c⟩
    · by_cases c : min la (1 - lb) = min la lb
      · exact ⟨_, _, _, (jn_1 j hx).2 c⟩
      · exact ⟨_, _, _, (jn_1 j hx).1 c⟩
theorem tog_ok (A B : List Int) : Tog A B (tog A B) := by
  obtain ⟨out, ho⟩ := srt2_ex (A.map (fun x => (x, (0 : Int))) ++ B.map (fun x => (x, 1)))
  obtain ⟨sg, la, lb, j⟩ := jn_ex ho out.length (Nat.le_refl _)
  rw [List.take_length] at j
  have t := jn_all j ho
  rw [tog_eq t]
  exact t
theorem tog_shw {A B : List Int} (hl : A.length + B.length ≤ 800) (ha : ∀ x ∈ A, -(2 ^ 240) < x ∧ x < 2 ^ 240) (hb : ∀ x ∈ B, -(2 ^ 240) < x ∧ x < 2 ^ 240) : Shw (.list (dI (tog A B))) := by
  have m := tog_mem (tog_ok A B)
  refine shw_dI ?_ fun x hx => ?_
  · have := asc_sub _ _ (tog_ok A B).1 m
    rw [List.length_append] at this
    omega
  · rcases List.mem_append.mp (m x hx) with h | h
    · exact ha x h
    · exact hb x h
theorem mul_bd {x t : Int} (h : -(2 ^ 120) < x ∧ x < 2 ^ 120) (h2 : 1 ≤ t ∧ t < 2 ^ 100) : -(2 ^ 240) < x * t ∧ x * t < 2 ^ 240 := by
  rcases Int.le_total 0 x with c | c
  · have a : x * t ≤ 2 ^ 120 * 2 ^ 100 := Int.mul_le_mul (by omega) (by omega) (by omega) (by omega)
    have b := Int.mul_nonneg c (show 0 ≤ t by omega)
    omega
  · have a : -x * t ≤ 2 ^ 120 * 2 ^ 100 := Int.mul_le_mul (by omega) (by omega) (by omega) (by omega)
    have b := Int.mul_nonneg (show 0 ≤ -x by omega) (show 0 ≤ t by omega)
    rw [Int.neg_mul] at a b
    omega
theorem lv_cons (x : Int) (sg : List Int) (t : Int) : lv (x :: sg) t = if x ≤ t then 1 - lv sg t else lv sg t := by
  by_cases c : x ≤ t
  · rw [if_pos c, lv_one c]
  · rw [if_neg c, lv_cons_gt (by omega)]
theorem tog_1 : tog [0, 5] [5, 9] = [0, 9] := tog_eq ⟨by unfold Asc; decide, fun t => by simp only [lv_cons, PL.lv_nil]; (repeat' split) <;> omega⟩
theorem tog_2 : tog [0, 5] [6, 9] = [0, 5, 6, 9] := tog_eq ⟨by unfold Asc; decide, fun t => by simp only [lv_cons, PL.lv_nil]; (repeat' split) <;> omega⟩
theorem tog_3 : tog [3] [9] = [3] := tog_eq ⟨by unfold Asc; decide, fun t => by simp only [lv_cons, PL.lv_nil]; (repeat' split) <;> omega⟩
theorem tog_4 : tog [] [0] = [0] := tog_eq ⟨by unfold Asc; decide, fun t => by simp only [lv_cons, PL.lv_nil]; (repeat' split) <;> omega⟩
theorem tog_5 : tog [0, 9] [2, 4] = [0, 9] := tog_eq ⟨by unfold Asc; decide, fun t => by simp only [lv_cons, PL.lv_nil]; (repeat' split) <;> omega⟩
end PL
/-! PS13: one period of offsets; numbers at risk counted from a later one -/
namespace PL
open PySem PySem.Spec PyProof.Rows L2 Evl SB PW
theorem sumR_list (h : Nat → Int) : ∀ n, sumR n h = ((List.range n).map h).sum
  | 0 => rfl
  | n + 1 => by
    rw [List.range_succ, List.map_append, List.sum_append]
    show sumR n h + h n = _
    rw [sumR_list h n]
    simp
theorem sum_perm {a b : List Int} (p : a.Perm b) : a.sum = b.sum := by
  induction p with
  | nil => rfl
  | cons x _ ih => rw [List.sum_cons, List.sum_cons, ih]
  | swap x y l =>
    simp only [List.sum_cons]
    omega
  | trans _ _ i1 i2 => rw [i1, i2]
/-- what holds all of a list without doubles, and is no longer, is that list in another order -/
theorem perm_cover {α : Type} : ∀ (c o : List α), c.Nodup → (∀ x ∈ c, x ∈ o) → o.length ≤ c.length → o.Perm c
  | [], o, _, _, hl => by
    rw [List.length_eq_zero_iff.mp (show o.length = 0 by simpa using hl)]
  | x :: c, o, nd, hs, hl => by
    obtain ⟨nx, nc⟩ := List.nodup_cons.mp nd
    obtain ⟨a, b, rfl⟩ := List.append_of_mem (hs x (List.mem_cons_self ..))
    have pm : (a ++ x :: b).Perm (x :: (a ++ b)) := List.perm_middle
    refine pm.trans ((perm_cover c (a ++ b) nc (fun y hy => ?_) (by rw [pm.length_eq] at hl; simpa using hl)).cons x)
    have m := pm.mem_iff.mp (hs y (List.mem_cons_of_mem _ hy))
    rcases List.mem_cons.mp m with e | m
    · exact absurd (e ▸ hy) nx
    · exact m
theorem sumR_le (q : Int) : ∀ n : Nat, -1 ≤ q → q < n → sumR n (fun j => if (j : Int) ≤ q then 1 else 0) = q + 1
  | 0, h1, h2 => by show (0 : Int) = _; omega
  | n + 1, h1, h2 => by
    show sumR n _ + (if (n : Int) ≤ q then 1 else 0) = _
    by_cases c : (n : Int) ≤ q
    · have e : sumR n (fun j => if (j : Int) ≤ q then (1 : Int) else 0) = sumR n fun _ => 1 := sumR_congr fun k hk => if_pos (by omega)
      rw [e, sumR_one, if_pos c]
      omega
    · rw [sumR_le q n h1 (by omega), if_neg c]
      omega
theorem emod_sub_l (x y g : Int) : (x % g - y) % g = (x - y) % g := by
  have d := Int.emod_add_mul_ediv x g
  rw [show x % g - y = (x - y) + g * (-(x / g)) by rw [Int.mul_neg]; omega, Int.add_mul_emod_self_left]
theorem offK_add {g u ph : Int} (n k : Nat) : offK g u (offK g u ph n) k = offK g u ph (n + k) := by
  unfold offK
  rw [emod_sub_l, show ph - ↑n * u - ↑k * u = ph - ((n + k : Nat) : Int) * u by rw [Int.natCast_add, Int.add_mul]; omega]
theorem badN_add {g u ph lo hi : Int} (n : Nat) : ∀ m : Nat, badN g u ph lo hi (n + m) = badN g u ph lo hi n + badN g u (offK g u ph n) lo hi m
  | 0 => (Int.add_zero _).symm
  | m + 1 => by
    show badN g u ph lo hi (n + m) + (if lo ≤ offK g u ph (n + m) ∧ offK g u ph (n + m) ≤ hi then 0 else 1) = badN g u ph lo hi n + (badN g u (offK g u ph n) lo hi m + (if lo ≤ offK g u (offK g u ph n) m ∧ offK g u (offK g u ph n) m ≤ hi then 0 else 1))
    rw [badN_add n m, offK_add]
    omega
theorem badN_succ {g u ph lo hi : Int} (n : Nat) : badN g u ph lo hi (n + 1) = badN g u ph lo hi n + (if lo ≤ offK g u ph n ∧ offK g u ph n ≤ hi then 0 else 1) := rfl
theorem risk_later {g u ph lo hi : Int} {a k : Nat} : Risk g u (offK g u ph a) lo hi k ↔ Risk g u ph lo hi (a + k) := by
  unfold Risk
  rw [offK_add]
/-- the offsets of one period are those of the phase's class -/
theorem per_perm {g u ph : Int} (hg : 1 ≤ g) (hu : 0 ≤ u) : ((List.range (g / (Nat.gcd g.natAbs u.natAbs : Nat)).toNat).map (offK g u ph)).Perm ((List.range (g / (Nat.gcd g.natAbs u.natAbs : Nat)).toNat).map fun j : Nat => ph % (Nat.gcd g.natAbs u.natAbs : Nat) + (j : Int) * (Nat.gcd g.natAbs u.natAbs : Nat)) := by
  have mb := gcd_bd (u := u) hg
  have pb := per_bd (u := u) hg
  have dv := Int.mul_ediv_cancel' (gcd_dv (g := g) (u := u))
  refine perm_cover _ _ ?_ (fun x hx => ?_) (by rw [List.length_map, List.length_map]; exact Nat.le_refl _)
  · refine List.pairwise_map.mpr ((List.nodup_range).imp fun {i j} ne e => ne ?_)
    have e : (i : Int) * (Nat.gcd g.natAbs u.natAbs : Nat) = (j : Int) * (Nat.gcd g.natAbs u.natAbs : Nat) := by omega
    have := Int.eq_of_mul_eq_mul_right (show ((Nat.gcd g.natAbs u.natAbs : Nat) : Int) ≠ 0 by omega) e
    omega
  · obtain ⟨j, hj, rfl⟩ := List.mem_map.mp hx
    have jl := List.mem_range.mp hj
    have r0 := Int.emod_nonneg ph (show ((Nat.gcd g.natAbs u.natAbs : Nat) : Int) ≠ 0 by omega)
    have r1 := Int.emod_lt_of_pos ph (show 0 < ((Nat.gcd g.natAbs u.natAbs : Nat) : Int) by omega)
    have rd : (ph % (Nat.gcd g.natAbs u.natAbs : Nat) + (j : Int) * (Nat.gcd g.natAbs u.natAbs : Nat) - ph) % (Nat.gcd g.natAbs u.natAbs : Nat) = 0 := by
      rw [show ph % (Nat.gcd g.natAbs u.natAbs : Nat) + (j : Int) * (Nat.gcd g.natAbs u.natAbs : Nat) - ph = ph % (Nat.gcd g.natAbs u.natAbs : Nat) - ph + (j : Int) * (Nat.gcd g.natAbs u.natAbs : Nat) by omega, Int.add_mul_emod_self_right, emod_sub_l, Int.sub_self, Int.zero_emod]
    have ub : ph % (Nat.gcd g.natAbs u.natAbs : Nat) + (j : Int) * (Nat.gcd g.natAbs u.natAbs : Nat) < g := by
      have : ((j : Int) + 1) * (Nat.gcd g.natAbs u.natAbs : Nat) ≤ (g / (Nat.gcd g.natAbs u.natAbs : Nat)) * (Nat.gcd g.natAbs u.natAbs : Nat) := Int.mul_le_mul_of_nonneg_right (by omega) (by omega)
      rw [Int.add_mul, Int.mul_comm (g / _)] at this
      omega
    have jn : 0 ≤ (j : Int) * (Nat.gcd g.natAbs u.natAbs : Nat) := Int.mul_nonneg (by omega) (by omega)
    obtain ⟨k, hk⟩ := reach (r := ph) hg hu (by omega) ub rd
    refine List.mem_map.mpr ⟨k % (g / (Nat.gcd g.natAbs u.natAbs : Nat)).toNat, List.mem_range.mpr (Nat.mod_lt _ (by omega)), ?_⟩
    rw [offK_per hg]
    exact hk.2
/-- how many of one period are at risk -/
theorem badN_per {g u ph lo hi d : Int} (hg : 1 ≤ g) (hu : 0 ≤ u) (l0 : 0 ≤ lo) (lh : lo ≤ hi) (hg2 : hi < g) (hd : d = (Nat.gcd g.natAbs u.natAbs : Nat)) : badN g u ph lo hi (g / d).toNat = g / d - ((hi - ph % d) / d - (lo - 1 - ph % d) / d) := by
  have pb := per_bd (u := u) hg
  have mb := gcd_bd (u := u) hg
  have dv := Int.mul_ediv_cancel' (gcd_dv (g := g) (u := u))
  have pm := per_perm (ph := ph) hg hu
  rw [← hd] at pb mb dv pm
  have r0 := Int.emod_nonneg ph (show d ≠ 0 by omega)
  have r1 := Int.emod_lt_of_pos ph (show 0 < d by omega)
  have e1 : badN g u ph lo hi (g / d).toNat = sumR (g / d).toNat fun j => if lo ≤ ph % d + (j : Int) * d ∧ ph % d + (j : Int) * d ≤ hi then 0 else 1 := by
    unfold badN
    rw [sumR_list, sumR_list]
    have := sum_perm (pm.map fun o => if lo ≤ o ∧ o ≤ hi then (0 : Int) else 1)
    rw [List.map_map, List.map_map] at this
    exact this
  generalize ph % d = r at *
  generalize g / d = P at *
  have q1 : ∀ z : Int, ∀ j : Nat, r + (j : Int) * d ≤ z ↔ (j : Int) ≤ (z - r) / d := fun z j => by
    rw [Int.le_ediv_iff_mul_le (by omega)]
    omega
  have b1 : -1 ≤ (hi - r) / d ∧ (hi - r) / d < P := by
    refine ⟨by rw [Int.le_ediv_iff_mul_le (by omega)]; omega, ?_⟩
    rw [Int.ediv_lt_iff_lt_mul (by omega), Int.mul_comm]
    omega
  have b0 : -1 ≤ (lo - 1 - r) / d ∧ (lo - 1 - r) / d < P := by
    refine ⟨by rw [Int.le_ediv_iff_mul_le (by omega)]; omega, ?_⟩
    rw [Int.ediv_lt_iff_lt_mul (by omega), Int.mul_comm]
    omega
  have e2 : sumR P.toNat (fun j => if lo ≤ r + (j : Int) * d ∧ r + (j : Int) * d ≤ hi then (0 : Int) else 1) = sumR P.toNat (fun _ => 1) - (sumR P.toNat (fun j => if (j : Int) ≤ (hi - r) / d then 1 else 0) - sumR P.toNat (fun j => if (j : Int) ≤ (lo - 1 - r) / d then 1 else 0)) := by
    rw [← sumR_sub, ← sumR_sub]
    refine sumR_congr fun j _ => ?_
    have h1 := q1 hi j
    have h2 := q1 (lo - 1) j
    by_cases c1 : r + (j : Int) * d ≤ hi <;> by_cases c2 : r + (j : Int) * d ≤ lo - 1
    · rw [if_neg (by omega), if_pos (h1.mp c1), if_pos (h2.mp c2)]; rfl
    · rw [if_pos (by omega), if_pos (h1.mp c1), if_neg (fun z => c2 (h2.mpr z))]; rfl
    · omega
    · rw [if_neg (by omega), if_neg (fun z => c1 (h1.mpr z)), if_neg (fun z => c2 (h2.mpr z))]; rfl
  rw [e1, e2, sumR_one, sumR_le _ _ b1.1 (by omega), sumR_le _ _ b0.1 (by omega)]
  omega
/-- the first number at risk, seen from the counts and from later numbers -/
theorem first_counts {g u ph lo hi : Int} {k : Nat} (f : FirstR (Risk g u ph lo hi) (.int k)) : badN g u ph lo hi k = 0 ∧ badN g u ph lo hi (k + 1) = 1 ∧ Risk g u ph lo hi k := by
  rcases f with ⟨e, _⟩ | ⟨j, a, b, e⟩
  · cases e
  · have e : (k : Int) = (j : Int) := by injection e
    obtain rfl : k = j := by omega
    have z := (badN_zero (g := g) (u := u) (ph := ph) (lo := lo) (hi := hi) k).mpr fun i hi => b i hi
    exact ⟨z, by rw [badN_succ, z, if_neg a]; rfl, a⟩
theorem first_later {g u ph lo hi : Int} {k a : Nat} (f : FirstR (Risk g u ph lo hi) (.int k)) (h : a ≤ k) : FirstR (Risk g u (offK g u ph a) lo hi) (.int ((k : Int) - a)) := by
  rcases f with ⟨e, _⟩ | ⟨j, r, b, e⟩
  · cases e
  · have e : (k : Int) = (j : Int) := by injection e
    obtain rfl : k = j := by omega
    refine .inr ⟨k - a, risk_later.mpr (by rw [show a + (k - a) = k by omega]; exact r), fun i hi q => b (a + i) (by omega) (risk_later.mp q), by congr 1; omega⟩
end PL
/-! PS14: numbers whose offset is given, by an inverse; counts over many periods; sums of quotients once more -/
namespace PL
open PySem PySem.Spec PyProof.Rows L2 Evl SB PW
theorem div_step {m P : Int} (hP : 1 ≤ P) : (m + 1) / P = m / P + if (m + 1) % P = 0 then 1 else 0 := by
  have d := Int.emod_add_mul_ediv m P
  have r0 := Int.emod_nonneg m (show P ≠ 0 by omega)
  have r1 := Int.emod_lt_of_pos m (show 0 < P by omega)
  generalize m % P = r at *
  generalize m / P = q at *
  subst d
  rw [show r + P * q + 1 = (r + 1) + P * q by omega, Int.add_mul_ediv_left _ _ (by omega), Int.add_mul_emod_self_left]
  by_cases c : r + 1 = P
  · rw [c, Int.emod_self, if_pos rfl, Int.ediv_self (by omega)]
    omega
  · rw [Int.emod_eq_of_lt (by omega) (by omega), if_neg (by omega), Int.ediv_eq_zero_of_lt (by omega) (by omega)]
    omega
/-- how many of the first numbers leave a rest -/
theorem cnt_mod {P s : Int} (hP : 1 ≤ P) (s0 : 0 ≤ s) (sP : s < P) : ∀ n : Nat, sumR n (fun k => if (k : Int) % P = s then 1 else 0) = ((n : Int) - 1 - s) / P + 1
  | 0 => by
    show (0 : Int) = _
    rw [show ((0 : Nat) : Int) - 1 - s = (P - 1 - s) + P * (-1) by rw [Int.mul_neg, Int.mul_one]; omega, Int.add_mul_ediv_left _ _ (by omega), Int.ediv_eq_zero_of_lt (by omega) (by omega)]
    omega
  | n + 1 => by
    show sumR n _ + (if (n : Int) % P = s then 1 else 0) = _
    rw [cnt_mod hP s0 sP n, show ((n + 1 : Nat) : Int) - 1 - s = ((n : Int) - 1 - s) + 1 by omega, div_step hP]
    have e : ((n : Int) - 1 - s + 1) % P = 0 ↔ (n : Int) % P = s := by
      have d := Int.emod_add_mul_ediv (n : Int) P
      have r0 := Int.emod_nonneg (n : Int) (show P ≠ 0 by omega)
      have r1 := Int.emod_lt_of_pos (n : Int) (show 0 < P by omega)
      rw [show (n : Int) - 1 - s + 1 = ((n : Int) % P - s) + P * ((n : Int) / P) by omega, Int.add_mul_emod_self_left]
      constructor
      · intro h
        rcases Int.lt_or_le ((n : Int) % P) s with c | c
        · rw [show (n : Int) % P - s = ((n : Int) % P - s + P) + P * (-1) by rw [Int.mul_neg, Int.mul_one]; omega, Int.add_mul_emod_self_left, Int.emod_eq_of_lt (by omega) (by omega)] at h
          omega
        · rw [Int.emod_eq_of_lt (by omega) (by omega)] at h
          omega
      · intro h
        rw [h, Int.sub_self, Int.zero_emod]
    by_cases c : (n : Int) % P = s
    · rw [if_pos c, if_pos (e.mpr c)]
    · rw [if_neg c, if_neg (fun z => c (e.mp z))]
      omega
theorem offK_rg {g u ph : Int} (hg : 1 ≤ g) (k : Nat) : 0 ≤ offK g u ph k ∧ offK g u ph k < g := ⟨Int.emod_nonneg _ (by omega), Int.emod_lt_of_pos _ (by omega)⟩
/-! an inverse -/
def Inv (a m v : Int) : Prop := 0 ≤ v ∧ v < m ∧ ∃ e, v * a = 1 + m * e
theorem Inv.uniq {a m v w : Int} (h : Inv a m v) (g : Inv a m w) : v = w := by
  obtain ⟨v0, v1, e, he⟩ := h
  obtain ⟨w0, w1, f, hf⟩ := g
  have h1 : v * (w * a) = v * (1 + m * f) := by rw [hf]
  have h2 : w * (v * a) = w * (1 + m * e) := by rw [he]
  have h3 : v * (w * a) = w * (v * a) := by rw [← Int.mul_assoc, ← Int.mul_assoc, Int.mul_comm v w]
  have h4 : v - w = m * (w * e - v * f) := by
    rw [h1, h2] at h3
    have a1 : v * (1 + m * f) = v + m * (v * f) := by rw [Int.mul_add, Int.mul_one, ← Int.mul_assoc, Int.mul_comm v m, Int.mul_assoc]
    have a2 : w * (1 + m * e) = w + m * (w * e) := by rw [Int.mul_add, Int.mul_one, ← Int.mul_assoc, Int.mul_comm w m, Int.mul_assoc]
    rw [a1, a2] at h3
    rw [Int.mul_sub]
    omega
  have h5 : (v - w) % m = 0 := by rw [h4]; exact Int.mul_emod_right _ _
  rcases Int.lt_or_le v w with c | c
  · rw [show v - w = (v - w + m) + m * (-1) by rw [Int.mul_neg, Int.mul_one]; omega, Int.add_mul_emod_self_left, Int.emod_eq_of_lt (by omega) (by omega)] at h5
    omega
  · rw [Int.emod_eq_of_lt (by omega) (by omega)] at h5
    omega
theorem Inv.ex {a m : Int} (hm : 1 ≤ m) (ha : 0 ≤ a) (hg : Nat.gcd m.natAbs a.natAbs = 1) : ∃ v, Inv a m v := by
  obtain ⟨k, _, hk⟩ := reach (g := m) (u := a) (r := 0) (v := 1 % m) hm ha (Int.emod_nonneg _ (by omega)) (Int.emod_lt_of_pos _ (by omega)) (by rw [hg]; exact Int.emod_one _)
  refine ⟨(-(k : Int)) % m, Int.emod_nonneg _ (by omega), Int.emod_lt_of_pos _ (by omega), ?_⟩
  have d := Int.emod_add_mul_ediv (-(k : Int)) m
  have d2 := Int.emod_add_mul_ediv (0 - (k : Int) * a) m
  have d3 := Int.emod_add_mul_ediv 1 m
  rw [hk] at d2
  generalize (-(k : Int)) % m = x at *
  generalize (-(k : Int)) / m = y at *
  refine ⟨(0 - (k : Int) * a) / m - 1 / m - y * a, ?_⟩
  rw [show x = -(k : Int) - m * y by omega, Int.sub_mul, Int.neg_mul, Int.mul_sub, Int.mul_sub, ← Int.mul_assoc]
  generalize (k : Int) * a = z at *
  omega
/-- the least number whose offset is the given one: by an inverse of the unit's share -/
def idxD (d P v gap : Int) : PyData := if gap % d = 0 then .int (gap / d * v % P) else .none
theorem idx_hit {g u st o d v : Int} (hg : 1 ≤ g) (hu : 0 ≤ u) (o0 : 0 ≤ o) (og : o < g) (hd : d = (Nat.gcd g.natAbs u.natAbs : Nat)) (iv : Inv (u / d) (g / d) v) (h : (st - o) % d = 0) :
    0 ≤ (st - o) / d * v % (g / d) ∧ (st - o) / d * v % (g / d) < g / d ∧ ∀ k : Nat, offK g u st k = o ↔ (k : Int) % (g / d) = (st - o) / d * v % (g / d) := by
  have pb := per_bd (u := u) hg
  have mb := gcd_bd (u := u) hg
  have dv := Int.mul_ediv_cancel' (gcd_dv (g := g) (u := u))
  have du : ((Nat.gcd g.natAbs u.natAbs : Nat) : Int) * (u / (Nat.gcd g.natAbs u.natAbs : Nat)) = u := by
    rw [Nat.gcd_comm]
    exact Int.mul_ediv_cancel' (gcd_dv (g := u) (u := g))
  have nd : (List.range (g / (Nat.gcd g.natAbs u.natAbs : Nat)).toNat).map (offK g u st) |>.Nodup := by
    refine (per_perm (ph := st) hg hu).nodup_iff.mpr (List.pairwise_map.mpr ((List.nodup_range).imp fun {i j} ne e => ne ?_))
    have e : (i : Int) * (Nat.gcd g.natAbs u.natAbs : Nat) = (j : Int) * (Nat.gcd g.natAbs u.natAbs : Nat) := by omega
    have := Int.eq_of_mul_eq_mul_right (show ((Nat.gcd g.natAbs u.natAbs : Nat) : Int) ≠ 0 by omega) e
    omega
  have per := fun k => offK_per (g := g) (u := u) (ph := st) hg k
  rw [← hd] at pb mb dv du nd per
  obtain ⟨v0, v1, e, he⟩ := iv
  have s0 := Int.emod_nonneg ((st - o) / d * v) (show g / d ≠ 0 by omega)
  have s1 := Int.emod_lt_of_pos ((st - o) / d * v) (show 0 < g / d by omega)
  have dd := Int.emod_add_mul_ediv ((st - o) / d * v) (g / d)
  have dq := Int.emod_add_mul_ediv (st - o) d
  rw [h, Int.zero_add] at dq
  generalize (st - o) / d * v % (g / d) = s at *
  have hs : offK g u st s.toNat = o := by
    unfold offK
    rw [show ((s.toNat : Nat) : Int) = s by omega]
    have hsv : s = (st - o) / d * v - g / d * ((st - o) / d * v / (g / d)) := by omega
    generalize (st - o) / d * v / (g / d) = t at *
    generalize (st - o) / d = q at *
    generalize g / d = P at *
    generalize u / d = w at *
    have e1 : s * u = (st - o) + g * (q * e - t * w) := by
      have : q * v * u = (st - o) + g * (q * e) := by
        calc q * v * u = q * v * (d * w) := by rw [du]
          _ = d * q * (v * w) := by rw [Int.mul_assoc q v, Int.mul_comm v (d * w), Int.mul_assoc d w v, Int.mul_comm w v, ← Int.mul_assoc q d, Int.mul_comm q d]
          _ = d * q * (1 + P * e) := by rw [he]
          _ = d * q + d * P * (q * e) := by rw [Int.mul_add, Int.mul_one, Int.mul_assoc d q, ← Int.mul_assoc q P e, Int.mul_comm q P, Int.mul_assoc P q e, ← Int.mul_assoc d P]
          _ = (st - o) + g * (q * e) := by rw [dq, dv]
      have t2 : P * t * u = g * (t * w) := by
        calc P * t * u = P * t * (d * w) := by rw [du]
          _ = d * P * (t * w) := by rw [← Int.mul_assoc (P * t) d w, Int.mul_comm (P * t) d, ← Int.mul_assoc d P t, Int.mul_assoc (d * P) t w]
          _ = g * (t * w) := by rw [dv]
      rw [hsv, Int.sub_mul, this, t2, Int.mul_sub]
      omega
    rw [e1, show st - (st - o + g * (q * e - t * w)) = o + g * (-(q * e - t * w)) by rw [Int.mul_neg]; omega, Int.add_mul_emod_self_left]
    exact Int.emod_eq_of_lt o0 og
  refine ⟨s0, s1, fun k => ?_⟩
  have pk := per k
  have kl : k % (g / d).toNat < (g / d).toNat := Nat.mod_lt _ (by omega)
  have kc : ((k % (g / d).toNat : Nat) : Int) = (k : Int) % (g / d) := by
    rw [Int.natCast_emod, show (((g / d).toNat : Nat) : Int) = g / d by omega]
  constructor
  · intro c
    refine Classical.byContradiction fun ne => ?_
    have ne2 : k % (g / d).toNat ≠ s.toNat := fun z => ne (by rw [← kc, z]; omega)
    have g1 : ((List.range (g / d).toNat).map (offK g u st))[k % (g / d).toNat]? = some o := by
      rw [List.getElem?_map, List.getElem?_range kl]
      show some (offK g u st (k % (g / d).toNat)) = _
      rw [pk, c]
    have g2 : ((List.range (g / d).toNat).map (offK g u st))[s.toNat]? = some o := by
      rw [List.getElem?_map, List.getElem?_range (by omega)]
      show some (offK g u st s.toNat) = _
      rw [hs]
    exact ne2 ((List.getElem?_inj (by rw [List.length_map, List.length_range]; omega) nd).mp (by rw [g1, g2]))
  · intro c
    rw [← pk, ← hs]
    congr 1
    omega
theorem idx_miss {g u st o d : Int} (hd : d = (Nat.gcd g.natAbs u.natAbs : Nat)) (h : ¬ (st - o) % d = 0) (k : Nat) : offK g u st k ≠ o := fun e => by
  have m := reach_mod (g := g) (u := u) (r := st) (k : Int)
  rw [← hd] at m
  have e' : (st - (k : Int) * u) % g = o := e
  rw [e'] at m
  refine h ?_
  rw [Int.sub_emod, m, Int.sub_self, Int.zero_emod]
/-- the share of one offset in the first numbers -/
theorem cnt_idx {g u st o d v : Int} (hg : 1 ≤ g) (hu : 0 ≤ u) (o0 : 0 ≤ o) (og : o < g) (hd : d = (Nat.gcd g.natAbs u.natAbs : Nat)) (iv : Inv (u / d) (g / d) v) (n : Nat) :
    sumR n (fun k => if offK g u st k = o then 1 else 0) = if (st - o) % d = 0 then ((n : Int) - 1 - (st - o) / d * v % (g / d)) / (g / d) + 1 else 0 := by
  by_cases h : (st - o) % d = 0
  · obtain ⟨s0, s1, hh⟩ := idx_hit hg hu o0 og hd iv h
    have pb := per_bd (u := u) hg
    rw [← hd] at pb
    rw [if_pos h, ← cnt_mod pb.1 s0 s1 n]
    refine sumR_congr fun k _ => ?_
    by_cases c : offK g u st k = o
    · rw [if_pos c, if_pos ((hh k).mp c)]
    · rw [if_neg c, if_neg (fun z => c ((hh k).mpr z))]
  · rw [if_neg h, sumR_congr (h' := fun _ => 0) fun k _ => if_neg (idx_miss hd h k), sumR_const, Int.mul_zero]
theorem sumR_swap {α : Type} (n : Nat) (f : α → Nat → Int) : ∀ B : List α, sumR n (fun k => (B.map fun o => f o k).sum) = (B.map fun o => sumR n (f o)).sum
  | [] => by
    show sumR n (fun _ => 0) = 0
    rw [sumR_const, Int.mul_zero]
  | o :: B => by
    rw [List.map_cons, List.sum_cons, ← sumR_swap n f B, ← sumR_add]
    rfl
theorem one_of (a x : Int) : ∀ n : Nat, ((List.range n).map fun i : Nat => if x = a + (i : Int) then (1 : Int) else 0).sum = if a ≤ x ∧ x < a + n then 1 else 0
  | 0 => by
    rw [if_neg (by omega)]
    rfl
  | n + 1 => by
    rw [List.range_succ, List.map_append, List.sum_append, one_of a x n]
    simp only [List.map_cons, List.map_nil, List.sum_cons, List.sum_nil]
    by_cases c : x = a + (n : Int)
    · rw [if_pos c, if_neg (by omega), if_pos (by omega)]
      omega
    · rw [if_neg c]
      by_cases c2 : a ≤ x ∧ x < a + (n : Int)
      · rw [if_pos c2, if_pos (by omega)]
        omega
      · rw [if_neg c2, if_neg (by omega)]
        omega
/-- all offsets that are not between two bounds -/
def badO (g lo hi : Int) : List Int := ((List.range lo.toNat).map fun i : Nat => (i : Int)) ++ (List.range (g - (hi + 1)).toNat).map fun i : Nat => hi + 1 + (i : Int)
theorem badO_in {g lo hi x : Int} (lg : lo ≤ g) (h0 : -1 ≤ hi) (h : x ∈ badO g lo hi) : 0 ≤ x ∧ x < g := by
  rcases List.mem_append.mp h with h | h
  · obtain ⟨i, hi, rfl⟩ := List.mem_map.mp h
    have := List.mem_range.mp hi
    omega
  · obtain ⟨i, hi, rfl⟩ := List.mem_map.mp h
    have := List.mem_range.mp hi
    omega
theorem badN_all {g u st lo hi d v : Int} (hg : 1 ≤ g) (hu : 0 ≤ u) (l0 : 0 ≤ lo) (lh : lo ≤ hi) (hg2 : hi < g) (hd : d = (Nat.gcd g.natAbs u.natAbs : Nat)) (iv : Inv (u / d) (g / d) v) (n : Nat) :
    badN g u st lo hi n = ((badO g lo hi).map fun o => if (st - o) % d = 0 then ((n : Int) - 1 - (st - o) / d * v % (g / d)) / (g / d) + 1 else 0).sum := by
  rw [List.map_congr_left (g := fun o => sumR n fun k => if offK g u st k = o then 1 else 0) fun o ho => by
    obtain ⟨o0, og⟩ := badO_in (by omega) (by omega) ho
    exact (cnt_idx hg hu o0 og hd iv n).symm]
  rw [← sumR_swap n (fun o k => if offK g u st k = o then 1 else 0)]
  unfold badN
  refine sumR_congr fun k _ => ?_
  obtain ⟨x0, x1⟩ := offK_rg (u := u) (ph := st) hg k
  generalize offK g u st k = x at *
  unfold badO
  rw [List.map_append, List.sum_append, List.map_map, List.map_map]
  have e1 := one_of 0 x lo.toNat
  have e2 := one_of (hi + 1) x (g - (hi + 1)).toNat
  rw [show ((fun o => if x = o then (1 : Int) else 0) ∘ fun i : Nat => (i : Int)) = fun i : Nat => if x = 0 + (i : Int) then (1 : Int) else 0 from funext fun i => by rw [Int.zero_add]; rfl, show ((fun o => if x = o then (1 : Int) else 0) ∘ fun i : Nat => hi + 1 + (i : Int)) = fun i : Nat => if x = hi + 1 + (i : Int) then (1 : Int) else 0 from rfl, e1, e2]
  by_cases c : lo ≤ x ∧ x ≤ hi
  · rw [if_pos c, if_neg (by omega), if_neg (by omega)]
    rfl
  · rw [if_neg c]
    by_cases c2 : x < lo
    · rw [if_pos (by omega), if_neg (by omega)]
      rfl
    · rw [if_neg (by omega), if_pos (by omega)]
      rfl
/-- the spots of all such offsets -/
def spotsO (d P v st : Int) (B : List Int) : List Int := (B.filter fun o => decide ((st - o) % d = 0)).map fun o => (st - o) / d * v % P
theorem spots_sum {d P v st : Int} {n : Int} (hP : 1 ≤ P) (n0 : 0 ≤ n) : ∀ B : List Int, (B.map fun o => if (st - o) % d = 0 then (n - 1 - (st - o) / d * v % P) / P + 1 else 0).sum = (((spotsO d P v st B).filter fun s => decide (s < n)).map fun s => (n - 1 - s) / P + 1).sum
  | [] => rfl
  | o :: B => by
    unfold spotsO
    rw [List.map_cons, List.sum_cons, spots_sum hP n0 B]
    by_cases c : (st - o) % d = 0
    · rw [if_pos c, List.filter_cons, if_pos (decide_eq_true c), List.map_cons, List.filter_cons]
      by_cases c2 : (st - o) / d * v % P < n
      · rw [if_pos (decide_eq_true c2), List.map_cons, List.sum_cons]
        rfl
      · rw [if_neg (by rw [decide_eq_true_eq]; exact c2)]
        have s0 := Int.emod_nonneg ((st - o) / d * v) (show P ≠ 0 by omega)
        have s1 := Int.emod_lt_of_pos ((st - o) / d * v) (show 0 < P by omega)
        generalize (st - o) / d * v % P = s at *
        have : (n - 1 - s) / P = -1 := by
          rw [show n - 1 - s = (n - 1 - s + P) + P * (-1) by rw [Int.mul_neg, Int.mul_one]; omega, Int.add_mul_ediv_left _ _ (by omega), Int.ediv_eq_zero_of_lt (by omega) (by omega)]
          omega
        rw [this]
        show _ + 1 + _ = _
        unfold spotsO
        omega
    · rw [if_neg c, List.filter_cons, if_neg (by rw [decide_eq_true_eq]; exact c)]
      unfold spotsO
      omega
theorem spots_in {d P v st x : Int} {B : List Int} (hP : 1 ≤ P) (h : x ∈ spotsO d P v st B) : 0 ≤ x ∧ x < P := by
  obtain ⟨o, _, rfl⟩ := List.mem_map.mp h
  exact ⟨Int.emod_nonneg _ (by omega), Int.emod_lt_of_pos _ (by omega)⟩
theorem spots_srt {d P v st n : Int} {B out : List Int} (h : Srt (spotsO d P v st B) out) : ((out.filter fun s => decide (s < n)).map fun s => (n - 1 - s) / P + 1).sum = (((spotsO d P v st B).filter fun s => decide (s < n)).map fun s => (n - 1 - s) / P + 1).sum :=
  sum_perm ((h.1.filter _).map _)
/-! many periods -/
theorem offK_0 {g u ph : Int} (k : Nat) : offK g u (offK g u ph 0) k = offK g u ph k := by rw [offK_add, Nat.zero_add]
theorem badN_off0 {g u ph lo hi : Int} (n : Nat) : badN g u (offK g u ph 0) lo hi n = badN g u ph lo hi n := by
  unfold badN
  refine sumR_congr fun k _ => ?_
  rw [offK_0]
theorem badN_many {g u ph lo hi : Int} {P : Nat} (hg : 1 ≤ g) (hP : P = (g / (Nat.gcd g.natAbs u.natAbs : Nat)).toNat) (r : Nat) : ∀ m : Nat, badN g u ph lo hi (P * m + r) = m * badN g u ph lo hi P + badN g u ph lo hi r
  | 0 => by
    rw [Nat.mul_zero, Nat.zero_add]
    show _ = (0 : Int) * _ + _
    rw [Int.zero_mul, Int.zero_add]
  | m + 1 => by
    have e : offK g u ph P = offK g u ph 0 := by
      have := offK_per (g := g) (u := u) (ph := ph) hg P
      rw [← hP, Nat.mod_self] at this
      exact this.symm
    rw [show P * (m + 1) + r = P + (P * m + r) by rw [Nat.mul_add, Nat.mul_one]; omega, badN_add, e, badN_off0, badN_many hg hP r m, show ((m + 1 : Nat) : Int) = (m : Int) + 1 by omega, Int.add_mul, Int.one_mul]
    omega
/-! sums of quotients with any step -/
theorem sq_mod {n : Nat} {m a b : Int} (hm : 1 ≤ m) : sq n m a b = (n : Int) * (n - 1) / 2 * (a / m) + sq n m (a % m) b := by
  have e1 := sq_red (n := n) (a := a) (b := b) hm
  have e2 := sq_red (n := n) (a := a % m) (b := b) hm
  have r0 := Int.emod_nonneg a (show m ≠ 0 by omega)
  have r1 := Int.emod_lt_of_pos a (show 0 < m by omega)
  rw [Int.emod_emod_of_dvd a (Int.dvd_refl m), Int.ediv_eq_zero_of_lt r0 r1, Int.mul_zero] at e2
  omega
theorem badN_sq2 {g u ph lo hi : Int} (hg : 1 ≤ g) (l0 : 0 ≤ lo) (lh : lo ≤ hi) (hg2 : hi < g) (n : Nat) : badN g u ph lo hi n = n - (sq n g (-u) (ph - lo) - sq n g (-u) (ph - lo - (hi - lo + 1))) := by
  rw [badN_sq hg l0 lh hg2, sq_mod (a := -u) (b := ph - lo) hg, sq_mod (a := -u) (b := ph - lo - (hi - lo + 1)) hg, show ph - lo - (hi - lo + 1) = ph - hi - 1 by omega]
  omega
/-- each step of the sums halves a product -/
theorem half_step {m a : Int} {k : Nat} (a1 : 1 ≤ a) (am : a < m) (h : m * a + 1 < 2 ^ (k + 1)) : a * (m % a) + 1 < 2 ^ k := by
  have d := Int.emod_add_mul_ediv m a
  have r0 := Int.emod_nonneg m (show a ≠ 0 by omega)
  have r1 := Int.emod_lt_of_pos m (show 0 < a by omega)
  have q1 : 1 ≤ m / a := by rw [Int.le_ediv_iff_mul_le (by omega)]; omega
  have q2 : a * 1 ≤ a * (m / a) := Int.mul_le_mul_of_nonneg_left q1 (by omega)
  generalize m % a = r at *
  have l : a * (2 * r) ≤ a * (m - 1) := Int.mul_le_mul_of_nonneg_left (by omega) (by omega)
  have e : a * (2 * r) = 2 * (a * r) := by rw [← Int.mul_assoc, Int.mul_comm a 2, Int.mul_assoc]
  have e2 : a * (m - 1) = m * a - a := by rw [Int.mul_sub, Int.mul_one, Int.mul_comm]
  have e3 : (2 : Int) ^ (k + 1) = 2 * 2 ^ k := by rw [Int.pow_succ, Int.mul_comm]
  rw [e, e2] at l
  rw [e3] at h
  generalize (2 : Int) ^ k = p at *
  generalize a * r = y at *
  omega
end PL
/-! PS15: pairs of lists of one's own in lists -/
namespace PL
open PySem PySem.Spec PyProof.Rows L2 Evl SB PW
def pn : Sl → Bool
  | .ow _ _ => false
  | _ => true
/-- no slot owns a list -/
def Pln (ρ : List Sl) : Prop := ρ.all pn = true
theorem Pln.no {ρ : List Sl} (h : Pln ρ) {i : Nat} {b : Bool} {ds : List PyData} : ρ[i]? ≠ some (.ow b ds) := fun e => by
  have := List.all_eq_true.mp h _ (List.mem_of_getElem? e)
  cases this
theorem pln_cons {s : Sl} {ρ : List Sl} : Pln (s :: ρ) ↔ pn s = true ∧ Pln ρ := by
  unfold Pln
  rw [List.all_cons, Bool.and_eq_true]
theorem pln_nil : Pln [] ↔ True := ⟨fun _ => trivial, fun _ => rfl⟩
theorem pn_sh (d : PyData) : (pn (.sh d) = true) = True := eq_true rfl
theorem pn_xo (a : Addr) (o) : (pn (.xo a o) = true) = True := eq_true rfl
theorem pn_un : (pn .un = true) = True := eq_true rfl
/-- a list of one's own at p -/
def Lo (K : PySem.W.Frag) (F H : Hp) (p : Addr) (ds : List PyData) : Prop := F p = none ∧ ∃ xs, H p = some (.lst xs) ∧ VdAll K F xs ds
structure NR (K : PySem.W.Frag) (c : Cn) (F H : Hp) (os : List (Addr × Nat × Nat)) (ps : List Addr) (dss : List (List PyData)) : Prop where
  nd : ps.Nodup
  nw : ∀ p ∈ ps, c.H0 p = none
  ou : ∀ o ∈ os, ∃ p q, ps[o.2.1]? = some p ∧ ps[o.2.2]? = some q ∧ F o.1 = some (.lst [.ref p, .ref q])
  ln : dss.length = ps.length
  lo : ∀ (k : Nat) (p : Addr) (ds : List PyData), ps[k]? = some p → dss[k]? = some ds → Lo K F H p ds
section
variable {K : PySem.W.Frag} {c c' : Cn} {F H F' H' : Hp} {σ : L2.St} {ρ : List Sl} {os : List (Addr × Nat × Nat)} {ps : List Addr} {dss : List (List PyData)}
theorem Lo.gr {p : Addr} {ds : List PyData} (h : Lo K F H p ds) (g : Gr F H F' H') : Lo K F' H' p ds := by
  obtain ⟨f, xs, h1, d⟩ := h
  exact ⟨g.fr p (by rw [h1]; exact fun z => nomatch z) f, xs, g.hh _ _ h1, d.ex g.ff⟩
theorem NR.gr (n : NR K c F H os ps dss) (g : Gr F H F' H') : NR K c F' H' os ps dss :=
  ⟨n.nd, n.nw, fun o ho => let ⟨p, q, h1, h2, h3⟩ := n.ou o ho; ⟨p, q, h1, h2, g.ff _ _ h3⟩, n.ln, fun k p ds h1 h2 => (n.lo k p ds h1 h2).gr g⟩
theorem Env.rebase (E : Env K c F H σ ρ) (p : Pln ρ) : Env K c' F H σ ρ := by
  refine ⟨E.len, fun i s v h1 h2 => ?_, E.inj⟩
  have r := E.sl i s v h1 h2
  cases s with
  | un => trivial
  | scr ns => exact r
  | xo a o => exact r
  | sh d => exact r
  | ow b ds => exact absurd h1 p.no
/-- a list of one's own among them is changed -/
theorem NR.mut (n : NR K c F H os ps dss) {k : Nat} {p : Addr} {ys : List V} {es : List PyData} (hp : ps[k]? = some p) (d : VdAll K F ys es) : NR K c F (upd H p (.lst ys)) os ps (dss.set k es) := by
  refine ⟨n.nd, n.nw, n.ou, by rw [List.length_set]; exact n.ln, fun j q ds h1 h2 => ?_⟩
  by_cases e : k = j
  · subst e
    rw [hp] at h1
    cases h1
    have lt := (List.getElem?_eq_some_iff.mp hp).1
    rw [List.getElem?_set_self (by rw [n.ln]; exact lt)] at h2
    cases h2
    have : ∃ ds, dss[k]? = some ds := ⟨_, List.getElem?_eq_getElem (by rw [n.ln]; exact lt)⟩
    obtain ⟨ds, hd⟩ := this
    exact ⟨(n.lo k p ds hp hd).1, ys, upd_same, d⟩
  · rw [List.getElem?_set_ne e] at h2
    obtain ⟨f, xs, hx, dx⟩ := n.lo j q ds h1 h2
    have ne : q ≠ p := fun z => by
      subst z
      have l1 := (List.getElem?_eq_some_iff.mp h1)
      have l2 := (List.getElem?_eq_some_iff.mp hp)
      obtain ⟨l1, e1⟩ := l1
      obtain ⟨l2, e2⟩ := l2
      exact e ((List.getElem_inj (h₀ := l2) (h₁ := l1) n.nd).mp (by rw [e1, e2]))
    exact ⟨f, xs, by rw [upd_ne ne]; exact hx, dx⟩
theorem Env.mutN (E : Env K c F H σ ρ) (p : Pln ρ) {H2 : Hp} : Env K c F H2 σ ρ := by
  refine ⟨E.len, fun i s v h1 h2 => ?_, E.inj⟩
  have r := E.sl i s v h1 h2
  cases s with
  | un => trivial
  | scr ns => exact r
  | xo a o => exact r
  | sh d => exact r
  | ow b ds => exact absurd h1 p.no
theorem Env.sh_at (E : Env K c F H σ ρ) {i : Nat} {v : V} {d : PyData} (h : σ[i]? = some (some v)) (dv : Vd K F v d) : Env K c F H σ (ρ.set i (.sh d)) := by
  have := E.set_sh (i := i) dv
  rwa [show σ.set i (some v) = σ by
    obtain ⟨l, e⟩ := List.getElem?_eq_some_iff.mp h
    rw [← e]
    exact List.set_getElem_self l] at this
theorem env_xo (E : Env K c F H σ ρ) {i : Nat} {a : Addr} : Env K c F H (σ.set i (some (.ref a))) (ρ.set i (.xo a none)) := by
  refine ⟨by rw [List.length_set, List.length_set, E.len], fun j s u h1 h2 => ?_, fun j k p b b' ds ds' h1 h2 h3 h4 => ?_⟩
  · by_cases q : i = j
    · subst q
      rw [List.getElem?_set] at h1 h2
      simp only [if_true] at h1 h2
      split at h1
      · cases h1
        split at h2
        · cases h2
          exact ⟨rfl, fun dx fld d z => nomatch z⟩
        · cases h2
      · cases h1
    · rw [List.getElem?_set_ne q] at h1 h2
      exact E.sl j s u h1 h2
  · by_cases q : i = j
    · subst q
      rw [List.getElem?_set] at h1
      simp only [if_true] at h1
      split at h1 <;> cases h1
    by_cases q2 : i = k
    · subst q2
      rw [List.getElem?_set] at h2
      simp only [if_true] at h2
      split at h2 <;> cases h2
    rw [List.getElem?_set_ne q] at h1 h3
    rw [List.getElem?_set_ne q2] at h2 h4
    exact E.inj j k p b b' ds ds' h1 h2 h3 h4
theorem Env.xo_at (E : Env K c F H σ ρ) {i : Nat} {a : Addr} (h : ρ[i]? = some (.xo a none)) : σ[i]? = some (some (.ref a)) := by
  obtain ⟨v, h1, r, _⟩ := E.at h
  rw [h1, r]
end
def DN (K : PySem.W.Frag) (c : Cn) (F : Hp) (D : L2.Ends) (os : List (Addr × Nat × Nat)) (ps : List Addr) (nx : List (List PyData) → List Sl → Prop) : Prop :=
  ∀ σ F2 H2 ρ2 dss2, Ex F F2 → Pln ρ2 → Sta c F2 H2 → Env K c F2 H2 σ ρ2 → NR K c F2 H2 os ps dss2 → nx dss2 ρ2 → D.nx σ H2
/-- statements beside such pairs -/
def XN (K : PySem.W.Frag) (os : List (Addr × Nat × Nat)) (ts : TS) (dss : List (List PyData)) (ρ : List Sl) (nx : List (List PyData) → List Sl → Prop) (e : En) : Prop :=
  ∀ c F H σ D ps, Pln ρ → Sta c F H → Env K c F H σ ρ → NR K c F H os ps dss → DN K c F D os ps nx → DOk K c F D { rt := e.rt, ro := e.ro } → ts D σ H
section
variable {K : PySem.W.Frag} {os : List (Addr × Nat × Nat)} {ts tu : TS} {dss : List (List PyData)} {ρ : List Sl} {nx : List (List PyData) → List Sl → Prop} {e : En} {te t0 : TE} {tt : TT}
theorem DOk.nx' {c : Cn} {F : Hp} {D : L2.Ends} {N : L2.St → Hp → Prop} (h : DOk K c F D { rt := e.rt, ro := e.ro }) : DOk K c F { D with nx := N } { rt := e.rt, ro := e.ro } :=
  ⟨fun _ _ _ _ _ _ _ z => z.elim, fun _ _ _ _ _ _ _ z => z.elim, fun _ _ _ _ _ _ _ z => z.elim, h.rt, h.ro⟩
theorem xn_seq (h : XN K os ts dss ρ (fun dss2 ρ2 => XN K os tu dss2 ρ2 nx e) e) : XN K os (tSeq ts tu) dss ρ nx e := fun c F H σ D ps p st en nr dn ok =>
  h c F H σ { D with nx := tu D } ps p st en nr (fun σ2 F2 H2 ρ2 dss2 a p2 s2 n2 r2 q => q c F2 H2 σ2 D ps p2 s2 n2 r2 (fun σ3 F3 H3 ρ3 dss3 a3 => dn σ3 F3 H3 ρ3 dss3 (a.trans a3)) (ok.ex a)) ok.nx'
theorem xn_of (h : Pln ρ → XS K ts ρ { nx := fun ρ2 => Pln ρ2 ∧ nx dss ρ2 }) : XN K os ts dss ρ nx e := fun c F H σ D ps p st en nr dn ok =>
  h p ⟨fun _ => False, F, H⟩ F H σ D (Sta.init st.fh) (en.rebase p) ⟨fun σ2 F2 H2 ρ2 a s2 n2 q => dn σ2 F2 H2 ρ2 dss s2.to_gr.ff q.1 (st.gr s2.to_gr) (n2.rebase q.1) (nr.gr s2.to_gr) q.2, fun _ _ _ _ _ _ _ z => z.elim, fun _ _ _ _ _ _ _ z => z.elim, fun _ _ _ _ _ _ _ _ _ _ z => z.elim, fun _ _ _ _ _ _ _ _ _ _ _ _ _ _ _ z => z.elim⟩
theorem xn_cut (M : List (List PyData) → List Sl → Prop) (h : XN K os ts dss ρ M e) (k : ∀ dss2 ρ2, M dss2 ρ2 → XN K os tu dss2 ρ2 nx e) : XN K os (tSeq ts tu) dss ρ nx e :=
  xn_seq fun c F H σ D ps p st en nr dn ok => h c F H σ D ps p st en nr (fun σ3 F3 H3 ρ3 dss3 a3 p3 s3 n3 r3 q3 => dn σ3 F3 H3 ρ3 dss3 a3 p3 s3 n3 r3 (k _ _ q3)) ok
theorem xn_nil (h : nx dss ρ) : XN K os tNext dss ρ nx e := fun c F H σ D ps p st en nr dn ok => dn σ F H ρ dss (Ex.refl F) p st en nr h
theorem xn_if {b : Bool} (h : ET K tt ρ b) (h1 : b = true → XN K os ts dss ρ nx e) (h2 : b = false → XN K os tu dss ρ nx e) : XN K os (tIfS tt ts tu) dss ρ nx e := fun c F H σ D ps p st en nr dn ok =>
  h c F H σ en st.fh _ fun F1 H1 g => by
    cases b with
    | true =>
      rw [if_pos rfl]
      exact h1 rfl c F1 H1 σ D ps p (st.gr g) (en.gr g) (nr.gr g) (fun σ3 F3 H3 ρ3 dss3 a3 => dn σ3 F3 H3 ρ3 dss3 (g.ff.trans a3)) (ok.ex g.ff)
    | false =>
      rw [if_neg Bool.false_ne_true]
      exact h2 rfl c F1 H1 σ D ps p (st.gr g) (en.gr g) (nr.gr g) (fun σ3 F3 H3 ρ3 dss3 a3 => dn σ3 F3 H3 ρ3 dss3 (g.ff.trans a3)) (ok.ex g.ff)
/-- an expression that is one of the lists -/
def NIx (K : PySem.W.Frag) (os : List (Addr × Nat × Nat)) (ρ : List Sl) (t0 : TE) (k : Nat) : Prop :=
  ∀ c F H σ ps dss, Env K c F H σ ρ → Ex F H → NR K c F H os ps dss → ∀ Q : VK, (∀ p, ps[k]? = some p → Q (.ref p) H) → t0 σ H Q
theorem nix {i : Nat} {m : Int} {a : Addr} {k0 k1 k : Nat} (h : ρ[i]? = some (.xo a none)) (ho : (a, k0, k1) ∈ os) (hm : (m = 0 ∧ k = k0) ∨ (m = 1 ∧ k = k1)) : NIx K os ρ (tP (tOp (rIxL K) (tVar i) (tC (.int m)))) k := fun c F H σ ps dss en ex nr Q q => by
  obtain ⟨p0, p1, h0, h1, hf⟩ := nr.ou _ ho
  have hs := en.xo_at h
  rcases hm with ⟨rfl, rfl⟩ | ⟨rfl, rfl⟩
  · exact ⟨_, hs, a, _, 0, _, rfl, rfl, sq_of (ex _ _ hf), rfl, q p0 h0⟩
  · exact ⟨_, hs, a, _, 1, _, rfl, rfl, sq_of (ex _ _ hf), rfl, q p1 h1⟩
theorem xn_app {k : Nat} {ds : List PyData} (h0 : NIx K os ρ t0 k) (hk : dss[k]? = some ds) (hl : ds.length < 100000) (hd : W K te ρ fun d ρ2 => Pln ρ2 ∧ nx (dss.set k (ds ++ [d])) ρ2) :
    XN K os (tDrop (tBM K "list" rAppend t0 (tCons te tNil))) dss ρ nx e := fun c F H σ D ps p st en nr dn ok =>
  h0 c F H σ ps dss en st.fh nr _ fun a ha => by
    obtain ⟨f, xs, hx, dx⟩ := nr.lo k a ds ha hk
    refine ⟨.inl ⟨rfl, xs, sq_of hx⟩, hd ⟨fun _ => False, F, H⟩ F H σ (Sta.init st.fh) (en.rebase p) _ fun v F2 H2 d ρ2 a2 s2 n2 k2 dv q => ?_⟩
    have g := s2.to_gr
    have n0 : c.H0 a = none := nr.nw a (List.mem_of_getElem? ha)
    have f2 : F2 a = none := g.fr a (by rw [hx]; exact fun z => nomatch z) f
    refine ⟨a, xs, v, rfl, rfl, g.hh _ _ hx, by rw [dx.len]; exact sz_lt hl, ?_⟩
    exact dn σ F2 _ ρ2 _ g.ff q.1 ((st.gr g).mut (b := true) f2 (.inl ⟨rfl, n0⟩)) ((n2.rebase (c' := c) q.1).mutN q.1) ((nr.gr g).mut ha ((dx.ex g.ff).app (.cons dv .nil))) q.2
theorem xn_ifW (h : WT K tt ρ fun b ρ2 => Pln ρ2 ∧ (b = true → XN K os ts dss ρ2 nx e) ∧ (b = false → XN K os tu dss ρ2 nx e)) : XN K os (tIfS tt ts tu) dss ρ nx e := fun c F H σ D ps p st en nr dn ok =>
  h ⟨fun _ => False, F, H⟩ F H σ (Sta.init st.fh) (en.rebase p) _ fun b F1 H1 ρ2 a2 s2 n2 k2 q => by
    have g := s2.to_gr
    obtain ⟨p2, h1, h2⟩ := q
    cases b with
    | true =>
      rw [if_pos rfl]
      exact h1 rfl c F1 H1 σ D ps p2 (st.gr g) (n2.rebase p2) (nr.gr g) (fun σ3 F3 H3 ρ3 dss3 a3 => dn σ3 F3 H3 ρ3 dss3 (g.ff.trans a3)) (ok.ex g.ff)
    | false =>
      rw [if_neg Bool.false_ne_true]
      exact h2 rfl c F1 H1 σ D ps p2 (st.gr g) (n2.rebase p2) (nr.gr g) (fun σ3 F3 H3 ρ3 dss3 a3 => dn σ3 F3 H3 ρ3 dss3 (g.ff.trans a3)) (ok.ex g.ff)
theorem xn_for {wi : TI} {g : TG} (hi : WI K wi ρ fun items ρ0 => Pln ρ0 ∧ ∃ Iv : Nat → List (List PyData) → List Sl → Prop, Iv 0 dss ρ0 ∧
    (∀ m d dss2 ρ2, items[m]? = some d → Pln ρ2 → Iv m dss2 ρ2 → G K g d ρ2 fun ρ3 => Pln ρ3 ∧ XN K os ts dss2 ρ3 (Iv (m + 1)) e) ∧
    (∀ dss2 ρ2, Pln ρ2 → Iv items.length dss2 ρ2 → nx dss2 ρ2)) : XN K os (tFor wi g ts) dss ρ nx e := fun c F H σ D ps p st en nr dn ok =>
  hi ⟨fun _ => False, F, H⟩ F H σ (Sta.init st.fh) (en.rebase p) _ fun J F1 H1 items ρ0 e1 s1 n1 k1 it ⟨p0, Iv, h0, hs, hd⟩ => by
    have gr := s1.to_gr
    refine ⟨fun m k σ' H' => k + m = items.length ∧ ∃ F' ρ' dss', Ex F1 F' ∧ Pln ρ' ∧ Sta c F' H' ∧ Env K c F' H' σ' ρ' ∧ NR K c F' H' os ps dss' ∧ Iv m dss' ρ', ⟨items.length, by omega, F1, ρ0, dss, Ex.refl F1, p0, st.gr gr, n1.rebase p0, nr.gr gr, h0⟩, ?_⟩
    rintro m k σ' H' ⟨hk, F', ρ', dss', a, p', s, n, r, inv⟩
    by_cases lt : m < items.length
    · refine .inr ⟨it.go m H' (a.trans s.fh) lt, fun σ2 H2 => ∃ F2 ρ2 dss2, Ex F1 F2 ∧ Pln ρ2 ∧ Sta c F2 H2 ∧ Env K c F2 H2 σ2 ρ2 ∧ NR K c F2 H2 os ps dss2 ∧ Iv (m + 1) dss2 ρ2, fun σ2 H2 ⟨F2, ρ2, dss2, q⟩ => ⟨k - 1, by omega, by omega, F2, ρ2, dss2, q⟩, ?_⟩
      intro x H2 y
      have hx : items[m]? = some items[m] := List.getElem?_eq_getElem lt
      obtain ⟨F2, g2, dx⟩ := it.yl m F' H' _ a s.fh hx x H2 y
      refine hs m _ dss' ρ' hx p' inv c F2 H2 σ' x (n.gr g2) g2.fh dx _ fun σ3 ρ3 n3 q3 => ?_
      obtain ⟨p3, q3⟩ := q3
      have ok2 := ok.ex ((e1.trans a).trans g2.ff)
      refine q3 c F2 H2 σ3 _ ps p3 (s.gr g2) n3 (r.gr g2) ?_ ⟨fun _ _ _ _ _ _ _ z => z.elim, fun _ _ _ _ _ _ _ z => z.elim, fun _ _ _ _ _ _ _ z => z.elim, ok2.rt, ok2.ro⟩
      exact fun σ F4 H4 ρ4 dss4 a4 p4 s4 n4 r4 q4 => ⟨F4, ρ4, dss4, (a.trans g2.ff).trans a4, p4, s4, n4, r4, q4⟩
    · obtain rfl : m = items.length := by
        have : m ≤ items.length := by omega
        omega
      exact .inl ⟨it.st _ H' (a.trans s.fh) (Nat.le_refl _), dn σ' F' H' ρ' dss' (e1.trans a) p' s n r (hd dss' ρ' p' inv)⟩
theorem kn_for {α : Type} {g : TG} (enc : α → PyData) (l : List α) {items : List PyData} (Iv : List α → List (List PyData) → List Sl → Prop) (h0 : Iv [] dss ρ)
    (hs : ∀ pre x post dss2 ρ2, l = pre ++ x :: post → Pln ρ2 → Iv pre dss2 ρ2 → G K g (enc x) ρ2 fun ρ3 => Pln ρ3 ∧ XN K os ts dss2 ρ3 (Iv (pre ++ [x])) e)
    (hd : ∀ dss2 ρ2, Pln ρ2 → Iv l dss2 ρ2 → nx dss2 ρ2) (he : items = l.map enc := by rfl) : ∃ Iv : Nat → List (List PyData) → List Sl → Prop, Iv 0 dss ρ ∧
    (∀ m d dss2 ρ2, items[m]? = some d → Pln ρ2 → Iv m dss2 ρ2 → G K g d ρ2 fun ρ3 => Pln ρ3 ∧ XN K os ts dss2 ρ3 (Iv (m + 1)) e) ∧
    (∀ dss2 ρ2, Pln ρ2 → Iv items.length dss2 ρ2 → nx dss2 ρ2) := by
  subst he
  refine ⟨fun m dss ρ => Iv (l.take m) dss ρ, by simpa using h0, fun m d dss2 ρ2 hd p iv => ?_, fun dss2 ρ2 p iv => hd dss2 ρ2 p (by rw [List.length_map, List.take_length] at iv; exact iv)⟩
  rw [List.getElem?_map] at hd
  cases q : l[m]? with
  | none => rw [q] at hd; cases hd
  | some x =>
    rw [q] at hd
    cases hd
    have lt := (List.getElem?_eq_some_iff.mp q).1
    have ex : l[m] = x := (List.getElem?_eq_some_iff.mp q).2
    have sp : l = l.take m ++ x :: l.drop (m + 1) := by
      rw [← ex, List.getElem_cons_drop, List.take_append_drop]
    have := hs _ x _ dss2 ρ2 sp p iv
    have tk : l.take m ++ [x] = l.take (m + 1) := by
      rw [List.take_succ, q]
      rfl
    rw [tk] at this
    exact this
/-! the pairs made -/
def EN2 (K : PySem.W.Frag) (te : TE) (ρ : List Sl) (ds es : List PyData) : Prop := ∀ c F H σ, Env K c F H σ ρ → Ex F H → ∀ Q : VK,
  (∀ a p q F2 H2, Gr F H F2 H2 → H p = none → H q = none → p ≠ q → F2 a = some (.lst [.ref p, .ref q]) → Lo K F2 H2 p ds → Lo K F2 H2 q es → Q (.ref a) H2) → te σ H Q
theorem en2 {t1 t2 : TE} {ds es : List PyData} (h1 : EO K t1 ρ ds) (h2 : EO K t2 ρ es) : EN2 K (tLst (tCons t1 (tCons t2 tNil))) ρ ds es := fun c F H σ en ex Q q =>
  h1 c F H σ en ex _ fun p xs F1 H1 g1 n1 f1 l1 d1 => h2 c F1 H1 σ (en.gr g1) g1.fh _ fun p2 ys F2 H2 g2 n2 f2 l2 d2 => ⟨by show 2 ≤ sizeLine; decide, fun a na => by
    have g3 : Gr F2 H2 (upd F2 a (.lst [.ref p, .ref p2])) (upd H2 a (.lst [.ref p, .ref p2])) := Gr.new g2.fh na
    have lp : Lo K F1 H1 p ds := ⟨f1, xs, l1, d1⟩
    have lq : Lo K F2 H2 p2 es := ⟨f2, ys, l2, d2⟩
    have n2' : H p2 = none := by
      cases e : H p2 with
      | none => rfl
      | some o => rw [g1.hh _ _ e] at n2; cases n2
    exact q a p p2 _ _ ((g1.trans g2).trans g3) n1 n2' (fun z => by rw [← z, l1] at n2; cases n2) upd_same ((lp.gr g2).gr g3) (lq.gr g3)⟩
theorem xn_new3 {i j l : Nat} {t1 t2 t3 : TE} {a0 a1 b0 b1 c0 c1 : List PyData} (p : Pln ρ) (h1 : EN2 K t1 ρ a0 a1) (h2 : EN2 K t2 ρ b0 b1) (h3 : EN2 K t3 ρ c0 c1)
    (h : ∀ A B C, XN K [(A, 0, 1), (B, 2, 3), (C, 4, 5)] tu [a0, a1, b0, b1, c0, c1] (((ρ.set i (.xo A none)).set j (.xo B none)).set l (.xo C none)) (fun _ _ => False) e) : XS K (tSeq (tPar3 i j l (tCons t1 (tCons t2 (tCons t3 tNil)))) tu) ρ e := fun c F H σ D st en ok =>
  h1 c F H σ en st.fh _ fun A p0 p1 F1 H1 g1 m0 m1 e1 o1 u0 u1 => h2 c F1 H1 σ (en.gr g1) g1.fh _ fun B p2 p3 F2 H2 g2 m2 m3 e2 o2 u2 u3 => h3 c F2 H2 σ ((en.gr g1).gr g2) g2.fh _ fun C p4 p5 F3 H3 g3 m4 m5 e3 o3 u4 u5 => ⟨_, _, _, rfl, by
    have g := (g1.trans g2).trans g3
    have old : ∀ {F H F' H' : Hp} {q : Addr} {ds : List PyData}, Lo K F H q ds → ∀ {z : Addr}, H z = none → z ≠ q := fun h z hz e => by
      obtain ⟨_, xs, hx, _⟩ := h
      rw [e, hx] at hz
      cases hz
    have back : ∀ {F H F' H' : Hp}, Gr F H F' H' → ∀ {z : Addr}, H' z = none → H z = none := fun {F H F' H'} g {z} hz => by
      cases e : H z with
      | none => rfl
      | some o => rw [g.hh _ _ e] at hz; cases hz
    have st3 := st.gr g
    have en3 := en.gr g
    refine h A B C c F3 H3 _ D [p0, p1, p2, p3, p4, p5] ?_ st3 (env_xo (env_xo (env_xo en3))) ⟨?_, ?_, ?_, rfl, ?_⟩ (fun _ _ _ _ _ _ _ _ _ _ z => z.elim) ⟨fun _ _ _ _ _ _ _ z => z.elim, fun _ _ _ _ _ _ _ z => z.elim, fun _ _ _ _ _ _ _ z => z.elim, (ok.ex g.ff).rt, (ok.ex g.ff).ro⟩
    · have ps : ∀ {ρ : List Sl} {i : Nat} {a : Addr}, Pln ρ → Pln (ρ.set i (.xo a none)) := fun {ρ i a} h => List.all_eq_true.mpr fun x hx => by
        rcases List.mem_or_eq_of_mem_set hx with hx | rfl
        · exact List.all_eq_true.mp h x hx
        · rfl
      exact ps (ps (ps p))
    · have v0 := u0.gr g2
      have v1 := u1.gr g2
      have d01 := e1
      have d20 := old (F' := F) (H' := H) u0 m2
      have d21 := old (F' := F) (H' := H) u1 m2
      have d30 := old (F' := F) (H' := H) u0 m3
      have d31 := old (F' := F) (H' := H) u1 m3
      have d40 := old (F' := F) (H' := H) v0 m4
      have d41 := old (F' := F) (H' := H) v1 m4
      have d42 := old (F' := F) (H' := H) u2 m4
      have d43 := old (F' := F) (H' := H) u3 m4
      have d50 := old (F' := F) (H' := H) v0 m5
      have d51 := old (F' := F) (H' := H) v1 m5
      have d52 := old (F' := F) (H' := H) u2 m5
      have d53 := old (F' := F) (H' := H) u3 m5
      simp only [List.nodup_cons, List.mem_cons, List.not_mem_nil, or_false, not_or, List.nodup_nil, and_true, not_false_eq_true]
      exact ⟨⟨d01, Ne.symm d20, Ne.symm d30, Ne.symm d40, Ne.symm d50⟩, ⟨Ne.symm d21, Ne.symm d31, Ne.symm d41, Ne.symm d51⟩, ⟨e2, Ne.symm d42, Ne.symm d52⟩, ⟨Ne.symm d43, Ne.symm d53⟩, e3⟩
    · have c0 : ∀ z, H z = none → c.H0 z = none := fun z hz => st.none hz
      intro z hz
      simp only [List.mem_cons, List.not_mem_nil, or_false] at hz
      rcases hz with rfl | rfl | rfl | rfl | rfl | rfl
      · exact c0 _ m0
      · exact c0 _ m1
      · exact c0 _ (back g1 m2)
      · exact c0 _ (back g1 m3)
      · exact c0 _ (back g1 (back g2 m4))
      · exact c0 _ (back g1 (back g2 m5))
    · intro o ho
      simp only [List.mem_cons, List.not_mem_nil, or_false] at ho
      rcases ho with rfl | rfl | rfl
      · exact ⟨p0, p1, rfl, rfl, g3.ff _ _ (g2.ff _ _ o1)⟩
      · exact ⟨p2, p3, rfl, rfl, g3.ff _ _ o2⟩
      · exact ⟨p4, p5, rfl, rfl, o3⟩
    · intro k q ds hk hd
      match k, hk, hd with
      | 0, hk, hd => cases hk; cases hd; exact (u0.gr g2).gr g3
      | 1, hk, hd => cases hk; cases hd; exact (u1.gr g2).gr g3
      | 2, hk, hd => cases hk; cases hd; exact u2.gr g3
      | 3, hk, hd => cases hk; cases hd; exact u3.gr g3
      | 4, hk, hd => cases hk; cases hd; exact u4
      | 5, hk, hd => cases hk; cases hd; exact u5
      | k + 6, hk, hd => cases hk⟩
/-! the pairs are not changed any more -/
def frzN (dss : List (List PyData)) : List (Nat × Nat × Nat) → List Sl → List Sl
  | [], ρ => ρ
  | (i, k, m) :: r, ρ => frzN dss r (ρ.set i (.sh (.list [.list (dss.getD k []), .list (dss.getD m [])])))
theorem frzN_env {c : Cn} {F H : Hp} {σ : L2.St} {dss : List (List PyData)} : ∀ {is : List (Nat × Nat × Nat)} {ρ : List Sl}, Env K c F H σ ρ → (∀ x ∈ is, ∃ a, σ[x.1]? = some (some (.ref a)) ∧ Vd K F (.ref a) (.list [.list (dss.getD x.2.1 []), .list (dss.getD x.2.2 [])])) → Env K c F H σ (frzN dss is ρ)
  | [], ρ, en, _ => en
  | (i, k, m) :: r, ρ, en, h => by
    obtain ⟨a, h1, h2⟩ := h _ List.mem_cons_self
    exact frzN_env (is := r) (en.sh_at h1 h2) fun x hx => h x (List.mem_cons_of_mem _ hx)
open Classical in
theorem xn_fin {is : List (Nat × Nat × Nat)} (hi : ∀ x ∈ is, ∃ a, ρ[x.1]? = some (.xo a none) ∧ (a, x.2.1, x.2.2) ∈ os) (h : XS K ts (frzN dss is ρ) { rt := e.rt, ro := e.ro }) : XN K os ts dss ρ nx e := fun c F H σ D ps p st en nr dn ok => by
  let F2 : Hp := fun z => if z ∈ ps then H z else F z
  have low : ∀ z ∈ ps, ∃ k ds, ps[k]? = some z ∧ dss[k]? = some ds ∧ Lo K F H z ds := fun z hz => by
    obtain ⟨k, hk⟩ := List.getElem?_of_mem hz
    have lt := (List.getElem?_eq_some_iff.mp hk).1
    exact ⟨k, _, hk, List.getElem?_eq_getElem (by rw [nr.ln]; exact lt), nr.lo k z _ hk (List.getElem?_eq_getElem (by rw [nr.ln]; exact lt))⟩
  have ff : Ex F F2 := fun z o hz => by
    have : z ∉ ps := fun hm => by
      obtain ⟨_, _, _, _, f, _⟩ := low z hm
      rw [f] at hz
      cases hz
    show (if z ∈ ps then H z else F z) = _
    rw [if_neg this]
    exact hz
  have fh : Ex F2 H := fun z o hz => by
    have hz : (if z ∈ ps then H z else F z) = some o := hz
    split at hz
    · exact hz
    · exact st.fh _ _ hz
  have st2 : Sta c F2 H := ⟨st.ff.trans ff, fh, st.hh, st.dm, fun z h1 h2 => by
    show (if z ∈ ps then H z else F z) = none
    split
    · rename_i hm
      exact absurd (nr.nw z hm) h1
    · exact st.fr z h1 h2⟩
  have en2 : Env K c F2 H σ ρ := by
    refine ⟨en.len, fun i s v h1 h2 => ?_, en.inj⟩
    have r := en.sl i s v h1 h2
    cases s with
    | un => trivial
    | scr ns => exact (let ⟨a, e, h⟩ := r; ⟨a, e, ex_l ff h⟩)
    | xo a o => exact r.ex ff
    | sh d =>
      obtain ⟨x, e, hx⟩ := r
      exact ⟨x, e, hx.ex ff⟩
    | ow b ds => exact absurd h1 p.no
  refine h c F2 H σ D st2 (frzN_env en2 fun x hx => ?_) ⟨fun _ _ _ _ _ _ _ z => z.elim, fun _ _ _ _ _ _ _ z => z.elim, fun _ _ _ _ _ _ _ z => z.elim, (ok.ex ff).rt, (ok.ex ff).ro⟩
  obtain ⟨a, h1, h2⟩ := hi x hx
  refine ⟨a, en.xo_at h1, ?_⟩
  obtain ⟨p1, q1, k1, k2, o⟩ := nr.ou _ h2
  have one : ∀ {k : Nat} {z : Addr}, ps[k]? = some z → Vd K F2 (.ref z) (.list (dss.getD k [])) := fun {k z} hk => by
    have lt := (List.getElem?_eq_some_iff.mp hk).1
    have e : dss[k]? = some (dss[k]'(by rw [nr.ln]; exact lt)) := List.getElem?_eq_getElem _
    obtain ⟨f, xs, hx, dx⟩ := nr.lo k z _ hk e
    rw [List.getD_eq_getElem?_getD, e]
    refine .lst (xs := xs) ?_ (dx.ex ff)
    show (if z ∈ ps then H z else F z) = _
    rw [if_pos (List.mem_of_getElem? hk)]
    exact hx
  exact .lst (ff _ _ o) (.cons (one k1) (.cons (one k2) .nil))
end
end PL
namespace LW
open PySem PySem.Spec PyProof.Rows L2 Evl SB PL PW
local macro_rules | `(tactic| array_get_dec) => do
  let h := Lean.mkIdent `h
  `(tactic| ((try dsimp only [PL.cxOf_K, PL.nox_K, rs, rsT, rsS, List.set, List.map, List.replicate, List.length_cons, List.length_nil, List.cons_append, List.nil_append, List.append_nil, Nat.sub_self, Nat.reduceAdd, Nat.reduceSub, setSl, fz, PL.wipeS]); (repeat (first | ((with_reducible apply PL.goI); with_reducible constructor) | ((with_reducible refine fun ($h : (_ : Bool) = true) => ?_); (try simp only [PL.isNo_non, PL.isNo_int, PL.isNo_tup, PL.isNo_lst, PL.isNo_str, PL.isNo_bl, PL.eqv_int, List.length_cons, List.length_nil, Nat.reduceAdd, Nat.zero_add, Int.cast_ofNat_Int, Int.reduceEq, Int.reduceLT, Int.reduceLE, reduceCtorEq, eq_self, false_or, or_false, true_or, or_true, false_and, and_false, true_and, and_true, not_true_eq_false, not_false_eq_true, Bool.not_true, Bool.not_false, Bool.true_and, Bool.false_and, Bool.and_true, Bool.and_false, Bool.true_or, Bool.false_or, Bool.or_true, Bool.or_false, decide_eq_true_eq, decide_eq_false_iff_not, Bool.and_eq_true, Bool.or_eq_true, Bool.not_eq_true', Bool.not_eq_false', Bool.and_eq_false_iff, Bool.or_eq_false_iff, Bool.not_eq_true, Bool.not_eq_false] at $h:ident)) | ((with_reducible refine fun ($h : (_ : Bool) = false) => ?_); (try simp only [PL.isNo_non, PL.isNo_int, PL.isNo_tup, PL.isNo_lst, PL.isNo_str, PL.isNo_bl, PL.eqv_int, List.length_cons, List.length_nil, Nat.reduceAdd, Nat.zero_add, Int.cast_ofNat_Int, Int.reduceEq, Int.reduceLT, Int.reduceLE, reduceCtorEq, eq_self, false_or, or_false, true_or, or_true, false_and, and_false, true_and, and_true, not_true_eq_false, not_false_eq_true, Bool.not_true, Bool.not_false, Bool.true_and, Bool.false_and, Bool.and_true, Bool.and_false, Bool.true_or, Bool.false_or, Bool.or_true, Bool.or_false, decide_eq_true_eq, decide_eq_false_iff_not, Bool.and_eq_true, Bool.or_eq_true, Bool.not_eq_true', Bool.not_eq_false', Bool.and_eq_false_iff, Bool.or_eq_false_iff, Bool.not_eq_true, Bool.not_eq_false] at $h:ident)) | ((with_reducible apply PL.tg1); dsimp only [List.set, List.map, setSl, fz, PL.wipeS]) | ((with_reducible apply PL.tg3); exact rfl) | ((with_reducible apply PL.mc); ((repeat apply Exists.intro); refine And.intro (by exact rfl) ?_; (repeat (refine And.intro ?_ ?_; (first | (with_reducible assumption) | omega | ((with_reducible apply PL.eq_id); exact rfl) | decide | ((with_reducible refine PL.wmul ?_ ?_) <;> omega) | exact .inl ⟨by decide, by decide⟩ | exact .inr ⟨by decide, by decide⟩ | ((with_reducible refine PL.wdiv ?_ ?_) <;> omega) | exact wide_div (b := 64) (by decide) (by decide) (by decide) (by decide) | (dsimp only; omega) | (exact cpow10 _ (by decide) (by decide)) | exact dI_flt _ | (with_reducible exact PL.flt_bools _ _) | (with_reducible exact PL.bools_shaped _ _) | exact dI_shaped _ | exact ly_int.sh | exact ly_non.sh | exact ly_bool.sh | (focus ((with_reducible apply PL.shw2); (repeat (first | (with_reducible exact PL.s0_non) | (with_reducible exact PL.s0_bool) | ((with_reducible apply PL.s0_int); omega) | (with_reducible assumption) | (with_reducible exact PL.als_nil) | (with_reducible apply PL.als_cons) | ((with_reducible refine PL.s1_tup ?_ (by simp)) ) | (with_reducible refine PL.s1_lst ?_ (by simp)) | (with_reducible refine PL.s2_tup ?_ (by simp)) | (with_reducible refine PL.s2_lst ?_ (by simp)) | (with_reducible apply PL.s1_0) | (with_reducible apply PL.s2_1))); done)) | (focus ((simp only [List.length_cons, List.length_nil, Nat.zero_add, Nat.reduceAdd]); decide)) | (solve | simp | (simp [dI_len]; omega))))))) | ((with_reducible apply PL.tg2); ((repeat apply Exists.intro); refine And.intro (by exact rfl) ?_; (repeat (refine And.intro ?_ ?_; (first | (with_reducible assumption) | omega | ((with_reducible apply PL.eq_id); exact rfl) | decide | ((with_reducible refine PL.wmul ?_ ?_) <;> omega) | exact .inl ⟨by decide, by decide⟩ | exact .inr ⟨by decide, by decide⟩ | ((with_reducible refine PL.wdiv ?_ ?_) <;> omega) | exact wide_div (b := 64) (by decide) (by decide) (by decide) (by decide) | (dsimp only; omega) | (exact cpow10 _ (by decide) (by decide)) | exact dI_flt _ | (with_reducible exact PL.flt_bools _ _) | (with_reducible exact PL.bools_shaped _ _) | exact dI_shaped _ | exact ly_int.sh | exact ly_non.sh | exact ly_bool.sh | (focus ((with_reducible apply PL.shw2); (repeat (first | (with_reducible exact PL.s0_non) | (with_reducible exact PL.s0_bool) | ((with_reducible apply PL.s0_int); omega) | (with_reducible assumption) | (with_reducible exact PL.als_nil) | (with_reducible apply PL.als_cons) | ((with_reducible refine PL.s1_tup ?_ (by simp)) ) | (with_reducible refine PL.s1_lst ?_ (by simp)) | (with_reducible refine PL.s2_tup ?_ (by simp)) | (with_reducible refine PL.s2_lst ?_ (by simp)) | (with_reducible apply PL.s1_0) | (with_reducible apply PL.s2_1))); done)) | (focus ((simp only [List.length_cons, List.length_nil, Nat.zero_add, Nat.reduceAdd]); decide)) | (solve | simp | (simp [dI_len]; omega)))))); exact rfl) | ((with_reducible apply PL.sd); (first | (with_reducible assumption) | omega | ((with_reducible apply PL.eq_id); exact rfl) | decide | ((with_reducible refine PL.wmul ?_ ?_) <;> omega) | exact .inl ⟨by decide, by decide⟩ | exact .inr ⟨by decide, by decide⟩ | ((with_reducible refine PL.wdiv ?_ ?_) <;> omega) | exact wide_div (b := 64) (by decide) (by decide) (by decide) (by decide) | (dsimp only; omega) | (exact cpow10 _ (by decide) (by decide)) | exact dI_flt _ | (with_reducible exact PL.flt_bools _ _) | (with_reducible exact PL.bools_shaped _ _) | exact dI_shaped _ | exact ly_int.sh | exact ly_non.sh | exact ly_bool.sh | (focus ((with_reducible apply PL.shw2); (repeat (first | (with_reducible exact PL.s0_non) | (with_reducible exact PL.s0_bool) | ((with_reducible apply PL.s0_int); omega) | (with_reducible assumption) | (with_reducible exact PL.als_nil) | (with_reducible apply PL.als_cons) | ((with_reducible refine PL.s1_tup ?_ (by simp)) ) | (with_reducible refine PL.s1_lst ?_ (by simp)) | (with_reducible refine PL.s2_tup ?_ (by simp)) | (with_reducible refine PL.s2_lst ?_ (by simp)) | (with_reducible apply PL.s1_0) | (with_reducible apply PL.s2_1))); done)) | (focus ((simp only [List.length_cons, List.length_nil, Nat.zero_add, Nat.reduceAdd]); decide)) | (solve | simp | (simp [dI_len]; omega)))) | ((with_reducible apply PL.sd_lat); rotate_left) | ((with_reducible apply PL.lat_of2); rotate_left) | ((with_reducible apply PL.tg15); ((with_reducible refine PL.ifkG (fun $h => ?_) (fun $h => ?_)) <;> (try simp only [PL.isNo_non, PL.isNo_int, PL.isNo_tup, PL.isNo_lst, PL.isNo_str, PL.isNo_bl, PL.eqv_int, List.length_cons, List.length_nil, Nat.reduceAdd, Nat.zero_add, Int.cast_ofNat_Int, Int.reduceEq, Int.reduceLT, Int.reduceLE, reduceCtorEq, eq_self, false_or, or_false, true_or, or_true, false_and, and_false, true_and, and_true, not_true_eq_false, not_false_eq_true, Bool.not_true, Bool.not_false, Bool.true_and, Bool.false_and, Bool.and_true, Bool.and_false, Bool.true_or, Bool.false_or, Bool.or_true, Bool.or_false, decide_eq_true_eq, decide_eq_false_iff_not, Bool.and_eq_true, Bool.or_eq_true, Bool.not_eq_true', Bool.not_eq_false', Bool.and_eq_false_iff, Bool.or_eq_false_iff, Bool.not_eq_true, Bool.not_eq_false] at $h:ident))) | ((with_reducible apply PL.tg16); refine PL.g_tup (PL.GoI.ok ?_) rfl) | ((with_reducible apply PL.tg17); refine PL.gc_tup (PL.GoI.ok ?_) rfl) | ((with_reducible apply PL.tg11); (first | (with_reducible exact PL.oe_i) | (with_reducible exact PL.oe_c) | (with_reducible exact PL.oe_eqI) | (with_reducible exact PL.oe_neI) | (with_reducible exact PL.oe_eqS) | (with_reducible exact PL.oe_neS) | (with_reducible exact PL.oe_eqB) | (with_reducible exact PL.oe_neB) | (with_reducible exact PL.oe_is) | (with_reducible exact PL.oe_isnot) | (with_reducible exact PL.oe_isB) | (with_reducible exact PL.oe_notB) | exact PL.oe_ixT rfl | (apply PL.s_ixT; solve | exact rfl) | (apply PL.s_ixL; ((with_reducible apply PL.sd); solve | exact rfl | (with_reducible assumption))) | (with_reducible apply PL.s_iC) | (with_reducible apply PL.s_eqD) | (with_reducible apply PL.s_neD) | (with_reducible apply PL.s_inL) | (with_reducible apply PL.s_inT) | (with_reducible apply PL.s_catT) | (with_reducible apply PL.s_addS))) | ((with_reducible apply PL.tg12); first | exact PL.oe_ixT rfl | (apply PL.s_ixT; solve | exact rfl) | (apply PL.s_ixL; ((with_reducible apply PL.sd); solve | exact rfl | (with_reducible assumption)))) | ((with_reducible apply PL.tg18a); exact rfl) | (with_reducible apply PL.tg18b) | ((with_reducible apply PL.tg13); (try dsimp only [List.set, PL.wipeS])) | ((with_reducible apply PL.tg14); (try dsimp only [List.set])) | ((with_reducible apply PL.tg10a); first | omega | (focus ((simp [*] at $h:ident); done)) | (focus (simp_all; done)) | (focus (simp_all; omega))) | (with_reducible apply PL.x_retW) | ((with_reducible apply PL.tg9); first | omega | (focus ((simp [*] at $h:ident); done)) | (focus (simp_all; done)) | (focus (simp_all; omega))) | ((with_reducible apply PL.tg4); (first | exact .inl rfl | exact .inr (.inl rfl) | exact .inr (.inr (.inl rfl)) | exact .inr (.inr (.inr (.inl rfl))) | exact .inr (.inr (.inr (.inr rfl))))) | ((with_reducible apply PL.tg5); (first | exact PL.isTy_t rfl | exact PL.isTy_f rfl)) | ((with_reducible apply PL.tg6); decide) | ((with_reducible apply PL.tg7); (first | exact cpow10 _ (by decide) (by decide) | exact cpow2' (by decide) _ (by decide) (by decide))) | ((with_reducible apply PL.tg8); decide) | (with_reducible apply PL.in_XS) | (with_reducible apply PL.in_W) | (with_reducible apply PL.in_WO) | (with_reducible apply PL.in_WA) | (with_reducible apply PL.in_WT) | (with_reducible apply PL.in_WM) | (with_reducible apply PL.in_WI) | (with_reducible apply PL.in_G) | (with_reducible apply PL.in_E) | (with_reducible apply PL.in_EO) | (with_reducible apply PL.in_EA) | (with_reducible apply PL.in_ET) | (with_reducible apply PL.in_EqE) | (with_reducible apply PL.in_EqT) | (with_reducible apply PL.in_EqP) | (with_reducible apply PL.in_EI) | (with_reducible apply PL.in_GC) | (with_reducible apply PL.in_Gs) | (with_reducible apply PL.in_GCs) | (with_reducible apply PL.in_EP) | (with_reducible apply PL.in_OpE) | (with_reducible apply PL.in_WhT) | (with_reducible apply PL.in_CE) | (with_reducible apply PL.in_CbE) | (with_reducible apply PL.in_CbO) | (with_reducible apply PL.in_OpO) | (with_reducible apply PL.in_Ifk) | (with_reducible apply PL.in_nx) | (with_reducible apply PL.in_bk) | (with_reducible apply PL.in_ct) | (with_reducible apply PL.in_rt) | (with_reducible apply PL.in_ro) | (with_reducible apply PL.in_k_op) | (with_reducible apply PL.in_k_set) | (with_reducible apply PL.in_k_cb) | (with_reducible apply PL.in_k_oo) | (with_reducible apply PL.in_k_bool) | (with_reducible apply PL.in_k_int) | (with_reducible apply PL.in_k_list) | (with_reducible apply PL.in_k_pair) | (with_reducible apply PL.in_k_trip) | (with_reducible apply PL.in_k_ss2) | (with_reducible apply PL.in_k_ss3) | (with_reducible apply PL.in_k_app) | (with_reducible apply PL.in_k_ext) | (with_reducible apply PL.in_k_tank) | (with_reducible apply PL.in_k_cat) | (with_reducible apply PL.in_k_sd))); (all_goals (try (first | (with_reducible apply PL.tg) | (with_reducible apply PL.goP))))))
theorem sc_is_int : FnScope ["value"] ["value"] (defScope s_is_int) := ⟨rfl, rfl, rfl, by decide +kernel, rfl, by decide +kernel, by decide +kernel⟩
theorem sc_is_int_from : FnScope ["least", "value"] ["least", "value"] (defScope s_is_int_from) := ⟨rfl, rfl, rfl, by decide +kernel, rfl, by decide +kernel, by decide +kernel⟩
theorem sc_is_int_between : FnScope ["least", "most", "value"] ["least", "most", "value"] (defScope s_is_int_between) := ⟨rfl, rfl, rfl, by decide +kernel, rfl, by decide +kernel, by decide +kernel⟩
theorem sc_is_parity : FnScope ["value"] ["value"] (defScope s_is_parity) := ⟨rfl, rfl, rfl, by decide +kernel, rfl, by decide +kernel, by decide +kernel⟩
theorem sc_check_shape : FnScope ["shape", "bits", "parity", "stops"] ["shape"] (defScope s_check_shape) := ⟨rfl, rfl, rfl, by decide +kernel, rfl, by decide +kernel, by decide +kernel⟩
theorem sc_check_int_from : FnScope ["least", "number"] ["least", "number"] (defScope s_check_int_from) := ⟨rfl, rfl, rfl, by decide +kernel, rfl, by decide +kernel, by decide +kernel⟩
theorem sc_check_length : FnScope ["length"] ["length"] (defScope s_check_length) := ⟨rfl, rfl, rfl, by decide +kernel, rfl, by decide +kernel, by decide +kernel⟩
theorem sc_size_of : FnScope ["shape", "bits", "parity", "stops", "parity_bits"] ["shape"] (defScope s_size_of) := ⟨rfl, rfl, rfl, by decide +kernel, rfl, by decide +kernel, by decide +kernel⟩
theorem sc_ceiling : FnScope ["top", "bottom"] ["top", "bottom"] (defScope s_ceiling) := ⟨rfl, rfl, rfl, by decide +kernel, rfl, by decide +kernel, by decide +kernel⟩
theorem sc_windows_of : FnScope ["shape", "size", "first_stop", "stops", "place"] ["shape"] (defScope s_windows_of) := ⟨rfl, rfl, rfl, by decide +kernel, rfl, by decide +kernel, by decide +kernel⟩
theorem sc_stretch : FnScope ["least", "greatest"] ["least", "greatest"] (defScope s_stretch) := ⟨rfl, rfl, rfl, by decide +kernel, rfl, by decide +kernel, by decide +kernel⟩
theorem sc_safe_grains : FnScope ["shape", "wait", "step", "length", "looks", "least", "greatest", "place", "first", "behind", "_", "grains"] ["shape", "wait", "step", "length"] (defScope s_safe_grains) := ⟨rfl, rfl, rfl, by decide +kernel, rfl, by decide +kernel, by decide +kernel⟩
theorem sc_safe_waits : FnScope ["shape", "grain", "step", "length"] ["shape", "grain", "step", "length"] (defScope s_safe_waits) := ⟨rfl, rfl, rfl, by decide +kernel, rfl, by decide +kernel, by decide +kernel⟩
theorem sc_safe_steps : FnScope ["shape", "grain", "wait", "length", "looks", "least", "greatest", "window", "place", "first", "_", "behind"] ["shape", "grain", "wait", "length"] (defScope s_safe_steps) := ⟨rfl, rfl, rfl, by decide +kernel, rfl, by decide +kernel, by decide +kernel⟩
theorem sc_waits_for_span : FnScope ["shape", "grain", "step", "low", "high", "looks", "least", "greatest", "place", "first", "behind", "_", "grains"] ["shape", "grain", "step", "low", "high"] (defScope s_waits_for_span) := ⟨rfl, rfl, rfl, by decide +kernel, rfl, by decide +kernel, by decide +kernel⟩
theorem sc_law_pool : FnScope ["_law_script", "_law_at", "_law_cell"] ["_law_script", "_law_at"] (defScope s_law_pool) := ⟨rfl, rfl, rfl, by decide +kernel, rfl, by decide +kernel, by decide +kernel⟩
theorem sc_law_draw : FnScope ["_law_pool_here", "_law_top", "_law_drawn", "_law_mixed"] ["_law_pool_here", "_law_top"] (defScope s_law_draw) := ⟨rfl, rfl, rfl, by decide +kernel, rfl, by decide +kernel, by decide +kernel⟩
theorem sc_law_form : FnScope ["_law_pool_here", "_law_top"] ["_law_pool_here", "_law_top"] (defScope s_law_form) := ⟨rfl, rfl, rfl, by decide +kernel, rfl, by decide +kernel, by decide +kernel⟩
theorem sc_law_size : FnScope ["_law_form_here"] ["_law_form_here"] (defScope s_law_size) := ⟨rfl, rfl, rfl, by decide +kernel, rfl, by decide +kernel, by decide +kernel⟩
theorem sc_law_clock : FnScope ["_law_pool_here", "_law_top", "_law_more", "_law_stride", "_law_pauses"] ["_law_pool_here", "_law_top", "_law_more"] (defScope s_law_clock) := ⟨rfl, rfl, rfl, by decide +kernel, rfl, by decide +kernel, by decide +kernel⟩
theorem sc_law_rows : FnScope ["_law_form_here", "_law_size_here", "_law_stop", "_law_rows_here", "_law_place"] ["_law_form_here"] (defScope s_law_rows) := ⟨rfl, rfl, rfl, by decide +kernel, rfl, by decide +kernel, by decide +kernel⟩
theorem sc_law_is_good : FnScope ["_law_form_here", "_law_clock_here", "_law_span_here", "_law_offset", "_law_place", "_law_first", "_law_last", "_law_look"] ["_law_form_here", "_law_clock_here", "_law_span_here", "_law_offset"] (defScope s_law_is_good) := ⟨rfl, rfl, rfl, by decide +kernel, rfl, by decide +kernel, by decide +kernel⟩
theorem sc_law_bounds : FnScope ["_law_form_here", "_law_clock_here", "_law_grid", "_law_pause", "_law_stride", "_law_least", "_law_greatest", "_law_place", "_law_first", "_law_last", "_law_look"] ["_law_form_here", "_law_clock_here"] (defScope s_law_bounds) := ⟨rfl, rfl, rfl, by decide +kernel, rfl, by decide +kernel, by decide +kernel⟩
theorem sc_law_is_fine : FnScope ["_law_form_here", "_law_clock_here", "_law_span_here", "_law_offset"] ["_law_form_here", "_law_clock_here", "_law_span_here"] (defScope s_law_is_fine) := ⟨rfl, rfl, rfl, by decide +kernel, rfl, by decide +kernel, by decide +kernel⟩
theorem sc_law_ends : FnScope ["_law_numbers"] ["_law_numbers"] (defScope s_law_ends) := ⟨rfl, rfl, rfl, by decide +kernel, rfl, by decide +kernel, by decide +kernel⟩
theorem sc_law_tried : FnScope ["_law_form_here", "_law_clock_here", "_law_span_here", "_law_grid", "_law_pause", "_law_stride", "_law_top", "_law_some", "_law_found", "_law_one"] ["_law_form_here", "_law_clock_here", "_law_span_here"] (defScope s_law_tried) := ⟨rfl, rfl, rfl, by decide +kernel, rfl, by decide +kernel, by decide +kernel⟩
theorem sc_law_between : FnScope ["_law_least", "_law_greatest"] ["_law_least", "_law_greatest"] (defScope s_law_between) := ⟨rfl, rfl, rfl, by decide +kernel, rfl, by decide +kernel, by decide +kernel⟩
theorem sc_law_reckoned : FnScope ["_law_form_here", "_law_clock_here", "_law_span_here", "_law_grid", "_law_pause", "_law_stride", "_law_grains", "_law_waits", "_law_steps", "_law_place", "_law_first", "_law_last", "_law_early", "_law_rows_here"] ["_law_form_here", "_law_clock_here", "_law_span_here"] (defScope s_law_reckoned) := ⟨rfl, rfl, rfl, by decide +kernel, rfl, by decide +kernel, by decide +kernel⟩
theorem sc_law_span : FnScope ["_law_pool_here", "_law_form_here", "_law_clock_here", "_law_least", "_law_greatest", "_law_spans"] ["_law_pool_here", "_law_form_here", "_law_clock_here"] (defScope s_law_span) := ⟨rfl, rfl, rfl, by decide +kernel, rfl, by decide +kernel, by decide +kernel⟩
theorem sc_law_right : FnScope ["_law_form_here", "_law_clock_here", "_law_span_here", "_law_due", "_law_grid", "_law_pause", "_law_stride", "_law_found"] ["_law_form_here", "_law_clock_here", "_law_span_here", "_law_due"] (defScope s_law_right) := ⟨rfl, rfl, rfl, by decide +kernel, rfl, by decide +kernel, by decide +kernel⟩
theorem sc_law : FnScope ["_law_script", "_law_at", "_law_pool_here", "_law_form_here", "_law_clock_here", "_law_span_here", "_law_due", "_law_turn", "_law_top", "_law_more"] ["_law_script"] (defScope s_law) := ⟨rfl, rfl, rfl, by decide +kernel, rfl, by decide +kernel, by decide +kernel⟩
structure Tx (K : PySem.W.Frag) (mg : Str → Option Value) : Prop where
  b_abs : mg "abs" = none
  b_bool : mg "bool" = none
  b_int : mg "int" = none
  b_isinstance : mg "isinstance" = none
  b_len : mg "len" = none
  b_max : mg "max" = none
  b_min : mg "min" = none
  b_range : mg "range" = none
  b_repr : mg "repr" = none
  b_str : mg "str" = none
  b_tuple : mg "tuple" = none
  t_PARITIES : mg "PARITIES" = some (.ref (He.ga K "PARITIES"))
  v_PARITIES : ∀ H, SqT K H (He.ga K "PARITIES") [.str "none", .str "even", .str "odd"]
  i_MOST_BITS : GInt mg "MOST_BITS" (9)
  i_MOST_STOPS : GInt mg "MOST_STOPS" (2)
  d_is_int : Df K mg "is_int" s_is_int
  d_is_int_from : Df K mg "is_int_from" s_is_int_from
  d_is_int_between : Df K mg "is_int_between" s_is_int_between
  d_is_parity : Df K mg "is_parity" s_is_parity
  d_check_shape : Df K mg "check_shape" s_check_shape
  d_check_int_from : Df K mg "check_int_from" s_check_int_from
  d_check_length : Df K mg "check_length" s_check_length
  d_size_of : Df K mg "size_of" s_size_of
  d_ceiling : Df K mg "ceiling" s_ceiling
  d_windows_of : Df K mg "windows_of" s_windows_of
  d_stretch : Df K mg "stretch" s_stretch
  d_safe_grains : Df K mg "safe_grains" s_safe_grains
  d_safe_waits : Df K mg "safe_waits" s_safe_waits
  d_safe_steps : Df K mg "safe_steps" s_safe_steps
  d_waits_for_span : Df K mg "_waits_for_span" s_waits_for_span
  d_law_pool : Df K mg "_law_pool" s_law_pool
  d_law_draw : Df K mg "_law_draw" s_law_draw
  d_law_form : Df K mg "_law_form" s_law_form
  d_law_size : Df K mg "_law_size" s_law_size
  d_law_clock : Df K mg "_law_clock" s_law_clock
  d_law_rows : Df K mg "_law_rows" s_law_rows
  d_law_is_good : Df K mg "_law_is_good" s_law_is_good
  d_law_bounds : Df K mg "_law_bounds" s_law_bounds
  d_law_is_fine : Df K mg "_law_is_fine" s_law_is_fine
  d_law_ends : Df K mg "_law_ends" s_law_ends
  d_law_tried : Df K mg "_law_tried" s_law_tried
  d_law_between : Df K mg "_law_between" s_law_between
  d_law_reckoned : Df K mg "_law_reckoned" s_law_reckoned
  d_law_span : Df K mg "_law_span" s_law_span
  d_law_right : Df K mg "_law_right" s_law_right
  d_law : Df K mg "law" s_law
section
variable {P : Program} {w : World} {K : PySem.W.Frag} {mg : Str → Option Value} {base : Heap}
theorem bod_is_int (T : Tx K mg) : Bod P w K mg base CX0 0 "is_int" s_is_int ["value"] (SpN K mIsInt) := by
  refine fun f cdv A outer s H vs Q E hr h => ⟨_, (pss_one (ps_ret (pe_p (pe_and (pe_callB call_isi (by rfl) T.b_isinstance (by decide +kernel) (pa_cons (pv 0) (pa_cons (pe_bltn (v := .ty "int") (by rfl) T.b_int (by decide +kernel) rfl) pa_nil))) (pe_one (pe_not (pe_callB call_isi (by rfl) T.b_isinstance (by decide +kernel) (pa_cons (pv 0) (pa_cons (pe_bltn (v := .ty "bool") (by rfl) T.b_bool (by decide +kernel) rfl) pa_nil))))))))), body_N ?_ h⟩
  rintro _ R ⟨x, rfl, q⟩
  refine x_ret (w_e (e_eq (e_andV (e_isi (e_var rfl) (.inl rfl)) fun h => (e_notV (e_isi (e_var rfl) (.inr (.inl rfl))))) ?_) q)
  cases x <;> simp [tyD]
theorem len_is_int {vs : List V} {H : Hp} {Q : VK} {X : XK} (h : SpN K mIsInt vs H Q X) : vs.length = 1 := h.len (n := 1) (by intro ds R hm; repeat (first | (obtain ⟨rfl, _⟩ := hm; rfl) | (obtain ⟨_, hm⟩ := hm)))
theorem cal_is_int (T : Tx K mg) : Cal P w K mg base CX0 1 "is_int" ["value"] (SpN K mIsInt) :=
  T.d_is_int.cal sc_is_int (fun vs H Q E h => len_is_int h) (fun _ _ _ _ _ _ us hl => match us, hl with | [_], _ => rfl) (bod_is_int T)
theorem bod_is_int_from (T : Tx K mg) : Bod P w K mg base CX0 1 "is_int_from" s_is_int_from ["least", "value"] (SpN K mFrom) := by
  have c_is_int := cal_is_int (P := P) (w := w) (base := base) T
  refine fun f cdv A outer s H vs Q E hr h => ⟨_, (pss_one (ps_ret (pe_p (pe_and (pe_cal c_is_int (hr.mono (by decide)) pass0 (pa_cons (pv 1) pa_nil)) (pe_one (pe_cmpR op_ge (pv 1) (pv 0) (nomark _))))))), body_N ?_ h⟩
  rintro _ R ⟨l, x, rfl, q⟩
  exact x_ret (w_e (e_eq (e_andV (e_call (ea_cons (e_var rfl) ea_nil) (ce ⟨_, rfl, rfl⟩)) fun h => (e_op (e_var rfl) (e_var rfl) oe_c)) rfl) q)
theorem len_is_int_from {vs : List V} {H : Hp} {Q : VK} {X : XK} (h : SpN K mFrom vs H Q X) : vs.length = 2 := h.len (n := 2) (by intro ds R hm; repeat (first | (obtain ⟨rfl, _⟩ := hm; rfl) | (obtain ⟨_, hm⟩ := hm)))
theorem cal_is_int_from (T : Tx K mg) : Cal P w K mg base CX0 2 "is_int_from" ["least", "value"] (SpN K mFrom) :=
  T.d_is_int_from.cal sc_is_int_from (fun vs H Q E h => len_is_int_from h) (fun _ _ _ _ _ _ us hl => match us, hl with | [_, _], _ => rfl) (bod_is_int_from T)
theorem bod_is_int_between (T : Tx K mg) : Bod P w K mg base CX0 1 "is_int_between" s_is_int_between ["least", "most", "value"] (SpN K mBetween) := by
  have c_is_int := cal_is_int (P := P) (w := w) (base := base) T
  refine fun f cdv A outer s H vs Q E hr h => ⟨_, (pss_one (ps_ret (pe_p (pe_and (pe_cal c_is_int (hr.mono (by decide)) pass0 (pa_cons (pv 2) pa_nil)) (pe_one (pe_chain op_le op_le (pv 0) (pv 2) (pv 1))))))), body_N ?_ h⟩
  rintro _ R ⟨l, m, x, rfl, q⟩
  exact x_ret (w_e (e_eq (e_andV (e_call (ea_cons (e_var rfl) ea_nil) (ce ⟨_, rfl, rfl⟩)) fun h => (e_chain (e_var rfl) (e_var rfl) (e_var rfl) oe_c oe_c)) rfl) q)
theorem len_is_int_between {vs : List V} {H : Hp} {Q : VK} {X : XK} (h : SpN K mBetween vs H Q X) : vs.length = 3 := h.len (n := 3) (by intro ds R hm; repeat (first | (obtain ⟨rfl, _⟩ := hm; rfl) | (obtain ⟨_, hm⟩ := hm)))
theorem cal_is_int_between (T : Tx K mg) : Cal P w K mg base CX0 2 "is_int_between" ["least", "most", "value"] (SpN K mBetween) :=
  T.d_is_int_between.cal sc_is_int_between (fun vs H Q E h => len_is_int_between h) (fun _ _ _ _ _ _ us hl => match us, hl with | [_, _, _], _ => rfl) (bod_is_int_between T)
theorem bod_is_parity (T : Tx K mg) : Bod P w K mg base CX0 0 "is_parity" s_is_parity ["value"] (SpN K mIsParity) := by
  refine fun f cdv A outer s H vs Q E hr h => ⟨_, (pss_one (ps_ret (pe_p (pe_and (pe_callB call_isi (by rfl) T.b_isinstance (by decide +kernel) (pa_cons (pv 0) (pa_cons (pe_bltn (v := .ty "str") (by rfl) T.b_str (by decide +kernel) rfl) pa_nil))) (pe_one (pe_cmpR op_in_seq (pv 0) (pe_glob (v := .ref (He.ga K "PARITIES")) rfl T.t_PARITIES rfl) (by rfl))))))), body_N ?_ h⟩
  rintro _ R ⟨p, rfl, q⟩
  refine x_ret (w_e (e_eq (e_andV (e_isi (e_var rfl) (.inr (.inr (.inl rfl)))) fun h => (e_op (e_var rfl) (e_con T.v_PARITIES fun _ => (.cons (.str _) (.cons (.str _) (.cons (.str _) .nil)))) (oe_inT rfl rfl))) ?_) q)
  have h : inV (flv (.str p.s)) (List.map flv [.str "none", .str "even", .str "odd"]) = true := by cases p <;> decide +kernel
  exact congrArg PyData.bool h
theorem len_is_parity {vs : List V} {H : Hp} {Q : VK} {X : XK} (h : SpN K mIsParity vs H Q X) : vs.length = 1 := h.len (n := 1) (by intro ds R hm; repeat (first | (obtain ⟨rfl, _⟩ := hm; rfl) | (obtain ⟨_, hm⟩ := hm)))
theorem cal_is_parity (T : Tx K mg) : Cal P w K mg base CX0 1 "is_parity" ["value"] (SpN K mIsParity) :=
  T.d_is_parity.cal sc_is_parity (fun vs H Q E h => len_is_parity h) (fun _ _ _ _ _ _ us hl => match us, hl with | [_], _ => rfl) (bod_is_parity T)
theorem bod_check_shape (T : Tx K mg) : Bod P w K mg base CX0 2 "check_shape" s_check_shape ["shape", "bits", "parity", "stops"] (SpN K mCheckShape) := by
  have c_is_int_between := cal_is_int_between (P := P) (w := w) (base := base) T
  have c_is_parity := cal_is_parity (P := P) (w := w) (base := base) T
  refine fun f cdv A outer s H vs Q E hr h => ⟨_, (pss_cons (ps_if (pt_p (PW.pt (pw_or (pt_not (pt_val (pe_callB call_isi (by rfl) T.b_isinstance (by decide +kernel) (pa_cons (pv 0) (pa_cons (pe_bltn (v := .ty "tuple") (by rfl) T.b_tuple (by decide +kernel) rfl) pa_nil))))) (pw_or1 (pt_cmpR op_ne (pe_callB call_len_seq (by rfl) T.b_len (by decide +kernel) (pa_cons (pv 0) pa_nil)) pe_int (nomark _)))))) (pss_one ps_never) pss_nil)
      (pss_cons (ps_asg (pe_p (pv 0)) (pg_tup rfl (pgs_cons (pg_name (i := 1) sc_check_shape.nd rfl (Or.inl rfl)) (pgs_cons (pg_name (i := 2) sc_check_shape.nd rfl (Or.inl rfl)) (pgs_cons (pg_name (i := 3) sc_check_shape.nd rfl (Or.inl rfl)) pgs_nil)))))
      (pss_cons (ps_if (pt_p (pt_not (pt_val (pe_cal c_is_int_between (hr.mono (by decide)) pass0 (pa_cons pe_int (pa_cons (pe_gi T.i_MOST_BITS) (pa_cons (pv 1) pa_nil))))))) (pss_one ps_never) pss_nil)
      (pss_cons (ps_if (pt_p (pt_not (pt_val (pe_cal c_is_parity (hr.mono (by decide)) pass0 (pa_cons (pv 2) pa_nil))))) (pss_one ps_never) pss_nil)
      (pss_one (ps_if (pt_p (pt_not (pt_val (pe_cal c_is_int_between (hr.mono (by decide)) pass0 (pa_cons pe_int (pa_cons (pe_gi T.i_MOST_STOPS) (pa_cons (pv 3) pa_nil))))))) (pss_one ps_never) pss_nil)))))), body_N ?_ h⟩
  rintro _ R ⟨b, p, s, rfl, ok, q⟩
  refine x_seq (x_ifF (et_eq (et_or (et_not (et_B (e_isi (e_var rfl) (.inr (.inr (.inr (.inr rfl))))))) fun h => (et_test (e_op (e_cb (ea_cons (e_var rfl) ea_nil) cb_lenT) e_int oe_neI))) rfl) (x_nil ?_))
  refine x_seq (x_unp (w_e (e_var rfl) (g_tup (gs_cons (g_name (gs_cons (g_name (gs_cons (g_name (gs_nil ?_))))))))))
  refine x_seq (x_ifF (et_eq (et_not (et_B (e_call (ea_cons e_int (ea_cons e_int (ea_cons (e_var rfl) ea_nil))) (ce ⟨_, _, _, rfl, rfl⟩)))) ?_) (x_nil ?_))
  · obtain ⟨h1, h2, h3, h4⟩ := ok
    simp; omega
  refine x_seq (x_ifF (et_eq (et_not (et_B (e_call (ea_cons (e_var rfl) ea_nil) (ce ⟨p, rfl, rfl⟩)))) rfl) (x_nil ?_))
  refine x_ifF (et_eq (et_not (et_B (e_call (ea_cons e_int (ea_cons e_int (ea_cons (e_var rfl) ea_nil))) (ce ⟨_, _, _, rfl, rfl⟩)))) ?_) (x_nil q)
  obtain ⟨h1, h2, h3, h4⟩ := ok
  simp; omega
theorem len_check_shape {vs : List V} {H : Hp} {Q : VK} {X : XK} (h : SpN K mCheckShape vs H Q X) : vs.length = 1 := h.len (n := 1) (by intro ds R hm; repeat (first | (obtain ⟨rfl, _⟩ := hm; rfl) | (obtain ⟨_, hm⟩ := hm)))
theorem cal_check_shape (T : Tx K mg) : Cal P w K mg base CX0 3 "check_shape" ["shape"] (SpN K mCheckShape) :=
  T.d_check_shape.cal sc_check_shape (fun vs H Q E h => len_check_shape h) (fun _ _ _ _ _ _ us hl => match us, hl with | [_], _ => rfl) (bod_check_shape T)
theorem bod_check_length (T : Tx K mg) : Bod P w K mg base CX0 2 "check_length" s_check_length ["length"] (SpN K mCheckLength) := by
  have c_is_int_from := cal_is_int_from (P := P) (w := w) (base := base) T
  refine fun f cdv A outer s H vs Q E hr h => ⟨_, (pss_one (ps_if (pt_p (pt_not (pt_val (pe_cal c_is_int_from (hr.mono (by decide)) pass0 (pa_cons pe_int (pa_cons (pv 0) pa_nil)))))) (pss_one ps_never) pss_nil)), body_N ?_ h⟩
  rintro _ R ⟨x, rfl, h, q⟩
  exact x_ifF (et_eq (et_not (et_B (e_call (ea_cons e_int (ea_cons (e_var rfl) ea_nil)) (ce ⟨_, _, rfl, rfl⟩)))) (by simp; omega)) (x_nil q)
theorem len_check_length {vs : List V} {H : Hp} {Q : VK} {X : XK} (h : SpN K mCheckLength vs H Q X) : vs.length = 1 := h.len (n := 1) (by intro ds R hm; repeat (first | (obtain ⟨rfl, _⟩ := hm; rfl) | (obtain ⟨_, hm⟩ := hm)))
theorem cal_check_length (T : Tx K mg) : Cal P w K mg base CX0 3 "check_length" ["length"] (SpN K mCheckLength) :=
  T.d_check_length.cal sc_check_length (fun vs H Q E h => len_check_length h) (fun _ _ _ _ _ _ us hl => match us, hl with | [_], _ => rfl) (bod_check_length T)
theorem bod_size_of (T : Tx K mg) : Bod P w K mg base CX0 3 "size_of" s_size_of ["shape", "bits", "parity", "stops", "parity_bits"] (SpN K mSize) := by
  have c_check_shape := cal_check_shape (P := P) (w := w) (base := base) T
  refine fun f cdv A outer s H vs Q E hr h => ⟨_, (pss_cons (ps_expr (pe_p (pe_cal c_check_shape (hr.mono (by decide)) pass0 (pa_cons (pv 0) pa_nil))))
      (pss_cons (ps_asg (pe_p (pv 0)) (pg_tup rfl (pgs_cons (pg_name (i := 1) sc_size_of.nd rfl (Or.inl rfl)) (pgs_cons (pg_name (i := 2) sc_size_of.nd rfl (Or.inl rfl)) (pgs_cons (pg_name (i := 3) sc_size_of.nd rfl (Or.inl rfl)) pgs_nil)))))
      (pss_cons (ps_set (i := 4) sc_size_of.nd rfl (Or.inl rfl) (pe_p (pe_ifI (pe_ifExp (pt_cmpR op_eq (pv 2) pe_str (nomark _)) pe_int pe_int))))
      (pss_one (ps_ret (pe_p (pe_op op_add (pe_op op_add (pe_op op_add pe_int (pv 1)) (pv 4)) (pv 3)))))))), body_N ?_ h⟩
  rintro _ R ⟨b, p, s, rfl, ok, q⟩
  refine x_seq (x_drop (w_e (e_call (ea_cons (e_var rfl) ea_nil) (ce ⟨_, _, _, rfl, ok, rfl⟩)) ?_))
  refine x_seq (x_unp (w_e (e_var rfl) (g_tup (gs_cons (g_name (gs_cons (g_name (gs_cons (g_name (gs_nil ?_))))))))))
  refine x_seq (x_asg (w_e (e_ifI (et_test (e_op (e_var rfl) e_str oe_eqS)) (fun h => e_int) (fun h => e_int)) ?_))
  refine x_ret (w_e (e_eq (e_op (e_op (e_op e_int (e_var rfl) oe_i) (e_var rfl) oe_i) (e_var rfl) oe_i) ?_) q)
  congr 1
  unfold sz
  cases p with
  | no => rw [if_pos (by decide +kernel)]; simp [plen]
  | ev => rw [if_neg (by decide +kernel)]; simp [plen]
  | od => rw [if_neg (by decide +kernel)]; simp [plen]
theorem len_size_of {vs : List V} {H : Hp} {Q : VK} {X : XK} (h : SpN K mSize vs H Q X) : vs.length = 1 := h.len (n := 1) (by intro ds R hm; repeat (first | (obtain ⟨rfl, _⟩ := hm; rfl) | (obtain ⟨_, hm⟩ := hm)))
theorem cal_size_of (T : Tx K mg) : Cal P w K mg base CX0 4 "size_of" ["shape"] (SpN K mSize) :=
  T.d_size_of.cal sc_size_of (fun vs H Q E h => len_size_of h) (fun _ _ _ _ _ _ us hl => match us, hl with | [_], _ => rfl) (bod_size_of T)
theorem bod_check_int_from (T : Tx K mg) : Bod P w K mg base CX0 2 "check_int_from" s_check_int_from ["least", "number"] (SpN K mCheckFrom) := by
  have c_is_int_from := cal_is_int_from (P := P) (w := w) (base := base) T
  refine fun f cdv A outer s H vs Q E hr h => ⟨_, (pss_one (ps_if (pt_p (pt_not (pt_val (pe_cal c_is_int_from (hr.mono (by decide)) pass0 (pa_cons (pv 0) (pa_cons (pv 1) pa_nil)))))) (pss_one ps_never) pss_nil)), body_N ?_ h⟩
  rintro _ R ⟨l, x, rfl, lx, q⟩
  array_get_dec
  exact q
theorem len_check_int_from {vs : List V} {H : Hp} {Q : VK} {X : XK} (h : SpN K mCheckFrom vs H Q X) : vs.length = 2 := h.len (n := 2) (by intro ds R hm; repeat (first | (obtain ⟨rfl, _⟩ := hm; rfl) | (obtain ⟨_, hm⟩ := hm)))
theorem cal_check_int_from (T : Tx K mg) : Cal P w K mg base CX0 3 "check_int_from" ["least", "number"] (SpN K mCheckFrom) :=
  T.d_check_int_from.cal sc_check_int_from (fun vs H Q E h => len_check_int_from h) (fun _ _ _ _ _ _ us hl => match us, hl with | [_, _], _ => rfl) (bod_check_int_from T)
end
open PySem PySem.Spec PyProof.Rows L2 Evl SB PL PW
section
variable {P : Program} {w : World} {K : PySem.W.Frag} {mg : Str → Option Value} {base : Heap}
theorem bod_stretch (T : Tx K mg) : Bod P w K mg base CX0 0 "stretch" s_stretch ["least", "greatest"] (SpN K mStretch) := by
  refine fun f cdv A outer s H vs Q E hr h => ⟨_, (pss_one (ps_ret (pe_p (pe_ifExp (pt_cmpR op_le (pv 0) (pv 1) (nomark _)) (pe_tup (pa_cons (pv 0) (pa_cons (pv 1) pa_nil))) pe_non)))), body_N ?_ h⟩
  rintro _ R ⟨lo, hi, rfl, q⟩
  array_get_dec
  have : (if decide (lo ≤ hi) = true then PyData.tuple [PyData.int lo, PyData.int hi] else PyData.none) = optP lo hi := by unfold optP; simp
  rw [this]
  exact q
theorem len_stretch {vs : List V} {H : Hp} {Q : VK} {X : XK} (h : SpN K mStretch vs H Q X) : vs.length = 2 := h.len (n := 2) (by intro ds R hm; repeat (first | (obtain ⟨rfl, _⟩ := hm; rfl) | (obtain ⟨_, hm⟩ := hm)))
theorem cal_stretch (T : Tx K mg) : Cal P w K mg base CX0 1 "stretch" ["least", "greatest"] (SpN K mStretch) :=
  T.d_stretch.cal sc_stretch (fun vs H Q E h => len_stretch h) (fun _ _ _ _ _ _ us hl => match us, hl with | [_, _], _ => rfl) (bod_stretch T)
theorem bod_ceiling (T : Tx K mg) : Bod P w K mg base CX0 0 "ceiling" s_ceiling ["top", "bottom"] (SpN K mCeil) := by
  refine fun f cdv A outer s H vs Q E hr h => ⟨_, (pss_one (ps_ret (pe_p (pe_un un_neg (pe_op op_fdivW (pe_un un_neg (pv 0)) (pv 1)))))), body_N ?_ h⟩
  rintro _ R ⟨x, l, rfl, h1, h2, q⟩
  array_get_dec
  exact q
theorem len_ceiling {vs : List V} {H : Hp} {Q : VK} {X : XK} (h : SpN K mCeil vs H Q X) : vs.length = 2 := h.len (n := 2) (by intro ds R hm; repeat (first | (obtain ⟨rfl, _⟩ := hm; rfl) | (obtain ⟨_, hm⟩ := hm)))
theorem cal_ceiling (T : Tx K mg) : Cal P w K mg base CX0 1 "ceiling" ["top", "bottom"] (SpN K mCeil) :=
  T.d_ceiling.cal sc_ceiling (fun vs H Q E h => len_ceiling h) (fun _ _ _ _ _ _ us hl => match us, hl with | [_, _], _ => rfl) (bod_ceiling T)
theorem bod_windows_of (T : Tx K mg) : Bod P w K mg base CX0 4 "windows_of" s_windows_of ["shape", "size", "first_stop", "stops", "place"] (SpO K mWindows) := by
  have c_size_of := cal_size_of (P := P) (w := w) (base := base) T
  refine fun f cdv A outer s H vs Q E hr h => ⟨_, (pss_cons (ps_set (i := 1) sc_windows_of.nd rfl (Or.inr rfl) (pe_p (pe_cal c_size_of (hr.mono (by decide)) pass0 (pa_cons (pv 0) pa_nil))))
      (pss_cons (ps_set (i := 2) sc_windows_of.nd rfl (Or.inr rfl) (pe_p (pe_op op_sub (pv 1) (pe_ix ix_tup (pv 0) pe_int (fun _ _ => rfl)))))
      (pss_cons (ps_setLc (i := 3) rfl sc_windows_of.nd rfl rfl (sw_true rfl rfl rfl (by decide +kernel)) (pi_range2 rfl T.b_range (pa_cons (pv 2) (pa_cons (pv 1) pa_nil))) (blkOk_by (own := [("place", 4)]) (N := ["shape", "size", "first_stop", "stops", "place"]) (sc := defScope s_windows_of) (by decide +kernel)) (fun _ _ _ _ _ => (pg_name (i := 4) sc_windows_of.nd rfl (Or.inl rfl))) (fun _ _ _ _ _ => pts_nil) (fun _ _ _ _ _ => (pe_tup (pa_cons (pv 4) (pa_cons (pv 2) (pa_cons (pv 1) pa_nil))))))
      (pss_one (ps_retO (ps_ret (pe_p (pe_op op_cat (pe_lc rfl sc_windows_of.nd (pi_range1 rfl T.b_range (pa_cons (pv 2) pa_nil)) (blkOk_by (own := [("place", 4)]) (N := ["shape", "size", "first_stop", "stops", "place"]) (sc := defScope s_windows_of) (by decide +kernel)) (fun _ _ _ _ _ => (pg_name (i := 4) sc_windows_of.nd rfl (Or.inl rfl))) (fun _ _ _ _ _ => pts_nil) (fun _ _ _ _ _ => (pe_tup (pa_cons (pv 4) (pa_cons (pv 4) (pa_cons (pe_op op_add (pv 4) pe_int) pa_nil)))))) (pv 3))))))))), body_O ?_ h⟩
  rintro _ R ⟨b, p, s, rfl, ok, q⟩
  have z := sz_bd' (p := p) ok
  generalize hn : sz b p s = n at z q
  array_get_dec
  · rw [hn]
    apply lcM (l := List.range s) (enc := fun i : Nat => .int ((n : Int) - s + i)) (fun i : Nat => t3D ((n : Int) - s + i, (n : Int) - s, n))
    array_get_dec
    · intro i hi
      array_get_dec
    · unfold rgD
      rw [show ((n : Int) - ((n : Int) - s)).toNat = s by omega]
      rfl
  rw [hn]
  array_get_dec
  · apply lcM (l := List.range (n - s)) (enc := fun i : Nat => .int (i : Int)) (fun i : Nat => t3D ((i : Int), (i : Int), (i : Int) + 1))
    array_get_dec
    · intro i hi
      array_get_dec
    · unfold rg0
      rw [show ((n : Int) - s).toNat = n - s by omega]
      rfl
  array_get_dec
  unfold winT at q
  rw [List.map_append, List.map_map, List.map_map] at q
  exact q
theorem len_windows_of {vs : List V} {H : Hp} {Q : VK} {X : XK} (h : SpO K mWindows vs H Q X) : vs.length = 1 := h.len (n := 1) (by intro ds R hm; repeat (first | (obtain ⟨rfl, _⟩ := hm; rfl) | (obtain ⟨_, hm⟩ := hm)))
theorem cal_windows_of (T : Tx K mg) : Cal P w K mg base CX0 5 "windows_of" ["shape"] (SpO K mWindows) :=
  T.d_windows_of.cal sc_windows_of (fun vs H Q E h => len_windows_of h) (fun _ _ _ _ _ _ us hl => match us, hl with | [_], _ => rfl) (bod_windows_of T)
def mWaitsS : Mn := fun ds R => ∃ b p s, ∃ g st x y : Int, ds = [shD b p s, .int g, .int st, .int x, .int y] ∧ ShOk b s ∧ 1 ≤ g ∧ g < 2 ^ 100 ∧ 1 ≤ st ∧ st < 2 ^ 100 ∧ -(2 ^ 230) < x ∧ x < 2 ^ 230 ∧ -(2 ^ 230) < y ∧ y < 2 ^ 230 ∧ R (optP (Lw (sz b p s) s g st y) (Uw (sz b p s) s g st x))
theorem bod_waits_for_span (T : Tx K mg) : Bod P w K mg base CX0 5 "_waits_for_span" s_waits_for_span ["shape", "grain", "step", "low", "high", "looks", "least", "greatest", "place", "first", "behind", "_", "grains"] (SpN K mWaitsS) := by
  have c_stretch := cal_stretch (P := P) (w := w) (base := base) T
  have c_windows_of := cal_windows_of (P := P) (w := w) (base := base) T
  have c_ceiling := cal_ceiling (P := P) (w := w) (base := base) T
  refine fun f cdv A outer s H vs Q E hr h => ⟨_, (pss_cons (ps_setLc (i := 5) rfl sc_waits_for_span.nd rfl rfl (sw_true rfl rfl rfl (by decide +kernel)) (pi_list (pe_cal c_windows_of (hr.mono (by decide)) pass0 (pa_cons (pv 0) pa_nil))) (blkOk_by (own := [("place", 8), ("first", 9), ("behind", 10)]) (N := ["shape", "grain", "step", "low", "high", "looks", "least", "greatest", "place", "first", "behind", "_", "grains"]) (sc := defScope s_waits_for_span) (by decide +kernel)) (fun _ _ _ _ _ => (pg_tupK (K0 := K) (n0 := 3) rfl rfl rfl (pgs_cons (pg_name (i := 8) sc_waits_for_span.nd rfl (Or.inl rfl)) (pgs_cons (pg_name (i := 9) sc_waits_for_span.nd rfl (Or.inl rfl)) (pgs_cons (pg_name (i := 10) sc_waits_for_span.nd rfl (Or.inl rfl)) pgs_nil))))) (fun _ _ _ _ _ => pts_nil) (fun _ _ _ _ _ => (pe_tup (pa_cons (pv 9) (pa_cons (pv 10) (pa_cons (pe_op op_mulW (pv 2) (pv 8)) pa_nil))))))
      (pss_cons (ps_set (i := 6) sc_waits_for_span.nd rfl (Or.inl rfl) (pe_p (pe_callB (cr_max rfl) (by rfl) T.b_max (by decide +kernel) (pa_cons (pe_lc rfl sc_waits_for_span.nd (pi_list (pv 5)) (blkOk_by (own := [("first", 9), ("_", 11), ("grains", 12)]) (N := ["shape", "grain", "step", "low", "high", "looks", "least", "greatest", "place", "first", "behind", "_", "grains"]) (sc := defScope s_waits_for_span) (by decide +kernel)) (fun _ _ _ _ _ => (pg_tupK (K0 := K) (n0 := 3) rfl rfl rfl (pgs_cons (pg_name (i := 9) sc_waits_for_span.nd rfl (Or.inl rfl)) (pgs_cons (pg_name (i := 11) sc_waits_for_span.nd rfl (Or.inl rfl)) (pgs_cons (pg_name (i := 12) sc_waits_for_span.nd rfl (Or.inl rfl)) pgs_nil))))) (fun _ _ _ _ _ => pts_nil) (fun _ _ _ _ _ => (pe_op op_sub (pe_cal c_ceiling (hr.mono (by decide)) pass0 (pa_cons (pe_op op_mulW (pv 9) (pv 4)) (pa_cons (pv 1) pa_nil))) (pv 12)))) pa_nil))))
      (pss_cons (ps_set (i := 7) sc_waits_for_span.nd rfl (Or.inl rfl) (pe_p (pe_callB (cr_min rfl) (by rfl) T.b_min (by decide +kernel) (pa_cons (pe_lc rfl sc_waits_for_span.nd (pi_list (pv 5)) (blkOk_by (own := [("_", 11), ("behind", 10), ("grains", 12)]) (N := ["shape", "grain", "step", "low", "high", "looks", "least", "greatest", "place", "first", "behind", "_", "grains"]) (sc := defScope s_waits_for_span) (by decide +kernel)) (fun _ _ _ _ _ => (pg_tupK (K0 := K) (n0 := 3) rfl rfl rfl (pgs_cons (pg_name (i := 11) sc_waits_for_span.nd rfl (Or.inl rfl)) (pgs_cons (pg_name (i := 10) sc_waits_for_span.nd rfl (Or.inl rfl)) (pgs_cons (pg_name (i := 12) sc_waits_for_span.nd rfl (Or.inl rfl)) pgs_nil))))) (fun _ _ _ _ _ => pts_nil) (fun _ _ _ _ _ => (pe_op op_sub (pe_op op_sub (pe_op op_fdivW (pe_op op_mulW (pv 10) (pv 3)) (pv 1)) pe_int) (pv 12)))) pa_nil))))
      (pss_one (ps_ret (pe_p (pe_cal c_stretch (hr.mono (by decide)) pass0 (pa_cons (pv 6) (pa_cons (pv 7) pa_nil))))))))), body_N ?_ h⟩
  rintro _ R ⟨b, p, s, g, st, x, y, rfl, ok, g1, g2, s1, s2, x1, x2, y1, y2, q⟩
  have z := sz_bd' (p := p) ok
  have mlo := Lw_mx (g := g) (st := st) z.1 y
  have mhi := Uw_mi (g := g) (st := st) z.1 x
  unfold waL at mlo
  unfold waH at mhi
  have hw := winT_len (n := sz b p s) (s := s) (by omega)
  have hw : (winT (sz b p s) s).length ≤ 100000 := by omega
  array_get_dec
  · apply lcM (l := winT (sz b p s) s) (enc := t3D) (fun r => t3D (r.2.1, r.2.2, st * r.1))
    array_get_dec
    intro r hr
    obtain ⟨k, f, l, rfl, k1, k2⟩ := winT_mem z.1 hr
    array_get_dec
  array_get_dec
  · apply lcM (l := winT (sz b p s) s) (enc := fun r => t3D (r.2.1, r.2.2, st * r.1)) (fun r => .int (ceilI (r.2.1 * y) g - st * r.1))
    array_get_dec
    intro r hr
    obtain ⟨k, f, l, rfl, k1, k2⟩ := winT_mem z.1 hr
    array_get_dec
  array_get_dec
  · apply lcM (l := winT (sz b p s) s) (enc := fun r => t3D (r.2.1, r.2.2, st * r.1)) (fun r => .int (r.2.2 * x / g - 1 - st * r.1))
    array_get_dec
    intro r hr
    obtain ⟨k, f, l, rfl, k1, k2⟩ := winT_mem z.1 hr
    array_get_dec
  array_get_dec
  exact q
theorem len_waits_for_span {vs : List V} {H : Hp} {Q : VK} {X : XK} (h : SpN K mWaitsS vs H Q X) : vs.length = 5 := h.len (n := 5) (by intro ds R hm; repeat (first | (obtain ⟨rfl, _⟩ := hm; rfl) | (obtain ⟨_, hm⟩ := hm)))
theorem cal_waits_for_span (T : Tx K mg) : Cal P w K mg base CX0 6 "_waits_for_span" ["shape", "grain", "step", "low", "high"] (SpN K mWaitsS) :=
  T.d_waits_for_span.cal sc_waits_for_span (fun vs H Q E h => len_waits_for_span h) (fun _ _ _ _ _ _ us hl => match us, hl with | [_, _, _, _, _], _ => rfl) (bod_waits_for_span T)
def mSafeW : Mn := fun ds R => ∃ b p s, ∃ g st x : Int, ds = [shD b p s, .int g, .int st, .int x] ∧ ShOk b s ∧ 1 ≤ g ∧ g < 2 ^ 100 ∧ 1 ≤ st ∧ st < 2 ^ 100 ∧ 1 ≤ x ∧ x < 2 ^ 230 ∧ R (optP (Lw (sz b p s) s g st x) (Uw (sz b p s) s g st x))
theorem bod_safe_waits (T : Tx K mg) : Bod P w K mg base CX0 6 "safe_waits" s_safe_waits ["shape", "grain", "step", "length"] (SpN K mSafeW) := by
  have c_check_shape := cal_check_shape (P := P) (w := w) (base := base) T
  have c_check_int_from := cal_check_int_from (P := P) (w := w) (base := base) T
  have c_check_length := cal_check_length (P := P) (w := w) (base := base) T
  have c_waits_for_span := cal_waits_for_span (P := P) (w := w) (base := base) T
  refine fun f cdv A outer s H vs Q E hr h => ⟨_, (pss_cons (ps_expr (pe_p (pe_cal c_check_shape (hr.mono (by decide)) pass0 (pa_cons (pv 0) pa_nil))))
      (pss_cons (ps_expr (pe_p (pe_cal c_check_int_from (hr.mono (by decide)) pass0 (pa_cons pe_int (pa_cons (pv 1) pa_nil)))))
      (pss_cons (ps_expr (pe_p (pe_cal c_check_int_from (hr.mono (by decide)) pass0 (pa_cons pe_int (pa_cons (pv 2) pa_nil)))))
      (pss_cons (ps_expr (pe_p (pe_cal c_check_length (hr.mono (by decide)) pass0 (pa_cons (pv 3) pa_nil))))
      (pss_one (ps_ret (pe_p (pe_cal c_waits_for_span (hr.mono (by decide)) pass0 (pa_cons (pv 0) (pa_cons (pv 1) (pa_cons (pv 2) (pa_cons (pv 3) (pa_cons (pv 3) pa_nil))))))))))))), body_N ?_ h⟩
  rintro _ R ⟨b, p, s, g, st, x, rfl, ok, g1, g2, s1, s2, x1, x2, q⟩
  array_get_dec
  exact q
theorem len_safe_waits {vs : List V} {H : Hp} {Q : VK} {X : XK} (h : SpN K mSafeW vs H Q X) : vs.length = 4 := h.len (n := 4) (by intro ds R hm; repeat (first | (obtain ⟨rfl, _⟩ := hm; rfl) | (obtain ⟨_, hm⟩ := hm)))
theorem cal_safe_waits (T : Tx K mg) : Cal P w K mg base CX0 7 "safe_waits" ["shape", "grain", "step", "length"] (SpN K mSafeW) :=
  T.d_safe_waits.cal sc_safe_waits (fun vs H Q E h => len_safe_waits h) (fun _ _ _ _ _ _ us hl => match us, hl with | [_, _, _, _], _ => rfl) (bod_safe_waits T)
theorem cal_safe_waits_length_step_grain_shape (T : Tx K mg) : CalK P w K mg base CX0 7 "safe_waits" ["length", "step", "grain", "shape"] ["shape", "grain", "step", "length"] (gPm [3, 2, 1, 0]) (SpN K mSafeW) := by
  refine T.d_safe_waits.calK (gPm [3, 2, 1, 0]) (fun kV doc pm an cdv ct us ws hl => ?_) (rel_gPm _) sc_safe_waits (fun vs H Q E h => len_safe_waits h) (bod_safe_waits T)
  exact match us, ws, hl with | [], [_, _, _, _], _ => rfl
def mSafeG : Mn := fun ds R => ∃ b p s, ∃ w st x lo hi : Int, ds = [shD b p s, .int w, .int st, .int x] ∧ ShOk b s ∧ 0 ≤ w ∧ w < 2 ^ 100 ∧ 1 ≤ st ∧ st < 2 ^ 100 ∧ 1 ≤ x ∧ x < 2 ^ 230 ∧ Mx (((winT (sz b p s) s).filter fun r => decide (0 < r.2.1)).map fun r => ceilI (r.2.1 * x) (w + st * r.1)) lo ∧ Mi ((winT (sz b p s) s).map fun r => r.2.2 * x / (w + st * r.1 + 1)) hi ∧ R (optP lo hi)
theorem bod_safe_grains (T : Tx K mg) : Bod P w K mg base CX0 5 "safe_grains" s_safe_grains ["shape", "wait", "step", "length", "looks", "least", "greatest", "place", "first", "behind", "_", "grains"] (SpN K mSafeG) := by
  have c_check_shape := cal_check_shape (P := P) (w := w) (base := base) T
  have c_check_int_from := cal_check_int_from (P := P) (w := w) (base := base) T
  have c_check_length := cal_check_length (P := P) (w := w) (base := base) T
  have c_stretch := cal_stretch (P := P) (w := w) (base := base) T
  have c_windows_of := cal_windows_of (P := P) (w := w) (base := base) T
  have c_ceiling := cal_ceiling (P := P) (w := w) (base := base) T
  refine fun f cdv A outer s H vs Q E hr h => ⟨_, (pss_cons (ps_expr (pe_p (pe_cal c_check_shape (hr.mono (by decide)) pass0 (pa_cons (pv 0) pa_nil))))
      (pss_cons (ps_expr (pe_p (pe_cal c_check_int_from (hr.mono (by decide)) pass0 (pa_cons pe_int (pa_cons (pv 1) pa_nil)))))
      (pss_cons (ps_expr (pe_p (pe_cal c_check_int_from (hr.mono (by decide)) pass0 (pa_cons pe_int (pa_cons (pv 2) pa_nil)))))
      (pss_cons (ps_expr (pe_p (pe_cal c_check_length (hr.mono (by decide)) pass0 (pa_cons (pv 3) pa_nil))))
      (pss_cons (ps_setLc (i := 4) rfl sc_safe_grains.nd rfl rfl (sw_true rfl rfl rfl (by decide +kernel)) (pi_list (pe_cal c_windows_of (hr.mono (by decide)) pass0 (pa_cons (pv 0) pa_nil))) (blkOk_by (own := [("place", 7), ("first", 8), ("behind", 9)]) (N := ["shape", "wait", "step", "length", "looks", "least", "greatest", "place", "first", "behind", "_", "grains"]) (sc := defScope s_safe_grains) (by decide +kernel)) (fun _ _ _ _ _ => (pg_tupK (K0 := K) (n0 := 3) rfl rfl rfl (pgs_cons (pg_name (i := 7) sc_safe_grains.nd rfl (Or.inl rfl)) (pgs_cons (pg_name (i := 8) sc_safe_grains.nd rfl (Or.inl rfl)) (pgs_cons (pg_name (i := 9) sc_safe_grains.nd rfl (Or.inl rfl)) pgs_nil))))) (fun _ _ _ _ _ => pts_nil) (fun _ _ _ _ _ => (pe_tup (pa_cons (pv 8) (pa_cons (pv 9) (pa_cons (pe_op op_add (pv 1) (pe_op op_mulW (pv 2) (pv 7))) pa_nil))))))
      (pss_cons (ps_set (i := 5) sc_safe_grains.nd rfl (Or.inl rfl) (pe_p (pe_callB (cr_max rfl) (by rfl) T.b_max (by decide +kernel) (pa_cons (pe_lc rfl sc_safe_grains.nd (pi_list (pv 4)) (blkOk_by (own := [("first", 8), ("_", 10), ("grains", 11)]) (N := ["shape", "wait", "step", "length", "looks", "least", "greatest", "place", "first", "behind", "_", "grains"]) (sc := defScope s_safe_grains) (by decide +kernel)) (fun _ _ _ _ _ => (pg_tupK (K0 := K) (n0 := 3) rfl rfl rfl (pgs_cons (pg_name (i := 8) sc_safe_grains.nd rfl (Or.inl rfl)) (pgs_cons (pg_name (i := 10) sc_safe_grains.nd rfl (Or.inl rfl)) (pgs_cons (pg_name (i := 11) sc_safe_grains.nd rfl (Or.inl rfl)) pgs_nil))))) (fun _ _ _ _ _ => (pts_one (pt_cmpR op_gt (pv 8) pe_int (nomark _)))) (fun _ _ _ _ _ => (pe_cal c_ceiling (hr.mono (by decide)) pass0 (pa_cons (pe_op op_mulW (pv 8) (pv 3)) (pa_cons (pv 11) pa_nil))))) pa_nil))))
      (pss_cons (ps_set (i := 6) sc_safe_grains.nd rfl (Or.inl rfl) (pe_p (pe_callB (cr_min rfl) (by rfl) T.b_min (by decide +kernel) (pa_cons (pe_lc rfl sc_safe_grains.nd (pi_list (pv 4)) (blkOk_by (own := [("_", 10), ("behind", 9), ("grains", 11)]) (N := ["shape", "wait", "step", "length", "looks", "least", "greatest", "place", "first", "behind", "_", "grains"]) (sc := defScope s_safe_grains) (by decide +kernel)) (fun _ _ _ _ _ => (pg_tupK (K0 := K) (n0 := 3) rfl rfl rfl (pgs_cons (pg_name (i := 10) sc_safe_grains.nd rfl (Or.inl rfl)) (pgs_cons (pg_name (i := 9) sc_safe_grains.nd rfl (Or.inl rfl)) (pgs_cons (pg_name (i := 11) sc_safe_grains.nd rfl (Or.inl rfl)) pgs_nil))))) (fun _ _ _ _ _ => pts_nil) (fun _ _ _ _ _ => (pe_op op_fdivW (pe_op op_mulW (pv 9) (pv 3)) (pe_op op_add (pv 11) pe_int)))) pa_nil))))
      (pss_one (ps_ret (pe_p (pe_cal c_stretch (hr.mono (by decide)) pass0 (pa_cons (pv 5) (pa_cons (pv 6) pa_nil))))))))))))), body_N ?_ h⟩
  rintro _ R ⟨b, p, s, w, st, x, lo, hi, rfl, ok, w1, w2, s1, s2, x1, x2, mlo, mhi, q⟩
  have z := sz_bd' (p := p) ok
  have hw := winT_len (n := sz b p s) (s := s) (by omega)
  have hw : (winT (sz b p s) s).length ≤ 100000 := by omega
  have stb : ∀ k : Nat, k ≤ 13 → 0 ≤ st * (k : Int) ∧ st * (k : Int) < 2 ^ 110 ∧ (1 ≤ k → 1 ≤ st * (k : Int)) := fun k hk => ⟨Int.mul_nonneg (by omega) (by omega), by
    have : st * (k : Int) ≤ st * 13 := Int.mul_le_mul_of_nonneg_left (by omega) (by omega)
    omega, fun h => by
    have : 1 * 1 ≤ st * (k : Int) := Int.mul_le_mul (by omega) (by omega) (by omega) (by omega)
    omega⟩
  array_get_dec
  · apply lcM (l := winT (sz b p s) s) (enc := t3D) (fun r => t3D (r.2.1, r.2.2, w + st * r.1))
    array_get_dec
    intro r hr
    obtain ⟨k, f, l, rfl, k1, k2⟩ := winT_mem z.1 hr
    array_get_dec
  array_get_dec
  · apply lcF (l := winT (sz b p s) s) (enc := fun r => t3D (r.2.1, r.2.2, w + st * r.1)) (fun r => decide (0 < r.2.1)) (fun r => .int (ceilI (r.2.1 * x) (w + st * r.1)))
    array_get_dec
    intro r hr
    obtain ⟨k, f, l, rfl, k1, k2⟩ := winT_mem z.1 hr
    have := stb k (by omega)
    array_get_dec
  array_get_dec
  · apply lcM (l := winT (sz b p s) s) (enc := fun r => t3D (r.2.1, r.2.2, w + st * r.1)) (fun r => .int (r.2.2 * x / (w + st * r.1 + 1)))
    array_get_dec
    intro r hr
    obtain ⟨k, f, l, rfl, k1, k2⟩ := winT_mem z.1 hr
    have := stb k (by omega)
    array_get_dec
  array_get_dec
  exact q
theorem len_safe_grains {vs : List V} {H : Hp} {Q : VK} {X : XK} (h : SpN K mSafeG vs H Q X) : vs.length = 4 := h.len (n := 4) (by intro ds R hm; repeat (first | (obtain ⟨rfl, _⟩ := hm; rfl) | (obtain ⟨_, hm⟩ := hm)))
theorem cal_safe_grains (T : Tx K mg) : Cal P w K mg base CX0 6 "safe_grains" ["shape", "wait", "step", "length"] (SpN K mSafeG) :=
  T.d_safe_grains.cal sc_safe_grains (fun vs H Q E h => len_safe_grains h) (fun _ _ _ _ _ _ us hl => match us, hl with | [_, _, _, _], _ => rfl) (bod_safe_grains T)
theorem cal_safe_grains_length_step_wait_shape (T : Tx K mg) : CalK P w K mg base CX0 6 "safe_grains" ["length", "step", "wait", "shape"] ["shape", "wait", "step", "length"] (gPm [3, 2, 1, 0]) (SpN K mSafeG) := by
  refine T.d_safe_grains.calK (gPm [3, 2, 1, 0]) (fun kV doc pm an cdv ct us ws hl => ?_) (rel_gPm _) sc_safe_grains (fun vs H Q E h => len_safe_grains h) (bod_safe_grains T)
  exact match us, ws, hl with | [], [_, _, _, _], _ => rfl
def mSafeS : Mn := fun ds R => ∃ b p s, ∃ (g w x lo hi : Int) (D : PyData), ds = [shD b p s, .int g, .int w, .int x] ∧ ShOk b s ∧ 1 ≤ g ∧ g < 2 ^ 100 ∧ 0 ≤ w ∧ w < 2 ^ 100 ∧ 1 ≤ x ∧ x < 2 ^ 230 ∧ Mx (((winT (sz b p s) s).filter fun r => decide (0 < r.1)).map fun r => ceilI (r.2.1 * x - g * w) (g * r.1)) lo ∧ Mi (((winT (sz b p s) s).filter fun r => decide (0 < r.1)).map fun r => (r.2.2 * x - g * (w + 1)) / (g * r.1)) hi ∧ (if x < g * (w + 1) then PyData.none else optP lo hi) = D ∧ R D
theorem bod_safe_steps (T : Tx K mg) : Bod P w K mg base CX0 5 "safe_steps" s_safe_steps ["shape", "grain", "wait", "length", "looks", "least", "greatest", "window", "place", "first", "_", "behind"] (SpN K mSafeS) := by
  have c_check_shape := cal_check_shape (P := P) (w := w) (base := base) T
  have c_check_int_from := cal_check_int_from (P := P) (w := w) (base := base) T
  have c_check_length := cal_check_length (P := P) (w := w) (base := base) T
  have c_stretch := cal_stretch (P := P) (w := w) (base := base) T
  have c_windows_of := cal_windows_of (P := P) (w := w) (base := base) T
  have c_ceiling := cal_ceiling (P := P) (w := w) (base := base) T
  refine fun f cdv A outer s H vs Q E hr h => ⟨_, (pss_cons (ps_expr (pe_p (pe_cal c_check_shape (hr.mono (by decide)) pass0 (pa_cons (pv 0) pa_nil))))
      (pss_cons (ps_expr (pe_p (pe_cal c_check_int_from (hr.mono (by decide)) pass0 (pa_cons pe_int (pa_cons (pv 1) pa_nil)))))
      (pss_cons (ps_expr (pe_p (pe_cal c_check_int_from (hr.mono (by decide)) pass0 (pa_cons pe_int (pa_cons (pv 2) pa_nil)))))
      (pss_cons (ps_expr (pe_p (pe_cal c_check_length (hr.mono (by decide)) pass0 (pa_cons (pv 3) pa_nil))))
      (pss_cons (ps_if (pt_p (pt_cmpR op_gt (pe_op op_mulW (pv 1) (pe_op op_add (pv 2) pe_int)) (pv 3) (nomark _))) (pss_one (ps_ret (pe_p pe_non))) pss_nil)
      (pss_cons (ps_setLc (i := 4) rfl sc_safe_steps.nd rfl rfl (sw_true rfl rfl rfl (by decide +kernel)) (pi_list (pe_cal c_windows_of (hr.mono (by decide)) pass0 (pa_cons (pv 0) pa_nil))) (blkOk_by (own := [("window", 7)]) (N := ["shape", "grain", "wait", "length", "looks", "least", "greatest", "window", "place", "first", "_", "behind"]) (sc := defScope s_safe_steps) (by decide +kernel)) (fun _ _ _ _ _ => (pg_name (i := 7) sc_safe_steps.nd rfl (Or.inl rfl))) (fun _ _ _ _ _ => (pts_one (pt_cmpR op_gt (pe_ix (ixT_K (K0 := K) rfl) (pv 7) pe_int (fun _ _ => rfl)) pe_int (nomark _)))) (fun _ _ _ _ _ => (pv 7)))
      (pss_cons (ps_set (i := 5) sc_safe_steps.nd rfl (Or.inl rfl) (pe_p (pe_callB (cr_max rfl) (by rfl) T.b_max (by decide +kernel) (pa_cons (pe_lc rfl sc_safe_steps.nd (pi_list (pv 4)) (blkOk_by (own := [("place", 8), ("first", 9), ("_", 10)]) (N := ["shape", "grain", "wait", "length", "looks", "least", "greatest", "window", "place", "first", "_", "behind"]) (sc := defScope s_safe_steps) (by decide +kernel)) (fun _ _ _ _ _ => (pg_tupK (K0 := K) (n0 := 3) rfl rfl rfl (pgs_cons (pg_name (i := 8) sc_safe_steps.nd rfl (Or.inl rfl)) (pgs_cons (pg_name (i := 9) sc_safe_steps.nd rfl (Or.inl rfl)) (pgs_cons (pg_name (i := 10) sc_safe_steps.nd rfl (Or.inl rfl)) pgs_nil))))) (fun _ _ _ _ _ => pts_nil) (fun _ _ _ _ _ => (pe_cal c_ceiling (hr.mono (by decide)) pass0 (pa_cons (pe_op op_sub (pe_op op_mulW (pv 9) (pv 3)) (pe_op op_mulW (pv 1) (pv 2))) (pa_cons (pe_op op_mulW (pv 1) (pv 8)) pa_nil))))) pa_nil))))
      (pss_cons (ps_set (i := 6) sc_safe_steps.nd rfl (Or.inl rfl) (pe_p (pe_callB (cr_min rfl) (by rfl) T.b_min (by decide +kernel) (pa_cons (pe_lc rfl sc_safe_steps.nd (pi_list (pv 4)) (blkOk_by (own := [("place", 8), ("_", 10), ("behind", 11)]) (N := ["shape", "grain", "wait", "length", "looks", "least", "greatest", "window", "place", "first", "_", "behind"]) (sc := defScope s_safe_steps) (by decide +kernel)) (fun _ _ _ _ _ => (pg_tupK (K0 := K) (n0 := 3) rfl rfl rfl (pgs_cons (pg_name (i := 8) sc_safe_steps.nd rfl (Or.inl rfl)) (pgs_cons (pg_name (i := 10) sc_safe_steps.nd rfl (Or.inl rfl)) (pgs_cons (pg_name (i := 11) sc_safe_steps.nd rfl (Or.inl rfl)) pgs_nil))))) (fun _ _ _ _ _ => pts_nil) (fun _ _ _ _ _ => (pe_op op_fdivW (pe_op op_sub (pe_op op_mulW (pv 11) (pv 3)) (pe_op op_mulW (pv 1) (pe_op op_add (pv 2) pe_int))) (pe_op op_mulW (pv 1) (pv 8))))) pa_nil))))
      (pss_one (ps_ret (pe_p (pe_cal c_stretch (hr.mono (by decide)) pass0 (pa_cons (pv 5) (pa_cons (pv 6) pa_nil)))))))))))))), body_N ?_ h⟩
  rintro _ R ⟨b, p, s, g, w, x, lo, hi, D, rfl, ok, g1, g2, w1, w2, x1, x2, mlo, mhi, rfl, q⟩
  have z := sz_bd' (p := p) ok
  have hw := winT_len (n := sz b p s) (s := s) (by omega)
  have hw : (winT (sz b p s) s).length ≤ 100000 := by omega
  have hf := List.length_filter_le (fun r : Tr => decide (0 < r.1)) (winT (sz b p s) s)
  have hf : ((winT (sz b p s) s).filter fun r : Tr => decide (0 < r.1)).length ≤ 100000 := by omega
  have gw : 0 ≤ g * w ∧ g * w < 2 ^ 200 := ⟨Int.mul_nonneg (by omega) (by omega), by
    have : g * w ≤ 2 ^ 100 * (2 ^ 100 - 1) := Int.mul_le_mul (by omega) (by omega) (by omega) (by omega)
    omega⟩
  have gk : ∀ k : Nat, 1 ≤ k → k ≤ 13 → 0 < g * (k : Int) ∧ g * (k : Int) < 2 ^ 110 := fun k h1 hk => by
    have : 1 * 1 ≤ g * (k : Int) := Int.mul_le_mul (by omega) (by omega) (by omega) (by omega)
    have : g * (k : Int) ≤ g * 13 := Int.mul_le_mul_of_nonneg_left (by omega) (by omega)
    omega
  array_get_dec
  · rw [if_pos (by omega)] at q
    exact q
  rw [if_neg (by omega)] at q
  array_get_dec
  · apply lcF (l := winT (sz b p s) s) (enc := t3D) (fun r => decide (0 < r.1)) t3D
    array_get_dec
    intro r hr
    obtain ⟨k, f, l, rfl, k1, k2⟩ := winT_mem z.1 hr
    array_get_dec
  array_get_dec
  · apply lcM (l := (winT (sz b p s) s).filter fun r => decide (0 < r.1)) (enc := t3D) (fun r => .int (ceilI (r.2.1 * x - g * w) (g * r.1)))
    array_get_dec
    intro r hr
    obtain ⟨hr, hp⟩ := List.mem_filter.mp hr
    obtain ⟨k, f, l, rfl, k1, k2⟩ := winT_mem z.1 hr
    have hp : 0 < (k : Int) := of_decide_eq_true hp
    have := gk k (by omega) (by omega)
    array_get_dec
  array_get_dec
  · apply lcM (l := (winT (sz b p s) s).filter fun r => decide (0 < r.1)) (enc := t3D) (fun r => .int ((r.2.2 * x - g * (w + 1)) / (g * r.1)))
    array_get_dec
    intro r hr
    obtain ⟨hr, hp⟩ := List.mem_filter.mp hr
    obtain ⟨k, f, l, rfl, k1, k2⟩ := winT_mem z.1 hr
    have hp : 0 < (k : Int) := of_decide_eq_true hp
    have := gk k (by omega) (by omega)
    array_get_dec
  array_get_dec
  exact q
theorem len_safe_steps {vs : List V} {H : Hp} {Q : VK} {X : XK} (h : SpN K mSafeS vs H Q X) : vs.length = 4 := h.len (n := 4) (by intro ds R hm; repeat (first | (obtain ⟨rfl, _⟩ := hm; rfl) | (obtain ⟨_, hm⟩ := hm)))
theorem cal_safe_steps (T : Tx K mg) : Cal P w K mg base CX0 6 "safe_steps" ["shape", "grain", "wait", "length"] (SpN K mSafeS) :=
  T.d_safe_steps.cal sc_safe_steps (fun vs H Q E h => len_safe_steps h) (fun _ _ _ _ _ _ us hl => match us, hl with | [_, _, _, _], _ => rfl) (bod_safe_steps T)
theorem cal_safe_steps_length_wait_grain_shape (T : Tx K mg) : CalK P w K mg base CX0 6 "safe_steps" ["length", "wait", "grain", "shape"] ["shape", "grain", "wait", "length"] (gPm [3, 2, 1, 0]) (SpN K mSafeS) := by
  refine T.d_safe_steps.calK (gPm [3, 2, 1, 0]) (fun kV doc pm an cdv ct us ws hl => ?_) (rel_gPm _) sc_safe_steps (fun vs H Q E h => len_safe_steps h) (bod_safe_steps T)
  exact match us, ws, hl with | [], [_, _, _, _], _ => rfl
end
open PySem PySem.Spec PyProof.Rows L2 Evl SB PL PW
section
variable {P : Program} {w : World} {K : PySem.W.Frag} {mg : Str → Option Value} {base : Heap}
def mPool : List Int → List PyData → (List PyData → Prop) → Prop := fun ns ds R => ∃ k : Nat, ds = [.int k] ∧ k ≤ 1000 ∧ ∀ T, Tk 0 T → R T
theorem bod_law_pool (T : Tx K mg) : Bod P w K mg base CX0 0 "_law_pool" s_law_pool ["_law_script", "_law_at", "_law_cell"] (SpS K mPool) := by
  refine fun f cdv A outer s H vs Q E hr h => ⟨_, (pss_cons (ps_set (i := 2) sc_law_pool.nd rfl (Or.inl rfl) (pe_p (pe_ifI (pe_ifExp (pt_cmpR op_lt (pv 1) (pe_callB call_len_seq (by rfl) T.b_len (by decide +kernel) (pa_cons (pv 0) pa_nil)) (nomark _)) (pe_ix ix_list (pv 0) (pv 1) (fun _ _ => rfl)) pe_int))))
      (pss_one (ps_retO (ps_ret (pe_p (pe_lst (pa_cons (pe_callB (call_max2 rfl) (by rfl) T.b_max (by decide +kernel) (pa_cons pe_int (pa_cons (pe_op op_sub (pe_callB call_abs (by rfl) T.b_abs (by decide +kernel) (pa_cons (pv 2) pa_nil)) (pe_pow (1000000000000000000) (pe_op op_powB pe_int pe_int))) pa_nil))) (pa_cons (pe_op op_add (pe_op op_mod (pe_callTy call_int1 (by rfl) T.b_int (by decide +kernel) (pa_cons (pv 2) pa_nil)) (pe_op op_add (pe_pow (1000000000000000000000) (pe_op op_powB pe_int pe_int)) pe_int)) (pe_op op_mulW pe_int (pe_op op_add (pv 1) pe_int))) (pa_cons pe_int pa_nil))))))))), body_S ?_ h⟩
  rintro ns _ R ⟨k, rfl, k9, q⟩
  refine x_seq (x_asg (w_e (e_ifI (i := ns.getD k 0) (et_test (e_op (e_var rfl) (e_lenS rfl) oe_c)) (fun h => e_ixS rfl (e_var rfl) ?_) (fun h => e_int)) ?_))
  · have h := of_decide_eq_true h
    have lt : k < ns.length := by omega
    rw [List.getD_eq_getElem?_getD, List.getElem?_eq_getElem lt]
    exact atI_nat (List.getElem?_eq_getElem lt)
  dsimp only [rsS, rsT, List.set]
  generalize (if decide ((k : Int) < (ns.length : Int)) = true then ns.getD k 0 else 0) = x
  have h1 := Int.emod_nonneg x (show (1000000000000000000117 : Int) ≠ 0 by decide)
  have h2 := Int.emod_lt_of_pos x (show (0 : Int) < 1000000000000000000117 by decide)
  have p21 : (10 : Int) ^ (21 : Int).toNat + 117 = 1000000000000000000117 := by decide
  exact x_retO (wo_e (eo_lst (ea_cons (e_cb (ea_cons e_int (ea_cons (e_op (e_cb (ea_cons (e_var rfl) ea_nil) cb_abs) (e_op e_int e_int (oe_iC (cpow10 18 (by decide) (by decide)))) oe_i) ea_nil)) cb_2) (ea_cons (e_op (e_op (e_cb (ea_cons (e_var rfl) ea_nil) cb_int) (e_op (e_op e_int e_int (oe_iC (cpow10 21 (by decide) (by decide)))) e_int oe_i) (oe_iC (by show (0 : Int) < _; decide))) (e_op e_int (e_op (e_var rfl) e_int oe_i) (oe_iC (wmul (i := 8191) (j := (k : Int) + 1) (by omega) (by omega)))) oe_i) (ea_cons e_int ea_nil)))) (q _ ⟨_, _, _, rfl, by rw [p21]; omega, by rw [p21]; omega, by decide, by decide⟩))
theorem len_law_pool {vs : List V} {H : Hp} {Q : VK} {X : XK} (h : SpS K mPool vs H Q X) : vs.length = 2 := h.len (n := 1) (by intro T ds R hm; repeat (first | (obtain ⟨rfl, _⟩ := hm; rfl) | (obtain ⟨_, hm⟩ := hm)))
theorem cal_law_pool (T : Tx K mg) : Cal P w K mg base CX0 1 "_law_pool" ["_law_script", "_law_at"] (SpS K mPool) :=
  T.d_law_pool.cal sc_law_pool (fun vs H Q E h => len_law_pool h) (fun _ _ _ _ _ _ us hl => match us, hl with | [_, _], _ => rfl) (bod_law_pool T)
theorem bod_law_draw (T : Tx K mg) : Bod P w K mg base CX0 0 "_law_draw" s_law_draw ["_law_pool_here", "_law_top", "_law_drawn", "_law_mixed"] (SpT K mDraw) := by
  refine fun f cdv A outer s H vs Q E hr h => ⟨_, (pss_cons (ps_if (pt_look (pt_cmpR op_gt (pe_ix ix_list (pv 0) pe_int (fun _ _ => rfl)) pe_int (nomark _))) (pss_cons (ps_set (i := 2) sc_law_draw.nd rfl (Or.inl rfl) (pe_look (pe_op op_mod (pe_callTy call_int1 (by rfl) T.b_int (by decide +kernel) (pa_cons (pe_ix ix_list (pv 0) pe_int (fun _ _ => rfl)) pa_nil)) (pv 1))))
      (pss_cons (ps_asg (pe_look (pe_op op_fdivW (pe_ix ix_list (pv 0) pe_int (fun _ _ => rfl)) (pv 1))) (pg_sub (pv 0) pe_int set_list))
      (pss_one (ps_ret (pe_p (pv 2)))))) pss_nil)
      (pss_cons (ps_asg (pe_look (pe_op op_add (pe_ix ix_list (pv 0) pe_int (fun _ _ => rfl)) pe_int)) (pg_sub (pv 0) pe_int set_list))
      (pss_cons (ps_set (i := 3) sc_law_draw.nd rfl (Or.inl rfl) (pe_look (pe_op op_mod (pe_callTy call_int1 (by rfl) T.b_int (by decide +kernel) (pa_cons (pe_op op_powB (pe_op op_add (pe_ix ix_list (pv 0) pe_int (fun _ _ => rfl)) (pe_op op_mulW pe_int (pe_ix ix_list (pv 0) pe_int (fun _ _ => rfl)))) pe_int) pa_nil)) (pe_op op_add (pe_pow (100000000000000000000000000000000000000000000) (pe_op op_powB pe_int pe_int)) pe_int))))
      (pss_cons (ps_set (i := 3) sc_law_draw.nd rfl (Or.inl rfl) (pe_look (pe_op op_mod (pe_callTy call_int1 (by rfl) T.b_int (by decide +kernel) (pa_cons (pe_op op_powB (pe_op op_add (pv 3) (pe_op op_mulW pe_int (pe_ix ix_list (pv 0) pe_int (fun _ _ => rfl)))) pe_int) pa_nil)) (pe_op op_add (pe_pow (100000000000000000000000000000000000000000000000000) (pe_op op_powB pe_int pe_int)) pe_int))))
      (pss_one (ps_ret (pe_p (pe_op op_mod (pe_callTy call_int1 (by rfl) T.b_int (by decide +kernel) (pa_cons (pe_op op_fdivW (pv 3) pe_int) pa_nil)) (pv 1))))))))), body_T ?_ h⟩
  rintro _ _ R ⟨n, m, rfl, ⟨l, sd, c, rfl, s0, s1, c0, c1⟩, hn, m0, m1, q⟩
  refine x_seq (x_if (et_fz (et_test (e_op (e_op (e_var rfl) e_int (oe_ixL rfl)) e_int oe_c))) (fun h => ?_) (fun h => x_nil ?_))
  · refine x_seq (x_asg (w_e (e_fz (e_op (e_cb (ea_cons (e_op (e_var rfl) e_int (oe_ixL rfl)) ea_nil) cb_int) (e_var rfl) (oe_iC m0)) rfl) ?_))
    refine x_seq (x_setL (w_e (e_fz (e_op (e_op (e_var rfl) e_int (oe_ixL rfl)) (e_var rfl) (oe_iC (wdiv m0 m1))) rfl) ⟨_, rfl, w_e e_int ⟨_, _, _, rfl, rfl, rfl, ?_⟩⟩))
    exact x_ret (w_e (e_var rfl) ⟨_, rfl, q _ _ (Int.emod_nonneg l (by omega)) (Int.emod_lt_of_pos l m0) ⟨_, _, _, rfl, s0, s1, c0, by omega⟩⟩)
  refine x_seq (x_setL (w_e (e_fz (e_op (e_op (e_var rfl) e_int (oe_ixL rfl)) e_int oe_i) rfl) ⟨_, rfl, (w_e e_int ⟨_, _, _, rfl, rfl, rfl, ?_⟩)⟩))
  have b1 : 0 ≤ sd + 524287 * (c + 1) ∧ sd + 524287 * (c + 1) < 2 ^ 140 := by omega
  have p44 : (10 : Int) ^ (44 : Int).toNat + 31 = 100000000000000000000000000000000000000000031 := by decide
  refine x_seq (x_asg (w_e (e_fz (e_op (e_cb (ea_cons (e_op (e_op (e_op (e_var rfl) e_int (oe_ixL rfl)) (e_op e_int (e_op (e_var rfl) e_int (oe_ixL rfl)) (oe_iC (wmul (by omega) (by omega)))) oe_i) e_int (oe_iC (cpow2' (i := sd + 524287 * (c + 1)) (by omega) 3 (by decide) (by decide)))) ea_nil) cb_int) (e_op (e_op e_int e_int (oe_iC (cpow10 44 (by decide) (by decide)))) e_int oe_i) (oe_iC (by show (0 : Int) < _; decide))) rfl) ?_))
  rw [p44]
  have b2 : ∀ u : Int, 0 ≤ u % 100000000000000000000000000000000000000000031 + 6700417 * (c + 1) ∧ u % 100000000000000000000000000000000000000000031 + 6700417 * (c + 1) < 2 ^ 150 := fun u => by omega
  generalize (sd + 524287 * (c + 1)) ^ (3 : Int).toNat = g1
  have b2 := b2 g1
  refine x_seq (x_asg (w_e (e_fz (e_op (e_cb (ea_cons (e_op (e_op (e_var rfl) (e_op e_int (e_op (e_var rfl) e_int (oe_ixL rfl)) (oe_iC (wmul (by omega) (by omega)))) oe_i) e_int (oe_iC (cpow2' (i := g1 % 100000000000000000000000000000000000000000031 + 6700417 * (c + 1)) (by omega) 3 (by decide) (by decide)))) ea_nil) cb_int) (e_op (e_op e_int e_int (oe_iC (cpow10 50 (by decide) (by decide)))) e_int oe_i) (oe_iC (by show (0 : Int) < _; decide))) rfl) ?_))
  exact x_ret (w_e (e_op (e_cb (ea_cons (e_op (e_var rfl) e_int (oe_iC (wide_div (b := 64) (by decide) (by decide) (by decide) (by decide)))) ea_nil) cb_int) (e_var rfl) (oe_iC m0)) ⟨_, rfl, q _ _ (Int.emod_nonneg _ (by omega)) (Int.emod_lt_of_pos _ m0) ⟨_, _, _, rfl, s0, s1, by omega, by omega⟩⟩)
theorem len_law_draw {vs : List V} {H : Hp} {Q : VK} {X : XK} (h : SpT K mDraw vs H Q X) : vs.length = 2 := h.len (n := 1) (by intro T ds R hm; repeat (first | (obtain ⟨rfl, _⟩ := hm; rfl) | (obtain ⟨_, hm⟩ := hm)))
theorem cal_law_draw (T : Tx K mg) : Cal P w K mg base CX0 1 "_law_draw" ["_law_pool_here", "_law_top"] (SpT K mDraw) :=
  T.d_law_draw.cal sc_law_draw (fun vs H Q E h => len_law_draw h) (fun _ _ _ _ _ _ us hl => match us, hl with | [_, _], _ => rfl) (bod_law_draw T)
theorem bod_law_form (T : Tx K mg) : Bod P w K mg base CX0 1 "_law_form" s_law_form ["_law_pool_here", "_law_top"] (SpT K mShapeD) := by
  have c_law_draw := cal_law_draw (P := P) (w := w) (base := base) T
  refine fun f cdv A outer s H vs Q E hr h => ⟨_, (pss_one (ps_ret (pe_tup (pa_cons (pe_op op_add (pe_p pe_int) (pe_cal c_law_draw (hr.mono (by decide)) pass0 (pa_cons (pv 0) (pa_cons (pe_p (pv 1)) pa_nil)))) (pa_cons (pe_ix ix_list (pe_p (pe_lst (pa_cons pe_str (pa_cons pe_str (pa_cons pe_str pa_nil))))) (pe_cal c_law_draw (hr.mono (by decide)) pass0 (pa_cons (pv 0) (pa_cons (pe_p pe_int) pa_nil))) (fun _ _ => rfl)) (pa_cons (pe_op op_add (pe_p pe_int) (pe_cal c_law_draw (hr.mono (by decide)) pass0 (pa_cons (pv 0) (pa_cons (pe_p pe_int) pa_nil)))) pa_nil)))))), body_T ?_ h⟩
  rintro _ _ R ⟨n, m, rfl, tk, hn, m1, m9, q⟩
  array_get_dec
  intro d1 T1 d10 d11 tk1
  array_get_dec
  intro d2 T2 d20 d21 tk2
  obtain ⟨p, hp⟩ := pa_atD d2 d20 d21
  array_get_dec
  intro d3 T3 d30 d31 tk3
  array_get_dec
  obtain ⟨b, hb⟩ : ∃ b : Nat, 1 + d1 = (b : Int) := ⟨(1 + d1).toNat, by omega⟩
  obtain ⟨s, hs⟩ : ∃ s : Nat, 1 + d3 = (s : Int) := ⟨(1 + d3).toNat, by omega⟩
  rw [hb, hs]
  exact q b p s T3 ⟨by omega, by omega, by omega, by omega⟩ (by omega) tk3
theorem len_law_form {vs : List V} {H : Hp} {Q : VK} {X : XK} (h : SpT K mShapeD vs H Q X) : vs.length = 2 := h.len (n := 1) (by intro T ds R hm; repeat (first | (obtain ⟨rfl, _⟩ := hm; rfl) | (obtain ⟨_, hm⟩ := hm)))
theorem cal_law_form (T : Tx K mg) : Cal P w K mg base CX0 2 "_law_form" ["_law_pool_here", "_law_top"] (SpT K mShapeD) :=
  T.d_law_form.cal sc_law_form (fun vs H Q E h => len_law_form h) (fun _ _ _ _ _ _ us hl => match us, hl with | [_, _], _ => rfl) (bod_law_form T)
theorem bod_law_size (T : Tx K mg) : Bod P w K mg base CX0 0 "_law_size" s_law_size ["_law_form_here"] (SpN K mSize) := by
  refine fun f cdv A outer s H vs Q E hr h => ⟨_, (pss_one (ps_ret (pe_p (pe_op op_add (pe_op op_add (pe_op op_add pe_int (pe_ix ix_tup (pv 0) pe_int (fun _ _ => rfl))) (pe_callTy call_int1 (by rfl) T.b_int (by decide +kernel) (pa_cons (pe_cmpR op_ne (pe_ix ix_tup (pv 0) pe_int (fun _ _ => rfl)) pe_str (nomark _)) pa_nil))) (pe_ix ix_tup (pv 0) pe_int (fun _ _ => rfl)))))), body_N ?_ h⟩
  rintro _ R ⟨b, p, s, rfl, ok, q⟩
  array_get_dec
  have : 1 + (b : Int) + (if (!decide (p.s = ("none" : Str))) = true then 1 else 0) + s = (sz b p s : Int) := by
    unfold sz
    cases p with
    | no => rw [if_neg (by decide +kernel)]; simp [plen]
    | ev => rw [if_pos (by decide +kernel)]; simp [plen]
    | od => rw [if_pos (by decide +kernel)]; simp [plen]
  rw [← this] at q
  exact q
theorem len_law_size {vs : List V} {H : Hp} {Q : VK} {X : XK} (h : SpN K mSize vs H Q X) : vs.length = 1 := h.len (n := 1) (by intro ds R hm; repeat (first | (obtain ⟨rfl, _⟩ := hm; rfl) | (obtain ⟨_, hm⟩ := hm)))
theorem cal_law_size (T : Tx K mg) : Cal P w K mg base CX0 1 "_law_size" ["_law_form_here"] (SpN K mSize) :=
  T.d_law_size.cal sc_law_size (fun vs H Q E h => len_law_size h) (fun _ _ _ _ _ _ us hl => match us, hl with | [_], _ => rfl) (bod_law_size T)
def mClock : Mt := fun T ds R => ∃ (n : Nat) (t m : Int), ds = [.int t, .int m] ∧ Tk n T ∧ n ≤ 999990 ∧ 1 ≤ t ∧ t < 2 ^ 98 ∧ 1 ≤ m ∧ m < 2 ^ 98 ∧ ∀ g w st T', 1 ≤ g → g ≤ t → 0 ≤ w → w ≤ 3 * m → 1 ≤ st → st ≤ m → Tk (n + 4) T' → R (rcD g w st) T'
theorem bod_law_clock (T : Tx K mg) : Bod P w K mg base CX0 1 "_law_clock" s_law_clock ["_law_pool_here", "_law_top", "_law_more", "_law_stride", "_law_pauses"] (SpT K mClock) := by
  have c_law_draw := cal_law_draw (P := P) (w := w) (base := base) T
  refine fun f cdv A outer s H vs Q E hr h => ⟨_, (pss_cons (ps_set (i := 3) sc_law_clock.nd rfl (Or.inl rfl) (pe_op op_add (pe_p pe_int) (pe_cal c_law_draw (hr.mono (by decide)) pass0 (pa_cons (pv 0) (pa_cons (pe_p (pv 2)) pa_nil)))))
      (pss_cons (ps_set (i := 4) sc_law_clock.nd rfl (Or.inl rfl) (pe_lst (pa_cons (pe_p pe_int) (pa_cons (pe_p (pe_op op_sub (pv 3) pe_int)) (pa_cons (pe_p (pv 3)) (pa_cons (pe_p (pe_op op_fdivW (pv 3) pe_int)) (pa_cons (pe_cal c_law_draw (hr.mono (by decide)) pass0 (pa_cons (pv 0) (pa_cons (pe_p (pe_op op_mulW pe_int (pv 2))) pa_nil))) (pa_cons (pe_p (pe_op op_add (pe_op op_fdivW (pv 3) pe_int) pe_int)) pa_nil))))))))
      (pss_one (ps_ret (pe_tup (pa_cons (pe_op op_add (pe_p pe_int) (pe_cal c_law_draw (hr.mono (by decide)) pass0 (pa_cons (pv 0) (pa_cons (pe_p (pv 1)) pa_nil)))) (pa_cons (pe_ix ix_list (pe_p (pv 4)) (pe_cal c_law_draw (hr.mono (by decide)) pass0 (pa_cons (pv 0) (pa_cons (pe_p pe_int) pa_nil))) (fun _ _ => rfl)) (pa_cons (pe_p (pv 3)) pa_nil)))))))), body_T ?_ h⟩
  rintro _ _ R ⟨n, t, m, rfl, tk, hn, t1, t2, m1, m2, q⟩
  array_get_dec
  intro d1 T1 d10 d11 tk1
  array_get_dec
  intro d2 T2 d20 d21 tk2
  array_get_dec
  intro d3 T3 d30 d31 tk3
  array_get_dec
  intro d4 T4 d40 d41 tk4
  refine k_ixI (fun y => 0 ≤ y ∧ y ≤ 3 * m) d40 d41 (by intro x hx; simp at hx; omega) fun y hy => ?_
  array_get_dec
  exact q _ _ _ _ (by omega) (by omega) hy.1 hy.2 (by omega) (by omega) tk4
theorem len_law_clock {vs : List V} {H : Hp} {Q : VK} {X : XK} (h : SpT K mClock vs H Q X) : vs.length = 3 := h.len (n := 2) (by intro T ds R hm; repeat (first | (obtain ⟨rfl, _⟩ := hm; rfl) | (obtain ⟨_, hm⟩ := hm)))
theorem cal_law_clock (T : Tx K mg) : Cal P w K mg base CX0 2 "_law_clock" ["_law_pool_here", "_law_top", "_law_more"] (SpT K mClock) :=
  T.d_law_clock.cal sc_law_clock (fun vs H Q E h => len_law_clock h) (fun _ _ _ _ _ _ us hl => match us, hl with | [_, _, _], _ => rfl) (bod_law_clock T)
theorem bod_law_rows (T : Tx K mg) : Bod P w K mg base CX0 1 "_law_rows" s_law_rows ["_law_form_here", "_law_size_here", "_law_stop", "_law_rows_here", "_law_place"] (SpO K mWindows) := by
  have c_law_size := cal_law_size (P := P) (w := w) (base := base) T
  refine fun f cdv A outer s H vs Q E hr h => ⟨_, (pss_cons (ps_set (i := 1) sc_law_rows.nd rfl (Or.inr rfl) (pe_p (pe_cal c_law_size (hr.mono (by decide)) pass0 (pa_cons (pv 0) pa_nil))))
      (pss_cons (ps_set (i := 2) sc_law_rows.nd rfl (Or.inr rfl) (pe_p (pe_op op_sub (pv 1) (pe_ix ix_tup (pv 0) pe_int (fun _ _ => rfl)))))
      (pss_cons (ps_setLc (i := 3) rfl sc_law_rows.nd rfl rfl (sw_true rfl rfl rfl (by decide +kernel)) (pi_range1 rfl T.b_range (pa_cons (pv 2) pa_nil)) (blkOk_by (own := [("_law_place", 4)]) (N := ["_law_form_here", "_law_size_here", "_law_stop", "_law_rows_here", "_law_place"]) (sc := defScope s_law_rows) (by decide +kernel)) (fun _ _ _ _ _ => (pg_name (i := 4) sc_law_rows.nd rfl (Or.inl rfl))) (fun _ _ _ _ _ => pts_nil) (fun _ _ _ _ _ => (pe_tup (pa_cons (pv 4) (pa_cons (pv 4) (pa_cons (pe_op op_add (pv 4) pe_int) pa_nil))))))
      (pss_one (ps_retO (ps_ret (pe_p (pe_op op_cat (pv 3) (pe_lc rfl sc_law_rows.nd (pi_range2 rfl T.b_range (pa_cons (pv 2) (pa_cons (pv 1) pa_nil))) (blkOk_by (own := [("_law_place", 4)]) (N := ["_law_form_here", "_law_size_here", "_law_stop", "_law_rows_here", "_law_place"]) (sc := defScope s_law_rows) (by decide +kernel)) (fun _ _ _ _ _ => (pg_name (i := 4) sc_law_rows.nd rfl (Or.inl rfl))) (fun _ _ _ _ _ => pts_nil) (fun _ _ _ _ _ => (pe_tup (pa_cons (pv 4) (pa_cons (pv 2) (pa_cons (pv 1) pa_nil)))))))))))))), body_O ?_ h⟩
  rintro _ R ⟨b, p, s, rfl, ok, q⟩
  have z := sz_bd' (p := p) ok
  generalize hn : sz b p s = n at z q
  array_get_dec
  · rw [hn]
    apply lcM (l := List.range (n - s)) (enc := fun i : Nat => .int (i : Int)) (fun i : Nat => t3D ((i : Int), (i : Int), (i : Int) + 1))
    array_get_dec
    · intro i hi
      array_get_dec
    · unfold rg0
      rw [show ((n : Int) - s).toNat = n - s by omega]
      rfl
  rw [hn]
  array_get_dec
  · apply lcM (l := List.range s) (enc := fun i : Nat => .int ((n : Int) - s + i)) (fun i : Nat => t3D ((n : Int) - s + i, (n : Int) - s, n))
    array_get_dec
    · intro i hi
      array_get_dec
    · unfold rgD
      rw [show ((n : Int) - ((n : Int) - s)).toNat = s by omega]
      rfl
  array_get_dec
  unfold winT at q
  rw [List.map_append, List.map_map, List.map_map] at q
  exact q
theorem len_law_rows {vs : List V} {H : Hp} {Q : VK} {X : XK} (h : SpO K mWindows vs H Q X) : vs.length = 1 := h.len (n := 1) (by intro ds R hm; repeat (first | (obtain ⟨rfl, _⟩ := hm; rfl) | (obtain ⟨_, hm⟩ := hm)))
theorem cal_law_rows (T : Tx K mg) : Cal P w K mg base CX0 2 "_law_rows" ["_law_form_here"] (SpO K mWindows) :=
  T.d_law_rows.cal sc_law_rows (fun vs H Q E h => len_law_rows h) (fun _ _ _ _ _ _ us hl => match us, hl with | [_], _ => rfl) (bod_law_rows T)
theorem bod_law_bounds (T : Tx K mg) : Bod P w K mg base CX0 2 "_law_bounds" s_law_bounds ["_law_form_here", "_law_clock_here", "_law_grid", "_law_pause", "_law_stride", "_law_least", "_law_greatest", "_law_place", "_law_first", "_law_last", "_law_look"] (SpN K mLimits) := by
  have c_law_rows := cal_law_rows (P := P) (w := w) (base := base) T
  refine fun f cdv A outer s H vs Q E hr h => ⟨_, (pss_cons (ps_asg (pe_p (pv 1)) (pg_tup rfl (pgs_cons (pg_name (i := 2) sc_law_bounds.nd rfl (Or.inl rfl)) (pgs_cons (pg_name (i := 3) sc_law_bounds.nd rfl (Or.inl rfl)) (pgs_cons (pg_name (i := 4) sc_law_bounds.nd rfl (Or.inl rfl)) pgs_nil)))))
      (pss_cons (ps_own (ps_par (i := 5) (j := 6) (by rfl) sc_law_bounds.nd rfl rfl (by decide) rfl rfl (pa_cons (pe_o (pe_p (pe_lst pa_nil))) (pa_cons (pe_o (pe_p (pe_lst pa_nil))) pa_nil)) (by rfl)))
      (pss_cons (ps_for PassesOwn.never rfl (pi_list (pe_cal c_law_rows (hr.mono (by decide)) pass0 (pa_cons (pv 0) pa_nil))) (pg_tup rfl (pgs_cons (pg_name (i := 7) sc_law_bounds.nd rfl (Or.inl rfl)) (pgs_cons (pg_name (i := 8) sc_law_bounds.nd rfl (Or.inl rfl)) (pgs_cons (pg_name (i := 9) sc_law_bounds.nd rfl (Or.inl rfl)) pgs_nil)))) (pss_cons (ps_set (i := 10) sc_law_bounds.nd rfl (Or.inl rfl) (pe_p (pe_op op_mulW (pv 2) (pe_op op_add (pv 3) (pe_op op_mulW (pv 4) (pv 7))))))
      (pss_cons (ps_expr (pe_bm PySem.F.plainAttrs_list PySem.F.slot_list_append PySem.F.type_list_append mt_append (pv 5) (pa_cons (pe_p (pe_un un_neg (pe_op op_fdivW (pe_un un_neg (pe_op op_add (pv 10) (pv 2))) (pv 9)))) pa_nil)))
      (pss_one (ps_if (pt_p (pt_cmpR op_gt (pv 8) pe_int (nomark _))) (pss_one (ps_expr (pe_bm PySem.F.plainAttrs_list PySem.F.slot_list_append PySem.F.type_list_append mt_append (pv 6) (pa_cons (pe_p (pe_op op_fdivW (pv 10) (pv 8))) pa_nil)))) pss_nil)))))
      (pss_one (ps_frz [5, 6] (ps_ret (pe_p (pe_tup (pa_cons (pe_callB (cr_max rfl) (by rfl) T.b_max (by decide +kernel) (pa_cons (pv 5) pa_nil)) (pa_cons (pe_callB (cr_min rfl) (by rfl) T.b_min (by decide +kernel) (pa_cons (pv 6) pa_nil)) pa_nil)))))))))), body_N ?_ h⟩
  rintro _ R ⟨b, p, s, g, w, st, lo, hi, rfl, ok, rok, mlo, mhi, q⟩
  have z := sz_bd' (p := p) ok
  obtain ⟨h1, h2, h3, h4, h5, h6⟩ := id rok
  have stb : ∀ k : Nat, k ≤ 13 → 0 ≤ st * (k : Int) ∧ st * (k : Int) < 2 ^ 110 := fun k hk => ⟨Int.mul_nonneg (by omega) (by omega), by
    have : st * (k : Int) ≤ st * 13 := Int.mul_le_mul_of_nonneg_left (by omega) (by omega)
    omega⟩
  have hw := winT_len (n := sz b p s) (s := s) (by omega)
  rw [loL_T (by omega)] at mlo
  rw [hiL_T (by omega)] at mhi
  array_get_dec
  refine k_for t3D _ (fun pre ρ => ∃ s1 s2 s3 s4, ρ = [.sh (shD b p s), .sh (rcD g w st), .sh (.int g), .sh (.int w), .sh (.int st), .ow true (dI (pre.map fun r => ceilI (g * (w + st * r.1 + 1)) r.2.2)), .ow true (dI ((pre.filter fun r => decide (0 < r.2.1)).map fun r => lookI g w st r.1 / r.2.1)), s1, s2, s3, s4]) ⟨_, _, _, _, rfl⟩ ?_ ?_
  · rintro pre r post _ hl ⟨s1, s2, s3, s4, rfl⟩
    have hpl : pre.length < 14 := by
      have := congrArg List.length hl
      rw [hw, List.length_append, List.length_cons] at this
      omega
    obtain ⟨k, f, l, rfl, k1, k2⟩ := winT_mem z.1 (show r ∈ winT (sz b p s) s by rw [hl]; simp)
    have := stb k (by omega)
    have e1 : dI ((pre ++ [((k : Int), (f : Int), (l : Int))]).map fun r => ceilI (g * (w + st * r.1 + 1)) r.2.2) = dI (pre.map fun r => ceilI (g * (w + st * r.1 + 1)) r.2.2) ++ [PyData.int (-(-(g * (w + st * (k : Int)) + g) / (l : Int)))] := by
      rw [List.map_append, dI_app]
      show _ ++ [PyData.int (-((-(g * (w + st * (k : Int) + 1))) / (l : Int)))] = _
      rw [show g * (w + st * (k : Int) + 1) = g * (w + st * (k : Int)) + g by rw [Int.mul_add, Int.mul_one]]
    have hf := List.length_filter_le (fun r : Tr => decide (0 < r.2.1)) pre
    have gb := rok.lookb (p := k) (by omega)
    array_get_dec
    · rw [e1, show (pre ++ [((k : Int), (f : Int), (l : Int))]).filter (fun r => decide (0 < r.2.1)) = pre.filter (fun r => decide (0 < r.2.1)) ++ [((k : Int), (f : Int), (l : Int))] by rw [List.filter_append]; simp; omega, List.map_append, dI_app]
      exact ⟨_, _, _, _, rfl⟩
    · array_get_dec
      rw [e1, show (pre ++ [((k : Int), (f : Int), (l : Int))]).filter (fun r => decide (0 < r.2.1)) = pre.filter (fun r => decide (0 < r.2.1)) by rw [List.filter_append]; simp; omega]
      exact ⟨_, _, _, _, rfl⟩
  · rintro _ ⟨s1, s2, s3, s4, rfl⟩
    array_get_dec
    exact q
theorem len_law_bounds {vs : List V} {H : Hp} {Q : VK} {X : XK} (h : SpN K mLimits vs H Q X) : vs.length = 2 := h.len (n := 2) (by intro ds R hm; repeat (first | (obtain ⟨rfl, _⟩ := hm; rfl) | (obtain ⟨_, hm⟩ := hm)))
theorem cal_law_bounds (T : Tx K mg) : Cal P w K mg base CX0 3 "_law_bounds" ["_law_form_here", "_law_clock_here"] (SpN K mLimits) :=
  T.d_law_bounds.cal sc_law_bounds (fun vs H Q E h => len_law_bounds h) (fun _ _ _ _ _ _ us hl => match us, hl with | [_, _], _ => rfl) (bod_law_bounds T)
theorem bod_law_is_good (T : Tx K mg) : Bod P w K mg base CX0 2 "_law_is_good" s_law_is_good ["_law_form_here", "_law_clock_here", "_law_span_here", "_law_offset", "_law_place", "_law_first", "_law_last", "_law_look"] (SpN K mGoodL) := by
  have c_law_rows := cal_law_rows (P := P) (w := w) (base := base) T
  refine fun f cdv A outer s H vs Q E hr h => ⟨_, (pss_cons (ps_for PassesOwn.never rfl (pi_list (pe_cal c_law_rows (hr.mono (by decide)) pass0 (pa_cons (pv 0) pa_nil))) (pg_tup rfl (pgs_cons (pg_name (i := 4) sc_law_is_good.nd rfl (Or.inl rfl)) (pgs_cons (pg_name (i := 5) sc_law_is_good.nd rfl (Or.inl rfl)) (pgs_cons (pg_name (i := 6) sc_law_is_good.nd rfl (Or.inl rfl)) pgs_nil)))) (pss_cons (ps_set (i := 7) sc_law_is_good.nd rfl (Or.inl rfl) (pe_p (pe_op op_add (pv 3) (pe_op op_mulW (pe_ix ix_tup (pv 1) pe_int (fun _ _ => rfl)) (pe_op op_add (pe_ix ix_tup (pv 1) pe_int (fun _ _ => rfl)) (pe_op op_mulW (pe_ix ix_tup (pv 1) pe_int (fun _ _ => rfl)) (pv 4)))))))
      (pss_one (ps_if (pt_p (pt_not (pt_chain op_le op_lt (pe_op op_mulW (pv 2) (pv 5)) (pv 7) (pe_op op_mulW (pv 2) (pv 6))))) (pss_one (ps_ret (pe_p pe_bl))) pss_nil))))
      (pss_one (ps_ret (pe_p pe_bl)))), body_N ?_ h⟩
  rintro _ R ⟨b, p, s, g, w, st, x, off, rfl, ok, rok, x1, x2, o1, o2, q⟩
  have z := sz_bd' (p := p) ok
  obtain ⟨h1, h2, h3, h4, h5, h6⟩ := id rok
  have stb : ∀ k : Nat, k ≤ 13 → 0 ≤ st * (k : Int) ∧ st * (k : Int) < 2 ^ 110 := fun k hk => ⟨Int.mul_nonneg (by omega) (by omega), by
    have : st * (k : Int) ≤ st * 13 := Int.mul_le_mul_of_nonneg_left (by omega) (by omega)
    omega⟩
  array_get_dec
  refine k_for t3D _ (fun pre ρ => pre.all (rowG g w st x off) = true ∧ ∃ s1 s2 s3 s4, ρ = [.sh (shD b p s), .sh (rcD g w st), .sh (.int x), .sh (.int off), s1, s2, s3, s4]) ⟨rfl, _, _, _, _, rfl⟩ ?_ ?_
  · rintro pre r post _ hl ⟨ha, s1, s2, s3, s4, rfl⟩
    obtain ⟨k, f, l, rfl, k1, k2⟩ := winT_mem z.1 (show r ∈ winT (sz b p s) s by rw [hl]; simp)
    have := stb k (by omega)
    array_get_dec
    · have e : rowG g w st x off ((k : Int), (f : Int), (l : Int)) = false := by
        unfold rowG
        dsimp only
        rw [Bool.and_eq_false_iff, decide_eq_false_iff_not, decide_eq_false_iff_not]
        exact h
      have : goodT (sz b p s) s g w st x off = false := by
        unfold goodT
        rw [hl, List.all_append, List.all_cons, e]
        simp
      rw [this] at q
      exact q
    · array_get_dec
      have e : rowG g w st x off ((k : Int), (f : Int), (l : Int)) = true := by
        unfold rowG
        dsimp only
        rw [Bool.and_eq_true, decide_eq_true_eq, decide_eq_true_eq]
        exact h
      exact ⟨by rw [List.all_append, ha]; simp [e], _, _, _, _, rfl⟩
  · rintro _ ⟨ha, s1, s2, s3, s4, rfl⟩
    array_get_dec
    have : goodT (sz b p s) s g w st x off = true := ha
    rw [this] at q
    exact q
theorem len_law_is_good {vs : List V} {H : Hp} {Q : VK} {X : XK} (h : SpN K mGoodL vs H Q X) : vs.length = 4 := h.len (n := 4) (by intro ds R hm; repeat (first | (obtain ⟨rfl, _⟩ := hm; rfl) | (obtain ⟨_, hm⟩ := hm)))
theorem cal_law_is_good (T : Tx K mg) : Cal P w K mg base CX0 3 "_law_is_good" ["_law_form_here", "_law_clock_here", "_law_span_here", "_law_offset"] (SpN K mGoodL) :=
  T.d_law_is_good.cal sc_law_is_good (fun vs H Q E h => len_law_is_good h) (fun _ _ _ _ _ _ us hl => match us, hl with | [_, _, _, _], _ => rfl) (bod_law_is_good T)
end
open PySem PySem.Spec PyProof.Rows L2 Evl SB PL PW
section
variable {P : Program} {w : World} {K : PySem.W.Frag} {mg : Str → Option Value} {base : Heap}
def mBetw : Mn := fun ds R => ∃ as bs : List Int, ∃ lo hi : Int, ds = [.list (dI as), .list (dI bs)] ∧ Mx as lo ∧ Mi bs hi ∧ R (optP lo hi)
theorem bod_law_between (T : Tx K mg) : Bod P w K mg base CX0 0 "_law_between" s_law_between ["_law_least", "_law_greatest"] (SpN K mBetw) := by
  refine fun f cdv A outer s H vs Q E hr h => ⟨_, (pss_cons (ps_if (pt_p (pt_cmpR op_gt (pe_callB (cr_max rfl) (by rfl) T.b_max (by decide +kernel) (pa_cons (pv 0) pa_nil)) (pe_callB (cr_min rfl) (by rfl) T.b_min (by decide +kernel) (pa_cons (pv 1) pa_nil)) (nomark _))) (pss_one (ps_ret (pe_p pe_non))) pss_nil)
      (pss_one (ps_ret (pe_p (pe_tup (pa_cons (pe_callB (cr_max rfl) (by rfl) T.b_max (by decide +kernel) (pa_cons (pv 0) pa_nil)) (pa_cons (pe_callB (cr_min rfl) (by rfl) T.b_min (by decide +kernel) (pa_cons (pv 1) pa_nil)) pa_nil))))))), body_N ?_ h⟩
  rintro _ R ⟨as, bs, lo, hi, rfl, m1, m2, q⟩
  array_get_dec
  · rw [show optP lo hi = .none from if_neg (by omega)] at q
    exact q
  array_get_dec
  rw [show optP lo hi = .tuple [.int lo, .int hi] from if_pos (by omega)] at q
  exact q
theorem len_law_between {vs : List V} {H : Hp} {Q : VK} {X : XK} (h : SpN K mBetw vs H Q X) : vs.length = 2 := h.len (n := 2) (by intro ds R hm; repeat (first | (obtain ⟨rfl, _⟩ := hm; rfl) | (obtain ⟨_, hm⟩ := hm)))
theorem cal_law_between (T : Tx K mg) : Cal P w K mg base CX0 1 "_law_between" ["_law_least", "_law_greatest"] (SpN K mBetw) :=
  T.d_law_between.cal sc_law_between (fun vs H Q E h => len_law_between h) (fun _ _ _ _ _ _ us hl => match us, hl with | [_, _], _ => rfl) (bod_law_between T)
section
variable (g w st x : Int) (l : List Tr)
def rk0 : List Int := 1 :: (l.filter fun r => decide (0 < r.1)).map fun r => ceilI (r.2.1 * x) (w + st * r.1)
def rk1 : List Int := l.map fun r => r.2.2 * x / (w + st * r.1 + 1)
def rk2 : List Int := 0 :: (l.filter fun r => decide (0 < r.1)).map fun r => ceilI (r.2.1 * x) g - st * r.1
def rk3 : List Int := l.map fun r => r.2.2 * x / g - 1 - st * r.1
def rk4 : List Int := 1 :: (l.filter fun r => decide (0 < r.1)).map fun r => ceilI (ceilI (r.2.1 * x) g - w) r.1
def rk5 : List Int := (l.filter fun r => decide (0 < r.1)).map fun r => (r.2.2 * x / g - 1 - w) / r.1
end
theorem rk_pos {g w st x : Int} {pre : List Tr} (r : Tr) (h : 0 < r.1) : [dI (rk0 w st x (pre ++ [r])), dI (rk1 w st x (pre ++ [r])), dI (rk2 g st x (pre ++ [r])), dI (rk3 g st x (pre ++ [r])), dI (rk4 g w x (pre ++ [r])), dI (rk5 g w x (pre ++ [r]))] =
    [dI (rk0 w st x pre) ++ [.int (ceilI (r.2.1 * x) (w + st * r.1))], dI (rk1 w st x pre) ++ [.int (r.2.2 * x / (w + st * r.1 + 1))], dI (rk2 g st x pre) ++ [.int (ceilI (r.2.1 * x) g - st * r.1)], dI (rk3 g st x pre) ++ [.int (r.2.2 * x / g - 1 - st * r.1)], dI (rk4 g w x pre) ++ [.int (ceilI (ceilI (r.2.1 * x) g - w) r.1)], dI (rk5 g w x pre) ++ [.int ((r.2.2 * x / g - 1 - w) / r.1)]] := by
  simp [rk0, rk1, rk2, rk3, rk4, rk5, dI, List.filter_append, h]
theorem rk_neg {g w st x : Int} {pre : List Tr} (r : Tr) (h : ¬ 0 < r.1) : [dI (rk0 w st x (pre ++ [r])), dI (rk1 w st x (pre ++ [r])), dI (rk2 g st x (pre ++ [r])), dI (rk3 g st x (pre ++ [r])), dI (rk4 g w x (pre ++ [r])), dI (rk5 g w x (pre ++ [r]))] =
    [dI (rk0 w st x pre), dI (rk1 w st x pre) ++ [.int (r.2.2 * x / (w + st * r.1 + 1))], dI (rk2 g st x pre), dI (rk3 g st x pre) ++ [.int (r.2.2 * x / g - 1 - st * r.1)], dI (rk4 g w x pre), dI (rk5 g w x pre)] := by
  simp [rk0, rk1, rk2, rk3, rk4, rk5, dI, List.filter_append, h]
def mReck : Mo := fun ds R => ∃ b p s, ∃ (g w st x lg hg lw hw ls hs : Int), ds = [shD b p s, rcD g w st, .int x] ∧ ShOk b s ∧ RcOk g w st ∧ 1 ≤ x ∧ x < 2 ^ 200 ∧
  Mx (rk0 w st x (winT (sz b p s) s)) lg ∧ Mi (rk1 w st x (winT (sz b p s) s)) hg ∧ Mx (rk2 g st x (winT (sz b p s) s)) lw ∧ Mi (rk3 g st x (winT (sz b p s) s)) hw ∧
  Mx (rk4 g w x (winT (sz b p s) s)) ls ∧ Mi (rk5 g w x (winT (sz b p s) s) ++ if x < g * (w + 1) then [0] else []) hs ∧ R [optP lg hg, optP lw hw, optP ls hs]
theorem bod_law_reckoned (T : Tx K mg) : Bod P w K mg base CX0 2 "_law_reckoned" s_law_reckoned ["_law_form_here", "_law_clock_here", "_law_span_here", "_law_grid", "_law_pause", "_law_stride", "_law_grains", "_law_waits", "_law_steps", "_law_place", "_law_first", "_law_last", "_law_early", "_law_rows_here"] (SpO K mReck) := by
  have c_law_rows := cal_law_rows (P := P) (w := w) (base := base) T
  have c_law_between := cal_law_between (P := P) (w := w) (base := base) T
  refine fun f cdv A outer s H vs Q E hr h => ⟨_, (pss_cons (ps_asg (pe_p (pv 1)) (pg_tup rfl (pgs_cons (pg_name (i := 3) sc_law_reckoned.nd rfl (Or.inl rfl)) (pgs_cons (pg_name (i := 4) sc_law_reckoned.nd rfl (Or.inl rfl)) (pgs_cons (pg_name (i := 5) sc_law_reckoned.nd rfl (Or.inl rfl)) pgs_nil)))))
      (PL.pss_stop (ps_par3 (i := 6) (j := 7) (l := 8) (by rfl) sc_law_reckoned.nd rfl rfl rfl (by decide) (by decide) (by decide) rfl rfl rfl (pa_cons (pe_p (pe_lst (pa_cons (pe_lst (pa_cons pe_int pa_nil)) (pa_cons (pe_lst pa_nil) pa_nil)))) (pa_cons (pe_p (pe_lst (pa_cons (pe_lst (pa_cons pe_int pa_nil)) (pa_cons (pe_lst pa_nil) pa_nil)))) (pa_cons (pe_p (pe_lst (pa_cons (pe_lst (pa_cons pe_int pa_nil)) (pa_cons (pe_lst pa_nil) pa_nil)))) pa_nil))) (by rfl))
      (pss_cons (ps_for PassesOwn.never rfl (pi_list (pe_cal c_law_rows (hr.mono (by decide)) pass0 (pa_cons (pv 0) pa_nil))) (pg_tup rfl (pgs_cons (pg_name (i := 9) sc_law_reckoned.nd rfl (Or.inl rfl)) (pgs_cons (pg_name (i := 10) sc_law_reckoned.nd rfl (Or.inl rfl)) (pgs_cons (pg_name (i := 11) sc_law_reckoned.nd rfl (Or.inl rfl)) pgs_nil)))) (pss_cons (ps_expr (pe_bm PySem.F.plainAttrs_list PySem.F.slot_list_append PySem.F.type_list_append mt_append (pe_p (pe_ix ix_list (pv 6) pe_int (fun _ _ => rfl))) (pa_cons (pe_p (pe_op op_fdivW (pe_op op_mulW (pv 2) (pv 11)) (pe_op op_add (pe_op op_add (pv 4) (pe_op op_mulW (pv 5) (pv 9))) pe_int))) pa_nil)))
      (pss_cons (ps_expr (pe_bm PySem.F.plainAttrs_list PySem.F.slot_list_append PySem.F.type_list_append mt_append (pe_p (pe_ix ix_list (pv 7) pe_int (fun _ _ => rfl))) (pa_cons (pe_p (pe_op op_sub (pe_op op_sub (pe_op op_fdivW (pe_op op_mulW (pv 2) (pv 11)) (pv 3)) pe_int) (pe_op op_mulW (pv 5) (pv 9)))) pa_nil)))
      (pss_one (ps_if (pt_p (pt_cmpR op_gt (pv 9) pe_int (nomark _))) (pss_cons (ps_set (i := 12) sc_law_reckoned.nd rfl (Or.inl rfl) (pe_p (pe_un un_neg (pe_op op_fdivW (pe_op op_mulW (pe_un un_neg (pv 2)) (pv 10)) (pv 3)))))
      (pss_cons (ps_expr (pe_bm PySem.F.plainAttrs_list PySem.F.slot_list_append PySem.F.type_list_append mt_append (pe_p (pe_ix ix_list (pv 6) pe_int (fun _ _ => rfl))) (pa_cons (pe_p (pe_un un_neg (pe_op op_fdivW (pe_op op_mulW (pe_un un_neg (pv 2)) (pv 10)) (pe_op op_add (pv 4) (pe_op op_mulW (pv 5) (pv 9)))))) pa_nil)))
      (pss_cons (ps_expr (pe_bm PySem.F.plainAttrs_list PySem.F.slot_list_append PySem.F.type_list_append mt_append (pe_p (pe_ix ix_list (pv 7) pe_int (fun _ _ => rfl))) (pa_cons (pe_p (pe_op op_sub (pv 12) (pe_op op_mulW (pv 5) (pv 9)))) pa_nil)))
      (pss_cons (ps_expr (pe_bm PySem.F.plainAttrs_list PySem.F.slot_list_append PySem.F.type_list_append mt_append (pe_p (pe_ix ix_list (pv 8) pe_int (fun _ _ => rfl))) (pa_cons (pe_p (pe_un un_neg (pe_op op_fdivW (pe_un un_neg (pe_op op_sub (pv 12) (pv 4))) (pv 9)))) pa_nil)))
      (pss_one (ps_expr (pe_bm PySem.F.plainAttrs_list PySem.F.slot_list_append PySem.F.type_list_append mt_append (pe_p (pe_ix ix_list (pv 8) pe_int (fun _ _ => rfl))) (pa_cons (pe_p (pe_op op_fdivW (pe_op op_sub (pe_op op_sub (pe_op op_fdivW (pe_op op_mulW (pv 2) (pv 11)) (pv 3)) pe_int) (pv 4)) (pv 9))) pa_nil)))))))) pss_nil)))))
      (pss_cons (ps_if (pt_p (pt_cmpR op_gt (pe_op op_mulW (pv 3) (pe_op op_add (pv 4) pe_int)) (pv 2) (nomark _))) (pss_one (ps_expr (pe_bm PySem.F.plainAttrs_list PySem.F.slot_list_append PySem.F.type_list_append mt_append (pe_p (pe_ix ix_list (pv 8) pe_int (fun _ _ => rfl))) (pa_cons (pe_p pe_int) pa_nil)))) pss_nil)
      (pss_one (ps_retO (ps_ret (pe_p (pe_lc rfl sc_law_reckoned.nd (pi_tup (pe_tup (pa_cons (pv 6) (pa_cons (pv 7) (pa_cons (pv 8) pa_nil))))) (blkOk_by (own := [("_law_rows_here", 13)]) (N := ["_law_form_here", "_law_clock_here", "_law_span_here", "_law_grid", "_law_pause", "_law_stride", "_law_grains", "_law_waits", "_law_steps", "_law_place", "_law_first", "_law_last", "_law_early", "_law_rows_here"]) (sc := defScope s_law_reckoned) (by decide +kernel)) (fun _ _ _ _ _ => (pg_name (i := 13) sc_law_reckoned.nd rfl (Or.inl rfl))) (fun _ _ _ _ _ => pts_nil) (fun _ _ _ _ _ => (pe_cal c_law_between (hr.mono (by decide)) pass0 (pa_cons (pe_ix (ixL_K (K0 := K) rfl) (pv 13) pe_int (fun _ _ => rfl)) (pa_cons (pe_ix (ixL_K (K0 := K) rfl) (pv 13) pe_int (fun _ _ => rfl)) pa_nil))))))))))))), body_O ?_ h⟩
  rintro _ R ⟨b, p, s, g, w, st, x, lg, hg, lw, hw, ls, hs, rfl, ok, rok, x1, x2, m0, m1, m2, m3, m4, m5, q⟩
  have z := sz_bd' (p := p) ok
  obtain ⟨r1, r2, r3, r4, r5, r6⟩ := id rok
  have stb : ∀ k : Nat, k ≤ 13 → 0 ≤ st * (k : Int) ∧ st * (k : Int) < 2 ^ 110 ∧ (0 < (k : Int) → 1 ≤ st * (k : Int)) := fun k hk => ⟨Int.mul_nonneg (by omega) (by omega), by
    have : st * (k : Int) ≤ st * 13 := Int.mul_le_mul_of_nonneg_left (by omega) (by omega)
    omega, fun h => by
    have : 1 * 1 ≤ st * (k : Int) := Int.mul_le_mul (by omega) (by omega) (by omega) (by omega)
    omega⟩
  have hwn := winT_len (n := sz b p s) (s := s) (by omega)
  array_get_dec
  refine xn_new3 (a0 := [.int 1]) (a1 := []) (b0 := [.int 0]) (b1 := []) (c0 := [.int 1]) (c1 := []) rfl (en2 ?_ ?_) (en2 ?_ ?_) (en2 ?_ ?_) fun A B C => ?_
  · array_get_dec
  · array_get_dec
  · array_get_dec
  · array_get_dec
  · array_get_dec
  · array_get_dec
  dsimp only [List.set]
  refine xn_seq (xn_for ?_)
  array_get_dec
  refine w_e (e_var rfl) ?_
  array_get_dec
  refine ⟨rfl, kn_for t3D (winT (sz b p s) s) (fun pre dss ρ => dss = [dI (rk0 w st x pre), dI (rk1 w st x pre), dI (rk2 g st x pre), dI (rk3 g st x pre), dI (rk4 g w x pre), dI (rk5 g w x pre)] ∧ ∃ s9 s10 s11 s12, ρ = [.sh (shD b p s), .sh (rcD g w st), .sh (.int x), .sh (.int g), .sh (.int w), .sh (.int st), .xo A none, .xo B none, .xo C none, s9, s10, s11, s12, .un]) ⟨rfl, _, _, _, _, rfl⟩ ?_ ?_⟩
  · rintro pre r post _ _ hl hp ⟨rfl, s9, s10, s11, s12, rfl⟩
    have hpl : pre.length < 14 := by
      have := congrArg List.length hl
      rw [hwn, List.length_append, List.length_cons] at this
      omega
    obtain ⟨k, f, l, rfl, k1, k2⟩ := winT_mem z.1 (show r ∈ winT (sz b p s) s by rw [hl]; simp)
    have stk := stb k (by omega)
    have hf := List.length_filter_le (fun r : Tr => decide (0 < r.1)) pre
    have e1 : -x * (f : Int) = -((f : Int) * x) := by rw [Int.neg_mul, Int.mul_comm]
    have e2 : x * (l : Int) = (l : Int) * x := Int.mul_comm _ _
    have hp12 : pn s12 = true := List.all_eq_true.mp hp s12 (by simp)
    refine g_tup (gs_cons (g_name (gs_cons (g_name (gs_cons (g_name (gs_nil ?_)))))))
    dsimp only [List.set]
    refine ⟨(by simp only [pln_cons, pln_nil, pn_sh, pn_xo, pn_un, hp12, and_self]), ?_⟩
    refine xn_seq (xn_app (nix rfl (.head _) (.inr ⟨rfl, rfl⟩)) rfl (by simp [rk1, dI]; omega) ?_)
    array_get_dec
    refine ⟨(by simp only [pln_cons, pln_nil, pn_sh, pn_xo, pn_un, hp12, and_self]), ?_⟩
    refine xn_seq (xn_app (nix rfl (.tail _ (.head _)) (.inr ⟨rfl, rfl⟩)) rfl (by simp [rk3, dI]; omega) ?_)
    array_get_dec
    refine ⟨(by simp only [pln_cons, pln_nil, pn_sh, pn_xo, pn_un, hp12, and_self]), ?_⟩
    refine xn_ifW ?_
    array_get_dec
    · refine ⟨(by simp only [pln_cons, pln_nil, pn_sh, pn_xo, pn_un, hp12, and_self]), fun h => ?_, fun h => ?_⟩
      · have hk : 0 < (k : Int) := by simpa using h
        have stk1 := stk.2.2 hk
        refine xn_seq (xn_of fun _ => ?_)
        array_get_dec
        refine ⟨(by simp only [pln_cons, pln_nil, pn_sh, pn_xo, pn_un, hp12, and_self]), ?_⟩
        refine xn_seq (xn_app (nix rfl (.head _) (.inl ⟨rfl, rfl⟩)) rfl (by simp [rk0, dI]; omega) ?_)
        array_get_dec
        refine ⟨(by simp only [pln_cons, pln_nil, pn_sh, pn_xo, pn_un, hp12, and_self]), ?_⟩
        refine xn_seq (xn_app (nix rfl (.tail _ (.head _)) (.inl ⟨rfl, rfl⟩)) rfl (by simp [rk2, dI]; omega) ?_)
        array_get_dec
        refine ⟨(by simp only [pln_cons, pln_nil, pn_sh, pn_xo, pn_un, hp12, and_self]), ?_⟩
        refine xn_seq (xn_app (nix rfl (.tail _ (.tail _ (.head _))) (.inl ⟨rfl, rfl⟩)) rfl (by simp [rk4, dI]; omega) ?_)
        array_get_dec
        refine ⟨(by simp only [pln_cons, pln_nil, pn_sh, pn_xo, pn_un, hp12, and_self]), ?_⟩
        refine xn_app (nix rfl (.tail _ (.tail _ (.head _))) (.inr ⟨rfl, rfl⟩)) rfl (by simp [rk5, dI]; omega) ?_
        array_get_dec
        refine ⟨(by simp only [pln_cons, pln_nil, pn_sh, pn_xo, pn_un, hp12, and_self]), ?_⟩
        rw [rk_pos _ hk, e1, e2]
        exact ⟨rfl, _, _, _, _, rfl⟩
      · have hk : ¬ 0 < (k : Int) := by simpa using h
        refine xn_nil ?_
        rw [rk_neg _ hk, e2]
        exact ⟨rfl, _, _, _, _, rfl⟩
  · rintro _ ρ hp ⟨rfl, s9, s10, s11, s12, rfl⟩
    have hpn : Pln [s9, s10, s11, s12] := by
      simp only [pln_cons, pln_nil, pn_sh, pn_xo, pn_un, true_and, and_true] at hp ⊢
      exact hp
    have hp12 := pln_cons.mp hpn
    have hf := List.length_filter_le (fun r : Tr => decide (0 < r.1)) (winT (sz b p s) s)
    refine xn_cut (fun dss ρ => dss = [dI (rk0 w st x (winT (sz b p s) s)), dI (rk1 w st x (winT (sz b p s) s)), dI (rk2 g st x (winT (sz b p s) s)), dI (rk3 g st x (winT (sz b p s) s)), dI (rk4 g w x (winT (sz b p s) s)), dI (rk5 g w x (winT (sz b p s) s) ++ if x < g * (w + 1) then [0] else [])] ∧ ρ = [.sh (shD b p s), .sh (rcD g w st), .sh (.int x), .sh (.int g), .sh (.int w), .sh (.int st), .xo A none, .xo B none, .xo C none, s9, s10, s11, s12, .un]) ?_ ?_
    · refine xn_ifW ?_
      array_get_dec
      refine ⟨hp, fun h => ?_, fun h => ?_⟩
      · have hx : x < g * (w + 1) := by simpa using h
        refine xn_app (nix rfl (.tail _ (.tail _ (.head _))) (.inr ⟨rfl, rfl⟩)) rfl (by simp [rk5, dI]; omega) ?_
        array_get_dec
        refine ⟨hp, ?_, rfl⟩
        rw [if_pos hx]
        simp [dI]
      · have hx : ¬ x < g * (w + 1) := by simpa using h
        refine xn_nil ⟨?_, rfl⟩
        rw [if_neg hx]
        simp [dI]
    rintro _ _ ⟨rfl, rfl⟩
    refine xn_fin (is := [(6, 0, 1), (7, 2, 3), (8, 4, 5)]) ?_ ?_
    · intro y hy
      simp only [List.mem_cons, List.not_mem_nil, or_false] at hy
      rcases hy with rfl | rfl | rfl
      · exact ⟨A, rfl, .head _⟩
      · exact ⟨B, rfl, .tail _ (.head _)⟩
      · exact ⟨C, rfl, .tail _ (.tail _ (.head _))⟩
    simp only [frzN, List.set, List.getD_cons_zero, List.getD_cons_succ]
    array_get_dec
    · apply lcM (l := [(rk0 w st x (winT (sz b p s) s), rk1 w st x (winT (sz b p s) s), lg, hg), (rk2 g st x (winT (sz b p s) s), rk3 g st x (winT (sz b p s) s), lw, hw), (rk4 g w x (winT (sz b p s) s), (rk5 g w x (winT (sz b p s) s) ++ if x < g * (w + 1) then [0] else []), ls, hs)]) (enc := fun t : List Int × List Int × Int × Int => PyData.list [.list (dI t.1), .list (dI t.2.1)]) (fun t => optP t.2.2.1 t.2.2.2)
      array_get_dec
      intro t ht
      have hm : Mx t.1 t.2.2.1 ∧ Mi t.2.1 t.2.2.2 := by
        simp only [List.mem_cons, List.not_mem_nil, or_false] at ht
        rcases ht with rfl | rfl | rfl
        · exact ⟨m0, m1⟩
        · exact ⟨m2, m3⟩
        · exact ⟨m4, m5⟩
      obtain ⟨as, bs, lo, hi⟩ := t
      obtain ⟨hm1, hm2⟩ := hm
      dsimp only at hm1 hm2 ⊢
      array_get_dec
    exact q
theorem len_law_reckoned {vs : List V} {H : Hp} {Q : VK} {X : XK} (h : SpO K mReck vs H Q X) : vs.length = 3 := h.len (n := 3) (by intro ds R hm; repeat (first | (obtain ⟨rfl, _⟩ := hm; rfl) | (obtain ⟨_, hm⟩ := hm)))
theorem cal_law_reckoned (T : Tx K mg) : Cal P w K mg base CX0 3 "_law_reckoned" ["_law_form_here", "_law_clock_here", "_law_span_here"] (SpO K mReck) :=
  T.d_law_reckoned.cal sc_law_reckoned (fun vs H Q E h => len_law_reckoned h) (fun _ _ _ _ _ _ us hl => match us, hl with | [_, _, _], _ => rfl) (bod_law_reckoned T)
end
open PySem PySem.Spec PyProof.Rows L2 Evl SB PL PW
section
variable {P : Program} {w : World} {K : PySem.W.Frag} {mg : Str → Option Value} {base : Heap}
def FineP (n s : Nat) (g w st x : Int) : Prop := ∀ r ∈ winT n s, r.2.1 * x ≤ g * (w + st * r.1) ∧ g * (w + st * r.1 + 1) ≤ r.2.2 * x
instance (n s : Nat) (g w st x : Int) : Decidable (FineP n s g w st x) := by unfold FineP; infer_instance
theorem fineP_iff {n s : Nat} {g w st x : Int} (hg : 1 ≤ g) : FineP n s g w st x ↔ ∀ i : Nat, i < g.toNat → goodT n s g w st x i = true := by
  have rw1 : ∀ (r : Tr) (o : Int), rowG g w st x o r = true ↔ x * r.2.1 ≤ o + g * (w + st * r.1) ∧ o + g * (w + st * r.1) < x * r.2.2 := fun r o => by
    unfold rowG
    rw [Bool.and_eq_true, decide_eq_true_eq, decide_eq_true_eq]
  have rwA : ∀ o : Int, goodT n s g w st x o = true ↔ ∀ r ∈ winT n s, x * r.2.1 ≤ o + g * (w + st * r.1) ∧ o + g * (w + st * r.1) < x * r.2.2 := fun o => by
    unfold goodT
    rw [List.all_eq_true]
    exact ⟨fun h r hr => (rw1 r o).mp (h r hr), fun h r hr => (rw1 r o).mpr (h r hr)⟩
  constructor
  · intro h i hi
    rw [rwA]
    intro r hr
    obtain ⟨a, b⟩ := h r hr
    rw [Int.mul_add, Int.mul_one] at b
    rw [Int.mul_comm x, Int.mul_comm x]
    omega
  · intro h r hr
    have a := ((rwA _).mp (h 0 (by omega)) r hr).1
    have b := ((rwA _).mp (h (g.toNat - 1) (by omega)) r hr).2
    rw [Int.mul_comm x] at a b
    have e : g * (w + st * r.1 + 1) = g * (w + st * r.1) + g := by rw [Int.mul_add, Int.mul_one]
    rw [e]
    have : ((g.toNat - 1 : Nat) : Int) = g - 1 := by omega
    rw [this] at b
    constructor <;> omega
def mFine : Mn := fun ds R => ∃ b p s, ∃ g w st x : Int, ds = [shD b p s, rcD g w st, .int x] ∧ ShOk b s ∧ RcOk g w st ∧ g < 2 ^ 60 ∧ 1 ≤ x ∧ x < 2 ^ 200 ∧ R (.bool (decide (FineP (sz b p s) s g w st x)))
theorem bod_law_is_fine (T : Tx K mg) : Bod P w K mg base CX0 3 "_law_is_fine" s_law_is_fine ["_law_form_here", "_law_clock_here", "_law_span_here", "_law_offset"] (SpN K mFine) := by
  have c_law_is_good := cal_law_is_good (P := P) (w := w) (base := base) T
  refine fun f cdv A outer s H vs Q E hr h => ⟨_, (pss_cons (ps_for PassesOwn.never rfl (pi_range1 rfl T.b_range (pa_cons (pe_ix ix_tup (pv 1) pe_int (fun _ _ => rfl)) pa_nil)) (pg_name (i := 3) sc_law_is_fine.nd rfl (Or.inl rfl)) (pss_one (ps_if (pt_p (pt_not (pt_val (pe_cal c_law_is_good (hr.mono (by decide)) pass0 (pa_cons (pv 0) (pa_cons (pv 1) (pa_cons (pv 2) (pa_cons (pv 3) pa_nil)))))))) (pss_one (ps_ret (pe_p pe_bl))) pss_nil)))
      (pss_one (ps_ret (pe_p pe_bl)))), body_N ?_ h⟩
  rintro _ R ⟨b, p, s, g, w, st, x, rfl, ok, rok, g3, x1, x2, q⟩
  have g1 := rok.1
  array_get_dec
  refine k_for (fun i : Nat => PyData.int (i : Int)) (List.range g.toNat) (fun pre ρ => (∀ i ∈ pre, goodT (sz b p s) s g w st x (i : Nat) = true) ∧ ∃ s3, ρ = [.sh (shD b p s), .sh (rcD g w st), .sh (.int x), s3]) ⟨fun i hi => absurd hi (by simp), _, rfl⟩ ?_ ?_
  · rintro pre i post _ hl ⟨hk, s3, rfl⟩
    obtain ⟨hi, hp⟩ := range_at hl
    array_get_dec
    · have : ¬ FineP (sz b p s) s g w st x := fun f => by
        have := (fineP_iff g1).mp f i (by omega)
        rw [this] at h
        simp at h
      rw [decide_eq_false this] at q
      exact q
    · array_get_dec
      refine ⟨fun j hj => ?_, _, rfl⟩
      rcases List.mem_append.mp hj with hj | hj
      · exact hk j hj
      · rw [List.mem_singleton.mp hj]
        simpa using h
  rintro _ ⟨hk, s3, rfl⟩
  array_get_dec
  have : FineP (sz b p s) s g w st x := (fineP_iff g1).mpr fun i hi => hk i (List.mem_range.mpr hi)
  rw [decide_eq_true this] at q
  exact q
theorem len_law_is_fine {vs : List V} {H : Hp} {Q : VK} {X : XK} (h : SpN K mFine vs H Q X) : vs.length = 3 := h.len (n := 3) (by intro ds R hm; repeat (first | (obtain ⟨rfl, _⟩ := hm; rfl) | (obtain ⟨_, hm⟩ := hm)))
theorem cal_law_is_fine (T : Tx K mg) : Cal P w K mg base CX0 4 "_law_is_fine" ["_law_form_here", "_law_clock_here", "_law_span_here"] (SpN K mFine) :=
  T.d_law_is_fine.cal sc_law_is_fine (fun vs H Q E h => len_law_is_fine h) (fun _ _ _ _ _ _ us hl => match us, hl with | [_, _, _], _ => rfl) (bod_law_is_fine T)
def ivl (lo hi : Int) : List Int := (List.range (hi + 1 - lo).toNat).map fun i : Nat => lo + (i : Int)
theorem ivl_nil {lo hi : Int} (h : hi < lo) : ivl lo hi = [] := by
  unfold ivl
  rw [show (hi + 1 - lo).toNat = 0 by omega]
  rfl
theorem ivl_snoc {lo hi : Int} (h : lo ≤ hi) : ivl lo hi = ivl lo (hi - 1) ++ [hi] := by
  unfold ivl
  rw [show (hi + 1 - lo).toNat = (hi - 1 + 1 - lo).toNat + 1 by omega, List.range_succ, List.map_append]
  simp
  omega
theorem ivl_cons {lo hi : Int} (h : lo ≤ hi) : ivl lo hi = lo :: (List.range (hi - lo).toNat).map fun i : Nat => lo + 1 + (i : Int) := by
  unfold ivl
  rw [show (hi + 1 - lo).toNat = (hi - lo).toNat + 1 by omega, List.range_succ_eq_map, List.map_cons, List.map_map]
  congr 1
  · simp
  · apply List.map_congr_left
    intro i hi
    simp
    omega
theorem ivl_filter {P : Int → Prop} [DecidablePred P] {a lo hi : Int} (h0 : a ≤ lo) : ∀ N : Nat, (∀ i : Nat, i < N → (P (a + i) ↔ lo ≤ a + i ∧ a + i ≤ hi)) →
    ((List.range N).filter fun i : Nat => decide (P (a + (i : Int)))).map (fun i : Nat => a + (i : Int)) = ivl lo (if hi < a + N then hi else a + N - 1)
  | 0, _ => by
    rw [ivl_nil (by split <;> omega)]
    rfl
  | N + 1, h => by
    have ih := ivl_filter h0 N fun i hi => h i (by omega)
    rw [List.range_succ, List.filter_append, List.map_append, ih]
    have hN := h N (by omega)
    by_cases c : P (a + N)
    · obtain ⟨c1, c2⟩ := hN.mp c
      rw [List.filter_cons_of_pos (by simpa using c), if_neg (by omega), show (if hi < a + ((N + 1 : Nat) : Int) then hi else a + ((N + 1 : Nat) : Int) - 1) = a + N by split <;> omega, ivl_snoc (lo := lo) (hi := a + N) c1]
      rfl
    · rw [List.filter_cons_of_neg (by simpa using c)]
      have : ¬ (lo ≤ a + N ∧ a + N ≤ hi) := fun z => c (hN.mpr z)
      rw [List.filter_nil, List.map_nil, List.append_nil]
      by_cases d : lo ≤ a + N
      · congr 1
        split <;> split <;> omega
      · rw [ivl_nil (by split <;> omega), ivl_nil (by split <;> omega)]
theorem ivl_len (lo hi : Int) : (ivl lo hi).length = (hi + 1 - lo).toNat := by simp [ivl]
def mEnds : Mn := fun ds R => ∃ lo hi : Int, ds = [.list (dI (ivl lo hi))] ∧ R (optP lo hi)
theorem bod_law_ends (T : Tx K mg) : Bod P w K mg base CX0 0 "_law_ends" s_law_ends ["_law_numbers"] (SpN K mEnds) := by
  refine fun f cdv A outer s H vs Q E hr h => ⟨_, (pss_cons (ps_if (pt_p (pt_cmpR (op_eqD hr.units) (pv 0) (pe_lst pa_nil) (nomark _))) (pss_one (ps_ret (pe_p pe_non))) pss_nil)
      (pss_one (ps_ret (pe_p (pe_tup (pa_cons (pe_ix ix_list (pv 0) pe_int (fun _ _ => rfl)) (pa_cons (pe_ix ix_list (pv 0) (pe_un un_neg pe_int) (fun _ _ => rfl)) pa_nil))))))), body_N ?_ h⟩
  rintro _ R ⟨lo, hi, rfl, q⟩
  by_cases c : lo ≤ hi
  · have a0 : atI (dI (ivl lo hi)) 0 = some (.int lo) := by
      rw [ivl_cons c]
      exact PL.atI_zero (.int lo) (dI _)
    have a1 : atI (dI (ivl lo hi)) (-1) = some (.int hi) := by
      rw [ivl_snoc c, dI_app]
      exact PL.atI_last _ _
    have ne : dI (ivl lo hi) ≠ [] := by
      rw [ivl_cons c]
      exact fun z => nomatch z
    rw [optP_pos c] at q
    array_get_dec
    · rw [eqv_nil] at h
      exact absurd (List.isEmpty_iff.mp h) (fun z => ne (by rw [z]; rfl))
    array_get_dec
    exact q
  · rw [ivl_nil (by omega)]
    rw [show optP lo hi = .none from if_neg c] at q
    array_get_dec
    · exact q
    · rw [eqv_nil] at h
      cases h
theorem len_law_ends {vs : List V} {H : Hp} {Q : VK} {X : XK} (h : SpN K mEnds vs H Q X) : vs.length = 1 := h.len (n := 1) (by intro ds R hm; repeat (first | (obtain ⟨rfl, _⟩ := hm; rfl) | (obtain ⟨_, hm⟩ := hm)))
theorem cal_law_ends (T : Tx K mg) : Cal P w K mg base CX0 1 "_law_ends" ["_law_numbers"] (SpN K mEnds) :=
  T.d_law_ends.cal sc_law_ends (fun vs H Q E h => len_law_ends h) (fun _ _ _ _ _ _ us hl => match us, hl with | [_], _ => rfl) (bod_law_ends T)
end
open PySem PySem.Spec PyProof.Rows L2 Evl SB PL PW
section
variable {P : Program} {w : World} {K : PySem.W.Frag} {mg : Str → Option Value} {base : Heap}
/-- what the three stretches are -/
structure Trd (n s : Nat) (g w st x lg hg lw hw ls hs : Int) : Prop where
  a : Mx (rk0 w st x (winT n s)) lg
  b : Mi (rk1 w st x (winT n s)) hg
  c : Mx (rk2 g st x (winT n s)) lw
  d : Mi (rk3 g st x (winT n s)) hw
  e : Mx (rk4 g w x (winT n s)) ls
  f : Mi (rk5 g w x (winT n s) ++ if x < g * (w + 1) then [0] else []) hs
section
variable {n s : Nat} {g w st x lg hg lw hw ls hs : Int}
theorem mem_fil {r : Tr} {l : List Tr} : r ∈ l.filter (fun r => decide (0 < r.1)) ↔ r ∈ l ∧ 0 < r.1 := by
  rw [List.mem_filter, decide_eq_true_eq]
theorem row_cases (h : s + 2 ≤ n) (hs : 1 ≤ s) {r : Tr} (hr : r ∈ winT n s) : (0 < r.1 ∧ 0 < r.2.1 ∧ r.2.1 ≤ r.1 ∧ 0 < r.2.2) ∨ r = (0, 0, 1) := by
  obtain ⟨p, f, l, rfl, k1, k2⟩ := winT_mem h hr
  rcases k2 with ⟨k2, rfl, rfl⟩ | ⟨k2, rfl, rfl⟩
  · by_cases c : f = 0
    · subst c
      exact .inr rfl
    · left
      dsimp only
      omega
  · left
    dsimp only
    omega
theorem trd_ex (h : s + 2 ≤ n) : ∃ lg hg lw hw ls hs, Trd n s g w st x lg hg lw hw ls hs := by
  have n0 := winT_ne h
  have n1 : (winT n s).filter (fun r => decide (0 < r.1)) ≠ [] := fun z => by
    have := mem_fil.mpr ⟨winT_one h, by decide⟩
    rw [z] at this
    cases this
  obtain ⟨lg, a⟩ := Mx.exists (L := rk0 w st x (winT n s)) (by simp [rk0])
  obtain ⟨hg, b⟩ := Mi.exists (L := rk1 w st x (winT n s)) (by simp [rk1]; exact n0)
  obtain ⟨lw, c⟩ := Mx.exists (L := rk2 g st x (winT n s)) (by simp [rk2])
  obtain ⟨hw, d⟩ := Mi.exists (L := rk3 g st x (winT n s)) (by simp [rk3]; exact n0)
  obtain ⟨ls, e⟩ := Mx.exists (L := rk4 g w x (winT n s)) (by simp [rk4])
  obtain ⟨hs, f⟩ := Mi.exists (L := rk5 g w x (winT n s) ++ if x < g * (w + 1) then [0] else []) (fun z => by
    obtain ⟨z1, _⟩ := List.append_eq_nil_iff.mp z
    unfold rk5 at z1
    exact n1 (List.map_eq_nil_iff.mp z1))
  exact ⟨lg, hg, lw, hw, ls, hs, a, b, c, d, e, f⟩
variable (h : s + 2 ≤ n) (h1 : 1 ≤ s) (T : Trd n s g w st x lg hg lw hw ls hs)
include h h1 T
theorem Trd.fg (w0 : 0 ≤ w) (s1 : 1 ≤ st) {i : Int} (hi : 1 ≤ i) : FineP n s i w st x ↔ lg ≤ i ∧ i ≤ hg := by
  rw [mx_le T.a, le_mi T.b]
  unfold rk0 rk1 FineP
  constructor
  · intro f
    refine ⟨fun a ha => ?_, fun a ha => ?_⟩
    · rcases List.mem_cons.mp ha with rfl | ha
      · exact hi
      obtain ⟨r, hr, rfl⟩ := List.mem_map.mp ha
      obtain ⟨hr, hp⟩ := mem_fil.mp hr
      have m : 0 ≤ st * r.1 := Int.mul_nonneg (by omega) (by omega)
      have m : 0 < st * r.1 := Int.mul_pos (by omega) hp
      exact (ceil_le (by omega)).mpr (f r hr).1
    · obtain ⟨r, hr, rfl⟩ := List.mem_map.mp ha
      have m : 0 ≤ st * r.1 := Int.mul_nonneg (by omega) (winT_nn h hr).1
      exact (Int.le_ediv_iff_mul_le (by omega)).mpr (f r hr).2
  · rintro ⟨f1, f2⟩ r hr
    have m : 0 ≤ st * r.1 := Int.mul_nonneg (by omega) (winT_nn h hr).1
    refine ⟨?_, (Int.le_ediv_iff_mul_le (by omega)).mp (f2 _ (List.mem_map.mpr ⟨r, hr, rfl⟩))⟩
    rcases row_cases h h1 hr with c | c
    · have m : 0 < st * r.1 := Int.mul_pos (by omega) c.1
      exact (ceil_le (by omega)).mp (f1 _ (List.mem_cons_of_mem _ (List.mem_map.mpr ⟨r, mem_fil.mpr ⟨hr, c.1⟩, rfl⟩)))
    · rw [c]
      show 0 * x ≤ i * (w + st * 0)
      rw [Int.zero_mul, Int.mul_zero, Int.add_zero]
      exact Int.mul_nonneg (by omega) w0
theorem Trd.fw (g1 : 1 ≤ g) {i : Int} (hi : 0 ≤ i) : FineP n s g i st x ↔ lw ≤ i ∧ i ≤ hw := by
  rw [mx_le T.c, le_mi T.d]
  unfold rk2 rk3 FineP
  have key : ∀ r : Tr, (ceilI (r.2.1 * x) g - st * r.1 ≤ i ↔ r.2.1 * x ≤ g * (i + st * r.1)) ∧ (i ≤ r.2.2 * x / g - 1 - st * r.1 ↔ g * (i + st * r.1 + 1) ≤ r.2.2 * x) := fun r => by
    have a := ceil_le (x := r.2.1 * x) (l := g) (y := i + st * r.1) (by omega)
    have b := Int.le_ediv_iff_mul_le (c := g) (a := i + st * r.1 + 1) (b := r.2.2 * x) (by omega)
    rw [Int.mul_comm g, Int.mul_comm g, ← a, ← b]
    constructor <;> constructor <;> omega
  constructor
  · intro f
    refine ⟨fun a ha => ?_, fun a ha => ?_⟩
    · rcases List.mem_cons.mp ha with rfl | ha
      · exact hi
      obtain ⟨r, hr, rfl⟩ := List.mem_map.mp ha
      exact (key r).1.mpr (f r (mem_fil.mp hr).1).1
    · obtain ⟨r, hr, rfl⟩ := List.mem_map.mp ha
      exact (key r).2.mpr (f r hr).2
  · rintro ⟨f1, f2⟩ r hr
    refine ⟨?_, (key r).2.mp (f2 _ (List.mem_map.mpr ⟨r, hr, rfl⟩))⟩
    rcases row_cases h h1 hr with c | c
    · exact (key r).1.mp (f1 _ (List.mem_cons_of_mem _ (List.mem_map.mpr ⟨r, mem_fil.mpr ⟨hr, c.1⟩, rfl⟩)))
    · rw [c]
      show 0 * x ≤ g * (i + st * 0)
      rw [Int.zero_mul, Int.mul_zero, Int.add_zero]
      exact Int.mul_nonneg (by omega) hi
theorem Trd.fs (g1 : 1 ≤ g) (w0 : 0 ≤ w) {i : Int} (hi : 1 ≤ i) : FineP n s g w i x ↔ ls ≤ i ∧ i ≤ hs := by
  rw [mx_le T.e, le_mi T.f]
  unfold rk4 rk5 FineP
  have key : ∀ r : Tr, 0 < r.1 → (ceilI (ceilI (r.2.1 * x) g - w) r.1 ≤ i ↔ r.2.1 * x ≤ g * (w + i * r.1)) ∧ (i ≤ (r.2.2 * x / g - 1 - w) / r.1 ↔ g * (w + i * r.1 + 1) ≤ r.2.2 * x) := fun r hr => by
    have a := ceil_le (x := r.2.1 * x) (l := g) (y := w + i * r.1) (by omega)
    have b := Int.le_ediv_iff_mul_le (c := g) (a := w + i * r.1 + 1) (b := r.2.2 * x) (by omega)
    have c := ceil_le (x := ceilI (r.2.1 * x) g - w) (l := r.1) (y := i) hr
    have d := Int.le_ediv_iff_mul_le (c := r.1) (a := i) (b := r.2.2 * x / g - 1 - w) hr
    rw [Int.mul_comm g, Int.mul_comm g, ← a, ← b, c, d]
    constructor <;> constructor <;> omega
  constructor
  · intro f
    refine ⟨fun a ha => ?_, fun a ha => ?_⟩
    · rcases List.mem_cons.mp ha with rfl | ha
      · exact hi
      obtain ⟨r, hr, rfl⟩ := List.mem_map.mp ha
      obtain ⟨hr, hp⟩ := mem_fil.mp hr
      exact (key r hp).1.mpr (f r hr).1
    · rcases List.mem_append.mp ha with ha | ha
      · obtain ⟨r, hr, rfl⟩ := List.mem_map.mp ha
        obtain ⟨hr, hp⟩ := mem_fil.mp hr
        exact (key r hp).2.mpr (f r hr).2
      · have z := (f _ (winT_zero h)).2
        dsimp only at z
        rw [Int.mul_zero, Int.add_zero, Int.one_mul] at z
        rw [if_neg (by omega)] at ha
        cases ha
  · rintro ⟨f1, f2⟩ r hr
    have zz : ¬ x < g * (w + 1) := fun z => by
      have := f2 0 (List.mem_append_right _ (by rw [if_pos z]; exact List.mem_singleton_self _))
      omega
    rcases row_cases h h1 hr with c | c
    · exact ⟨(key r c.1).1.mp (f1 _ (List.mem_cons_of_mem _ (List.mem_map.mpr ⟨r, mem_fil.mpr ⟨hr, c.1⟩, rfl⟩))), (key r c.1).2.mp (f2 _ (List.mem_append_left _ (List.mem_map.mpr ⟨r, mem_fil.mpr ⟨hr, c.1⟩, rfl⟩)))⟩
    · rw [c]
      show 0 * x ≤ g * (w + i * 0) ∧ g * (w + i * 0 + 1) ≤ 1 * x
      rw [Int.zero_mul, Int.mul_zero, Int.add_zero, Int.one_mul]
      exact ⟨Int.mul_nonneg (by omega) w0, by omega⟩
omit h h1 in
theorem Trd.lg1 : 1 ≤ lg := T.a.2 1 (List.mem_cons_self ..)
omit h h1 in
theorem Trd.lw0 : 0 ≤ lw := T.c.2 0 (List.mem_cons_self ..)
omit h h1 in
theorem Trd.ls1 : 1 ≤ ls := T.e.2 1 (List.mem_cons_self ..)
omit h1 in
theorem Trd.hgx : hg ≤ x / (w + 1) := by
  have := T.b.2 _ (List.mem_map.mpr ⟨_, winT_zero h, rfl⟩)
  dsimp only at this
  rwa [Int.one_mul, Int.mul_zero, Int.add_zero] at this
omit h1 in
theorem Trd.hwx : hw ≤ x / g - 1 := by
  have := T.d.2 _ (List.mem_map.mpr ⟨_, winT_zero h, rfl⟩)
  dsimp only at this
  rw [Int.one_mul, Int.mul_zero] at this
  omega
omit h1 in
theorem Trd.hsx (w0 : 0 ≤ w) : hs ≤ 2 * x / g := by
  have := T.f.2 _ (List.mem_append_left _ (List.mem_map.mpr ⟨_, mem_fil.mpr ⟨winT_one h, by decide⟩, rfl⟩))
  dsimp only at this
  rw [Int.ediv_one] at this
  omega
end
theorem fil_dI (P : Int → Prop) [DecidablePred P] {a lo hi : Int} (N : Nat) (h0 : a ≤ lo) (h1 : hi < a + N) (h : ∀ i : Nat, i < N → (P (a + i) ↔ lo ≤ a + i ∧ a + i ≤ hi)) :
    ((List.range N).filter fun i : Nat => decide (P (a + (i : Int)))).map (fun i : Nat => PyData.int (a + (i : Int))) = dI (ivl lo hi) := by
  have := ivl_filter h0 N h
  rw [if_pos h1] at this
  rw [← this]
  unfold dI
  rw [List.map_map]
  rfl
theorem fil_dI0 (P : Int → Prop) [DecidablePred P] {lo hi : Int} (N : Nat) (h0 : 0 ≤ lo) (h1 : hi < N) (h : ∀ i : Nat, i < N → (P i ↔ lo ≤ (i : Int) ∧ (i : Int) ≤ hi)) :
    ((List.range N).filter fun i : Nat => decide (P (i : Int))).map (fun i : Nat => PyData.int (i : Int)) = dI (ivl lo hi) := by
  have := fil_dI P (a := 0) (hi := hi) N h0 (by omega) fun i hi => by rw [Int.zero_add]; exact h i hi
  simp only [Int.zero_add] at this
  exact this
def mTried : Mo := fun ds R => ∃ b p s, ∃ (g w st x lg hg lw hw ls hs : Int), ds = [shD b p s, rcD g w st, .int x] ∧ ShOk b s ∧ RcOk g w st ∧ g < 2 ^ 60 ∧ 1 ≤ x ∧ x < 40000 ∧ Trd (sz b p s) s g w st x lg hg lw hw ls hs ∧ R [optP lg hg, optP lw hw, optP ls hs]
theorem bod_law_tried (T : Tx K mg) : Bod P w K mg base CX0 4 "_law_tried" s_law_tried ["_law_form_here", "_law_clock_here", "_law_span_here", "_law_grid", "_law_pause", "_law_stride", "_law_top", "_law_some", "_law_found", "_law_one"] (SpO K mTried) := by
  have c_law_ends := cal_law_ends (P := P) (w := w) (base := base) T
  have c_law_is_fine := cal_law_is_fine (P := P) (w := w) (base := base) T
  refine fun f cdv A outer s H vs Q E hr h => ⟨_, (pss_cons (ps_asg (pe_p (pv 1)) (pg_tup rfl (pgs_cons (pg_name (i := 3) sc_law_tried.nd rfl (Or.inr rfl)) (pgs_cons (pg_name (i := 4) sc_law_tried.nd rfl (Or.inr rfl)) (pgs_cons (pg_name (i := 5) sc_law_tried.nd rfl (Or.inr rfl)) pgs_nil)))))
      (pss_cons (ps_set (i := 6) sc_law_tried.nd rfl (Or.inl rfl) (pe_p (pe_op op_add (pe_op op_fdivW (pv 2) (pe_op op_add (pv 4) pe_int)) pe_int)))
      (pss_cons (ps_setLc (i := 7) rfl sc_law_tried.nd rfl rfl (sw_true rfl rfl rfl (by decide +kernel)) (pi_range2 rfl T.b_range (pa_cons pe_int (pa_cons (pv 6) pa_nil))) (blkOk_by (own := [("_law_one", 9)]) (N := ["_law_form_here", "_law_clock_here", "_law_span_here", "_law_grid", "_law_pause", "_law_stride", "_law_top", "_law_some", "_law_found", "_law_one"]) (sc := defScope s_law_tried) (by decide +kernel)) (fun _ _ _ _ _ => (pg_name (i := 9) sc_law_tried.nd rfl (Or.inl rfl))) (fun _ _ _ _ _ => (pts_one (pt_val (pe_cal c_law_is_fine (hr.mono (by decide)) pass0 (pa_cons (pv 0) (pa_cons (pe_tup (pa_cons (pv 9) (pa_cons (pv 4) (pa_cons (pv 5) pa_nil)))) (pa_cons (pv 2) pa_nil))))))) (fun _ _ _ _ _ => (pv 9)))
      (pss_cons (ps_own (ps_set (i := 8) sc_law_tried.nd rfl (Or.inl rfl) (pe_p (pe_lst (pa_cons (pe_cal c_law_ends (hr.mono (by decide)) pass0 (pa_cons (pv 7) pa_nil)) pa_nil)))))
      (pss_cons (ps_setLc (i := 7) rfl sc_law_tried.nd rfl rfl (sw_true rfl rfl rfl (by decide +kernel)) (pi_range1 rfl T.b_range (pa_cons (pe_op op_add (pe_op op_fdivW (pv 2) (pv 3)) pe_int) pa_nil)) (blkOk_by (own := [("_law_one", 9)]) (N := ["_law_form_here", "_law_clock_here", "_law_span_here", "_law_grid", "_law_pause", "_law_stride", "_law_top", "_law_some", "_law_found", "_law_one"]) (sc := defScope s_law_tried) (by decide +kernel)) (fun _ _ _ _ _ => (pg_name (i := 9) sc_law_tried.nd rfl (Or.inl rfl))) (fun _ _ _ _ _ => (pts_one (pt_val (pe_cal c_law_is_fine (hr.mono (by decide)) pass0 (pa_cons (pv 0) (pa_cons (pe_tup (pa_cons (pv 3) (pa_cons (pv 9) (pa_cons (pv 5) pa_nil)))) (pa_cons (pv 2) pa_nil))))))) (fun _ _ _ _ _ => (pv 9)))
      (pss_cons (ps_expr (pe_bm PySem.F.plainAttrs_list PySem.F.slot_list_append PySem.F.type_list_append mt_append (pv 8) (pa_cons (pe_p (pe_cal c_law_ends (hr.mono (by decide)) pass0 (pa_cons (pv 7) pa_nil))) pa_nil)))
      (pss_cons (ps_set (i := 6) sc_law_tried.nd rfl (Or.inl rfl) (pe_p (pe_op op_add (pe_op op_fdivW (pe_op op_mulW pe_int (pv 2)) (pv 3)) pe_int)))
      (pss_cons (ps_setLc (i := 7) rfl sc_law_tried.nd rfl rfl (sw_true rfl rfl rfl (by decide +kernel)) (pi_range2 rfl T.b_range (pa_cons pe_int (pa_cons (pv 6) pa_nil))) (blkOk_by (own := [("_law_one", 9)]) (N := ["_law_form_here", "_law_clock_here", "_law_span_here", "_law_grid", "_law_pause", "_law_stride", "_law_top", "_law_some", "_law_found", "_law_one"]) (sc := defScope s_law_tried) (by decide +kernel)) (fun _ _ _ _ _ => (pg_name (i := 9) sc_law_tried.nd rfl (Or.inl rfl))) (fun _ _ _ _ _ => (pts_one (pt_val (pe_cal c_law_is_fine (hr.mono (by decide)) pass0 (pa_cons (pv 0) (pa_cons (pe_tup (pa_cons (pv 3) (pa_cons (pv 4) (pa_cons (pv 9) pa_nil)))) (pa_cons (pv 2) pa_nil))))))) (fun _ _ _ _ _ => (pv 9)))
      (pss_cons (ps_expr (pe_bm PySem.F.plainAttrs_list PySem.F.slot_list_append PySem.F.type_list_append mt_append (pv 8) (pa_cons (pe_p (pe_cal c_law_ends (hr.mono (by decide)) pass0 (pa_cons (pv 7) pa_nil))) pa_nil)))
      (pss_one (ps_ret (pv 8)))))))))))), body_O ?_ h⟩
  rintro _ R ⟨b, p, s, g, w, st, x, lg, hg, lw, hw, ls, hs, rfl, ok, rok, g3, x1, x2, td, q⟩
  have z := sz_bd' (p := p) ok
  have s1 : 1 ≤ s := by have := ok.2.2.1; omega
  obtain ⟨r1, r2, r3, r4, r5, r6⟩ := id rok
  have q0 : 0 ≤ x / (w + 1) := Int.ediv_nonneg (by omega) (by omega)
  have q1 : x / (w + 1) ≤ x := Int.ediv_le_self _ (by omega)
  have q2 : 0 ≤ x / g := Int.ediv_nonneg (by omega) (by omega)
  have q3 : x / g ≤ x := Int.ediv_le_self _ (by omega)
  have q4 : 0 ≤ 2 * x / g := Int.ediv_nonneg (by omega) (by omega)
  have q5 : 2 * x / g ≤ 2 * x := Int.ediv_le_self _ (by omega)
  have t1 := td.hgx z.1
  have t2 := td.hwx z.1
  have t3 := td.hsx z.1 (by omega)
  have e1 := fil_dI (fun i => FineP (sz b p s) s i w st x) (x / (w + 1) + 1).toNat td.lg1 (by omega) fun i hi => td.fg z.1 s1 (by omega) (by omega) (by omega)
  have e2 := fil_dI0 (fun i => FineP (sz b p s) s g i st x) (x / g + 2).toNat td.lw0 (by omega) fun i hi => td.fw z.1 s1 (by omega) (by omega)
  have e3 := fil_dI (fun i => FineP (sz b p s) s g w i x) (2 * x / g + 2).toNat td.ls1 (by omega) fun i hi => td.fs z.1 s1 (by omega) (by omega) (by omega)
  array_get_dec
  · apply lcF (l := List.range (x / (w + 1) + 1).toNat) (enc := fun i : Nat => .int (1 + (i : Int))) (fun i : Nat => decide (FineP (sz b p s) s (1 + (i : Int)) w st x)) (fun i : Nat => .int (1 + (i : Int)))
    array_get_dec
    · intro i hi
      have hi := List.mem_range.mp hi
      have rk : RcOk (1 + (i : Int)) w st := ⟨by omega, by omega, by omega, by omega, by omega, by omega⟩
      array_get_dec
    · rw [show x / (w + 1) + 2 - 1 = x / (w + 1) + 1 by omega]
      rfl
  rw [e1]
  array_get_dec
  · apply lcF (l := List.range (x / g + 2).toNat) (enc := fun i : Nat => .int (i : Int)) (fun i : Nat => decide (FineP (sz b p s) s g (i : Int) st x)) (fun i : Nat => .int (i : Int))
    array_get_dec
    intro i hi
    have hi := List.mem_range.mp hi
    have rk : RcOk g (i : Int) st := ⟨by omega, by omega, by omega, by omega, by omega, by omega⟩
    array_get_dec
  rw [e2]
  array_get_dec
  · apply lcF (l := List.range (2 * x / g + 2).toNat) (enc := fun i : Nat => .int (1 + (i : Int))) (fun i : Nat => decide (FineP (sz b p s) s g w (1 + (i : Int)) x)) (fun i : Nat => .int (1 + (i : Int)))
    array_get_dec
    · intro i hi
      have hi := List.mem_range.mp hi
      have rk : RcOk g w (1 + (i : Int)) := ⟨by omega, by omega, by omega, by omega, by omega, by omega⟩
      array_get_dec
    · rw [show 2 * x / g + 3 - 1 = 2 * x / g + 2 by omega]
      rfl
  rw [e3]
  array_get_dec
  exact q
theorem len_law_tried {vs : List V} {H : Hp} {Q : VK} {X : XK} (h : SpO K mTried vs H Q X) : vs.length = 3 := h.len (n := 3) (by intro ds R hm; repeat (first | (obtain ⟨rfl, _⟩ := hm; rfl) | (obtain ⟨_, hm⟩ := hm)))
theorem cal_law_tried (T : Tx K mg) : Cal P w K mg base CX0 5 "_law_tried" ["_law_form_here", "_law_clock_here", "_law_span_here"] (SpO K mTried) :=
  T.d_law_tried.cal sc_law_tried (fun vs H Q E h => len_law_tried h) (fun _ _ _ _ _ _ us hl => match us, hl with | [_, _, _], _ => rfl) (bod_law_tried T)
end
open PySem PySem.Spec PyProof.Rows L2 Evl SB PL PW
section
variable {P : Program} {w : World} {K : PySem.W.Frag} {mg : Str → Option Value} {base : Heap}
theorem mx_tail {L : List Int} {m c : Int} (h : Mx (c :: L) m) (h1 : ∀ a ∈ L, c ≤ a) (h2 : L ≠ []) : Mx L m := by
  refine ⟨?_, fun a ha => h.2 a (List.mem_cons_of_mem _ ha)⟩
  rcases List.mem_cons.mp h.1 with e | e
  · obtain ⟨a, ha⟩ := List.exists_mem_of_ne_nil L h2
    have u := h.2 a (List.mem_cons_of_mem _ ha)
    have v := h1 a ha
    rw [show m = a by omega]
    exact ha
  · exact e
section
variable {n s : Nat} {g w st x lg hg lw hw ls hs : Int} (h : s + 2 ≤ n) (h1 : 1 ≤ s) (T : Trd n s g w st x lg hg lw hw ls hs)
include h
theorem fil_ne : (winT n s).filter (fun r => decide (0 < r.1)) ≠ [] := fun z => by
  have := mem_fil.mpr ⟨winT_one h, by decide⟩
  rw [z] at this
  cases this
include h1 T
theorem Trd.pa (x1 : 1 ≤ x) (w0 : 0 ≤ w) (s1 : 1 ≤ st) : Mx (((winT n s).filter fun r => decide (0 < r.2.1)).map fun r => ceilI (r.2.1 * x) (w + st * r.1)) lg := by
  rw [show ((winT n s).filter fun r => decide (0 < r.2.1)) = (winT n s).filter fun r => decide (0 < r.1) from List.filter_congr fun r hr => by
    rcases row_cases h h1 hr with c | c
    · rw [decide_eq_true c.1, decide_eq_true c.2.1]
    · rw [c]]
  refine mx_tail T.a (fun a ha => ?_) fun z => fil_ne h (List.map_eq_nil_iff.mp z)
  obtain ⟨r, hr, rfl⟩ := List.mem_map.mp ha
  obtain ⟨hr, hp⟩ := mem_fil.mp hr
  have m : 0 < st * r.1 := Int.mul_pos (by omega) hp
  rcases row_cases h h1 hr with c | c
  · refine Int.not_lt.mp fun z => ?_
    have := (ceil_le (x := r.2.1 * x) (l := w + st * r.1) (y := 0) (by omega)).mp (by omega)
    have : 0 < r.2.1 * x := Int.mul_pos c.2.1 (by omega)
    omega
  · rw [c] at hp
    exact absurd hp (by decide)
theorem Trd.eW : Lw n s g st x = lw := by
  refine (Lw_cons h x).uniq ⟨?_, fun a ha => ?_⟩
  · rcases List.mem_cons.mp T.c.1 with e | e
    · rw [e]
      exact List.mem_cons_self ..
    · obtain ⟨r, hr, e⟩ := List.mem_map.mp e
      rw [← e]
      exact List.mem_cons_of_mem _ (List.mem_map.mpr ⟨r, (mem_fil.mp hr).1, rfl⟩)
  · rcases List.mem_cons.mp ha with rfl | ha
    · exact T.lw0
    · obtain ⟨r, hr, rfl⟩ := List.mem_map.mp ha
      rcases row_cases h h1 hr with c | c
      · exact T.c.2 _ (List.mem_cons_of_mem _ (List.mem_map.mpr ⟨r, mem_fil.mpr ⟨hr, c.1⟩, rfl⟩))
      · rw [c]
        show -(-(0 * x) / g) - st * 0 ≤ lw
        rw [Int.zero_mul, Int.neg_zero, Int.zero_ediv, Int.mul_zero]
        exact T.lw0
omit h1 in
theorem Trd.eU : Uw n s g st x = hw := (Uw_mi h x).uniq T.d
theorem Trd.eS (x1 : 1 ≤ x) (g1 : 1 ≤ g) {lo hi : Int} (a : Mx (((winT n s).filter fun r => decide (0 < r.1)).map fun r => ceilI (r.2.1 * x - g * w) (g * r.1)) lo) (b : Mi (((winT n s).filter fun r => decide (0 < r.1)).map fun r => (r.2.2 * x - g * (w + 1)) / (g * r.1)) hi) :
    (if x < g * (w + 1) then PyData.none else optP lo hi) = optP ls hs := by
  by_cases c : x < g * (w + 1)
  · rw [if_pos c]
    have := T.f.2 0 (List.mem_append_right _ (by rw [if_pos c]; exact List.mem_singleton_self _))
    have := T.ls1
    exact (if_neg (by omega)).symm
  rw [if_neg c]
  have e1 : ∀ r ∈ (winT n s).filter (fun r => decide (0 < r.1)), ceilI (r.2.1 * x - g * w) (g * r.1) = ceilI (ceilI (r.2.1 * x) g - w) r.1 := fun r hr => by
    have hp := (mem_fil.mp hr).2
    have hgp : 0 < g * r.1 := Int.mul_pos (by omega) hp
    have key : ∀ y, ceilI (r.2.1 * x - g * w) (g * r.1) ≤ y ↔ ceilI (ceilI (r.2.1 * x) g - w) r.1 ≤ y := fun y => by
      rw [ceil_le hgp, ceil_le hp]
      have q := ceil_le (x := r.2.1 * x) (l := g) (y := y * r.1 + w) (by omega)
      rw [show (y * r.1 + w) * g = y * (g * r.1) + g * w by rw [Int.add_mul, Int.mul_assoc, Int.mul_comm r.1 g, Int.mul_comm w g]] at q
      constructor
      · intro z
        have := q.mpr (by omega)
        omega
      · intro z
        have := q.mp (by omega)
        omega
    exact Int.le_antisymm ((key _).mpr (Int.le_refl _)) ((key _).mp (Int.le_refl _))
  have e2 : ∀ r ∈ (winT n s).filter (fun r => decide (0 < r.1)), (r.2.2 * x - g * (w + 1)) / (g * r.1) = (r.2.2 * x / g - 1 - w) / r.1 := fun r hr => by
    have hp := (mem_fil.mp hr).2
    have hgp : 0 < g * r.1 := Int.mul_pos (by omega) hp
    have key : ∀ y, y ≤ (r.2.2 * x - g * (w + 1)) / (g * r.1) ↔ y ≤ (r.2.2 * x / g - 1 - w) / r.1 := fun y => by
      rw [Int.le_ediv_iff_mul_le hgp, Int.le_ediv_iff_mul_le hp]
      have q := Int.le_ediv_iff_mul_le (c := g) (a := y * r.1 + (w + 1)) (b := r.2.2 * x) (by omega)
      rw [show (y * r.1 + (w + 1)) * g = y * (g * r.1) + g * (w + 1) by rw [Int.add_mul, Int.mul_assoc, Int.mul_comm r.1 g, Int.mul_comm (w + 1) g]] at q
      constructor
      · intro z
        have := q.mpr (by omega)
        omega
      · intro z
        have := q.mp (by omega)
        omega
    exact Int.le_antisymm ((key _).mp (Int.le_refl _)) ((key _).mpr (Int.le_refl _))
  rw [List.map_congr_left e1] at a
  rw [List.map_congr_left e2] at b
  have f := T.f
  rw [if_neg c, List.append_nil] at f
  rw [b.uniq f, a.uniq (mx_tail T.e (fun y hy => ?_) fun z => fil_ne h (List.map_eq_nil_iff.mp z))]
  obtain ⟨r, hr, rfl⟩ := List.mem_map.mp hy
  obtain ⟨hr, hp⟩ := mem_fil.mp hr
  rcases row_cases h h1 hr with d | d
  · refine Int.not_lt.mp fun z => ?_
    have z1 := (ceil_le (x := ceilI (r.2.1 * x) g - w) (l := r.1) (y := 0) hp).mp (by omega)
    rw [Int.zero_mul] at z1
    have z2 := (ceil_le (x := r.2.1 * x) (l := g) (y := w) (by omega)).mp (by omega)
    rw [Int.mul_comm w g] at z2
    have z3 : 1 * x ≤ r.2.1 * x := Int.mul_le_mul_of_nonneg_right (by omega) (by omega)
    rw [Int.mul_add, Int.mul_one] at c
    omega
  · rw [d] at hp
    exact absurd hp (by decide)
theorem steps_ex (g w x : Int) : ∃ lo hi : Int, Mx (((winT n s).filter fun r => decide (0 < r.1)).map fun r => ceilI (r.2.1 * x - g * w) (g * r.1)) lo ∧ Mi (((winT n s).filter fun r => decide (0 < r.1)).map fun r => (r.2.2 * x - g * (w + 1)) / (g * r.1)) hi := by
  obtain ⟨lo, a⟩ := Mx.exists (L := ((winT n s).filter fun r => decide (0 < r.1)).map fun r => ceilI (r.2.1 * x - g * w) (g * r.1)) fun z => fil_ne h (List.map_eq_nil_iff.mp z)
  obtain ⟨hi, b⟩ := Mi.exists (L := ((winT n s).filter fun r => decide (0 < r.1)).map fun r => (r.2.2 * x - g * (w + 1)) / (g * r.1)) fun z => fil_ne h (List.map_eq_nil_iff.mp z)
  exact ⟨lo, hi, a, b⟩
end
theorem optP_sh {lo hi : Int} (h0 : 0 ≤ lo) (h1 : hi < 2 ^ 230) : Sh1 (optP lo hi) := by
  by_cases c : lo ≤ hi
  · rw [optP_pos c]
    exact s1_tup (als_cons (s0_int (by omega)) (als_cons (s0_int (by omega)) als_nil)) (by simp)
  · rw [show optP lo hi = .none from if_neg c]
    exact s1_0 s0_non
def mRight16 : Mn := fun ds R => ∃ b p s, ∃ (g w st x lg hg lw hw ls hs : Int), ds = [shD b p s, rcD g w st, .int x, .list [optP lg hg, optP lw hw, optP ls hs]] ∧ ShOk b s ∧ RcOk g w st ∧ 1 ≤ x ∧ x < 2 ^ 200 ∧ Trd (sz b p s) s g w st x lg hg lw hw ls hs ∧ R (.bool true)
theorem bod_law_right (T : Tx K mg) : BodG P w K mg base CX0 7 "_law_right" s_law_right ["_law_form_here", "_law_clock_here", "_law_span_here", "_law_due", "_law_grid", "_law_pause", "_law_stride", "_law_found"] (SpN K mRight16) := by
  have c_safe_grains := cal_safe_grains (P := P) (w := w) (base := base) T
  have c_safe_waits := cal_safe_waits (P := P) (w := w) (base := base) T
  have c_safe_steps := cal_safe_steps (P := P) (w := w) (base := base) T
  have c_safe_grains_length_step_wait_shape := cal_safe_grains_length_step_wait_shape (P := P) (w := w) (base := base) T
  have c_safe_waits_length_step_grain_shape := cal_safe_waits_length_step_grain_shape (P := P) (w := w) (base := base) T
  have c_safe_steps_length_wait_grain_shape := cal_safe_steps_length_wait_grain_shape (P := P) (w := w) (base := base) T
  refine fun f cdv A outer s H vs Q E hr hgd h => ⟨_, (pss_cons (ps_asg (pe_p (pv 1)) (pg_tup rfl (pgs_cons (pg_name (i := 4) sc_law_right.nd rfl (Or.inl rfl)) (pgs_cons (pg_name (i := 5) sc_law_right.nd rfl (Or.inl rfl)) (pgs_cons (pg_name (i := 6) sc_law_right.nd rfl (Or.inl rfl)) pgs_nil)))))
      (pss_cons (ps_own (ps_set (i := 7) sc_law_right.nd rfl (Or.inl rfl) (pe_p (pe_lst (pa_cons (pe_cal c_safe_grains (hr.mono (by decide)) pass0 (pa_cons (pv 0) (pa_cons (pv 5) (pa_cons (pv 6) (pa_cons (pv 2) pa_nil))))) (pa_cons (pe_cal c_safe_waits (hr.mono (by decide)) pass0 (pa_cons (pv 0) (pa_cons (pv 4) (pa_cons (pv 6) (pa_cons (pv 2) pa_nil))))) pa_nil))))))
      (pss_cons (ps_expr (pe_bm PySem.F.plainAttrs_list PySem.F.slot_list_append PySem.F.type_list_append mt_append (pv 7) (pa_cons (pe_p (pe_cal c_safe_steps (hr.mono (by decide)) pass0 (pa_cons (pv 0) (pa_cons (pv 4) (pa_cons (pv 5) (pa_cons (pv 2) pa_nil)))))) pa_nil)))
      (pss_cons (ps_if (pt_look (pt_cmpR op_ne (pe_callB (call_rp hgd hr.units) (by rfl) T.b_repr (by decide +kernel) (pa_cons (pv 7) pa_nil)) (pe_callB (call_rp hgd hr.units) (by rfl) T.b_repr (by decide +kernel) (pa_cons (pv 3) pa_nil)) (nomark _))) (pss_one (ps_ret (pe_p pe_bl))) pss_nil)
      (pss_cons (ps_own (ps_set (i := 7) sc_law_right.nd rfl (Or.inl rfl) (pe_p (pe_lst (pa_cons (pe_calK c_safe_grains_length_step_wait_shape (hr.mono (by decide)) pass0 (pk_cons (pv 2) (pk_cons (pv 6) (pk_cons (pv 5) (pk_cons (pv 0) pk_nil))))) pa_nil)))))
      (pss_cons (ps_expr (pe_bm PySem.F.plainAttrs_list PySem.F.slot_list_append PySem.F.type_list_append mt_append (pv 7) (pa_cons (pe_p (pe_calK c_safe_waits_length_step_grain_shape (hr.mono (by decide)) pass0 (pk_cons (pv 2) (pk_cons (pv 6) (pk_cons (pv 4) (pk_cons (pv 0) pk_nil)))))) pa_nil)))
      (pss_cons (ps_expr (pe_bm PySem.F.plainAttrs_list PySem.F.slot_list_append PySem.F.type_list_append mt_append (pv 7) (pa_cons (pe_p (pe_calK c_safe_steps_length_wait_grain_shape (hr.mono (by decide)) pass0 (pk_cons (pv 2) (pk_cons (pv 5) (pk_cons (pv 4) (pk_cons (pv 0) pk_nil)))))) pa_nil)))
      (pss_one (ps_ret (pe_look (pe_cmpR op_eq (pe_callB (call_rp hgd hr.units) (by rfl) T.b_repr (by decide +kernel) (pa_cons (pv 7) pa_nil)) (pe_callB (call_rp hgd hr.units) (by rfl) T.b_repr (by decide +kernel) (pa_cons (pv 3) pa_nil)) (nomark _)))))))))))), body_N ?_ h⟩
  rintro _ R ⟨b, p, s, g, w, st, x, lg, hg, lw, hw, ls, hs, rfl, ok, rok, x1, x2, td, q⟩
  have z := sz_bd' (p := p) ok
  have s1 : 1 ≤ s := by have := ok.2.2.1; omega
  obtain ⟨r1, r2, r3, r4, r5, r6⟩ := id rok
  obtain ⟨lo, hi, m1, m2⟩ := steps_ex z.1 s1 td g w x
  have eS := td.eS z.1 s1 x1 r1 m1 m2
  have pa := td.pa z.1 s1 x1 (by omega) (by omega)
  have pb : Mi ((winT (sz b p s) s).map fun r => r.2.2 * x / (w + st * r.1 + 1)) hg := td.b
  have t1 := td.hgx z.1
  have t2 := td.hwx z.1
  have t3 := td.hsx z.1 (by omega)
  have q1 : x / (w + 1) ≤ x := Int.ediv_le_self _ (by omega)
  have q3 : x / g ≤ x := Int.ediv_le_self _ (by omega)
  have q5 : 2 * x / g ≤ 2 * x := Int.ediv_le_self _ (by omega)
  have sD : PL.Shw (.list [optP lg hg, optP lw hw, optP ls hs]) := shw2 (s2_lst (als_cons (optP_sh (by have := td.lg1; omega) (by omega)) (als_cons (optP_sh td.lw0 (by omega)) (als_cons (optP_sh (by have := td.ls1; omega) (by omega)) als_nil))) (by simp))
  obtain rfl := td.eW z.1 s1
  obtain rfl := td.eU z.1
  array_get_dec
  simp only [List.cons_append, List.nil_append, decide_true]
  exact q
theorem len_law_right {vs : List V} {H : Hp} {Q : VK} {X : XK} (h : SpN K mRight16 vs H Q X) : vs.length = 4 := h.len (n := 4) (by intro ds R hm; repeat (first | (obtain ⟨rfl, _⟩ := hm; rfl) | (obtain ⟨_, hm⟩ := hm)))
theorem cal_law_right (T : Tx K mg) : CalG P w K mg base CX0 8 "_law_right" ["_law_form_here", "_law_clock_here", "_law_span_here", "_law_due"] (SpN K mRight16) :=
  T.d_law_right.calG sc_law_right (fun vs H Q E h => len_law_right h) (fun _ _ _ _ _ _ us hl => match us, hl with | [_, _, _, _], _ => rfl) (bod_law_right T)
end
open PySem PySem.Spec PyProof.Rows L2 Evl SB PL PW
section
variable {P : Program} {w : World} {K : PySem.W.Frag} {mg : Str → Option Value} {base : Heap}
def mSpan16 : Mt := fun T ds R => ∃ (n : Nat) (b : Nat) (p : Pa) (s : Nat) (g w st M : Int), ds = [shD b p s, rcD g w st] ∧ Tk n T ∧ n ≤ 999990 ∧ ShOk b s ∧ RcOk g w st ∧ g * (w + 13 * st + 1) ≤ M ∧ g * st ≤ M ∧ g ≤ M ∧ M < 2 ^ 198 ∧ ∀ x T', 1 ≤ x → x ≤ 2 * M + 5 → Tk (n + 5) T' → R (.int x) T'
theorem bod_law_span (T : Tx K mg) : Bod P w K mg base CX0 3 "_law_span" s_law_span ["_law_pool_here", "_law_form_here", "_law_clock_here", "_law_least", "_law_greatest", "_law_spans"] (SpT K mSpan16) := by
  have c_law_bounds := cal_law_bounds (P := P) (w := w) (base := base) T
  have c_law_draw := cal_law_draw (P := P) (w := w) (base := base) T
  refine fun f cdv A outer s H vs Q E hr h => ⟨_, (pss_cons (ps_asg (pe_p (pe_cal c_law_bounds (hr.mono (by decide)) pass0 (pa_cons (pv 1) (pa_cons (pv 2) pa_nil)))) (pg_tup rfl (pgs_cons (pg_name (i := 3) sc_law_span.nd rfl (Or.inl rfl)) (pgs_cons (pg_name (i := 4) sc_law_span.nd rfl (Or.inl rfl)) pgs_nil))))
      (pss_cons (ps_set (i := 5) sc_law_span.nd rfl (Or.inl rfl) (pe_lst (pa_cons (pe_p (pe_op op_sub (pv 3) pe_int)) (pa_cons (pe_p (pv 3)) (pa_cons (pe_p (pv 4)) (pa_cons (pe_p (pe_op op_add (pv 4) pe_int)) (pa_cons (pe_op op_add (pe_p (pv 3)) (pe_cal c_law_draw (hr.mono (by decide)) pass0 (pa_cons (pv 0) (pa_cons (pe_p (pe_callB (call_max2 rfl) (by rfl) T.b_max (by decide +kernel) (pa_cons pe_int (pa_cons (pe_op op_add (pe_op op_sub (pv 4) (pv 3)) pe_int) pa_nil)))) pa_nil)))) pa_nil)))))))
      (pss_cons (ps_set (i := 5) sc_law_span.nd rfl (Or.inl rfl) (pe_op op_cat (pe_p (pv 5)) (pe_lst (pa_cons (pe_p (pe_op op_mulW (pe_ix ix_tup (pv 2) pe_int (fun _ _ => rfl)) (pe_ix ix_tup (pv 2) pe_int (fun _ _ => rfl)))) (pa_cons (pe_op op_add (pe_p pe_int) (pe_cal c_law_draw (hr.mono (by decide)) pass0 (pa_cons (pv 0) (pa_cons (pe_p (pe_op op_mulW pe_int (pe_callB (call_max2 rfl) (by rfl) T.b_max (by decide +kernel) (pa_cons (pv 3) (pa_cons (pv 4) pa_nil))))) pa_nil)))) (pa_cons (pe_p (pe_op op_sub (pv 4) pe_int)) pa_nil))))))
      (pss_one (ps_ret (pe_callB (call_max2 rfl) (by rfl) T.b_max (by decide +kernel) (pa_cons (pe_p pe_int) (pa_cons (pe_ix ix_list (pe_p (pv 5)) (pe_cal c_law_draw (hr.mono (by decide)) pass0 (pa_cons (pv 0) (pa_cons (pe_p pe_int) pa_nil))) (fun _ _ => rfl)) pa_nil)))))))), body_T ?_ h⟩
  rintro _ _ R ⟨n, b, p, s, g, w, st, M, rfl, tk, hn, ok, rok, gM, sM, g1M, hM, q⟩
  have z := sz_bd' (p := p) ok
  obtain ⟨r1, r2, r3, r4, r5, r6⟩ := id rok
  obtain ⟨lo, hlo⟩ := lo_ex g w st z.1
  obtain ⟨hi, hhi⟩ := hi_ex g w st z.1
  have l1 := lo_ge z.1 rok.clk hlo
  have h1 := hi_ge z.1 rok.clk hhi
  have l2 := lo_leM z rok hlo
  have h2 := hi_leM z rok hhi
  array_get_dec
  intro d1 T1 d10 d11 tk1
  array_get_dec
  intro d2 T2 d20 d21 tk2
  array_get_dec
  intro d3 T3 d30 d31 tk3
  have gs : 1 * 1 ≤ g * st := Int.mul_le_mul rok.1 rok.2.2.1 (by omega) (by have := rok.1; omega)
  refine k_ixI (fun y => y ≤ 2 * M + 5) d30 d31 (by intro x hx; simp at hx; revert hx; split at d11 <;> split at d21 <;> omega) fun y hy => ?_
  array_get_dec
  exact q _ _ (by split <;> omega) (by split <;> omega) (tk3.mono (by omega))
theorem len_law_span {vs : List V} {H : Hp} {Q : VK} {X : XK} (h : SpT K mSpan16 vs H Q X) : vs.length = 3 := h.len (n := 2) (by intro T ds R hm; repeat (first | (obtain ⟨rfl, _⟩ := hm; rfl) | (obtain ⟨_, hm⟩ := hm)))
theorem cal_law_span (T : Tx K mg) : Cal P w K mg base CX0 4 "_law_span" ["_law_pool_here", "_law_form_here", "_law_clock_here"] (SpT K mSpan16) :=
  T.d_law_span.cal sc_law_span (fun vs H Q E h => len_law_span h) (fun _ _ _ _ _ _ us hl => match us, hl with | [_, _, _], _ => rfl) (bod_law_span T)
end
open PySem PySem.Spec PyProof.Rows L2 Evl SB PL PW
section
variable {P : Program} {w : World} {K : PySem.W.Frag} {mg : Str → Option Value} {base : Heap}
theorem mx_of {L : List Int} {m : Int} (h : (decide (m ∈ L) && L.all fun n => decide (n ≤ m)) = true) : Mx L m := by
  obtain ⟨a, b⟩ := (Bool.and_eq_true _ _).mp h
  exact ⟨of_decide_eq_true a, fun n hn => of_decide_eq_true (List.all_eq_true.mp b n hn)⟩
theorem mi_of {L : List Int} {m : Int} (h : (decide (m ∈ L) && L.all fun n => decide (m ≤ n)) = true) : Mi L m := by
  obtain ⟨a, b⟩ := (Bool.and_eq_true _ _).mp h
  exact ⟨of_decide_eq_true a, fun n hn => of_decide_eq_true (List.all_eq_true.mp b n hn)⟩
theorem law_ok {fd : FuncData} (T : Tx K mg) (F : FunD K "law" "law" (defArgs s_law) (defBody s_law) (defScope s_law) [] [] (He.fAd K ("law", none)) fd) : FnG P w K mg base CX0 9 (He.fAd K ("law", none)) fd ["_law_script"] (SpLaw K) := by
  have c_law_right := cal_law_right (P := P) (w := w) (base := base) T
  have c_law_pool := cal_law_pool (P := P) (w := w) (base := base) T
  have c_law_span := cal_law_span (P := P) (w := w) (base := base) T
  have c_law_tried := cal_law_tried (P := P) (w := w) (base := base) T
  have c_law_form := cal_law_form (P := P) (w := w) (base := base) T
  have c_law_clock := cal_law_clock (P := P) (w := w) (base := base) T
  have c_law_reckoned := cal_law_reckoned (P := P) (w := w) (base := base) T
  refine FnG.body F sc_law (fun vs H Q E h => h.len) (fun cdv A outer s H vs Q E hr hgd h => ⟨_, PSs.nox ((pss_cons (ps_for PassesOwn.never rfl (pi_range1 rfl T.b_range (pa_cons (pe_callB (call_max2 rfl) (by rfl) T.b_max (by decide +kernel) (pa_cons pe_int (pa_cons (pe_callB (call_min2 rfl) (by rfl) T.b_min (by decide +kernel) (pa_cons pe_int (pa_cons (pe_callB call_len_seq (by rfl) T.b_len (by decide +kernel) (pa_cons (pv 0) pa_nil)) pa_nil))) pa_nil))) pa_nil)) (pg_name (i := 1) sc_law.nd rfl (Or.inl rfl)) (pss_cons (ps_own (ps_set (i := 2) sc_law.nd rfl (Or.inl rfl) (pe_cal c_law_pool (hr.mono (by decide)) pass0 (pa_cons (pv 0) (pa_cons (pe_p (pv 1)) pa_nil)))))
      (pss_cons (ps_par (i := 3) (j := 4) (by rfl) sc_law.nd rfl rfl (by decide) rfl rfl (pa_cons (pe_cal c_law_form (hr.mono (by decide)) pass0 (pa_cons (pv 2) (pa_cons (pe_p pe_int) pa_nil))) (pa_cons (pe_cal c_law_clock (hr.mono (by decide)) pass0 (pa_cons (pv 2) (pa_cons (pe_p pe_int) (pa_cons (pe_p pe_int) pa_nil)))) pa_nil)) (by rfl))
      (pss_cons (ps_set (i := 5) sc_law.nd rfl (Or.inl rfl) (pe_cal c_law_span (hr.mono (by decide)) pass0 (pa_cons (pv 2) (pa_cons (pe_p (pv 3)) (pa_cons (pe_p (pv 4)) pa_nil)))))
      (pss_cons (ps_set (i := 6) sc_law.nd rfl (Or.inl rfl) (pe_p (pe_cal c_law_tried (hr.mono (by decide)) pass0 (pa_cons (pv 3) (pa_cons (pv 4) (pa_cons (pv 5) pa_nil))))))
      (pss_cons (ps_if (pt_p (PW.pt (pw_or (pt_cmpR (op_neD hr.units) (pv 6) (pe_cal c_law_reckoned (hr.mono (by decide)) pass0 (pa_cons (pv 3) (pa_cons (pv 4) (pa_cons (pv 5) pa_nil)))) (nomark _)) (pw_or1 (pt_not (pt_val (pe_calG c_law_right (hr.mono (by decide)) hgd pass0 (pa_cons (pv 3) (pa_cons (pv 4) (pa_cons (pv 5) (pa_cons (pv 6) pa_nil))))))))))) (pss_one (ps_ret (pe_p pe_bl))) pss_nil)
      (pss_one (ps_for PassesOwn.never rfl (pi_range1 rfl T.b_range (pa_cons pe_int pa_nil)) (pg_name (i := 7) sc_law.nd rfl (Or.inl rfl)) (pss_cons (ps_asg (pe_p (pe_ix ix_list (pe_lst (pa_cons (pe_tup (pa_cons (pe_pow (10000000000000) (pe_op op_powB pe_int pe_int)) (pa_cons (pe_pow (10000000000000) (pe_op op_powB pe_int pe_int)) pa_nil))) (pa_cons (pe_tup (pa_cons (pe_pow (100000000000000000000000000) (pe_op op_powB pe_int pe_int)) (pa_cons pe_int pa_nil))) (pa_cons (pe_tup (pa_cons pe_int (pa_cons (pe_pow (100000000000000000000000000) (pe_op op_powB pe_int pe_int)) pa_nil))) (pa_cons (pe_tup (pa_cons (pe_pow (100000000000000000000) (pe_op op_powB pe_int pe_int)) (pa_cons (pe_pow (1000000) (pe_op op_powB pe_int pe_int)) pa_nil))) pa_nil))))) (pv 7) (fun _ _ => rfl))) (pg_tup rfl (pgs_cons (pg_name (i := 8) sc_law.nd rfl (Or.inl rfl)) (pgs_cons (pg_name (i := 9) sc_law.nd rfl (Or.inl rfl)) pgs_nil))))
      (pss_cons (ps_par (i := 3) (j := 4) (by rfl) sc_law.nd rfl rfl (by decide) rfl rfl (pa_cons (pe_cal c_law_form (hr.mono (by decide)) pass0 (pa_cons (pv 2) (pa_cons (pe_p pe_int) pa_nil))) (pa_cons (pe_cal c_law_clock (hr.mono (by decide)) pass0 (pa_cons (pv 2) (pa_cons (pe_p (pv 8)) (pa_cons (pe_p (pv 9)) pa_nil)))) pa_nil)) (by rfl))
      (pss_cons (ps_set (i := 5) sc_law.nd rfl (Or.inl rfl) (pe_cal c_law_span (hr.mono (by decide)) pass0 (pa_cons (pv 2) (pa_cons (pe_p (pv 3)) (pa_cons (pe_p (pv 4)) pa_nil)))))
      (pss_one (ps_if (pt_p (pt_not (pt_val (pe_calG c_law_right (hr.mono (by decide)) hgd pass0 (pa_cons (pv 3) (pa_cons (pv 4) (pa_cons (pv 5) (pa_cons (pe_cal c_law_reckoned (hr.mono (by decide)) pass0 (pa_cons (pv 3) (pa_cons (pv 4) (pa_cons (pv 5) pa_nil)))) pa_nil)))))))) (pss_one (ps_ret (pe_p pe_bl))) pss_nil)))))))))))))
      (pss_one (ps_ret (pe_p (pe_calG c_law_right (hr.mono (by decide)) hgd pass0 (pa_cons (pe_tup (pa_cons pe_int (pa_cons pe_str (pa_cons pe_int pa_nil)))) (pa_cons (pe_tup (pa_cons pe_int (pa_cons pe_int (pa_cons pe_int pa_nil)))) (pa_cons pe_int (pa_cons (pe_lst (pa_cons (pe_tup (pa_cons pe_int (pa_cons pe_int pa_nil))) (pa_cons (pe_tup (pa_cons pe_int (pa_cons pe_int pa_nil))) (pa_cons (pe_tup (pa_cons pe_int (pa_cons pe_int pa_nil))) pa_nil)))) pa_nil)))))))))), body_L ?_ h⟩)
  intro ns hns
  array_get_dec
  refine k_for (fun i : Nat => PyData.int (i : Int)) _ (fun pre ρ => ∃ s1 s2 s3 s4 s5 s6 s7 s8 s9, ρ = [.scr ns, s1, s2, s3, s4, s5, s6, s7, s8, s9]) ⟨_, _, _, _, _, _, _, _, _, rfl⟩ ?_ ?_
  · rintro pre i post _ hl ⟨s1, s2, s3, s4, s5, s6, s7, s8, s9, rfl⟩
    have hi3 : i < 3 := by
      have : i ∈ pre ++ i :: post := by simp
      rw [← hl] at this
      have := List.mem_range.mp this
      split at this <;> split at this <;> omega
    array_get_dec
    intro T tk0
    array_get_dec
    intro b p s T3 ok b9 tk3
    array_get_dec
    intro g w st T4 g1 g2 w1 w2 st1 st2 tk4
    have rok : RcOk g w st := ⟨by omega, by omega, by omega, by omega, by omega, by omega⟩
    have gM : g * (w + 13 * st + 1) ≤ 4 * 97 := Int.mul_le_mul g2 (by omega) (by omega) (by omega)
    have gS : g * st ≤ 4 * 97 := Int.mul_le_mul g2 (by omega) (by omega) (by omega)
    array_get_dec
    intro x T5 x1 x2 tk5
    have z := sz_bd' (p := p) ok
    obtain ⟨lg, hg, lw, hw, ls, hs, td⟩ := trd_ex (g := g) (w := w) (st := st) (x := x) z.1
    obtain ⟨ta, tb, tc, td', te, tf⟩ := id td
    have hsp : SeqAt.shaped (PyData.list [optP lg hg, optP lw hw, optP ls hs]) = true := by unfold optP; split <;> split <;> split <;> rfl
    have ev := eqv_sh hsp
    array_get_dec
    refine k_for (fun i : Nat => PyData.int (i : Int)) (List.range 4) (fun pre ρ => ∃ T s3 s4 s5 s6 s7 s8 s9, Tk (20 + 20 * pre.length) T ∧ ρ = [.scr ns, .sh (.int (i : Int)), .ow true T, s3, s4, s5, s6, s7, s8, s9]) ⟨_, _, _, _, _, _, _, _, tk5.mono (by simp), rfl⟩ ?_ ?_
    · rintro pre2 j post2 _ hl2 ⟨T1, s3, s4, s5, s6, s7, s8, s9, tk1, rfl⟩
      obtain ⟨hj, hp2⟩ := range_at hl2
      obtain ⟨t, m, hat, t1, m1, tm, tb, mb⟩ : ∃ t m : Int, atI [PyData.tuple [.int 10000000000000, .int 10000000000000], PyData.tuple [.int 100000000000000000000000000, .int 30], PyData.tuple [.int 4, .int 100000000000000000000000000], PyData.tuple [.int 100000000000000000000, .int 1000000]] (j : Int) = some (.tuple [.int t, .int m]) ∧ 1 ≤ t ∧ 1 ≤ m ∧ t * (16 * m + 1) ≤ 48100000000000000000000000000 ∧ t ≤ 100000000000000000000000000 ∧ m ≤ 100000000000000000000000000 := by
        have : j = 0 ∨ j = 1 ∨ j = 2 ∨ j = 3 := by omega
        rcases this with rfl | rfl | rfl | rfl <;> exact ⟨_, _, rfl, by decide, by decide, by decide, by decide, by decide⟩
      array_get_dec
      intro b p s T3 ok b9 tk3
      array_get_dec
      intro g w st T4 g1 g2 w1 w2 st1 st2 tk4
      have rok : RcOk g w st := ⟨by omega, by omega, by omega, by omega, by omega, by omega⟩
      have gM : g * (w + 13 * st + 1) ≤ 48100000000000000000000000000 := Int.le_trans (Int.mul_le_mul g2 (show w + 13 * st + 1 ≤ 16 * m + 1 by omega) (by omega) (by omega)) tm
      have gS : g * st ≤ 48100000000000000000000000000 := Int.le_trans (Int.mul_le_mul g2 (show st ≤ 16 * m + 1 by omega) (by omega) (by omega)) tm
      array_get_dec
      intro x T5 x1 x2 tk5
      have z := sz_bd' (p := p) ok
      obtain ⟨lg, hg, lw, hw, ls, hs, td⟩ := trd_ex (g := g) (w := w) (st := st) (x := x) z.1
      obtain ⟨ta, tb, tc, td', te, tf⟩ := id td
      array_get_dec
      exact ⟨_, _, _, _, _, _, _, _, tk5.mono (by rw [List.length_append, List.length_singleton]; omega), rfl⟩
    rintro _ ⟨T1, s3, s4, s5, s6, s7, s8, s9, tk1, rfl⟩
    array_get_dec
    exact ⟨_, _, _, _, _, _, _, _, _, rfl⟩
  rintro _ ⟨s1, s2, s3, s4, s5, s6, s7, s8, s9, rfl⟩
  have rok : RcOk 10 8 16 := ⟨by decide, by decide, by decide, by decide, by decide, by decide⟩
  have sok : ShOk 8 1 := ⟨by decide, by decide, by decide, by decide⟩
  have td : Trd 10 1 10 8 16 160 10 10 0 15 16 16 := ⟨mx_of (by decide +kernel), mi_of (by decide +kernel), mx_of (by decide +kernel), mi_of (by decide +kernel), mx_of (by decide +kernel), mi_of (by decide +kernel)⟩
  array_get_dec
  · exact ⟨8, .no, 1, 10, 8, 16, 160, 10, 10, 0, 15, 16, 16, rfl, sok, rok, by decide, by decide, td, rfl⟩
  rfl
theorem law_facts {h : Heap} {fa : Addr} (X : K.In h) (hfa : mg ("law" : Str) = some (.ref fa)) (T : Tx K mg) :
    ∃ (K' : PySem.W.Frag) (fd : FuncData) (sp : Sp), K'.In h ∧ (∀ (s : Shared) (u : Value), BindsTo s fd ⟨[u], []⟩ [(("_law_script" : Str), u)]) ∧
        (∀ (H : Hp) (a : Addr) (ns : List Int), ns.length ≤ 63 → Only H → SqL K' H a (ns.map V.int) → sp [.ref a] H (fun v _ => v = .bl true) fun _ _ _ => False) ∧
        ∀ base : Heap, K'.In base → base.Ns mainGlobals mg → FnG P w K' mg base L2.CX0 9 fa fd ["_law_script"] sp := by
  obtain ⟨e, fd, F⟩ := T.d_law
  have e2 := hfa.symm.trans e
  cases e2
  exact ⟨K, fd, SpLaw K, X, fun s u => FunD.bindsA (ps := ["_law_script"]) F (fun _ _ _ _ _ _ us hl => match us, hl with | [_], _ => rfl) s [u] rfl,
    fun H a ns hl _ hS => ⟨a, ns, rfl, hS, hl, fun _ => rfl⟩, fun base _ _ => law_ok T F⟩
end
theorem tx_of {w : World} {K : PySem.W.Frag} {h : Heap} {mg : Str → Option Value} (X : K.In h) (G : h.Ns mainGlobals mg) (c : He.SaysX faL fnL [] [] exL w h K) : Tx K mg := by
  have D := c.t.d
  have M := c.more
  exact {
    b_abs := He.free_ok X G (D.fact 0 (f := .free "abs") rfl),
    b_bool := He.free_ok X G (D.fact 1 (f := .free "bool") rfl),
    b_int := He.free_ok X G (D.fact 2 (f := .free "int") rfl),
    b_isinstance := He.free_ok X G (D.fact 3 (f := .free "isinstance") rfl),
    b_len := He.free_ok X G (D.fact 4 (f := .free "len") rfl),
    b_max := He.free_ok X G (D.fact 5 (f := .free "max") rfl),
    b_min := He.free_ok X G (D.fact 6 (f := .free "min") rfl),
    b_range := He.free_ok X G (D.fact 7 (f := .free "range") rfl),
    b_repr := He.free_ok X G (D.fact 8 (f := .free "repr") rfl),
    b_str := He.free_ok X G (D.fact 9 (f := .free "str") rfl),
    b_tuple := He.free_ok X G (D.fact 10 (f := .free "tuple") rfl),
    t_PARITIES := He.glo_ok X G (D.fact 11 (f := .glo "PARITIES") rfl),
    v_PARITIES := fun H => He.tupB_ok M H,
    i_MOST_BITS := He.int_ok X G (D.fact 12 (f := .int "MOST_BITS" (9)) rfl),
    i_MOST_STOPS := He.int_ok X G (D.fact 13 (f := .int "MOST_STOPS" (2)) rfl),
    d_is_int := ⟨He.glo_ok X G (D.fact 14 (f := .glo "is_int") rfl), D.def_ 0 rfl⟩,
    d_is_int_from := ⟨He.glo_ok X G (D.fact 15 (f := .glo "is_int_from") rfl), D.def_ 1 rfl⟩,
    d_is_int_between := ⟨He.glo_ok X G (D.fact 16 (f := .glo "is_int_between") rfl), D.def_ 2 rfl⟩,
    d_is_parity := ⟨He.glo_ok X G (D.fact 17 (f := .glo "is_parity") rfl), D.def_ 3 rfl⟩,
    d_check_shape := ⟨He.glo_ok X G (D.fact 18 (f := .glo "check_shape") rfl), D.def_ 4 rfl⟩,
    d_check_int_from := ⟨He.glo_ok X G (D.fact 19 (f := .glo "check_int_from") rfl), D.def_ 5 rfl⟩,
    d_check_length := ⟨He.glo_ok X G (D.fact 20 (f := .glo "check_length") rfl), D.def_ 6 rfl⟩,
    d_size_of := ⟨He.glo_ok X G (D.fact 21 (f := .glo "size_of") rfl), D.def_ 7 rfl⟩,
    d_ceiling := ⟨He.glo_ok X G (D.fact 22 (f := .glo "ceiling") rfl), D.def_ 8 rfl⟩,
    d_windows_of := ⟨He.glo_ok X G (D.fact 23 (f := .glo "windows_of") rfl), D.def_ 9 rfl⟩,
    d_stretch := ⟨He.glo_ok X G (D.fact 24 (f := .glo "stretch") rfl), D.def_ 10 rfl⟩,
    d_safe_grains := ⟨He.glo_ok X G (D.fact 25 (f := .glo "safe_grains") rfl), D.def_ 11 rfl⟩,
    d_safe_waits := ⟨He.glo_ok X G (D.fact 26 (f := .glo "safe_waits") rfl), D.def_ 12 rfl⟩,
    d_safe_steps := ⟨He.glo_ok X G (D.fact 27 (f := .glo "safe_steps") rfl), D.def_ 13 rfl⟩,
    d_waits_for_span := ⟨He.glo_ok X G (D.fact 28 (f := .glo "_waits_for_span") rfl), D.def_ 14 rfl⟩,
    d_law_pool := ⟨He.glo_ok X G (D.fact 29 (f := .glo "_law_pool") rfl), D.def_ 15 rfl⟩,
    d_law_draw := ⟨He.glo_ok X G (D.fact 30 (f := .glo "_law_draw") rfl), D.def_ 16 rfl⟩,
    d_law_form := ⟨He.glo_ok X G (D.fact 31 (f := .glo "_law_form") rfl), D.def_ 17 rfl⟩,
    d_law_size := ⟨He.glo_ok X G (D.fact 32 (f := .glo "_law_size") rfl), D.def_ 18 rfl⟩,
    d_law_clock := ⟨He.glo_ok X G (D.fact 33 (f := .glo "_law_clock") rfl), D.def_ 19 rfl⟩,
    d_law_rows := ⟨He.glo_ok X G (D.fact 34 (f := .glo "_law_rows") rfl), D.def_ 20 rfl⟩,
    d_law_is_good := ⟨He.glo_ok X G (D.fact 35 (f := .glo "_law_is_good") rfl), D.def_ 21 rfl⟩,
    d_law_bounds := ⟨He.glo_ok X G (D.fact 36 (f := .glo "_law_bounds") rfl), D.def_ 22 rfl⟩,
    d_law_is_fine := ⟨He.glo_ok X G (D.fact 37 (f := .glo "_law_is_fine") rfl), D.def_ 23 rfl⟩,
    d_law_ends := ⟨He.glo_ok X G (D.fact 38 (f := .glo "_law_ends") rfl), D.def_ 24 rfl⟩,
    d_law_tried := ⟨He.glo_ok X G (D.fact 39 (f := .glo "_law_tried") rfl), D.def_ 25 rfl⟩,
    d_law_between := ⟨He.glo_ok X G (D.fact 40 (f := .glo "_law_between") rfl), D.def_ 26 rfl⟩,
    d_law_reckoned := ⟨He.glo_ok X G (D.fact 41 (f := .glo "_law_reckoned") rfl), D.def_ 27 rfl⟩,
    d_law_span := ⟨He.glo_ok X G (D.fact 42 (f := .glo "_law_span") rfl), D.def_ 28 rfl⟩,
    d_law_right := ⟨He.glo_ok X G (D.fact 43 (f := .glo "_law_right") rfl), D.def_ 29 rfl⟩,
    d_law := ⟨He.glo_ok X G (D.fact 44 (f := .glo "law") rfl), D.def_ 30 rfl⟩ }
end LW
theorem PySem.Challenge.cw_startbits_k16_safe_grains_waits_steps_holds : PySem.Challenge.rw_startbits_k16_safe_grains_waits_steps.Holds := by
  exact LW.pre fun _ _ _ _ _ _ KX G c hmg => LW.law_facts KX hmg (LW.tx_of KX G c)
