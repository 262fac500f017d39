import PyProof.Rows.All
import Wide.All
import OpenK.AllK
import Wide.FinOn
import PySem.Challenge.RW_startbits_k05_signals_judged_and_told
import HandS.ForMost
import HandS.Wide
import HandS.IsInst
import HandS.Defaults
import HandS.HeadHook2
import HandS.HeadHook4
import HandS.HeadEnd
import HandS.Head0
import HandS.Head1
import HandS.Head2
import PyProof.ReprRoads
import PyProof.ReprLen
import HandS.Evl
import HandS.Text
import HandS.Zip
import HandS.Style
import HandS.Conv
import HandS.ForExc
import HandS.ExcInit
import KE.KExcLine
import HandS.ExcSuper
import HandS.TryOnly
import HandS.Dict
import HandS.ExcField
import HandS.ExcIs
import KE.KExcHand
import KE.KExcIs
import KE.KIsAll
set_option Elab.async false
set_option linter.all false
set_option maxRecDepth 100000
set_option maxHeartbeats 4000000
namespace SB
open PySem PySem.Spec PyProof.Rows L2
/-! powers of wide ints -/
def CPowB (i j : Int) : Prop := 0 ≤ j ∧ ((i.natAbs.log2 : Int) + 1) * j ≤ 134217728
theorem bits_le (i : Int) : (Builtin.Int.intBits i : Int) ≤ (i.natAbs.log2 : Int) + 1 := by
  unfold Builtin.Int.intBits
  split <;> omega
theorem op_powB {X : Cx} : OpR X (binaryOp .Pow) (rI CPowB fun i j => .int (i ^ j.toNat)) :=
  opI fun i j _ _ _ _ _ hc q => by
    refine pow_int hc.1 ?_ q
    have h2 := hc.2
    have h3 := Int.mul_le_mul_of_nonneg_right (bits_le i) hc.1
    have e : (2 : Int) ^ 27 = 134217728 := by decide
    omega
/-! repr of data -/
def rRp (K : PySem.W.Frag) : List V → Hp → VK → Prop := fun xs H Q => ∃ v d, xs = [v] ∧ Dp K H v d ∧ d.showable = true ∧ d.hasDict = false ∧ d.depth ≤ 60 ∧ d.shown.length ≤ sizeLine ∧ Q (.str d.shown) H
theorem call_rp {X : Cx} (hg : X.A.guards = some []) (hu : X.A.units + 64 < cLine) : CallR X (.builtin "repr") (rRp X.K) := by
  intro pins s σ H xs us Q I r h
  obtain ⟨v, d, rfl, hd, h1, h2, h3, h4, q⟩ := h
  obtain ⟨u, rfl, ru⟩ := vals1 r
  cases hd with
  | non =>
    obtain rfl : u = Value.none := ru
    exact PySem.P.repr_of_none ⟨.str "None", H, I.tok _, ⟨_, rfl⟩, q⟩
  | bl b =>
    obtain rfl : u = Value.bool b := ru
    cases b with
    | true => exact PySem.P.repr_of_bool ⟨.str "True", H, I.tok _, ⟨_, rfl⟩, q⟩
    | false => exact PySem.P.repr_of_bool ⟨.str "False", H, I.tok _, ⟨_, rfl⟩, q⟩
  | int i =>
    obtain ⟨t, rfl⟩ := ru
    exact PySem.P.repr_of_int (of_decide_eq_true h1) ⟨.str (toString i), H, I.tok _, ⟨_, rfl⟩, q⟩
  | str x =>
    obtain ⟨t, rfl⟩ := ru
    exact PySem.P.repr_of_str ⟨.str (reprText x), H, I.tok _, ⟨_, rfl⟩, q⟩ h4
  | lst hs ha =>
    obtain ⟨as, rd⟩ := Dp.reads I _ _ u (.lst hs ha) ru
    cases (show u = Value.ref _ from ru)
    exact PySem.repr_of_reads' rd h1 (PyData.noDict_hsm h2) hg (by omega) (fun _ _ e => e) (fun h' u tk hk => ⟨.str _, H, I.kept hk, ⟨_, rfl⟩, q⟩) h4
  | tup hs ha =>
    obtain ⟨as, rd⟩ := Dp.reads I _ _ u (.tup hs ha) ru
    cases (show u = Value.ref _ from ru)
    exact PySem.repr_of_reads' rd h1 (PyData.noDict_hsm h2) hg (by omega) (fun _ _ e => e) (fun h' u tk hk => ⟨.str _, H, I.kept hk, ⟨_, rfl⟩, q⟩) h4
/-! defs that are run where no repr is under way: the promise holds for such surroundings alone -/
structure FnG (P : Program) (w : World) (K : PySem.W.Frag) (mg : Str → Option Value) (base : Heap) (CX : CXT) (k : Nat)
    (f : Addr) (fd : FuncData) (ps : List Str) (sp : Sp) : Prop where
  len : ∀ vs H Q E, sp vs H Q E → vs.length = ps.length
  go : ∀ (A : Around) (out : List Env) (s : Shared) (H : Hp) (ar : Args) (us : List Value) (vs : List V) (Q : VK) (E : XK),
    Room k A → A.guards = some [] → Env0 P w K mg base A out s H → BindsTo s fd ar (ps.zip us) → Vals vs us → sp vs H Q E →
    codeAny (model P w) A (.call (.ref f) ar) (CR CX out P w H s Q E) s
section
variable {P : Program} {w : World} {K : PySem.W.Frag} {mg : Str → Option Value} {base : Heap} {CX : CXT} {k : Nat}
  {f : Addr} {fd : FuncData} {ps : List Str} {sp : Sp}
theorem FnG.of (F : FnOk P w K mg base CX k f fd ps sp) : FnG P w K mg base CX k f fd ps sp :=
  ⟨F.len, fun A out s H ar us vs Q E r _ e b v h => F.run A out s H ar us vs Q E r e b v h⟩
theorem FnG.mono {j : Nat} (F : FnG P w K mg base CX j f fd ps sp) (h : j ≤ k) : FnG P w K mg base CX k f fd ps sp :=
  ⟨F.len, fun A out s H ar us vs Q E r g e b v z => F.go A out s H ar us vs Q E (r.mono h) g e b v z⟩
theorem FnG.body {x qual : Str} {params : Arguments} {bd : List Stmt} {scope : Scope} {dvs : List V} {kws : List (Str × V)} {N : List Str}
    (F : FunD K x qual params bd scope dvs kws f fd) (S : FnScope N ps scope) (len : ∀ vs H Q E, sp vs H Q E → vs.length = ps.length)
    (hb : ∀ (cdv : Value) (A : Around) (out : List Env) (s : Shared) (H : Hp) (vs : List V) (Q : VK) (E : XK),
      Room k (A.deeper (envOfC qual scope s.heap.objs.size f cdv)) → A.guards = some [] → sp vs H Q E →
      ∃ t, PSs (cxOf CX P w K mg base N qual scope f cdv A out s H E) bd t ∧ t { nx := fun _ H' => Q .non H', rt := Q } (start N vs) H) :
    FnG P w K mg base CX (k + 1) f fd ps sp := by
  obtain ⟨oc, od, dV, kV, doc, pm, an, cdv, ct, osl, rfl, lk, hcd, _, _⟩ := F.ex
  refine ⟨len, ?_⟩
  intro A out s H ar us vs Q E room gd e0 bnd vls pr
  have inS : K.In s.heap := e0.mod.kin.keeps fun b o z => (e0.bs b o z).1
  have nl : s.heap.NoLimit := e0.mod.nolimit.keeps fun b o z => (e0.bs b o z).1
  refine codeAny_call_function room.depth (inS _ _ lk) rfl S.co S.gen rfl (PySem.W.codeRec_of inS hcd) (bnd _ _ _ _ ?_)
  refine wpAny_newFunctionEnv_cells S.kind ?_ ?_
  · intro ⟨n, v⟩ hy
    cases S.par n (List.of_mem_zip hy).1 with
    | inl q => exact .inl q
    | inr q => exact .inr ⟨q, PySem.W.cellsFrom_some _ _ _ (.inl q)⟩
  intro env he s1 x
  subst he
  refine ⟨nl.keeps x.toInCall.keep, codeAny_func ?_⟩
  obtain ⟨t, der, rd⟩ := hb cdv A out s H vs Q E (room.deeper _) gd pr
  have I0 := inv_start (CX := CX) (P := P) (w := w) (K := K) (mg := mg) (base := base) (cd := cdv) (f := f) (E := E)
    (qual := qual) S room.hd e0 (len _ _ _ _ pr) vls x
  refine wpAny_mono (der.run [] s1 (start N vs) H _ I0 rd) ?_ (fun _ _ z => z)
  intro fl s' z
  cases fl with
  | ret u =>
    obtain ⟨v, σ', H', J, rv, q⟩ := z
    exact ⟨v, H', J.os, J.bare, J.base, J.hok, rv, q⟩
  | next =>
    obtain ⟨σ', H', J, q⟩ := z
    exact ⟨V.non, H', J.os, J.bare, J.base, J.hok, rfl, q⟩
  | brk =>
    obtain ⟨_, _, _, q⟩ := z
    exact q.elim
  | cont =>
    obtain ⟨_, _, _, q⟩ := z
    exact q.elim
end
section
variable {X : Cx} {CX : CXT} {k : Nat} {f : Addr} {fd : FuncData} {ps : List Str} {sp : Sp} {dvs : List V} {ds : List Value} {E : XK}
  {x : Str} {p pos : Pos} {e : Expr} {es : List Expr} {t : TA}
theorem runG {pins : List (Addr × Obj)} {σ : L2.St} {H : Hp} {s : Shared} {Q : VK} {us : List Value} {vs : List V}
    (F : FnG X.prog X.w X.K X.mg X.base CX k f fd ps sp) (hr : Room k X.A) (hg : X.A.guards = some []) (hb : Binds X.K fd ps ds) (hd : Vals dvs ds) (hx : Passes CX X E)
    (I : Inv X pins σ H s) (r : Vals vs us) (h : sp (vs ++ dvs) H Q E) : wpAny (model X.prog X.w) X.A (call (.ref f) us) (EP X pins σ Q) X.xe s := by
  have rr : Vals (vs ++ dvs) (us ++ ds) := r.append hd
  have ll : (us ++ ds).length = ps.length := rr.length.symm.trans (F.len _ _ _ _ h)
  have go := F.go X.A X.stack s H ⟨us, []⟩ (us ++ ds) (vs ++ dvs) Q E hr hg I.env0 (hb s us I.kIn ll) rr h
  refine wpAny_call (codeAny_mono go ?_)
  intro r s' z
  match r, z with
  | .error e, z => exact hx pins σ H s e s' I z
  | .ok (.ret u), z => exact I.after z
  | .ok .next, z => exact False.elim z
  | .ok .brk, z => exact False.elim z
  | .ok .cont, z => exact False.elim z
theorem pe_callG (F : FnG X.prog X.w X.K X.mg X.base CX k f fd ps sp) (hr : Room k X.A) (gd : X.A.guards = some []) (hg : Gl X x) (hm : X.mg x = some (.ref f))
    (hk : PySem.W.keepIn X.K (.ref f) = true) (hb : Binds X.K fd ps ds) (hd : Vals dvs ds) (hx : Passes CX X E)
    (ha : PA X (e :: es) t) (hdb : (x == ("__debug__" : Str)) = false := by decide)
    (he : starEach (e :: es) X.env = (false, eval e X.env) :: starEach es X.env := by rfl) (hpl : (backTo pos (starEach es X.env)).any (·.1) = false := by rfl) :
    PE X (.Call (.Name x p) (e :: es) [] pos) (tCall sp dvs E t) := by
  constructor
  intro pins s σ H Q I h
  refine wpAny_Call_Name_kw (ld_glob I hg hm ?_ hdb)
  refine PySem.W.callWith_K (h₀ := X.base) I.ok.mod.kin hk (thn (ha.run pos pins s σ H _ I h) ?_) he hpl
  intro us s1 ⟨vs, H1, I1, r, q⟩
  exact ⟨I1.kIn, runG F hr gd hb hd hx I1 r q⟩
end
/-! the end of a law over such a def -/
theorem callG {P : Program} {w : World} {K : PySem.W.Frag} {mg mb : Str → Option Value} {CX : CXT} {k : Nat} {fa a : Addr} {fd : FuncData} {x : Str} {sp : Sp} {s₁ : Shared}
    {vs : List Value} {ns : List Int}
    (KX : K.In s₁.heap) (hns : s₁.heap.Ns mainGlobals mg) (hb : s₁.heap.Ns builtinsNs mb) (hbb : ∀ x : Str, x ≠ "__name__" → mb x = bootBuiltins x) (hlim : s₁.heap.NoLimit) (hg : s₁.gens = #[])
    (ha : s₁.heap.get? a = some { cls := .type "list", data := .seq vs.toArray }) (hi : IntsAre vs ns) (hl : ns.length ≤ sizeLine) (hr : Room k callerA)
    (F : ∀ base : Heap, K.In base → base.Ns mainGlobals mg → FnG P w K mg base CX k fa fd [x] sp)
    (hbind : ∀ (s : Shared) (u : Value), BindsTo s fd ⟨[u], []⟩ [(x, u)])
    (hsp : ∀ H : Hp, Only H → SqL K H a (ns.map V.int) → sp [.ref a] H (fun v _ => v = .bl true) fun _ _ _ => False)
    (hCX : ∀ H e s', CX [] H s₁ (fun _ _ _ => False) e s' → False) :
    codeAny (model P w) callerA (.call (.ref fa) ⟨[.ref a], []⟩) (fun r s' => r = .ok (.ret (.bool true)) ∧ OldK s₁.heap s'.heap ∧ s'.os = s₁.os ∧ AllBare s'.gens) s₁ := by
  -- whatever is tracked at the entry is the script alone
  have main : ∀ T : Hp, Only T → SqL K T a (ns.map V.int) → HOk P w T s₁.heap → (∀ b, T b ≠ none → b = a ∧ K.lookup a = none) →
      codeAny (model P w) callerA (.call (.ref fa) ⟨[.ref a], []⟩) (fun r s' => r = .ok (.ret (.bool true)) ∧ OldK s₁.heap s'.heap ∧ s'.os = s₁.os ∧ AllBare s'.gens) s₁ := by
    intro T only sq hok alone
    have B : ∀ {b : Addr} {o : Obj}, s₁.heap.get? b = some o → T b = none → (hidT s₁.heap T).get? b = some o := fun e n => hidT_get e n
    have notD : ∀ {b : Addr} {o : Obj} {es : Array DictEntry} {n : Nat}, s₁.heap.get? b = some o → o.data = .dict es n → T b = none := by
      intro b o es n e d
      by_cases q : T b = none
      · exact q
      · have z := (alone b q).1
        subst z
        rw [ha] at e
        cases e
        cases (show Data.seq vs.toArray _ = Data.dict es n from d)
    have nsB : ∀ {b : Addr} {m : Str → Option Value}, s₁.heap.Ns b m → (hidT s₁.heap T).Ns b m :=
      fun ⟨o, es, n, e, d, r⟩ => ⟨o, es, n, B e (notD e d), d, r⟩
    have inB : K.In (hidT s₁.heap T) := by
      intro b o e
      refine B (KX b o e) ?_
      by_cases q : T b = none
      · exact q
      · obtain ⟨z1, z2⟩ := alone b q
        subst z1
        rw [z2] at e
        cases e
    have modB : Mod K mg (hidT s₁.heap T) := by
      obtain ⟨mc, l1, l2⟩ := hlim
      exact ⟨inB, nsB hns, ⟨mb, nsB hb, hbb⟩, mc, nsB l1, l2⟩
    have e0 : Env0 P w K mg (hidT s₁.heap T) callerA [] s₁ T := by
      refine ⟨rfl, modB, fun b o z => of_hidT z, Nat.le_of_eq (hidT_size _ _), trivial, ?_, hok, .of_eq hg⟩
      intro b z
      exact absurd (show b ∈ ([] : List Addr) from z) (by simp)
    have run := (F _ inB (nsB hns)).go callerA [] s₁ T ⟨[.ref a], []⟩ [.ref a] [.ref a] _ _ hr rfl e0 (hbind s₁ (.ref a)) (.cons rfl .nil) (hsp T only sq)
    refine codeAny_mono run ?_
    intro r s' z
    match r, z with
    | .error e, z => exact (hCX T e s' z).elim
    | .ok .next, z => exact False.elim z
    | .ok .brk, z => exact False.elim z
    | .ok .cont, z => exact False.elim z
    | .ok (.ret u), ⟨v, T', os, bare, un, hok', rel, q⟩ =>
      cases (show v = .bl true from q)
      cases (show u = Value.bool true from rel)
      refine ⟨rfl, OldK.of_keep ?_, os, bare⟩
      intro b o e
      cases q : T b with
      | none =>
        refine un.keep b o e q ?_ (by simp)
        intro z
        exact absurd (show b ∈ ([] : List Addr) from z) (by simp)
      | some u =>
        rcases only b with z | ⟨ob, ys, z⟩
        · rw [q] at z
          cases z
        · obtain ⟨e1, _⟩ := hok b _ z
          obtain ⟨e2, _⟩ := hok' b _ (un.frzs b ob _ z)
          rw [e] at e1
          cases e1
          exact e2
  cases hk : K.lookup a with
  | some o =>
    have e := KX a o hk
    rw [ha] at e
    cases e
    refine main (fun _ => none) (fun _ => .inl rfl) ?_ (fun b u z => nomatch (show (none : Option HO) = some u from z)) (fun b z => absurd rfl z)
    exact .inr ⟨_, vs.toArray, _, hk, rfl, rfl, rfl, by rw [List.size_toArray, hi.length]; exact hl, by simpa using vals_ints hi⟩
  | none =>
    obtain ⟨T, yes, no⟩ : ∃ T : Hp, (∀ b : Addr, b = a → T b = some (.frz { cls := .type "list", data := .seq vs.toArray } (.lst (ns.map V.int)))) ∧ (∀ b : Addr, b ≠ a → T b = none) :=
      ⟨fun c => if c = a then some (.frz { cls := .type "list", data := .seq vs.toArray } (.lst (ns.map V.int))) else none, fun b h => if_pos h, fun b h => if_neg h⟩
    refine main T ?_ (.inl (.inr ⟨_, yes a rfl⟩)) ?_ ?_
    · intro b
      by_cases h : b = a
      · exact .inr ⟨_, _, yes b h⟩
      · exact .inl (no b h)
    · intro b u z
      by_cases h : b = a
      · have z' := (yes b h).symm.trans z
        cases z'
        subst h
        exact ⟨ha, by rw [List.length_map]; exact hl, vs, _, vals_ints hi, ha⟩
      · have z' := (no b h).symm.trans z
        cases z'
    · intro b z
      by_cases h : b = a
      · exact ⟨h, hk⟩
      · exact absurd (no b h) z
theorem walkG {l : PySem.W.OpenLaw} {n k : Nat} {q : Program} {loose : List Str} {XP : (Str → Option Value) → Heap → Prop} {YP : World → Heap → Prop} {d : DefRec} {CX : CXT} {x : Str}
    (hn : l.most = some n) (hn2 : n ≤ sizeLine) (hdf : d.params.defaults = []) (hr : Room k callerA)
    (F : ∀ (w : World) (mg : Str → Option Value) (fa : Addr) (h : Heap), YP w h → h.Ns mainGlobals mg → mg d.name = some (.ref fa) →
      ∃ (K : PySem.W.Frag) (fd : FuncData) (sp : Sp), K.In h ∧ (∀ (s : Shared) (u : Value), BindsTo s fd ⟨[u], []⟩ [(x, u)]) ∧
        (∀ (H : Hp) (a : Addr) (ns : List Int), ns.length ≤ n → Only H → SqL K H a (ns.map V.int) → sp [.ref a] H (fun v _ => v = .bl true) fun _ _ _ => False) ∧
        ∀ base : Heap, K.In base → base.Ns mainGlobals mg → FnG l.prog w K mg base CX k fa fd [x] sp)
    (hCX : ∀ (H : Hp) (s : Shared) (e : Value) (s' : Shared), CX [] H s (fun _ _ _ => False) e s' → False) :
    PySem.W.WalkO q loose XP YP l.row.toRowW d [] (fun f vs => PySem.call f vs) := by
  apply Att.attach_call hn hdf
  intro w s₀ s₁ mg mb fa o pm cd doc a vs ns G Y ho hd hcd hmg hobj hints hlen hg
  obtain ⟨K, fd, sp, KX, bnd, say, prom⟩ := F w mg fa _ Y G.T.g hmg
  exact callG KX G.T.g G.T.b G.T.builtins G.T.nolimit hg hobj hints (Nat.le_trans hlen hn2) hr prom bnd (fun H hO hS => say H a ns hlen hO hS) (fun H e s' => hCX H s₁ e s')
end SB
namespace SB
open PySem PySem.Spec PyProof.Rows L2
/-! a def of the text, where it stands; what a caller has of it -/
def GInt (mg : Str → Option Value) (x : Str) (i : Int) : Prop := ∃ t, mg x = some (.int i t)
def Df (K : PySem.W.Frag) (mg : Str → Option Value) (x : Str) (st : Stmt) : Prop :=
  mg x = some (.ref (He.ga K x)) ∧ ∃ fd, FunD K x x (defArgs st) (defBody st) (defScope st) [] [] (He.fAd K (x, none)) fd
theorem pe_gi {X : Cx} {x : Str} {i : Int} {pos : Pos} (h : GInt X.mg x i) (hg : Gl X x := by rfl) (hdb : (x == ("__debug__" : Str)) = false := by decide) : PE X (.Name x pos) (tC (.int i)) := by
  obtain ⟨t, e⟩ := h
  exact pe_glob hg e ⟨_, rfl⟩ hdb
structure Cal (P : Program) (w : World) (K : PySem.W.Frag) (mg : Str → Option Value) (base : Heap) (CX : CXT) (k : Nat) (x : Str) (ps : List Str) (sp : Sp) : Prop where
  ex : ∃ f fd, mg x = some (.ref f) ∧ PySem.W.keepIn K (.ref f) = true ∧ Binds K fd ps [] ∧ FnOk P w K mg base CX k f fd ps sp
structure CalG (P : Program) (w : World) (K : PySem.W.Frag) (mg : Str → Option Value) (base : Heap) (CX : CXT) (k : Nat) (x : Str) (ps : List Str) (sp : Sp) : Prop where
  ex : ∃ f fd, mg x = some (.ref f) ∧ PySem.W.keepIn K (.ref f) = true ∧ Binds K fd ps [] ∧ FnG P w K mg base CX k f fd ps sp
/-- called by keywords alone -/
structure CalK (P : Program) (w : World) (K : PySem.W.Frag) (mg : Str → Option Value) (base : Heap) (CX : CXT) (k : Nat) (x : Str) (ks ps : List Str) (gV : List V → List V → List V) (sp : Sp) : Prop where
  ex : ∃ f fd g, mg x = some (.ref f) ∧ PySem.W.keepIn K (.ref f) = true ∧ KBinds K fd ps ks g gV ∧ FnOk P w K mg base CX k f fd ps sp
section
variable {X : Cx} {CX : CXT} {k j : Nat} {ps ks : List Str} {sp : Sp} {E : XK} {x : Str} {p pos : Pos} {e : Expr} {es : List Expr} {kws : List Keyword} {t tk : TA} {gV : List V → List V → List V}
theorem pe_cal (F : Cal X.prog X.w X.K X.mg X.base CX k x ps sp) (hr : Room k X.A) (hx : Passes CX X E) (ha : PA X (e :: es) t) (hg : Gl X x := by rfl) (hdb : (x == ("__debug__" : Str)) = false := by decide)
    (he : starEach (e :: es) X.env = (false, eval e X.env) :: starEach es X.env := by rfl) (hpl : (backTo pos (starEach es X.env)).any (·.1) = false := by rfl) :
    PE X (.Call (.Name x p) (e :: es) [] pos) (tCall sp [] E t) := by
  obtain ⟨f, fd, e1, e2, e3, e4⟩ := F.ex
  exact pe_call e4 hr hg e1 e2 e3 .nil hx ha hdb he hpl
theorem pe_cal0 (F : Cal X.prog X.w X.K X.mg X.base CX k x ps sp) (hr : Room k X.A) (hx : Passes CX X E) (hg : Gl X x := by rfl) (hdb : (x == ("__debug__" : Str)) = false := by decide) :
    PE X (.Call (.Name x p) [] [] pos) (tCall sp [] E tNil) := by
  obtain ⟨f, fd, e1, e2, e3, e4⟩ := F.ex
  exact pe_call0 e4 hr hg e1 e2 e3 .nil hx hdb
theorem pe_calG (F : CalG X.prog X.w X.K X.mg X.base CX k x ps sp) (hr : Room k X.A) (gd : X.A.guards = some []) (hx : Passes CX X E) (ha : PA X (e :: es) t) (hg : Gl X x := by rfl) (hdb : (x == ("__debug__" : Str)) = false := by decide)
    (he : starEach (e :: es) X.env = (false, eval e X.env) :: starEach es X.env := by rfl) (hpl : (backTo pos (starEach es X.env)).any (·.1) = false := by rfl) :
    PE X (.Call (.Name x p) (e :: es) [] pos) (tCall sp [] E t) := by
  obtain ⟨f, fd, e1, e2, e3, e4⟩ := F.ex
  exact pe_callG e4 hr gd hg e1 e2 e3 .nil hx ha hdb he hpl
theorem pe_calK (F : CalK X.prog X.w X.K X.mg X.base CX k x ks ps gV sp) (hr : Room k X.A) (hx : Passes CX X E) (hkw : PK X kws tk) (hg : Gl X x := by rfl)
    (hall : (backToKw pos (keywordEach kws X.env)).all (·.1.isSome) = true := by rfl) (hks : (backToKw pos (keywordEach kws X.env)).filterMap (·.1) = ks := by rfl)
    (hdb : (x == ("__debug__" : Str)) = false := by decide)
    (hpl : ((backTo pos (starEach [] X.env)).any (·.1) || (backToKw pos (keywordEach kws X.env)).any (·.1.isNone)) = false := by rfl) :
    PE X (.Call (.Name x p) [] kws pos) (tCallK sp gV E tNil tk) := by
  obtain ⟨f, fd, g, e1, e2, e3, e4⟩ := F.ex
  constructor
  intro pins s σ H Q I h
  refine wpAny_Call_Name_kw (ld_glob I hg e1 ?_ hdb)
  refine PySem.W.callWith_KW0 (h₀ := X.base) I.ok.mod.kin e2 hall (thn (hkw.run pos pins s σ H _ I h) ?_) hpl
  intro ws s2 ⟨zs, H2, I2, rz, q2⟩
  refine ⟨I2.kIn, ?_⟩
  rw [hks]
  exact run_fnk (us := []) (vs := []) e4 hr e3 hx I2 .nil rz q2
end
section
variable {P : Program} {w : World} {K : PySem.W.Frag} {mg : Str → Option Value} {base : Heap}
theorem Df.cal {CX : CXT} {k : Nat} {x : Str} {st : Stmt} {N ps : List Str} {sp : Sp} (D : Df K mg x st) (S : FnScope N ps (defScope st)) (len : ∀ vs H Q E, sp vs H Q E → vs.length = ps.length)
    (hb : ∀ (kV doc pm : Value) (an : Option Addr) (cdv ct : Value) (us : List Value), us.length = ps.length → bindArgs (PySem.W.fnOf x x (defArgs st) (defBody st) (defScope st) .none kV doc pm an cdv ct) ⟨us, []⟩ = pure (ps.zip us))
    (body : ∀ (f : Addr) (cdv : Value) (A : Around) (outer : List Env) (s : Shared) (H : Hp) (vs : List V) (Q : VK) (E : XK), Room k (A.deeper (envOfC x (defScope st) s.heap.objs.size f cdv)) → sp vs H Q E →
      ∃ t, PSs (cxOf CX P w K mg base N x (defScope st) f cdv A outer s H E).nox (defBody st) t ∧ t { nx := fun _ H' => Q .non H', rt := Q } (start N vs) H) :
    Cal P w K mg base CX (k + 1) x ps sp := by
  obtain ⟨e, fd, F⟩ := D
  exact ⟨_, fd, e, F.kp, FunD.bindsN F hb, FunD.ok F S len (fun cdv A outer s H vs Q E hr h => let ⟨t, a, b⟩ := body _ cdv A outer s H vs Q E hr h; ⟨t, a.nox, b⟩)⟩
theorem Df.calG {CX : CXT} {k : Nat} {x : Str} {st : Stmt} {N ps : List Str} {sp : Sp} (D : Df K mg x st) (S : FnScope N ps (defScope st)) (len : ∀ vs H Q E, sp vs H Q E → vs.length = ps.length)
    (hb : ∀ (kV doc pm : Value) (an : Option Addr) (cdv ct : Value) (us : List Value), us.length = ps.length → bindArgs (PySem.W.fnOf x x (defArgs st) (defBody st) (defScope st) .none kV doc pm an cdv ct) ⟨us, []⟩ = pure (ps.zip us))
    (body : ∀ (f : Addr) (cdv : Value) (A : Around) (outer : List Env) (s : Shared) (H : Hp) (vs : List V) (Q : VK) (E : XK), Room k (A.deeper (envOfC x (defScope st) s.heap.objs.size f cdv)) → A.guards = some [] → sp vs H Q E →
      ∃ t, PSs (cxOf CX P w K mg base N x (defScope st) f cdv A outer s H E).nox (defBody st) t ∧ t { nx := fun _ H' => Q .non H', rt := Q } (start N vs) H) :
    CalG P w K mg base CX (k + 1) x ps sp := by
  obtain ⟨e, fd, F⟩ := D
  exact ⟨_, fd, e, F.kp, FunD.bindsN F hb, FnG.body F S len (fun cdv A outer s H vs Q E hr g h => let ⟨t, a, b⟩ := body _ cdv A outer s H vs Q E hr g h; ⟨t, a.nox, b⟩)⟩
/-- a def with the promise that its positional callers have, called by keywords -/
theorem Df.calK {CX : CXT} {k : Nat} {x : Str} {st : Stmt} {N ks ps : List Str} {sp : Sp} {gV : List V → List V → List V} (D : Df K mg x st)
    (g : List Value → List Value → List Value)
    (hb : ∀ (kV doc pm : Value) (an : Option Addr) (cdv ct : Value) (us ws : List Value), (g us ws).length = ps.length → bindArgs (PySem.W.fnOf x x (defArgs st) (defBody st) (defScope st) .none kV doc pm an cdv ct) ⟨us, ks.zip ws⟩ = pure (ps.zip (g us ws)))
    (rel : ∀ {vs : List V} {us : List Value} {zs : List V} {ws : List Value}, Vals vs us → Vals zs ws → Vals (gV vs zs) (g us ws))
    (S : FnScope N ps (defScope st)) (len : ∀ vs H Q E, sp vs H Q E → vs.length = ps.length)
    (body : ∀ (f : Addr) (cdv : Value) (A : Around) (outer : List Env) (s : Shared) (H : Hp) (vs : List V) (Q : VK) (E : XK), Room k (A.deeper (envOfC x (defScope st) s.heap.objs.size f cdv)) → sp vs H Q E →
      ∃ t, PSs (cxOf CX P w K mg base N x (defScope st) f cdv A outer s H E).nox (defBody st) t ∧ t { nx := fun _ H' => Q .non H', rt := Q } (start N vs) H) :
    CalK P w K mg base CX (k + 1) x ks ps gV sp := by
  obtain ⟨e, fd, F⟩ := D
  have F2 := F
  obtain ⟨oc, od, dV, kV, doc, pm, an, cdv, ct, osl, rfl, lk, hcd, hD, hK⟩ := F2.ex
  refine ⟨_, _, g, e, F.kp, ⟨fun s us ws _ l => ?_, rel⟩, FunD.ok F S len (fun cdv A outer s H vs Q E hr h => let ⟨t, a, b⟩ := body _ cdv A outer s H vs Q E hr h; ⟨t, a.nox, b⟩)⟩
  rcases hD with ⟨_, rfl⟩ | ⟨z, _⟩
  · exact .of_eq (hb kV doc pm an cdv ct us ws l)
  · exact absurd rfl z
end
/-! values by their types -/
inductive TyN (K : PySem.W.Frag) (H : Hp) : V → String → Prop where
  | non : TyN K H .non "NoneType"
  | bl (b : Bool) : TyN K H (.bl b) "bool"
  | int (i : Int) : TyN K H (.int i) "int"
  | str (x : Str) : TyN K H (.str x) "str"
  | lst {a : Addr} {xs : List V} (h : SqL K H a xs) : TyN K H (.ref a) "list"
  | tup {a : Addr} {xs : List V} (h : SqT K H a xs) : TyN K H (.ref a) "tuple"
  | dct {a : Addr} {kvs : List (Key × V)} (h : H a = some (.dK kvs)) : TyN K H (.ref a) "dict"
theorem TyN.x {K : PySem.W.Frag} {H : Hp} {v : V} {n : String} (h : TyN K H v n) : TyX K H v (.type n) := by
  cases h with
  | non => exact .base .non
  | bl b => exact .base (.bl b)
  | int i => exact .base (.int i)
  | str x => exact .base (.str x)
  | lst h =>
    rcases h with (h | ⟨o, h⟩) | ⟨o, its, n, h, c, _⟩
    · exact .base (.lst h)
    · exact .base (.frz h)
    · exact .kList h c
  | tup h =>
    rcases h with (h | ⟨o, h⟩) | ⟨o, its, n, h, c, _⟩
    · exact .base (.tup h)
    · exact .fTuple h
    · exact .kTuple h c
  | dct h => exact .base (.dK h)
theorem TyN.kit {K : PySem.W.Frag} {H : Hp} {v : V} {n m : String} (h : TyN K H v n) (hm : m = "int" ∨ m = "bool" ∨ m = "str" ∨ m = "list" ∨ m = "tuple") :
    PySem.W.kitOne K (.type n) (.type m) = some (decide (n = m ∨ n = "bool" ∧ m = "int")) := by
  cases h <;> (rcases hm with rfl | rfl | rfl | rfl | rfl) <;> exact kit_ty (by decide +kernel)
theorem same_upd {H : Hp} {p : Addr} {o : HO} (h : H p = none) : Same H (upd H p o) := fun b x e => by
  rw [upd_ne (ne_of_none e h)]
  exact e
end SB
namespace SB
open PySem PySem.Spec PyProof.Rows L2 Evl
/-! shapes, frames: the mathematics -/
inductive Pa where
  | no | ev | od
def Pa.s : Pa → Str
  | .no => "none"
  | .ev => "even"
  | .od => "odd"
def bits (b : Nat) (x : Int) : List Int := (List.range b).map fun i => x / 2 ^ i % 2
def parL (b : Nat) (p : Pa) (x : Int) : List Int := match p with
  | .no => []
  | .ev => [(bits b x).sum % 2]
  | .od => [1 - (bits b x).sum % 2]
def frm (b : Nat) (p : Pa) (s : Nat) (x : Int) : List Int := 0 :: (bits b x ++ (parL b p x ++ List.replicate s 1))
def frms (b : Nat) (p : Pa) (s : Nat) (ns : List Int) : List Int := (ns.map (frm b p s)).flatten
theorem bits_len (b : Nat) (x : Int) : (bits b x).length = b := by simp [bits]
theorem bits_succ (b : Nat) (x : Int) : bits (b + 1) x = bits b x ++ [x / 2 ^ b % 2] := by
  simp [bits, List.range_succ]
theorem parL_len (b : Nat) (p : Pa) (x : Int) : (parL b p x).length ≤ 1 := by cases p <;> simp [parL]
theorem frm_len (b : Nat) (p : Pa) (s : Nat) (x : Int) : (frm b p s x).length = 1 + b + (parL b p x).length + s := by
  simp [frm, bits_len]; omega
theorem frm_le (b : Nat) (p : Pa) (s : Nat) (x : Int) : (frm b p s x).length ≤ 2 + b + s := by
  have := frm_len b p s x
  have := parL_len b p x
  omega
theorem bits_01 {b : Nat} {x y : Int} (h : y ∈ bits b x) : y = 0 ∨ y = 1 := by
  unfold bits at h
  obtain ⟨i, _, rfl⟩ := List.mem_map.mp h
  omega
theorem frm_01 {b : Nat} {p : Pa} {s : Nat} {x y : Int} (h : y ∈ frm b p s x) : y = 0 ∨ y = 1 := by
  unfold frm at h
  rcases List.mem_cons.mp h with h | h
  · exact .inl h
  rcases List.mem_append.mp h with h | h
  · exact bits_01 h
  rcases List.mem_append.mp h with h | h
  · cases p with
    | no => cases h
    | ev =>
      have := List.mem_singleton.mp h
      omega
    | od =>
      have := List.mem_singleton.mp h
      omega
  · exact .inr (List.eq_of_mem_replicate h)
theorem frms_01 {b : Nat} {p : Pa} {s : Nat} {ns : List Int} {y : Int} (h : y ∈ frms b p s ns) : y = 0 ∨ y = 1 := by
  unfold frms at h
  obtain ⟨l, hl, hy⟩ := List.mem_flatten.mp h
  obtain ⟨x, _, rfl⟩ := List.mem_map.mp hl
  exact frm_01 hy
theorem frms_snoc (b : Nat) (p : Pa) (s : Nat) (ns : List Int) (n : Int) : frms b p s (ns ++ [n]) = frms b p s ns ++ frm b p s n := by simp [frms]
theorem frms_le (b : Nat) (p : Pa) (s : Nat) : ∀ ns : List Int, (frms b p s ns).length ≤ ns.length * (2 + b + s)
  | [] => by simp [frms]
  | n :: ns => by
    have h := frms_le b p s ns
    have h2 := frm_le b p s n
    have e : frms b p s (n :: ns) = frm b p s n ++ frms b p s ns := by simp [frms]
    rw [e, List.length_append, List.length_cons, Nat.add_mul]
    omega
theorem div_step (x : Int) (i : Nat) : x / 2 ^ i / 2 = x / 2 ^ (i + 1) := by
  rw [Int.pow_succ, Int.ediv_ediv_of_nonneg (Int.pow_nonneg (by decide))]
/-! data -/
def dI (ns : List Int) : List PyData := ns.map PyData.int
theorem dp_ints {K : PySem.W.Frag} {H : Hp} : ∀ ns : List Int, DpAll K H (ns.map V.int) (dI ns)
  | [] => .nil
  | n :: ns => .cons (.int n) (dp_ints ns)
theorem int_log {i : Int} {k : Nat} (hk : 0 < k) (h : i.natAbs < 2 ^ k) : i.natAbs.log2 < k := PySem.Flt.log2_lt_of hk h
/-- a list of small ints can be shown -/
theorem show_ints (ns : List Int) (h : ∀ n ∈ ns, n.natAbs < 2 ^ 200) : PyData.showableAll (dI ns) = true ∧ PyData.hasDictAll (dI ns) = false ∧ PyData.depthAll (dI ns) = 0 ∧
    ((PyData.shownAll (dI ns)).map (·.length)).sum ≤ 201 * ns.length ∧ (PyData.shownAll (dI ns)).length = ns.length := by
  induction ns with
  | nil => simp [dI, PyData.showableAll, PyData.hasDictAll, PyData.depthAll, PyData.shownAll]
  | cons n ns ih =>
    obtain ⟨h1, h2, h3, h4, h5⟩ := ih fun m hm => h m (List.mem_cons_of_mem _ hm)
    have hn := h n (List.mem_cons_self ..)
    have hl : n.natAbs.log2 < 200 := int_log (by decide) hn
    have ht : (Str.ofString (toString n)).length ≤ 201 := by
      rw [PySem.ofString_length]
      exact int_text_length_le (k := 200) (by decide) hl
    have e : dI (n :: ns) = PyData.int n :: dI ns := rfl
    rw [e]
    refine ⟨?_, ?_, ?_, ?_, ?_⟩
    · simp only [PyData.showableAll, PyData.showable, h1, Bool.and_true, decide_eq_true_eq]
      omega
    · simp only [PyData.hasDictAll, PyData.hasDict, h2, Bool.false_or]
    · simp only [PyData.depthAll, PyData.depth, h3]
      rfl
    · simp only [PyData.shownAll, PyData.shown, List.map_cons, List.sum_cons, List.length_cons]
      omega
    · simp only [PyData.shownAll, List.length_cons, h5]
theorem show_list {ns : List Int} (h : ∀ n ∈ ns, n.natAbs < 2 ^ 200) (hl : ns.length ≤ 10000) :
    (PyData.list (dI ns)).showable = true ∧ (PyData.list (dI ns)).hasDict = false ∧ (PyData.list (dI ns)).depth ≤ 60 ∧ (PyData.list (dI ns)).shown.length ≤ sizeLine := by
  obtain ⟨h1, h2, h3, h4, h5⟩ := show_ints ns h
  refine ⟨?_, ?_, ?_, ?_⟩
  · simp only [PyData.showable, h1]
  · simp only [PyData.hasDict, h2]
  · simp only [PyData.depth, h3]
    omega
  · simp only [PyData.shown]
    have := listText_len_le (PyData.shownAll (dI ns))
    rw [sizeLine_eq]
    omega
/-- the reading of repr(xs), xs a list of ints -/
theorem rp_list {K : PySem.W.Frag} {H : Hp} {a : Addr} {ns : List Int} {Q : VK} (hs : SqL K H a (ns.map V.int)) (h : ∀ n ∈ ns, n.natAbs < 2 ^ 200) (hl : ns.length ≤ 10000)
    (q : Q (.str (PyData.list (dI ns)).shown) H) : rRp K [.ref a] H Q := by
  obtain ⟨h1, h2, h3, h4⟩ := show_list h hl
  exact ⟨_, _, rfl, .lst hs (dp_ints ns), h1, h2, h3, h4, q⟩
/-! heaps -/
def Kp (a : Addr) (H H' : Hp) : Prop := ∀ b o, b ≠ a → H b = some o → H' b = some o
theorem Ex.kp {a : Addr} {H H' : Hp} (e : Ex H H') : Kp a H H' := fun b o _ h => e b o h
theorem Kp.trans {a : Addr} {H H1 H2 : Hp} (x : Kp a H H1) (y : Kp a H1 H2) : Kp a H H2 := fun b o n h => y b o n (x b o n h)
theorem Kp.refl {a : Addr} {H : Hp} : Kp a H H := fun _ _ _ h => h
theorem Kp.upd {a : Addr} {H : Hp} {o : HO} : Kp a H (upd H a o) := fun b u n h => by
  rw [upd_ne n]
  exact h
theorem Kp.tup {K : PySem.W.Frag} {a t : Addr} {H H' : Hp} {xs ys : List V} (k : Kp a H H') (ha : H a = some (.lst ys)) (h : SqT K H t xs) : SqT K H' t xs := by
  rcases h with (h | ⟨o, h⟩) | h
  · exact .inl (.inl (k t _ (fun e => by rw [e, ha] at h; cases h) h))
  · exact .inl (.inr ⟨o, k t _ (fun e => by rw [e, ha] at h; cases h) h⟩)
  · exact .inr h
theorem Kp.free {a p : Addr} {H H' : Hp} (k : Kp a H H') (hp : H' p = none) (ha : p ≠ a) : H p = none := by
  cases h : H p with
  | none => rfl
  | some o =>
    rw [k p o ha h] at hp
    cases hp
/-! shapes as values -/
def IsSh (K : PySem.W.Frag) (H : Hp) (v : V) (b : Nat) (p : Pa) (s : Nat) : Prop :=
  ∃ t, v = .ref t ∧ SqT K H t [.int b, .str p.s, .int s] ∧ 1 ≤ b ∧ b ≤ 9 ∧ 1 ≤ s ∧ s ≤ 2
theorem IsSh.ex {K : PySem.W.Frag} {H H' : Hp} {v : V} {b : Nat} {p : Pa} {s : Nat} (e : Ex H H') (h : IsSh K H v b p s) : IsSh K H' v b p s := by
  obtain ⟨t, e1, e2, r⟩ := h
  exact ⟨t, e1, ex_t e e2, r⟩
theorem IsSh.kp {K : PySem.W.Frag} {H H' : Hp} {v : V} {b : Nat} {p : Pa} {s : Nat} {a : Addr} {ys : List V} (e : Kp a H H') (ha : H a = some (.lst ys)) (h : IsSh K H v b p s) : IsSh K H' v b p s := by
  obtain ⟨t, e1, e2, r⟩ := h
  exact ⟨t, e1, e.tup ha e2, r⟩
theorem no_is (p : Pa) : decide (V.str p.s = V.str "none") = match p with | .no => true | _ => false := by cases p <;> decide +kernel
theorem ev_is' (p : Pa) : decide (V.str p.s = V.str "even") = match p with | .ev => true | _ => false := by cases p <;> decide +kernel
theorem od_is (p : Pa) : decide (V.str p.s = V.str "odd") = match p with | .od => true | _ => false := by cases p <;> decide +kernel
theorem pa_in (p : Pa) : inV (.str p.s) [.str "none", .str "even", .str "odd"] = true := by cases p <;> decide +kernel
theorem atI_i {xs : List V} {v : V} (i : Int) (j : Nat) (e : i = (j : Int)) (h : xs[j]? = some v) : atI xs i = some v := by
  rw [e]
  exact atI_nat h
/-! isinstance of the kinds -/
section
variable {K : PySem.W.Frag}
theorem ki {n m : String} {b : Bool} (h : kitB n m = some b := by decide +kernel) : PySem.W.kitOne K (.type n) (.type m) = some b := kit_ty h
end
/-! a draw's source -/
def Src (H : Hp) (a : Addr) (n : Nat) : Prop := ∃ l sd c : Int, H a = some (.lst [.int l, .int sd, .int c]) ∧ 0 ≤ sd ∧ sd < 4611686018427387904 ∧ 0 ≤ c ∧ c ≤ n
theorem Src.mono {H : Hp} {a : Addr} {n m : Nat} (h : Src H a n) (e : n ≤ m) : Src H a m := by
  obtain ⟨l, sd, c, h1, h2, h3, h4, h5⟩ := h
  exact ⟨l, sd, c, h1, h2, h3, h4, by omega⟩
theorem Src.ex {H H' : Hp} {a : Addr} {n : Nat} (h : Src H a n) (e : Ex H H') : Src H' a n := by
  obtain ⟨l, sd, c, h1, h2⟩ := h
  exact ⟨l, sd, c, e _ _ h1, h2⟩
theorem cpow3 {i : Int} (h0 : 0 ≤ i) (h : i < 2 ^ 250) : CPowB i 3 := by
  have h1 : i.natAbs < 2 ^ 250 := by
    have e : (2 : Int) ^ 250 = ((2 ^ 250 : Nat) : Int) := by norm_cast
    omega
  have h2 := int_log (by decide) h1
  exact ⟨by decide, by omega⟩
theorem cpow10 (k : Int) (h0 : 0 ≤ k) (h : k ≤ 1000) : CPowB 10 k := by
  refine ⟨h0, ?_⟩
  have e : ((10 : Int).natAbs.log2 : Int) + 1 = 4 := by decide
  rw [e]
  omega
end SB
namespace SB
open PySem PySem.Spec PyProof.Rows L2 Evl
/-! lists that are made of lists -/
def EvX (te : TE) (σ : L2.St) (H : Hp) (xs : List V) : Prop := ∀ H1, Ex H H1 → ∀ Q : VK, (∀ p H2, Ex H1 H2 → H2 p = some (.lst xs) → Q (.ref p) H2) → te σ H1 Q
section
variable {σ : L2.St} {H : Hp} {ta tb te : TE} {xs ys : List V} {K : PySem.W.Frag}
theorem evx_var {i : Nat} {a : Addr} (h : σ[i]? = some (some (.ref a))) (ha : H a = some (.lst xs)) : EvX (tVar i) σ H xs := fun H1 e Q q => ⟨_, h, q a H1 (Ex.refl H1) (e a _ ha)⟩
theorem evx_new (h : EvL te σ H xs) : EvX te σ H xs := fun H1 e Q q => h H1 e Q fun p H2 _ e2 h2 => q p H2 e2 h2
theorem el_cat (ha : EvX ta σ H xs) (hb : EvX tb σ H ys) (hl : xs.length + ys.length ≤ 100000) : EvL (tOp rCat ta tb) σ H (xs ++ ys) := fun H1 e Q q =>
  ha H1 e _ fun p H2 e2 h2 => hb H2 (e.trans e2) _ fun r H3 e3 h3 => ⟨p, r, xs, ys, rfl, rfl, e3 _ _ h2, h3, sz_of hl, fun l nl =>
    q l _ (fresh_back (e2.trans e3) nl) ((e2.trans e3).trans (Ex.new nl)) upd_same⟩
theorem el_rep {k : Int} (ha : EvX ta σ H xs) (hb : Ev tb σ H (.int k)) (h0 : -(2 ^ 63) ≤ k) (h1 : k < 2 ^ 63) (hl : xs.length * k.toNat ≤ 100000) : EvL (tOp rRep ta tb) σ H (List.replicate k.toNat xs).flatten := fun H1 e Q q =>
  ha H1 e _ fun p H2 e2 h2 => hb H2 (e.trans e2) _ fun H3 e3 => ⟨p, k, xs, rfl, rfl, e3 _ _ h2, h0, h1, sz_of hl, fun l nl =>
    q l _ (fresh_back (e2.trans e3) nl) ((e2.trans e3).trans (Ex.new nl)) upd_same⟩
theorem el_call {sp : Sp} {E : XK} {t : TA} {vs : List V} (ha : EvA t σ H vs) (h : ∀ H1, Ex H H1 → ∀ Q : VK, RetL xs H1 Q → sp (vs ++ []) H1 Q E) : EvL (tCall sp [] E t) σ H xs := fun H1 e Q q =>
  ha H1 e _ fun H2 e2 => h H2 (e.trans e2) Q fun p H3 n e3 h3 => q p H3 (fresh_back e2 n) (e2.trans e3) h3
theorem ev_call {sp : Sp} {E : XK} {t : TA} {vs : List V} {v : V} (ha : EvA t σ H vs) (h : ∀ H1, Ex H H1 → ∀ Q : VK, RetV v H1 Q → sp (vs ++ []) H1 Q E) : Ev (tCall sp [] E t) σ H v := fun H1 e Q q =>
  ha H1 e _ fun H2 e2 => h H2 (e.trans e2) Q fun H3 e3 => q H3 (e2.trans e3)
theorem ev_ixT {t : Addr} {i : Int} {v : V} (ha : Ev ta σ H (.ref t)) (hb : Ev tb σ H (.int i)) (h : SqT K H t xs) (hi : atI xs i = some v) : Ev (tOp (rIxT K) ta tb) σ H v := ev_op ha hb (rv_ixT h hi)
end
theorem rep_one (k : Nat) (i : Int) : (List.replicate (k : Int).toNat [V.int i]).flatten = (List.replicate k i).map V.int := by
  rw [Int.toNat_natCast, List.map_replicate]
  simp
theorem ints_at {ns : List Int} {i : Nat} {y : V} (hi : (ns.map V.int)[i]? = some y) : ∃ z, ns[i]? = some z ∧ y = V.int z := by
  rw [List.getElem?_map] at hi
  cases e : ns[i]? with
  | none =>
    rw [e] at hi
    cases hi
  | some z =>
    rw [e] at hi
    exact ⟨z, rfl, (Option.some.inj hi).symm⟩
theorem Kp.new {a : Addr} {H H1 H2 : Hp} (e : Ex H H1) (k : Kp a H1 H2) (h : H a = none) : Ex H H2 := fun b o hb =>
  k b o (ne_of_none hb h) (e b o hb)
theorem Src.at {H : Hp} {a : Addr} {n : Nat} (h : Src H a n) : ∃ ys, H a = some (.lst ys) := by
  obtain ⟨l, sd, c, e, _⟩ := h
  exact ⟨_, e⟩
theorem Src.ne {H : Hp} {a p : Addr} {n : Nat} (h : Src H a n) (hp : H p = none) : p ≠ a := by
  obtain ⟨ys, e⟩ := h.at
  exact fun z => by rw [z, e] at hp; cases hp
end SB
namespace SB
open PySem PySem.Spec PyProof.Rows L2 Evl
theorem seq_any {te : TE} {i : Nat} {u : TS} {D : L2.Ends} {σ : L2.St} {H : Hp} {P : V → Prop} (h : ∀ Q' : VK, (∀ v, P v → Q' v H) → te σ H Q') (k : ∀ v, P v → u D (σ.set i (some v)) H) :
    tSeq (tAsg te (gName i)) u D σ H := h _ k
end SB
namespace SB
open PySem PySem.Spec PyProof.Rows L2 Evl
theorem Kp.mut {a p : Addr} {H H' : Hp} {o : HO} (k : Kp a H H') (h : H p = none) : Kp a H (L2.upd H' p o) := fun b u n hb => by
  rw [upd_ne (ne_of_none hb h)]
  exact k b u n hb
theorem Src.upd {H : Hp} {a p : Addr} {n : Nat} {o : HO} (h : Src H a n) (ne : p ≠ a) : Src (L2.upd H p o) a n := by
  obtain ⟨l, sd, c, e, r⟩ := h
  refine ⟨l, sd, c, ?_, r⟩
  rw [upd_ne (Ne.symm ne)]
  exact e
end SB
namespace SB
open PySem PySem.Spec PyProof.Rows L2 Evl
/-- a loop over enumerate of a list -/
theorem for_enum {K : PySem.W.Frag} {a : Addr} {xs : List V} {g : TG} {tb : TS} {D : L2.Ends} {σ : L2.St} {H : Hp} (Pv : Nat → L2.St → Hp → Prop) (h0 : Pv 0 σ H)
    (hq : ∀ i σ H, i ≤ xs.length → Pv i σ H → SqL K H a xs)
    (hs : ∀ (i : Nat) (x : V) (T : Addr) (σ : L2.St) (H : Hp), xs[i]? = some x → Pv i σ H → H T = none →
      g (.ref T) σ (L2.upd H T (.tup [.int (i : Nat), x])) fun σ2 H2 => tb { D with nx := Pv (i + 1), ct := Pv (i + 1), bk := D.nx } σ2 H2)
    (hd : ∀ σ H, Pv xs.length σ H → D.nx σ H) :
    ∃ W : Nat → Nat → L2.St → Hp → Prop, (∃ m, W 0 m σ H) ∧ ∀ i m σ H, W i m σ H →
      ((Ite K a).stop i H ∧ D.nx σ H) ∨ ((Ite K a).go i H ∧ ∃ N : L2.St → Hp → Prop, (∀ σ' H', N σ' H' → ∃ m', m' < m ∧ W (i + 1) m' σ' H') ∧
        ∀ v H', (Ite K a).yld i H v H' → g v σ H' fun σ2 H2 => tb { D with nx := N, ct := N, bk := D.nx } σ2 H2) := by
  refine ⟨fun i m σ H => m + i = xs.length ∧ Pv i σ H, ⟨xs.length, by omega, h0⟩, ?_⟩
  rintro i m σ H ⟨e, pv⟩
  have sq := hq i σ H (by omega) pv
  by_cases lt : i < xs.length
  · have hx : xs[i]? = some xs[i] := List.getElem?_eq_getElem lt
    refine .inr ⟨⟨xs, xs[i], sq, hx⟩, Pv (i + 1), fun σ' H' p' => ⟨m - 1, by omega, by omega, p'⟩, ?_⟩
    intro v H' y
    obtain ⟨T, x, rfl, nT, rfl, fx⟩ := y
    exact hs i x T σ H (fx xs sq) pv nT
  · obtain rfl : i = xs.length := by omega
    exact .inl ⟨⟨xs, sq, Nat.le_refl _⟩, hd σ H pv⟩
/-! keyword calls: the values in the parameters' order -/
def gPm {α : Type} (perm : List Nat) (us ws : List α) : List α := if us.length = 0 ∧ ws.length = perm.length then perm.filterMap fun i => ws[i]? else []
theorem rel_pick {zs : List V} {ws : List Value} (r : Vals zs ws) : ∀ perm : List Nat, Vals (perm.filterMap fun i => zs[i]?) (perm.filterMap fun i => ws[i]?)
  | [] => .nil
  | i :: perm => by
    have ih := rel_pick r perm
    have hl := r.length
    rw [List.filterMap_cons, List.filterMap_cons]
    cases e : zs[i]? with
    | none =>
      have e2 : ws[i]? = none := by
        rw [List.getElem?_eq_none_iff] at e ⊢
        omega
      rw [e2]
      exact ih
    | some v =>
      obtain ⟨u, hu, rv⟩ := r.get e
      rw [hu]
      exact .cons rv ih
theorem rel_gPm (perm : List Nat) {vs : List V} {us : List Value} {zs : List V} {ws : List Value} (r : Vals vs us) (rz : Vals zs ws) : Vals (gPm perm vs zs) (gPm perm us ws) := by
  unfold gPm
  rw [r.length, rz.length]
  split
  · exact rel_pick rz perm
  · exact .nil
/-! where a line of levels changes: the level ahead of all is 1, the i-th level begins at T i -/
def pvl (ls : List Int) : Nat → Int
  | 0 => 1
  | i + 1 => ls.getD i 1
def ch (ls : List Int) (T : Nat → Int) : Nat → List Int
  | 0 => []
  | i + 1 => ch ls T i ++ (if ls.getD i 1 = pvl ls i then [] else [T i])
theorem ch_len (ls : List Int) (T : Nat → Int) : ∀ n, (ch ls T n).length ≤ n
  | 0 => Nat.le_refl _
  | n + 1 => by
    have := ch_len ls T n
    unfold ch
    rw [List.length_append]
    split
    · simp
      omega
    · simp
      omega
theorem ch_congr {ls : List Int} {T U : Nat → Int} : ∀ {n : Nat}, (∀ i, i < n → T i = U i) → ch ls T n = ch ls U n
  | 0, _ => rfl
  | n + 1, h => by
    unfold ch
    rw [ch_congr fun i hi => h i (by omega), h n (by omega)]
theorem ch_mem {ls : List Int} {T : Nat → Int} {y : Int} : ∀ {n : Nat}, y ∈ ch ls T n → ∃ i, i < n ∧ y = T i
  | 0, h => by cases h
  | n + 1, h => by
    unfold ch at h
    rcases List.mem_append.mp h with h | h
    · obtain ⟨i, hi, e⟩ := ch_mem h
      exact ⟨i, by omega, e⟩
    · split at h
      · cases h
      · exact ⟨n, by omega, List.mem_singleton.mp h⟩
/-- a line behind another one that ends at 1 -/
theorem ch_app {A B : List Int} {T : Nat → Int} (h1 : pvl A A.length = 1) : ∀ k, k ≤ B.length → ch (A ++ B) T (A.length + k) = ch A T A.length ++ ch B (fun i => T (A.length + i)) k
  | 0, _ => by
    have : ∀ n, n ≤ A.length → ch (A ++ B) T n = ch A T n := by
      intro n
      induction n with
      | zero => intro _; rfl
      | succ n ih =>
        intro hn
        unfold ch
        rw [ih (by omega)]
        have e1 : (A ++ B).getD n 1 = A.getD n 1 := by
          rw [List.getD_eq_getElem?_getD, List.getD_eq_getElem?_getD, List.getElem?_append_left (by omega)]
        have e2 : pvl (A ++ B) n = pvl A n := by
          cases n with
          | zero => rfl
          | succ m =>
            show (A ++ B).getD m 1 = A.getD m 1
            rw [List.getD_eq_getElem?_getD, List.getD_eq_getElem?_getD, List.getElem?_append_left (by omega)]
        rw [e1, e2]
    rw [Nat.add_zero, this A.length (Nat.le_refl _)]
    simp [ch]
  | k + 1, hk => by
    have ih := ch_app (A := A) (B := B) (T := T) h1 k (by omega)
    have e1 : (A ++ B).getD (A.length + k) 1 = B.getD k 1 := by
      rw [List.getD_eq_getElem?_getD, List.getD_eq_getElem?_getD, List.getElem?_append_right (by omega), Nat.add_sub_cancel_left]
    have e2 : pvl (A ++ B) (A.length + k) = pvl B k := by
      cases k with
      | zero =>
        rw [Nat.add_zero]
        show _ = 1
        rw [← h1]
        generalize hA : A.length = n
        cases n with
        | zero => rfl
        | succ m =>
          show (A ++ B).getD m 1 = A.getD m 1
          have hm : m < A.length := by omega
          rw [List.getD_eq_getElem?_getD, List.getD_eq_getElem?_getD, List.getElem?_append_left hm]
      | succ m =>
        show (A ++ B).getD (A.length + m) 1 = B.getD m 1
        rw [List.getD_eq_getElem?_getD, List.getD_eq_getElem?_getD, List.getElem?_append_right (by omega), Nat.add_sub_cancel_left]
    show ch (A ++ B) T (A.length + k) ++ (if (A ++ B).getD (A.length + k) 1 = pvl (A ++ B) (A.length + k) then [] else [T (A.length + k)]) = _
    rw [ih, e1, e2, List.append_assoc]
    rfl
def plen : Pa → Nat
  | .no => 0
  | _ => 1
def sz (b : Nat) (p : Pa) (s : Nat) : Nat := 1 + b + plen p + s
theorem frm_sz (b : Nat) (p : Pa) (s : Nat) (x : Int) : (frm b p s x).length = sz b p s := by
  rw [frm_len]
  cases p <;> rfl
/-- a frame ends at 1 -/
theorem frm_end {b : Nat} {p : Pa} {s : Nat} (x : Int) (hs : 1 ≤ s) : pvl (frm b p s x) (frm b p s x).length = 1 := by
  have hl := frm_len b p s x
  generalize hn : (frm b p s x).length = n at hl
  cases n with
  | zero => omega
  | succ m =>
    show (frm b p s x).getD m 1 = 1
    rw [List.getD_eq_getElem?_getD]
    unfold frm
    have hp : (parL b p x).length ≤ 1 := parL_len b p x
    rw [show m = ((bits b x).length + (parL b p x).length + (s - 1)) + 1 by rw [bits_len]; omega, List.getElem?_cons_succ, ← List.append_assoc, List.getElem?_append_right (by rw [List.length_append]; omega), List.length_append, Nat.add_sub_cancel_left,
      List.getElem?_replicate]
    rw [if_pos (by omega)]
    rfl
/-- a text's levels are sent from the ticks of its sending -/
def sig (b : Nat) (p : Pa) (s : Nat) (ln : Int) (snd : List (Int × Int)) : List Int := (snd.map fun q => ch (frm b p s q.2) (fun i => q.1 + (i : Int) * ln) (sz b p s)).flatten
def tks (n : Nat) (ln : Int) (snd : List (Int × Int)) : List Int := (snd.map fun q => (List.range n).map fun i : Nat => q.1 + (i : Int) * ln).flatten
theorem tks_len (n : Nat) (ln : Int) : ∀ snd : List (Int × Int), (tks n ln snd).length = snd.length * n
  | [] => by simp [tks]
  | q :: r => by
    have ih := tks_len n ln r
    have e : tks n ln (q :: r) = ((List.range n).map fun i : Nat => q.1 + (i : Int) * ln) ++ tks n ln r := by simp [tks]
    rw [e, List.length_append, ih, List.length_map, List.length_range, List.length_cons, Nat.add_mul]
    omega
theorem frms_sz (b : Nat) (p : Pa) (s : Nat) : ∀ ns : List Int, (frms b p s ns).length = ns.length * sz b p s
  | [] => by simp [frms]
  | n :: ns => by
    have ih := frms_sz b p s ns
    have e : frms b p s (n :: ns) = frm b p s n ++ frms b p s ns := by simp [frms]
    rw [e, List.length_append, ih, frm_sz, List.length_cons, Nat.add_mul]
    omega
theorem ch_sig {b : Nat} {p : Pa} {s : Nat} {ln : Int} (hs : 1 ≤ s) : ∀ snd : List (Int × Int), ch (frms b p s (snd.map (·.2))) (fun i => (tks (sz b p s) ln snd).getD i 0) (frms b p s (snd.map (·.2))).length = sig b p s ln snd
  | [] => rfl
  | q :: r => by
    have ih := ch_sig (b := b) (p := p) (s := s) (ln := ln) hs r
    have e1 : frms b p s ((q :: r).map (·.2)) = frm b p s q.2 ++ frms b p s (r.map (·.2)) := by simp [frms]
    have e2 : tks (sz b p s) ln (q :: r) = ((List.range (sz b p s)).map fun i : Nat => q.1 + (i : Int) * ln) ++ tks (sz b p s) ln r := by simp [tks]
    have e3 : sig b p s ln (q :: r) = ch (frm b p s q.2) (fun i => q.1 + (i : Int) * ln) (sz b p s) ++ sig b p s ln r := by simp [sig]
    rw [e1, List.length_append, ch_app (frm_end q.2 hs) _ (Nat.le_refl _), e3, ← ih, frm_sz]
    congr 1
    · refine ch_congr fun i hi => ?_
      show (tks (sz b p s) ln (q :: r)).getD i 0 = _
      rw [e2, List.getD_eq_getElem?_getD, List.getElem?_append_left (by simpa using hi), List.getElem?_map, List.getElem?_range hi]
      rfl
    · refine ch_congr fun i hi => ?_
      show (tks (sz b p s) ln (q :: r)).getD (sz b p s + i) 0 = _
      rw [e2, List.getD_eq_getElem?_getD, List.getElem?_append_right (by simp), List.length_map, List.length_range, Nat.add_sub_cancel_left, ← List.getD_eq_getElem?_getD]
/-! lists of pairs -/
def Snd (K : PySem.W.Frag) (H : Hp) (xs : List V) (snd : List (Int × Int)) : Prop := xs.length = snd.length ∧ ∀ (k : Nat) (x : V) (q : Int × Int), xs[k]? = some x → snd[k]? = some q → ∃ t, x = .ref t ∧ SqT K H t [.int q.1, .int q.2]
theorem Snd.ex {K : PySem.W.Frag} {H H' : Hp} {xs : List V} {snd : List (Int × Int)} (e : Ex H H') (h : Snd K H xs snd) : Snd K H' xs snd :=
  ⟨h.1, fun k x q h1 h2 => let ⟨t, a, b⟩ := h.2 k x q h1 h2; ⟨t, a, ex_t e b⟩⟩
theorem Snd.kp {K : PySem.W.Frag} {H H' : Hp} {a : Addr} {ys : List V} {xs : List V} {snd : List (Int × Int)} (e : Kp a H H') (ha : H a = some (.lst ys)) (h : Snd K H xs snd) : Snd K H' xs snd :=
  ⟨h.1, fun k x q h1 h2 => let ⟨t, u, b⟩ := h.2 k x q h1 h2; ⟨t, u, e.tup ha b⟩⟩
theorem Snd.nil {K : PySem.W.Frag} {H : Hp} : Snd K H [] [] := ⟨rfl, fun k x q h _ => by simp at h⟩
theorem Snd.snoc {K : PySem.W.Frag} {H : Hp} {xs : List V} {snd : List (Int × Int)} {t : Addr} {q : Int × Int} (h : Snd K H xs snd) (ht : SqT K H t [.int q.1, .int q.2]) : Snd K H (xs ++ [.ref t]) (snd ++ [q]) := by
  refine ⟨by rw [List.length_append, List.length_append, h.1]; rfl, fun k x q' h1 h2 => ?_⟩
  by_cases hk : k < xs.length
  · rw [List.getElem?_append_left hk] at h1
    rw [List.getElem?_append_left (by rw [← h.1]; exact hk)] at h2
    exact h.2 k x q' h1 h2
  · have hk2 : k = xs.length := by
      have := (List.getElem?_eq_some_iff.mp h1).1
      rw [List.length_append] at this
      simp at this
      omega
    subst hk2
    rw [List.getElem?_append_right (Nat.le_refl _), Nat.sub_self] at h1
    rw [h.1, List.getElem?_append_right (Nat.le_refl _), Nat.sub_self] at h2
    obtain rfl : V.ref t = x := Option.some.inj h1
    obtain rfl : q = q' := Option.some.inj h2
    exact ⟨t, rfl, ht⟩
def dP (snd : List (Int × Int)) : List PyData := snd.map fun q => PyData.tuple [.int q.1, .int q.2]
theorem Snd.dp {K : PySem.W.Frag} {H : Hp} : ∀ {xs : List V} {snd : List (Int × Int)}, Snd K H xs snd → DpAll K H xs (dP snd)
  | [], [], _ => .nil
  | [], q :: r, h => by have := h.1; simp at this
  | x :: xs, [], h => by have := h.1; simp at this
  | x :: xs, q :: r, h => by
    obtain ⟨t, rfl, ht⟩ := h.2 0 x q rfl rfl
    exact .cons (.tup ht (.cons (.int _) (.cons (.int _) .nil))) (Snd.dp ⟨by have := h.1; simpa using this, fun k y q' h1 h2 => h.2 (k + 1) y q' h1 h2⟩)
theorem dP_ok : ∀ snd : List (Int × Int), PyData.canLayAll0 (dP snd) = true ∧ PyData.depthAll (dP snd) ≤ 1
  | [] => ⟨rfl, Nat.zero_le _⟩
  | q :: r => by
    obtain ⟨h1, h2⟩ := dP_ok r
    have e : dP (q :: r) = PyData.tuple [.int q.1, .int q.2] :: dP r := rfl
    rw [e]
    refine ⟨?_, ?_⟩
    · simp only [PyData.canLayAll0, PyData.canLay0, h1, Bool.and_true]
    · simp only [PyData.depthAll, PyData.depth]
      omega
theorem dP_shaped (snd : List (Int × Int)) : SeqAt.shaped (.list (dP snd)) = true := by
  obtain ⟨h1, h2⟩ := dP_ok snd
  unfold SeqAt.shaped
  rw [Bool.and_eq_true]
  refine ⟨?_, decide_eq_true ?_⟩
  · simp only [PyData.canLay0, h1]
  · simp only [PyData.depth]
    omega
theorem dI_ok : ∀ ns : List Int, PyData.canLayAll0 (dI ns) = true ∧ PyData.depthAll (dI ns) ≤ 1
  | [] => ⟨rfl, Nat.zero_le _⟩
  | q :: r => by
    obtain ⟨h1, h2⟩ := dI_ok r
    have e : dI (q :: r) = PyData.int q :: dI r := rfl
    rw [e]
    refine ⟨?_, ?_⟩
    · simp only [PyData.canLayAll0, PyData.canLay0, h1, Bool.and_true]
    · simp only [PyData.depthAll, PyData.depth]
      omega
theorem dI_shaped (ns : List Int) : SeqAt.shaped (.list (dI ns)) = true := by
  obtain ⟨h1, h2⟩ := dI_ok ns
  unfold SeqAt.shaped
  rw [Bool.and_eq_true]
  refine ⟨?_, decide_eq_true ?_⟩
  · simp only [PyData.canLay0, h1]
  · simp only [PyData.depth]
    omega
theorem eqv_sh {d : PyData} (h : SeqAt.shaped d = true) : PyData.eqv d d = true := SeqAt.eqv_refl d (SeqAt.canLay_of_shaped h)
end SB
namespace SB
open PySem PySem.Spec PyProof.Rows L2 Evl
def Kp2 (a b : Addr) (H H' : Hp) : Prop := ∀ c o, c ≠ a → c ≠ b → H c = some o → H' c = some o
theorem Kp2.refl {a b : Addr} {H : Hp} : Kp2 a b H H := fun _ _ _ _ h => h
theorem Kp2.ex {a b : Addr} {H H1 H2 : Hp} (k : Kp2 a b H H1) (e : Ex H1 H2) : Kp2 a b H H2 := fun c o n1 n2 h => e c o (k c o n1 n2 h)
theorem Kp2.updA {a b : Addr} {H H1 : Hp} {o : HO} (k : Kp2 a b H H1) : Kp2 a b H (L2.upd H1 a o) := fun c u n1 n2 h => by
  rw [upd_ne n1]
  exact k c u n1 n2 h
theorem Kp2.updB {a b : Addr} {H H1 : Hp} {o : HO} (k : Kp2 a b H H1) : Kp2 a b H (L2.upd H1 b o) := fun c u n1 n2 h => by
  rw [upd_ne n2]
  exact k c u n1 n2 h
theorem Kp2.tup {K : PySem.W.Frag} {a b t : Addr} {H H' : Hp} {xs ys zs : List V} (k : Kp2 a b H H') (ha : H a = some (.lst ys)) (hb : H b = some (.lst zs)) (h : SqT K H t xs) : SqT K H' t xs := by
  rcases h with (h | ⟨o, h⟩) | h
  · exact .inl (.inl (k t _ (fun e => by rw [e, ha] at h; cases h) (fun e => by rw [e, hb] at h; cases h) h))
  · exact .inl (.inr ⟨o, k t _ (fun e => by rw [e, ha] at h; cases h) (fun e => by rw [e, hb] at h; cases h) h⟩)
  · exact .inr h
theorem Snd.kp2 {K : PySem.W.Frag} {H H' : Hp} {a b : Addr} {ys zs : List V} {xs : List V} {snd : List (Int × Int)} (e : Kp2 a b H H') (ha : H a = some (.lst ys)) (hb : H b = some (.lst zs)) (h : Snd K H xs snd) : Snd K H' xs snd :=
  ⟨h.1, fun k x q h1 h2 => let ⟨t, u, c⟩ := h.2 k x q h1 h2; ⟨t, u, e.tup ha hb c⟩⟩
theorem Kp2.kp {a b S : Addr} {H0 H H' : Hp} (k : Kp2 a b H H') (k0 : Kp S H0 H) (ha : H0 a = none) (hb : H0 b = none) : Kp S H0 H' := fun c o n h =>
  k c o (ne_of_none h ha) (ne_of_none h hb) (k0 c o n h)
theorem Src.kp2 {a b S : Addr} {n : Nat} {H H' : Hp} (h : Src H S n) (k : Kp2 a b H H') (ha : S ≠ a) (hb : S ≠ b) : Src H' S n := by
  obtain ⟨l, sd, c, e, r⟩ := h
  exact ⟨l, sd, c, k _ _ ha hb e, r⟩
theorem tks_snoc (n : Nat) (ln : Int) (snd : List (Int × Int)) (q : Int × Int) : tks n ln (snd ++ [q]) = tks n ln snd ++ (List.range n).map fun i : Nat => q.1 + (i : Int) * ln := by simp [tks]
end SB
namespace SB
open PySem PySem.Spec PyProof.Rows L2 Evl
/-- a target of several names in a list comprehension: its reading speaks of nothing that the block has of its own -/
theorem pg_tupK {X : Cx} {K0 : PySem.W.Frag} {n0 k : Nat} {elts : List Expr} {pos : Pos} {gs : TGs} (hK : X.K = K0) (hc : X.calm = true) (hn : (assignEach elts X.env).length = n0) (h : PGs X elts gs)
    (hst : List.findIdx? (fun x => x.fst) (assignEach elts X.env) = none := by rfl) : PG X (.Tuple elts k pos) (gTup K0 n0 gs) := by
  subst hK
  subst hn
  exact pg_tup hc h rfl hst
end SB
namespace SB
open PySem PySem.Spec PyProof.Rows L2 Evl
/-! a draw's source with a wider seed -/
def Pool (H : Hp) (a : Addr) (n : Nat) : Prop := ∃ l sd c : Int, H a = some (.lst [.int l, .int sd, .int c]) ∧ 0 ≤ sd ∧ sd < 1208925819614629174706176 ∧ 0 ≤ c ∧ c ≤ n
theorem Pool.mono {H : Hp} {a : Addr} {n m : Nat} (h : Pool H a n) (e : n ≤ m) : Pool H a m := by
  obtain ⟨l, sd, c, h1, h2, h3, h4, h5⟩ := h
  exact ⟨l, sd, c, h1, h2, h3, h4, by omega⟩
theorem Pool.ex {H H' : Hp} {a : Addr} {n : Nat} (h : Pool H a n) (e : Ex H H') : Pool H' a n := by
  obtain ⟨l, sd, c, h1, h2⟩ := h
  exact ⟨l, sd, c, e _ _ h1, h2⟩
theorem Pool.at {H : Hp} {a : Addr} {n : Nat} (h : Pool H a n) : ∃ ys, H a = some (.lst ys) := by
  obtain ⟨l, sd, c, e, _⟩ := h
  exact ⟨_, e⟩
theorem Pool.ne {H : Hp} {a p : Addr} {n : Nat} (h : Pool H a n) (hp : H p = none) : p ≠ a := by
  obtain ⟨ys, e⟩ := h.at
  exact fun z => by rw [z, e] at hp; cases hp
theorem Pool.upd {H : Hp} {a p : Addr} {n : Nat} {o : HO} (h : Pool H a n) (ne : p ≠ a) : Pool (L2.upd H p o) a n := by
  obtain ⟨l, sd, c, e, r⟩ := h
  refine ⟨l, sd, c, ?_, r⟩
  rw [upd_ne (Ne.symm ne)]
  exact e
/-! lists of related things -/
def LR {α : Type} (R : V → α → Prop) (xs : List V) (as : List α) : Prop := xs.length = as.length ∧ ∀ (k : Nat) (x : V) (a : α), xs[k]? = some x → as[k]? = some a → R x a
section
variable {α β : Type} {R S : V → α → Prop} {xs ys : List V} {as bs : List α}
theorem LR.nil : LR R [] [] := ⟨rfl, fun k x a h _ => by simp at h⟩
theorem LR.imp (h : LR R xs as) (f : ∀ x a, R x a → S x a) : LR S xs as := ⟨h.1, fun k x a h1 h2 => f x a (h.2 k x a h1 h2)⟩
theorem LR.snoc {y : V} {b : α} (h : LR R xs as) (hy : R y b) : LR R (xs ++ [y]) (as ++ [b]) := by
  refine ⟨by rw [List.length_append, List.length_append, h.1]; rfl, fun k x a h1 h2 => ?_⟩
  by_cases hk : k < xs.length
  · rw [List.getElem?_append_left hk] at h1
    rw [List.getElem?_append_left (by rw [← h.1]; exact hk)] at h2
    exact h.2 k x a h1 h2
  · have hk2 : k = xs.length := by
      have := (List.getElem?_eq_some_iff.mp h1).1
      rw [List.length_append] at this
      simp at this
      omega
    subst hk2
    rw [List.getElem?_append_right (Nat.le_refl _), Nat.sub_self] at h1
    rw [h.1, List.getElem?_append_right (Nat.le_refl _), Nat.sub_self] at h2
    obtain rfl : y = x := Option.some.inj h1
    obtain rfl : b = a := Option.some.inj h2
    exact hy
theorem LR.append (h : LR R xs as) (h' : LR R ys bs) : LR R (xs ++ ys) (as ++ bs) := by
  refine ⟨by rw [List.length_append, List.length_append, h.1, h'.1], fun k x a h1 h2 => ?_⟩
  by_cases hk : k < xs.length
  · rw [List.getElem?_append_left hk] at h1
    rw [List.getElem?_append_left (by rw [← h.1]; exact hk)] at h2
    exact h.2 k x a h1 h2
  · rw [List.getElem?_append_right (by omega)] at h1
    rw [List.getElem?_append_right (by rw [← h.1]; omega), ← h.1] at h2
    exact h'.2 _ x a h1 h2
theorem LR.get (h : LR R xs as) {k : Nat} {x : V} (hx : xs[k]? = some x) : ∃ a, as[k]? = some a ∧ R x a := by
  have hk := (List.getElem?_eq_some_iff.mp hx).1
  have e : as[k]? = some (as[k]'(by rw [← h.1]; exact hk)) := List.getElem?_eq_getElem _
  exact ⟨_, e, h.2 k x _ hx e⟩
theorem LR.get' (h : LR R xs as) {k : Nat} {a : α} (ha : as[k]? = some a) : ∃ x, xs[k]? = some x ∧ R x a := by
  have hk := (List.getElem?_eq_some_iff.mp ha).1
  have e : xs[k]? = some (xs[k]'(by rw [h.1]; exact hk)) := List.getElem?_eq_getElem _
  exact ⟨_, e, h.2 k _ a e ha⟩
end
def isI : V → Int → Prop := fun v i => v = .int i
theorem LR.ints : ∀ {xs : List V} {ns : List Int}, LR isI xs ns → xs = ns.map V.int
  | [], [], _ => rfl
  | [], _ :: _, h => by have := h.1; simp at this
  | _ :: _, [], h => by have := h.1; simp at this
  | x :: xs, n :: ns, h => by
    have h1 : x = .int n := h.2 0 x n rfl rfl
    have h2 : LR isI xs ns := ⟨by have := h.1; simpa using this, fun k y m a b => h.2 (k + 1) y m a b⟩
    rw [h1, h2.ints]
    rfl
theorem LR.of_ints (ns : List Int) : LR isI (ns.map V.int) ns := by
  refine ⟨List.length_map _, fun k x a h1 h2 => ?_⟩
  rw [List.getElem?_map, h2] at h1
  exact (Option.some.inj h1).symm
/-- what lasts while new things come and while a list is written -/
structure Lasts {α : Type} (R : Hp → V → α → Prop) : Prop where
  ex : ∀ {H H' : Hp} {v : V} {x : α}, Ex H H' → R H v x → R H' v x
  kp : ∀ {a : Addr} {H H' : Hp} {ys : List V} {v : V} {x : α}, Kp a H H' → H a = some (.lst ys) → R H v x → R H' v x
def RI : Hp → V → Int → Prop := fun _ => isI
theorem RI.lasts : Lasts RI := ⟨fun _ h => h, fun _ _ h => h⟩
/-- a tuple of whole numbers -/
def RT (K : PySem.W.Frag) : Hp → V → List Int → Prop := fun H v r => ∃ t, v = .ref t ∧ SqT K H t (r.map V.int)
theorem RT.lasts {K : PySem.W.Frag} : Lasts (RT K) := ⟨fun e ⟨t, h1, h2⟩ => ⟨t, h1, ex_t e h2⟩, fun k ha ⟨t, h1, h2⟩ => ⟨t, h1, k.tup ha h2⟩⟩
/-! comprehensions -/
theorem fm_congr {α β : Type} {f g : α → Option β} : ∀ {l : List α}, (∀ x ∈ l, f x = g x) → l.filterMap f = l.filterMap g
  | [], _ => rfl
  | x :: l, h => by
    rw [List.filterMap_cons, List.filterMap_cons, h x (List.mem_cons_self ..), fm_congr (l := l) fun y hy => h y (List.mem_cons_of_mem _ hy)]
theorem range_fm_succ {β : Type} (f : Nat → Option β) (i : Nat) : (List.range (i + 1)).filterMap f = (List.range i).filterMap f ++ (match f i with | none => [] | some b => [b]) := by
  rw [List.range_succ, List.filterMap_append]
  cases h : f i <;> simp [h]
theorem take_fm_succ {α β : Type} (f : α → Option β) {as : List α} {i : Nat} {a : α} (h : as[i]? = some a) : (as.take (i + 1)).filterMap f = (as.take i).filterMap f ++ (match f a with | none => [] | some b => [b]) := by
  rw [List.take_add_one, h, List.filterMap_append]
  cases h : f a <;> simp [h]
theorem lcR {β : Type} {R : Hp → V → β → Prop} (la : Lasts R) {lo : Int} {n : Nat} {g : TG} {tt : TT} {te : TE} {vs : List Nat} {σ : L2.St} {H : Hp} {D : Addr} {Qd : Hp → Prop} (hD : H D = none) (hn : n ≤ 100000) (f : Nat → Option β)
    (hs : ∀ (i : Nat) (H' : Hp), i < n → Ex H H' → ∀ (Kt : VK) (Kf : Hp → Prop), (∀ b y H4, f i = some b → Ex H' H4 → R H4 y b → Kt y H4) → (∀ H3, f i = none → Ex H' H3 → Kf H3) →
      g (.int (lo + i)) (wipe σ vs) H' fun σ2 H2 => wipe σ2 vs = wipe σ vs ∧ tt σ2 H2 fun b H3 => if b = true then te σ2 H3 Kt else Kf H3)
    (hd : ∀ H' xs, Ex H H' → H' D = some (.lst xs) → LR (R H') xs ((List.range n).filterMap f) → Qd H') :
    ∃ W : Nat → Nat → Hp → Prop, (∃ m, W 0 m (L2.upd H D (.lst []))) ∧ ∀ i m H, W i m H →
      ((Itr lo n).stop i H ∧ Qd H) ∨ ((Itr lo n).go i H ∧ ∃ Nx : Hp → Prop, (∀ H', Nx H' → ∃ m', m' < m ∧ W (i + 1) m' H') ∧ ∀ x H', (Itr lo n).yld i H x H' → g x (wipe σ vs) H' fun σ2 H2 => wipe σ2 vs = wipe σ vs ∧ tt σ2 H2 fun b H3 =>
        if b = true then te σ2 H3 fun y H4 => ∃ acc, H4 D = some (.lst acc) ∧ acc.length < sizeLine ∧ Nx (L2.upd H4 D (.lst (acc ++ [y]))) else Nx H3) := by
  refine lc_range (fun i H' => ∃ xs, Ex H H' ∧ H' D = some (.lst xs) ∧ LR (R H') xs ((List.range i).filterMap f)) ⟨[], Ex.new hD, upd_same, LR.nil⟩ (fun i H' hi ⟨xs, e, hL, lr⟩ => hs i H' hi e _ _ (fun b y H4 fb e4 r => ?_) fun H3 fb e3 => ?_) fun H' ⟨xs, e, h, lr⟩ => hd H' xs e h lr
  · have hL4 := e4 _ _ hL
    have hlen : xs.length ≤ i := by
      rw [lr.1]
      have := List.length_filterMap_le f (List.range i)
      rw [List.length_range] at this
      exact this
    refine ⟨xs, hL4, Nat.lt_of_le_of_lt (show xs.length ≤ 100000 by omega) (by decide), xs ++ [y], (e.trans e4).mut hD, upd_same, ?_⟩
    rw [range_fm_succ, fb]
    exact LR.snoc (lr.imp fun x a h => la.kp (a := D) Kp.upd hL4 (la.ex e4 h)) (la.kp (a := D) Kp.upd hL4 r)
  · refine ⟨xs, e.trans e3, e3 _ _ hL, ?_⟩
    rw [range_fm_succ, fb, List.append_nil]
    exact lr.imp fun x a h => la.ex e3 h
theorem lcL {α β : Type} {R0 : Hp → V → α → Prop} {R : Hp → V → β → Prop} (la0 : Lasts R0) (la : Lasts R) {K : PySem.W.Frag} {A : Addr} {xs : List V} {as : List α} {g : TG} {tt : TT} {te : TE} {vs : List Nat} {σ : L2.St} {H : Hp} {D : Addr} {Qd : Hp → Prop} (hD : H D = none)
    (sq : SqL K H A xs) (lr0 : LR (R0 H) xs as) (hn : xs.length ≤ 100000) (f : α → Option β)
    (hs : ∀ (i : Nat) (x : V) (a : α) (H' : Hp), as[i]? = some a → Ex H H' → R0 H' x a → ∀ (Kt : VK) (Kf : Hp → Prop), (∀ b y H4, f a = some b → Ex H' H4 → R H4 y b → Kt y H4) → (∀ H3, f a = none → Ex H' H3 → Kf H3) →
      g x (wipe σ vs) H' fun σ2 H2 => wipe σ2 vs = wipe σ vs ∧ tt σ2 H2 fun b H3 => if b = true then te σ2 H3 Kt else Kf H3)
    (hd : ∀ H' ys, Ex H H' → H' D = some (.lst ys) → LR (R H') ys (as.filterMap f) → Qd H') :
    ∃ W : Nat → Nat → Hp → Prop, (∃ m, W 0 m (L2.upd H D (.lst []))) ∧ ∀ i m H, W i m H →
      ((Itl K A).stop i H ∧ Qd H) ∨ ((Itl K A).go i H ∧ ∃ Nx : Hp → Prop, (∀ H', Nx H' → ∃ m', m' < m ∧ W (i + 1) m' H') ∧ ∀ x H', (Itl K A).yld i H x H' → g x (wipe σ vs) H' fun σ2 H2 => wipe σ2 vs = wipe σ vs ∧ tt σ2 H2 fun b H3 =>
        if b = true then te σ2 H3 fun y H4 => ∃ acc, H4 D = some (.lst acc) ∧ acc.length < sizeLine ∧ Nx (L2.upd H4 D (.lst (acc ++ [y]))) else Nx H3) := by
  refine lc_list (xs := xs) (fun i H' => ∃ ys, Ex H H' ∧ H' D = some (.lst ys) ∧ LR (R H') ys ((as.take i).filterMap f)) ⟨[], Ex.new hD, upd_same, LR.nil⟩ (fun i H' _ ⟨_, e, _⟩ => ex_l e sq) (fun i x H' hx ⟨ys, e, hL, lr⟩ => ?_) fun H' ⟨ys, e, h, lr⟩ => hd H' ys e h (by rw [lr0.1, List.take_length] at lr; exact lr)
  obtain ⟨a, ha, r0⟩ := lr0.get hx
  refine hs i x a H' ha e (la0.ex e r0) _ _ (fun b y H4 fb e4 r => ?_) fun H3 fb e3 => ?_
  · have hL4 := e4 _ _ hL
    have hlen : ys.length ≤ xs.length := by
      rw [lr.1, lr0.1]
      have h1 := List.length_filterMap_le f (as.take i)
      rw [List.length_take] at h1
      omega
    refine ⟨ys, hL4, Nat.lt_of_le_of_lt (show ys.length ≤ 100000 by omega) (by decide), ys ++ [y], (e.trans e4).mut hD, upd_same, ?_⟩
    rw [take_fm_succ f ha, fb]
    exact LR.snoc (lr.imp fun x a h => la.kp (a := D) Kp.upd hL4 (la.ex e4 h)) (la.kp (a := D) Kp.upd hL4 r)
  · refine ⟨ys, e.trans e3, e3 _ _ hL, ?_⟩
    rw [take_fm_succ f ha, fb, List.append_nil]
    exact lr.imp fun x a h => la.ex e3 h
/-- a list of related things, new -/
def RetR {α : Type} (R : Hp → V → α → Prop) (as : List α) (H : Hp) (Q : VK) : Prop := ∀ p H2 xs, H p = none → Ex H H2 → H2 p = some (.lst xs) → LR (R H2) xs as → Q (.ref p) H2
def RetU (xs : List V) (H : Hp) (Q : VK) : Prop := ∀ p H2, H p = none → Ex H H2 → H2 p = some (.tup xs) → Q (.ref p) H2
/-! greatest and least -/
def Mx (L : List Int) (m : Int) : Prop := m ∈ L ∧ ∀ y ∈ L, y ≤ m
def Mi (L : List Int) (m : Int) : Prop := m ∈ L ∧ ∀ y ∈ L, m ≤ y
theorem Mx.uniq {L : List Int} {m n : Int} (h : Mx L m) (h' : Mx L n) : m = n := Int.le_antisymm (h'.2 m h.1) (h.2 n h'.1)
theorem Mi.uniq {L : List Int} {m n : Int} (h : Mi L m) (h' : Mi L n) : m = n := Int.le_antisymm (h.2 n h'.1) (h'.2 m h.1)
theorem Mx.exists : ∀ {L : List Int}, L ≠ [] → ∃ m, Mx L m
  | [x], _ => ⟨x, List.mem_cons_self .., fun y hy => by rw [List.mem_singleton.mp hy]; exact Int.le_refl _⟩
  | x :: y :: r, _ => by
    obtain ⟨m, h1, h2⟩ := Mx.exists (L := y :: r) (by simp)
    by_cases h : m ≤ x
    · refine ⟨x, List.mem_cons_self .., fun z hz => ?_⟩
      rcases List.mem_cons.mp hz with rfl | hz
      · exact Int.le_refl _
      · exact Int.le_trans (h2 z hz) h
    · refine ⟨m, List.mem_cons_of_mem _ h1, fun z hz => ?_⟩
      rcases List.mem_cons.mp hz with rfl | hz
      · omega
      · exact h2 z hz
theorem Mi.exists : ∀ {L : List Int}, L ≠ [] → ∃ m, Mi L m
  | [x], _ => ⟨x, List.mem_cons_self .., fun y hy => by rw [List.mem_singleton.mp hy]; exact Int.le_refl _⟩
  | x :: y :: r, _ => by
    obtain ⟨m, h1, h2⟩ := Mi.exists (L := y :: r) (by simp)
    by_cases h : x ≤ m
    · refine ⟨x, List.mem_cons_self .., fun z hz => ?_⟩
      rcases List.mem_cons.mp hz with rfl | hz
      · exact Int.le_refl _
      · exact Int.le_trans h (h2 z hz)
    · refine ⟨m, List.mem_cons_of_mem _ h1, fun z hz => ?_⟩
      rcases List.mem_cons.mp hz with rfl | hz
      · omega
      · exact h2 z hz
/-! more data that can be shown -/
theorem rp_bl {K : PySem.W.Frag} {H : Hp} {b : Bool} {Q : VK} (q : Q (.str (PyData.bool b).shown) H) : rRp K [.bl b] H Q := by
  refine ⟨_, .bool b, rfl, .bl b, rfl, rfl, Nat.zero_le _, ?_, q⟩
  cases b <;> decide +kernel
theorem rp_non {K : PySem.W.Frag} {H : Hp} {Q : VK} (q : Q (.str PyData.none.shown) H) : rRp K [.non] H Q :=
  ⟨_, .none, rfl, .non, rfl, rfl, Nat.zero_le _, by decide +kernel, q⟩
theorem show_tup {ns : List Int} (h : ∀ n ∈ ns, n.natAbs < 2 ^ 200) (hl : ns.length ≤ 10000) :
    (PyData.tuple (dI ns)).showable = true ∧ (PyData.tuple (dI ns)).hasDict = false ∧ (PyData.tuple (dI ns)).depth ≤ 60 ∧ (PyData.tuple (dI ns)).shown.length ≤ sizeLine := by
  obtain ⟨h1, h2, h3, h4, h5⟩ := show_ints ns h
  refine ⟨?_, ?_, ?_, ?_⟩
  · simp only [PyData.showable, h1]
  · simp only [PyData.hasDict, h2]
  · simp only [PyData.depth, h3]
    omega
  · simp only [PyData.shown]
    have := tupleText_len_le (PyData.shownAll (dI ns))
    rw [sizeLine_eq]
    omega
theorem rp_tup {K : PySem.W.Frag} {H : Hp} {a : Addr} {ns : List Int} {Q : VK} (hs : SqT K H a (ns.map V.int)) (h : ∀ n ∈ ns, n.natAbs < 2 ^ 200) (hl : ns.length ≤ 10000)
    (q : Q (.str (PyData.tuple (dI ns)).shown) H) : rRp K [.ref a] H Q := by
  obtain ⟨h1, h2, h3, h4⟩ := show_tup h hl
  exact ⟨_, _, rfl, .tup hs (dp_ints ns), h1, h2, h3, h4, q⟩
end SB
namespace SB
open PySem PySem.Spec PyProof.Rows L2 Evl
/-! receivers, windows -/
def IsRc (K : PySem.W.Frag) (H : Hp) (v : V) (gr w s : Int) : Prop :=
  ∃ t, v = .ref t ∧ SqT K H t [.int gr, .int w, .int s] ∧ 1 ≤ gr ∧ 0 ≤ w ∧ 1 ≤ s ∧ gr < 1237940039285380274899124224 ∧ w < 1237940039285380274899124224 ∧ s < 1237940039285380274899124224
theorem IsRc.ex {K : PySem.W.Frag} {H H' : Hp} {v : V} {gr w s : Int} (e : Ex H H') (h : IsRc K H v gr w s) : IsRc K H' v gr w s := by
  obtain ⟨t, e1, e2, r⟩ := h
  exact ⟨t, e1, ex_t e e2, r⟩
theorem IsRc.kp {K : PySem.W.Frag} {H H' : Hp} {v : V} {gr w s : Int} {a : Addr} {ys : List V} (e : Kp a H H') (ha : H a = some (.lst ys)) (h : IsRc K H v gr w s) : IsRc K H' v gr w s := by
  obtain ⟨t, e1, e2, r⟩ := h
  exact ⟨t, e1, e.tup ha e2, r⟩
theorem sz_bd {K : PySem.W.Frag} {H : Hp} {g : V} {b : Nat} {p : Pa} {s : Nat} (h : IsSh K H g b p s) : 1 ≤ b ∧ b ≤ 9 ∧ 1 ≤ s ∧ s ≤ 2 ∧ s + 2 ≤ sz b p s ∧ sz b p s ≤ 13 := by
  obtain ⟨t, _, _, h1, h2, h3, h4⟩ := h
  have hp : plen p ≤ 1 := by cases p <;> simp [plen]
  unfold sz
  omega
/-- the windows of a shape whose frames have n places, the last s of them stops -/
def win (n s : Nat) : List (List Int) := (List.range (n - s)).map (fun i : Nat => [(i : Int), (i : Int), (i : Int) + 1]) ++ (List.range s).map fun i : Nat => [((n - s + i : Nat) : Int), ((n - s : Nat) : Int), (n : Int)]
theorem win_eq {n s : Nat} (h : s + 2 ≤ n ∧ n ≤ 13) : win n s = (List.range ((n : Int) - s).toNat).filterMap (fun i : Nat => some [(0 : Int) + (i : Nat), (0 : Int) + (i : Nat), (0 : Int) + (i : Nat) + 1]) ++
    (List.range ((n : Int) - ((n : Int) - s)).toNat).filterMap (fun i : Nat => some [(n : Int) - s + (i : Nat), (n : Int) - s, (n : Int)]) := by
  unfold win
  have e1 : ((n : Int) - s).toNat = n - s := by omega
  have e2 : ((n : Int) - ((n : Int) - s)).toNat = s := by omega
  rw [e1, e2, List.filterMap_eq_map', List.filterMap_eq_map']
  congr 1
  · refine List.map_congr_left fun i _ => ?_
    rw [Int.zero_add]
  · refine List.map_congr_left fun i hi => ?_
    have e3 : ((n - s + i : Nat) : Int) = (n : Int) - s + (i : Nat) := by omega
    have e4 : ((n - s : Nat) : Int) = (n : Int) - s := by omega
    rw [e3, e4]
theorem win_len {n s : Nat} (h : s ≤ n) : (win n s).length = n := by
  unfold win
  simp
  omega
theorem win_mem {n s : Nat} (h : s + 2 ≤ n) {r : List Int} : r ∈ win n s ↔ ∃ p f l : Nat, r = [(p : Int), (f : Int), (l : Int)] ∧ p < n ∧ ((p < n - s ∧ f = p ∧ l = p + 1) ∨ (n - s ≤ p ∧ f = n - s ∧ l = n)) := by
  unfold win
  rw [List.mem_append, List.mem_map, List.mem_map]
  constructor
  · rintro (⟨i, hi, rfl⟩ | ⟨i, hi, rfl⟩)
    · have := List.mem_range.mp hi
      exact ⟨i, i, i + 1, by simp, by omega, .inl ⟨by omega, rfl, rfl⟩⟩
    · have := List.mem_range.mp hi
      exact ⟨n - s + i, n - s, n, rfl, by omega, .inr ⟨by omega, rfl, rfl⟩⟩
  · rintro ⟨p, f, l, rfl, hp, ⟨h1, rfl, rfl⟩ | ⟨h1, h2, h3⟩⟩
    · exact .inl ⟨f, List.mem_range.mpr h1, by simp⟩
    · refine .inr ⟨p - (n - s), List.mem_range.mpr (by omega), ?_⟩
      have : n - s + (p - (n - s)) = p := by omega
      rw [this, h2, h3]
end SB
namespace SB
open PySem PySem.Spec PyProof.Rows L2 Evl
theorem set_comm_none {σ : L2.St} {i v : Nat} {x : Option V} (h : i ≠ v) : (σ.set i x).set v none = (σ.set v none).set i x := List.set_comm x none h
theorem wipe_set {σ : L2.St} {i : Nat} {x : Option V} : ∀ {vs : List Nat}, i ∈ vs → wipe (σ.set i x) vs = wipe σ vs
  | v :: vs, h => by
    show (wipe (σ.set i x) vs).set v none = (wipe σ vs).set v none
    by_cases e : i ∈ vs
    · rw [wipe_set e]
    · have ev : i = v := by
        rcases List.mem_cons.mp h with h | h
        · exact h
        · exact absurd h e
      subst ev
      have out : ∀ {vs : List Nat}, ¬ i ∈ vs → wipe (σ.set i x) vs = (wipe σ vs).set i x := by
        intro vs
        induction vs with
        | nil => intro _; rfl
        | cons u us ih =>
          intro hu
          show (wipe (σ.set i x) us).set u none = ((wipe σ us).set u none).set i x
          rw [ih fun z => hu (List.mem_cons_of_mem _ z), set_comm_none fun z => hu (by rw [z]; exact List.mem_cons_self ..)]
      rw [out e, List.set_set]
theorem wipe_wipe {σ : L2.St} (vs : List Nat) : wipe (wipe σ vs) vs = wipe σ vs := by
  have key : ∀ (us : List Nat), (∀ u ∈ us, u ∈ vs) → wipe (wipe σ us) vs = wipe σ vs := by
    intro us
    induction us with
    | nil => intro _; rfl
    | cons u us ih =>
      intro h
      show wipe ((wipe σ us).set u none) vs = wipe σ vs
      rw [wipe_set (h u (List.mem_cons_self ..)), ih fun z hz => h z (List.mem_cons_of_mem _ hz)]
  exact key vs fun _ h => h
/-- a comprehension over a list of tuples of three whole numbers -/
theorem lcL3 {β : Type} {R : Hp → V → β → Prop} (la : Lasts R) {K : PySem.W.Frag} {A : Addr} {xs : List V} {as : List (List Int)} {i j k : Nat} {tt : TT} {te : TE} {vs : List Nat} {σ : L2.St} {H : Hp} {D : Addr} {Qd : Hp → Prop} (hD : H D = none)
    (sq : SqL K H A xs) (lr0 : LR (RT K H) xs as) (hn : xs.length ≤ 100000) (f : List Int → Option β) (h3 : ∀ r ∈ as, ∃ x y z, r = [x, y, z]) (hi : i ∈ vs) (hj : j ∈ vs) (hk : k ∈ vs)
    (hs : ∀ (x y z : Int) (H' : Hp), [x, y, z] ∈ as → Ex H H' → ∀ (Kt : VK) (Kf : Hp → Prop), (∀ b v H4, f [x, y, z] = some b → Ex H' H4 → R H4 v b → Kt v H4) → (∀ H3, f [x, y, z] = none → Ex H' H3 → Kf H3) →
      tt ((((wipe σ vs).set i (some (.int x))).set j (some (.int y))).set k (some (.int z))) H' fun b H3 => if b = true then te ((((wipe σ vs).set i (some (.int x))).set j (some (.int y))).set k (some (.int z))) H3 Kt else Kf H3)
    (hd : ∀ H' ys, Ex H H' → H' D = some (.lst ys) → LR (R H') ys (as.filterMap f) → Qd H') :
    ∃ W : Nat → Nat → Hp → Prop, (∃ m, W 0 m (L2.upd H D (.lst []))) ∧ ∀ i1 m H, W i1 m H →
      ((Itl K A).stop i1 H ∧ Qd H) ∨ ((Itl K A).go i1 H ∧ ∃ Nx : Hp → Prop, (∀ H', Nx H' → ∃ m', m' < m ∧ W (i1 + 1) m' H') ∧ ∀ x H', (Itl K A).yld i1 H x H' → gTup K 3 (gCons (gName i) (gCons (gName j) (gCons (gName k) gNil))) x (wipe σ vs) H' fun σ2 H2 => wipe σ2 vs = wipe σ vs ∧ tt σ2 H2 fun b H3 =>
        if b = true then te σ2 H3 fun y H4 => ∃ acc, H4 D = some (.lst acc) ∧ acc.length < sizeLine ∧ Nx (L2.upd H4 D (.lst (acc ++ [y]))) else Nx H3) := by
  refine lcL (RT.lasts (K := K)) la hD sq lr0 hn f (fun n v r H' hr e r0 Kt Kf kt kf => ?_) hd
  obtain ⟨x, y, z, rfl⟩ := h3 r (List.mem_of_getElem? hr)
  obtain ⟨t, rfl, st⟩ := r0
  refine ⟨t, _, rfl, st, rfl, _, _, rfl, _, _, rfl, _, _, rfl, rfl, ?_, hs x y z H' (List.mem_of_getElem? hr) e Kt Kf kt kf⟩
  rw [wipe_set hk, wipe_set hj, wipe_set hi, wipe_wipe]
end SB
namespace SB
open PySem PySem.Spec PyProof.Rows L2 Evl
theorem sh_bl (b : Bool) : (PyData.bool b).shown.length ≤ sizeLine := by cases b <;> decide +kernel
end SB
namespace SB
open PySem PySem.Spec PyProof.Rows L2 Evl
/-! safe lengths: the mathematics -/
def r3 {α : Type} (k : Int → Int → Int → α) (d : α) : List Int → α
  | [a, b, c] => k a b c
  | _ => d
theorem r3_mk {α : Type} (k : Int → Int → Int → α) (d : α) (a b c : Int) : r3 k d [a, b, c] = k a b c := rfl
def ceilI (x l : Int) : Int := -((-x) / l)
theorem ceil_le {x l y : Int} (h : 0 < l) : ceilI x l ≤ y ↔ x ≤ y * l := by
  unfold ceilI
  have h1 := Int.le_ediv_iff_mul_le (a := -y) (b := -x) h
  rw [Int.neg_mul] at h1
  omega
theorem le_ceil {x l y : Int} (h : 0 < l) : y ≤ ceilI x l ↔ (y - 1) * l < x := by
  have := ceil_le (x := x) (y := y - 1) h
  omega
theorem ceil_bd {x l : Int} (h : 0 < l) (hx : 0 ≤ x) : 0 ≤ ceilI x l ∧ ceilI x l ≤ x := by
  constructor
  · refine (le_ceil h).mpr ?_
    omega
  · refine (ceil_le h).mpr ?_
    have := Int.mul_le_mul_of_nonneg_left (show 1 ≤ l by omega) hx
    omega
def lookI (gr w st p : Int) : Int := gr * (w + st * p)
def loL (n s : Nat) (gr w st : Int) : List Int := (win n s).map (r3 (fun p _ l => ceilI (gr * (w + st * p + 1)) l) 0)
def hiL (n s : Nat) (gr w st : Int) : List Int := (win n s).filterMap (r3 (fun p f _ => if 0 < f then some (lookI gr w st p / f) else none) none)
theorem loL_mem {n s : Nat} {gr w st y : Int} (h : s + 2 ≤ n) : y ∈ loL n s gr w st ↔ ∃ p f l : Nat, p < n ∧ ((p < n - s ∧ f = p ∧ l = p + 1) ∨ (n - s ≤ p ∧ f = n - s ∧ l = n)) ∧ y = ceilI (gr * (w + st * p + 1)) l := by
  unfold loL
  rw [List.mem_map]
  constructor
  · rintro ⟨r, hr, rfl⟩
    obtain ⟨p, f, l, rfl, h1, h2⟩ := (win_mem h).mp hr
    exact ⟨p, f, l, h1, h2, rfl⟩
  · rintro ⟨p, f, l, h1, h2, rfl⟩
    exact ⟨_, (win_mem h).mpr ⟨p, f, l, rfl, h1, h2⟩, rfl⟩
theorem hiL_mem {n s : Nat} {gr w st y : Int} (h : s + 2 ≤ n) : y ∈ hiL n s gr w st ↔ ∃ p f l : Nat, p < n ∧ ((p < n - s ∧ f = p ∧ l = p + 1) ∨ (n - s ≤ p ∧ f = n - s ∧ l = n)) ∧ 0 < f ∧ y = lookI gr w st p / (f : Int) := by
  unfold hiL
  rw [List.mem_filterMap]
  constructor
  · rintro ⟨r, hr, e⟩
    obtain ⟨p, f, l, rfl, h1, h2⟩ := (win_mem h).mp hr
    rw [r3_mk] at e
    split at e
    · rename_i hf
      exact ⟨p, f, l, h1, h2, by omega, (Option.some.inj e).symm⟩
    · cases e
  · rintro ⟨p, f, l, h1, h2, hf, rfl⟩
    refine ⟨_, (win_mem h).mpr ⟨p, f, l, rfl, h1, h2⟩, ?_⟩
    rw [r3_mk, if_pos (by omega)]
structure Clk (gr w st : Int) : Prop where
  g1 : 1 ≤ gr
  w0 : 0 ≤ w
  s1 : 1 ≤ st
theorem Clk.look0 {gr w st : Int} (c : Clk gr w st) (p : Nat) : 0 ≤ lookI gr w st p := by
  have h1 := c.g1
  have h2 := c.w0
  have h3 : 0 ≤ st * (p : Int) := Int.mul_nonneg (by have := c.s1; omega) (by omega)
  exact Int.mul_nonneg (by omega) (by omega)
theorem Clk.lookp {gr w st : Int} (c : Clk gr w st) (p : Nat) : (p : Int) ≤ lookI gr w st p := by
  have h1 := c.g1
  have h2 := c.w0
  have h3 : 1 * (p : Int) ≤ st * (p : Int) := Int.mul_le_mul_of_nonneg_right c.s1 (by omega)
  have h4 : 1 * (w + st * (p : Int)) ≤ gr * (w + st * (p : Int)) := Int.mul_le_mul_of_nonneg_right h1 (by omega)
  unfold lookI
  omega
theorem look_next (gr w st p : Int) : gr * (w + st * p + 1) = lookI gr w st p + gr := by
  unfold lookI
  rw [Int.mul_add, Int.mul_one]
/-- what the bounds say of a length -/
def Fits (n s : Nat) (gr w st x : Int) (p f l : Nat) : Prop := p < n ∧ ((p < n - s ∧ f = p ∧ l = p + 1) ∨ (n - s ≤ p ∧ f = n - s ∧ l = n))
theorem lo_iff {n s : Nat} {gr w st lo x : Int} (h : s + 2 ≤ n) (hs : 1 ≤ s) (m : Mx (loL n s gr w st) lo) : lo ≤ x ↔ ∀ p f l : Nat, p < n → ((p < n - s ∧ f = p ∧ l = p + 1) ∨ (n - s ≤ p ∧ f = n - s ∧ l = n)) → lookI gr w st p + gr ≤ x * l := by
  constructor
  · intro hx p f l h1 h2
    have h3 := m.2 _ ((loL_mem h).mpr ⟨p, f, l, h1, h2, rfl⟩)
    have hl : (0 : Int) < l := by omega
    have := (ceil_le hl).mp (Int.le_trans h3 hx)
    rw [look_next] at this
    exact this
  · intro hx
    obtain ⟨p, f, l, h1, h2, e⟩ := (loL_mem h).mp m.1
    have hl : (0 : Int) < l := by omega
    rw [e]
    refine (ceil_le hl).mpr ?_
    rw [look_next]
    exact hx p f l h1 h2
theorem hi_iff {n s : Nat} {gr w st hi x : Int} (h : s + 2 ≤ n) (c : Clk gr w st) (m : Mi (hiL n s gr w st) hi) : x ≤ hi ↔ ∀ p f l : Nat, p < n → ((p < n - s ∧ f = p ∧ l = p + 1) ∨ (n - s ≤ p ∧ f = n - s ∧ l = n)) → x * f ≤ lookI gr w st p := by
  constructor
  · intro hx p f l h1 h2
    by_cases hf : 0 < f
    · have h3 := m.2 _ ((hiL_mem h).mpr ⟨p, f, l, h1, h2, hf, rfl⟩)
      exact (Int.le_ediv_iff_mul_le (show (0 : Int) < f by omega)).mp (Int.le_trans hx h3)
    · obtain rfl : f = 0 := by omega
      have := c.look0 p
      rw [show ((0 : Nat) : Int) = 0 from rfl, Int.mul_zero]
      exact this
  · intro hx
    obtain ⟨p, f, l, h1, h2, hf, e⟩ := (hiL_mem h).mp m.1
    rw [e]
    exact (Int.le_ediv_iff_mul_le (show (0 : Int) < f by omega)).mpr (hx p f l h1 h2)
theorem lo_ge {n s : Nat} {gr w st lo : Int} (h : s + 2 ≤ n) (c : Clk gr w st) (m : Mx (loL n s gr w st) lo) : 1 ≤ lo := by
  have h1 := m.2 _ ((loL_mem h).mpr ⟨0, 0, 1, by omega, .inl ⟨by omega, rfl, rfl⟩, rfl⟩)
  refine Int.le_trans ((le_ceil (by decide)).mpr ?_) h1
  rw [look_next]
  have := c.look0 0
  have := c.g1
  omega
theorem hi_ge {n s : Nat} {gr w st hi : Int} (h : s + 2 ≤ n) (c : Clk gr w st) (m : Mi (hiL n s gr w st) hi) : 1 ≤ hi := by
  obtain ⟨p, f, l, h1, h2, hf, e⟩ := (hiL_mem h).mp m.1
  rw [e]
  refine (Int.le_ediv_iff_mul_le (show (0 : Int) < f by omega)).mpr ?_
  have := c.lookp p
  omega
theorem lo_ex {n s : Nat} (gr w st : Int) (h : s + 2 ≤ n) : ∃ lo, Mx (loL n s gr w st) lo := by
  refine Mx.exists fun z => ?_
  have h1 : ceilI (gr * (w + st * (0 : Nat) + 1)) (1 : Nat) ∈ loL n s gr w st := (loL_mem h).mpr ⟨0, 0, 1, by omega, .inl ⟨by omega, rfl, rfl⟩, rfl⟩
  rw [z] at h1
  cases h1
theorem hi_ex {n s : Nat} (gr w st : Int) (h : s + 2 ≤ n) : ∃ hi, Mi (hiL n s gr w st) hi := by
  refine Mi.exists fun z => ?_
  have h1 : lookI gr w st (1 : Nat) / ((1 : Nat) : Int) ∈ hiL n s gr w st := (hiL_mem h).mpr ⟨1, 1, 2, by omega, .inl ⟨by omega, rfl, rfl⟩, by omega, rfl⟩
  rw [z] at h1
  cases h1
/-- sizes -/
structure Clb (gr w st : Int) : Prop extends Clk gr w st where
  gb : gr < 1237940039285380274899124224
  wb : w < 1237940039285380274899124224
  sb : st < 1237940039285380274899124224
theorem IsRc.clb {K : PySem.W.Frag} {H : Hp} {v : V} {gr w s : Int} (h : IsRc K H v gr w s) : Clb gr w s := by
  obtain ⟨t, _, _, h1, h2, h3, h4, h5, h6⟩ := h
  exact ⟨⟨h1, h2, h3⟩, h4, h5, h6⟩
theorem Clb.sp {gr w st : Int} (c : Clb gr w st) {p : Nat} (hp : p ≤ 13) : 0 ≤ st * (p : Int) ∧ st * (p : Int) ≤ 13 * 1237940039285380274899124224 := by
  have h1 := c.s1
  have h2 := c.sb
  refine ⟨Int.mul_nonneg (by omega) (by omega), ?_⟩
  have h3 : st * (p : Int) ≤ st * 13 := Int.mul_le_mul_of_nonneg_left (by omega) (by omega)
  omega
theorem Clb.mul {gr w st x : Int} (c : Clb gr w st) (h0 : 0 ≤ x) (hx : x ≤ 20 * 1237940039285380274899124224) : 0 ≤ gr * x ∧ gr * x < 2 ^ 185 := by
  have h1 := c.g1
  have h2 := c.gb
  refine ⟨Int.mul_nonneg (by omega) (by omega), ?_⟩
  have h3 : gr * x ≤ 1237940039285380274899124224 * x := Int.mul_le_mul_of_nonneg_right (by omega) h0
  have h4 : (1237940039285380274899124224 : Int) * x ≤ 1237940039285380274899124224 * (20 * 1237940039285380274899124224) := Int.mul_le_mul_of_nonneg_left hx (by decide)
  have h5 : (1237940039285380274899124224 : Int) * (20 * 1237940039285380274899124224) < 2 ^ 185 := by decide
  omega
theorem Clb.look {gr w st : Int} (c : Clb gr w st) {p : Nat} (hp : p ≤ 13) : 0 ≤ lookI gr w st p ∧ lookI gr w st p < 2 ^ 185 := by
  have h1 := c.sp hp
  have h2 := c.w0
  have h3 := c.wb
  exact c.mul (by omega) (by omega)
theorem lo_lt {n s : Nat} {gr w st lo : Int} (h : s + 2 ≤ n ∧ n ≤ 13) (c : Clb gr w st) (m : Mx (loL n s gr w st) lo) : lo < 2 ^ 186 := by
  obtain ⟨p, f, l, h1, h2, e⟩ := (loL_mem h.1).mp m.1
  rw [e, look_next]
  have h3 := c.look (p := p) (by omega)
  have h4 := c.g1
  have h5 := c.gb
  have h6 := (ceil_bd (x := lookI gr w st p + gr) (show (0 : Int) < l by omega) (by omega)).2
  have h7 : (2 : Int) ^ 186 = 2 ^ 185 + 2 ^ 185 := by decide
  have h8 : (1237940039285380274899124224 : Int) < 2 ^ 185 := by decide
  omega
theorem hi_lt {n s : Nat} {gr w st hi : Int} (h : s + 2 ≤ n ∧ n ≤ 13) (c : Clb gr w st) (m : Mi (hiL n s gr w st) hi) : hi < 2 ^ 185 := by
  obtain ⟨p, f, l, h1, h2, hf, e⟩ := (hiL_mem h.1).mp m.1
  rw [e]
  have h3 := c.look (p := p) (by omega)
  have h4 : lookI gr w st p / (f : Int) ≤ lookI gr w st p := Int.ediv_le_self _ h3.1
  omega
/-- an offset's looks lie in their windows -/
def goodB (rs : List (List Int)) (gr w st x off : Int) : Bool := rs.all (r3 (fun p f l => decide (x * f ≤ off + gr * (w + st * p)) && decide (off + gr * (w + st * p) < x * l)) true)
theorem good_iff {n s : Nat} {gr w st x off : Int} (h : s + 2 ≤ n) : goodB (win n s) gr w st x off = true ↔ ∀ p f l : Nat, p < n → ((p < n - s ∧ f = p ∧ l = p + 1) ∨ (n - s ≤ p ∧ f = n - s ∧ l = n)) → x * f ≤ off + lookI gr w st p ∧ off + lookI gr w st p < x * l := by
  unfold goodB
  rw [List.all_eq_true]
  constructor
  · intro hx p f l h1 h2
    have := hx _ ((win_mem h).mpr ⟨p, f, l, rfl, h1, h2⟩)
    rw [r3_mk, Bool.and_eq_true, decide_eq_true_eq, decide_eq_true_eq] at this
    exact this
  · intro hx r hr
    obtain ⟨p, f, l, rfl, h1, h2⟩ := (win_mem h).mp hr
    rw [r3_mk, Bool.and_eq_true, decide_eq_true_eq, decide_eq_true_eq]
    exact hx p f l h1 h2
/-- all offsets are good just for the lengths between the bounds -/
theorem fine_iff {n s : Nat} {gr w st lo hi x : Int} (h : s + 2 ≤ n) (hs : 1 ≤ s) (c : Clk gr w st) (m : Mx (loL n s gr w st) lo) (m' : Mi (hiL n s gr w st) hi) :
    (∀ i : Nat, (i : Int) < gr → goodB (win n s) gr w st x (i : Int) = true) ↔ lo ≤ x ∧ x ≤ hi := by
  rw [lo_iff h hs m, hi_iff h c m']
  have g1 := c.g1
  constructor
  · intro hx
    constructor
    · intro p f l h1 h2
      have := ((good_iff h).mp (hx (gr - 1).toNat (by omega)) p f l h1 h2).2
      omega
    · intro p f l h1 h2
      have := ((good_iff h).mp (hx 0 (by omega)) p f l h1 h2).1
      omega
  · intro ⟨ha, hb⟩ i hi
    refine (good_iff h).mpr fun p f l h1 h2 => ?_
    have := ha p f l h1 h2
    have := hb p f l h1 h2
    omega
/-! the numbers of a stretch among those from 1 on -/
theorem given_between (lo hi : Int) : ∀ m : Nat, 1 ≤ lo → (List.range m).filterMap (fun i : Nat => if lo ≤ 1 + (i : Int) ∧ 1 + (i : Int) ≤ hi then some (1 + (i : Int)) else none) = (List.range (min (m : Int) hi - lo + 1).toNat).map fun i : Nat => lo + (i : Int)
  | 0, h => by
    have : (min ((0 : Nat) : Int) hi - lo + 1).toNat = 0 := by omega
    rw [this]
    rfl
  | m + 1, h => by
    rw [range_fm_succ, given_between lo hi m h]
    by_cases h1 : lo ≤ 1 + (m : Int) ∧ 1 + (m : Int) ≤ hi
    · rw [if_pos h1]
      have e : (min ((m + 1 : Nat) : Int) hi - lo + 1).toNat = (min (m : Int) hi - lo + 1).toNat + 1 := by omega
      rw [e, List.range_succ, List.map_append]
      congr 1
      show [1 + (m : Int)] = [lo + _]
      congr 1
      omega
    · rw [if_neg h1]
      have e : (min ((m + 1 : Nat) : Int) hi - lo + 1).toNat = (min (m : Int) hi - lo + 1).toNat := by omega
      rw [e, List.append_nil]
theorem str_ne_iff (x y : Str) : (!decide (V.str x = V.str y)) = !decide (x = y) := by
  congr 1
  exact decide_eq_decide.mpr ⟨fun h => by injection h, fun h => by rw [h]⟩
end SB
namespace SB
theorem win_three {n s : Nat} {r : List Int} (h : r ∈ win n s) : ∃ p f l : Int, r = [p, f, l] := by
  unfold win at h
  rw [List.mem_append, List.mem_map, List.mem_map] at h
  rcases h with ⟨i, hi, rfl⟩ | ⟨i, hi, rfl⟩
  · exact ⟨_, _, _, rfl⟩
  · exact ⟨_, _, _, rfl⟩
end SB
namespace SB
open PySem PySem.Spec PyProof.Rows L2 Evl
theorem inV_ints (x : Int) (ns : List Int) : inV (.int x) (ns.map V.int) = decide (x ∈ ns) := by
  unfold inV
  rw [List.any_map]
  induction ns with
  | nil => rfl
  | cons n ns ih =>
    rw [List.any_cons, ih]
    have e : ((fun y => eqV y (.int x)) ∘ V.int) n = decide (n = x) := rfl
    rw [e]
    by_cases h : n = x
    · subst h
      simp
    · have h' : ¬ x = n := fun z => h z.symm
      simp [h, h', List.mem_cons]
theorem flat_ints (ns : List Int) : (ns.map V.int).all flatV = true := by
  rw [List.all_map, List.all_eq_true]
  intro x _
  rfl
theorem eqv_nil (ns : List Int) : PyData.eqv (.list (dI ns)) (.list []) = ns.isEmpty := by
  cases ns with
  | nil => decide +kernel
  | cons n ns => rfl
/-! None, or a tuple of whole numbers -/
def optT (lo hi : Int) : Option (List Int) := if lo ≤ hi then some [lo, hi] else none
def IsO (K : PySem.W.Frag) (H : Hp) (v : V) : Option (List Int) → Prop
  | none => v = .non
  | some r => RT K H v r
theorem IsO.ex {K : PySem.W.Frag} {H H' : Hp} {v : V} {o : Option (List Int)} (e : Ex H H') (h : IsO K H v o) : IsO K H' v o := by
  cases o with
  | none => exact h
  | some r => exact RT.lasts.ex e h
theorem IsO.kp {K : PySem.W.Frag} {H H' : Hp} {v : V} {o : Option (List Int)} {a : Addr} {ys : List V} (e : Kp a H H') (ha : H a = some (.lst ys)) (h : IsO K H v o) : IsO K H' v o := by
  cases o with
  | none => exact h
  | some r => exact RT.lasts.kp e ha h
def optD : Option (List Int) → PyData
  | none => .none
  | some r => .tuple (dI r)
theorem IsO.dp {K : PySem.W.Frag} {H : Hp} {v : V} {o : Option (List Int)} (h : IsO K H v o) : Dp K H v (optD o) := by
  cases o with
  | none =>
    cases (show v = .non from h)
    exact .non
  | some r =>
    obtain ⟨t, rfl, ht⟩ := h
    exact .tup ht (dp_ints r)
def Ok200 (o : Option (List Int)) : Prop := ∀ r, o = some r → r.length ≤ 10 ∧ ∀ y ∈ r, y.natAbs < 2 ^ 200
theorem show_opt {o : Option (List Int)} (h : Ok200 o) : (optD o).showable = true ∧ (optD o).hasDict = false ∧ (optD o).depth ≤ 60 ∧ (optD o).shown.length ≤ sizeLine := by
  cases o with
  | none => exact ⟨rfl, rfl, Nat.zero_le _, by decide +kernel⟩
  | some r =>
    obtain ⟨h1, h2⟩ := h r rfl
    exact show_tup h2 (by omega)
theorem rp_opt {K : PySem.W.Frag} {H : Hp} {v : V} {o : Option (List Int)} {Q : VK} (h : IsO K H v o) (k : Ok200 o) (q : Q (.str (optD o).shown) H) : rRp K [v] H Q := by
  obtain ⟨h1, h2, h3, h4⟩ := show_opt k
  exact ⟨_, _, rfl, h.dp, h1, h2, h3, h4, q⟩
theorem ok_optT {lo hi : Int} (h1 : lo.natAbs < 2 ^ 200) (h2 : hi.natAbs < 2 ^ 200) : Ok200 (optT lo hi) := by
  intro r hr
  unfold optT at hr
  split at hr
  · cases hr
    refine ⟨by show 2 ≤ 10; omega, fun y hy => ?_⟩
    rcases List.mem_cons.mp hy with rfl | hy
    · exact h1
    · rw [List.mem_singleton.mp hy]
      exact h2
  · cases hr
theorem stretch_at {lo hi : Int} (h : lo ≤ hi) : ((List.range (hi - lo + 1).toNat).map fun i : Nat => lo + (i : Int)) = lo :: ((List.range (hi - lo).toNat).map fun i : Nat => lo + 1 + (i : Int)) := by
  have e : (hi - lo + 1).toNat = (hi - lo).toNat + 1 := by omega
  rw [e, List.range_succ_eq_map, List.map_cons, List.map_map]
  congr 1
  · simp
  · refine List.map_congr_left fun i _ => ?_
    show lo + ((i + 1 : Nat) : Int) = lo + 1 + (i : Int)
    omega
theorem stretch_end {lo hi : Int} (h : lo ≤ hi) : ((List.range (hi - lo + 1).toNat).map fun i : Nat => lo + (i : Int)) = ((List.range (hi - lo).toNat).map fun i : Nat => lo + (i : Int)) ++ [hi] := by
  have e : (hi - lo + 1).toNat = (hi - lo).toNat + 1 := by omega
  rw [e, List.range_succ, List.map_append]
  congr 1
  show [lo + (((hi - lo).toNat : Nat) : Int)] = [hi]
  congr 1
  omega
theorem stretch_mem {lo hi x : Int} : x ∈ ((List.range (hi - lo + 1).toNat).map fun i : Nat => lo + (i : Int)) ↔ lo ≤ x ∧ x ≤ hi := by
  rw [List.mem_map]
  constructor
  · rintro ⟨i, hi, rfl⟩
    have := List.mem_range.mp hi
    omega
  · intro h
    exact ⟨(x - lo).toNat, List.mem_range.mpr (by omega), by omega⟩
theorem stretch_nil {lo hi : Int} (h : ¬ lo ≤ hi) : ((List.range (hi - lo + 1).toNat).map fun i : Nat => lo + (i : Int)) = [] := by
  have e : (hi - lo + 1).toNat = 0 := by omega
  rw [e]
  rfl
end SB
namespace SB
open PySem PySem.Spec PyProof.Rows L2 Evl
/-! good offsets -/
def gdL (n s : Nat) (gr w st x : Int) : List Int := (win n s).map (r3 (fun p f _ => f * x - gr * (w + st * p)) 0)
def gdH (n s : Nat) (gr w st x : Int) : List Int := (win n s).map (r3 (fun p _ l => l * x - 1 - gr * (w + st * p)) 0)
theorem gdL_pos {n s : Nat} {gr w st x : Int} (h : s + 2 ≤ n) : 0 < (gdL n s gr w st x).length := by
  unfold gdL
  rw [List.length_map, win_len (by omega)]
  omega
theorem gdH_pos {n s : Nat} {gr w st x : Int} (h : s + 2 ≤ n) : 0 < (gdH n s gr w st x).length := by
  unfold gdH
  rw [List.length_map, win_len (by omega)]
  omega
theorem Mx.cons {a m k : Int} {L : List Int} (h : Mx (a :: L) k) (h' : Mx L m) : k = if a > m then a else m := by
  refine h.uniq ?_
  by_cases c : a > m
  · rw [if_pos c]
    refine ⟨List.mem_cons_self .., fun y hy => ?_⟩
    rcases List.mem_cons.mp hy with rfl | hy
    · exact Int.le_refl _
    · have := h'.2 y hy
      omega
  · rw [if_neg c]
    refine ⟨List.mem_cons_of_mem _ h'.1, fun y hy => ?_⟩
    rcases List.mem_cons.mp hy with rfl | hy
    · omega
    · exact h'.2 y hy
theorem Mi.cons {a m k : Int} {L : List Int} (h : Mi (a :: L) k) (h' : Mi L m) : k = if a < m then a else m := by
  refine h.uniq ?_
  by_cases c : a < m
  · rw [if_pos c]
    refine ⟨List.mem_cons_self .., fun y hy => ?_⟩
    rcases List.mem_cons.mp hy with rfl | hy
    · exact Int.le_refl _
    · have := h'.2 y hy
      omega
  · rw [if_neg c]
    refine ⟨List.mem_cons_of_mem _ h'.1, fun y hy => ?_⟩
    rcases List.mem_cons.mp hy with rfl | hy
    · omega
    · exact h'.2 y hy
/-- an offset is good just between the bounds -/
theorem gd_iff {n s : Nat} {gr w st x lo hi off : Int} (m1 : Mx (0 :: gdL n s gr w st x) lo) (m2 : Mi ((gr - 1) :: gdH n s gr w st x) hi) (h0 : 0 ≤ off) (h1 : off < gr) : goodB (win n s) gr w st x off = true ↔ lo ≤ off ∧ off ≤ hi := by
  unfold goodB
  rw [List.all_eq_true]
  constructor
  · intro hx
    constructor
    · rcases List.mem_cons.mp m1.1 with h | h
      · omega
      · unfold gdL at h
        obtain ⟨r, hr, e⟩ := List.mem_map.mp h
        obtain ⟨p, f, l, rfl⟩ := win_three hr
        have := hx _ hr
        rw [r3_mk, Bool.and_eq_true, decide_eq_true_eq, decide_eq_true_eq] at this
        rw [r3_mk, Int.mul_comm f x] at e
        omega
    · rcases List.mem_cons.mp m2.1 with h | h
      · omega
      · unfold gdH at h
        obtain ⟨r, hr, e⟩ := List.mem_map.mp h
        obtain ⟨p, f, l, rfl⟩ := win_three hr
        have := hx _ hr
        rw [r3_mk, Bool.and_eq_true, decide_eq_true_eq, decide_eq_true_eq] at this
        rw [r3_mk, Int.mul_comm l x] at e
        omega
  · intro ⟨ha, hb⟩ r hr
    obtain ⟨p, f, l, rfl⟩ := win_three hr
    have a1 := m1.2 _ (List.mem_cons_of_mem _ (List.mem_map.mpr ⟨_, hr, rfl⟩))
    have a2 := m2.2 _ (List.mem_cons_of_mem _ (List.mem_map.mpr ⟨_, hr, rfl⟩))
    rw [r3_mk, Int.mul_comm f x] at a1
    rw [r3_mk, Int.mul_comm l x] at a2
    rw [r3_mk, Bool.and_eq_true, decide_eq_true_eq, decide_eq_true_eq]
    omega
end SB
namespace SB
open PySem PySem.Spec PyProof.Rows L2 Evl
theorem sh_int {i : Int} (h : i.natAbs < 2 ^ 200) : (PyData.int i).showable = true ∧ (PyData.int i).shown.length ≤ sizeLine := by
  have hl : i.natAbs.log2 < 200 := int_log (by decide) h
  have ht : (Str.ofString (toString i)).length ≤ 201 := by
    rw [PySem.ofString_length]
    exact int_text_length_le (k := 200) (by decide) hl
  refine ⟨?_, ?_⟩
  · simp only [PyData.showable, decide_eq_true_eq]
    omega
  · show (Str.ofString (toString i)).length ≤ sizeLine
    rw [sizeLine_eq]
    omega
theorem nat_abs_lt {x : Int} {k : Nat} (h0 : 0 ≤ x) (h1 : x < 2 ^ k) : x.natAbs < 2 ^ k := by
  have e : (2 : Int) ^ k = ((2 ^ k : Nat) : Int) := by norm_cast
  omega
theorem emod_small {i g : Int} (h : 1 ≤ g) (hg : g < 1237940039285380274899124224) : (i % g).natAbs < 2 ^ 200 := by
  have h1 := Int.emod_nonneg i (show g ≠ 0 by omega)
  have h2 := Int.emod_lt_of_pos i (show 0 < g by omega)
  omega
end SB
namespace SB
open PySem PySem.Spec PyProof.Rows L2 Evl
theorem given_from (c lo hi : Int) : ∀ m : Nat, c ≤ lo → (List.range m).filterMap (fun i : Nat => if lo ≤ c + (i : Int) ∧ c + (i : Int) ≤ hi then some (c + (i : Int)) else none) = (List.range (min (c + (m : Int) - 1) hi - lo + 1).toNat).map fun i : Nat => lo + (i : Int)
  | 0, h => by
    have : (min (c + ((0 : Nat) : Int) - 1) hi - lo + 1).toNat = 0 := by omega
    rw [this]
    rfl
  | m + 1, h => by
    rw [range_fm_succ, given_from c lo hi m h]
    by_cases h1 : lo ≤ c + (m : Int) ∧ c + (m : Int) ≤ hi
    · rw [if_pos h1]
      have e : (min (c + ((m + 1 : Nat) : Int) - 1) hi - lo + 1).toNat = (min (c + (m : Int) - 1) hi - lo + 1).toNat + 1 := by omega
      rw [e, List.range_succ, List.map_append]
      congr 1
      show [c + (m : Int)] = [lo + _]
      congr 1
      omega
    · rw [if_neg h1]
      have e : (min (c + ((m + 1 : Nat) : Int) - 1) hi - lo + 1).toNat = (min (c + (m : Int) - 1) hi - lo + 1).toNat := by omega
      rw [e, List.append_nil]
theorem rgV_stretch (lo hi : Int) : rgV lo (hi + 1) = ((List.range (hi - lo + 1).toNat).map fun i : Nat => lo + (i : Int)).map V.int := by
  unfold rgV
  rw [List.map_map, show hi + 1 - lo = hi - lo + 1 by omega]
  rfl
theorem gd_ex {n s : Nat} (gr w st x : Int) : (∃ lo, Mx (0 :: gdL n s gr w st x) lo) ∧ ∃ hi, Mi ((gr - 1) :: gdH n s gr w st x) hi :=
  ⟨Mx.exists (by simp), Mi.exists (by simp)⟩
theorem gd_bd {n s : Nat} {gr w st x lo hi : Int} (h : s + 2 ≤ n ∧ n ≤ 13) (c : Clb gr w st) (x1 : 1 ≤ x) (x2 : x < 2 ^ 190) (m1 : Mx (0 :: gdL n s gr w st x) lo) (m2 : Mi ((gr - 1) :: gdH n s gr w st x) hi) :
    0 ≤ lo ∧ hi ≤ gr - 1 ∧ lo.natAbs < 2 ^ 200 ∧ hi.natAbs < 2 ^ 200 := by
  have l0 := m1.2 0 (List.mem_cons_self ..)
  have h0 := m2.2 (gr - 1) (List.mem_cons_self ..)
  have g1 := c.g1
  have gb := c.gb
  have p1 : (2 : Int) ^ 200 = ((2 ^ 200 : Nat) : Int) := by norm_cast
  have p2 : (13 : Int) * 2 ^ 190 + 2 ^ 185 < 2 ^ 200 := by decide
  have p3 : (1237940039285380274899124224 : Int) < 2 ^ 185 := by decide
  refine ⟨l0, h0, ?_, ?_⟩
  · rcases List.mem_cons.mp m1.1 with e | e
    · rw [e]
      decide
    · obtain ⟨r, hr, e⟩ := List.mem_map.mp e
      obtain ⟨p, f, l, rfl, h1, h2⟩ := (win_mem h.1).mp hr
      rw [r3_mk] at e
      have lk := c.look (p := p) (by omega)
      have e2 : lookI gr w st p = gr * (w + st * (p : Int)) := rfl
      have fx : (f : Int) * x ≤ 13 * x := Int.mul_le_mul_of_nonneg_right (by omega) (by omega)
      omega
  · rcases List.mem_cons.mp m2.1 with e | e
    · omega
    · obtain ⟨r, hr, e⟩ := List.mem_map.mp e
      obtain ⟨p, f, l, rfl, h1, h2⟩ := (win_mem h.1).mp hr
      rw [r3_mk] at e
      have lk := c.look (p := p) (by omega)
      have e2 : lookI gr w st p = gr * (w + st * (p : Int)) := rfl
      have fx : 0 ≤ (l : Int) * x := Int.mul_nonneg (by omega) (by omega)
      omega
end SB
namespace SB
open PySem PySem.Spec PyProof.Rows L2 Evl
/-! places of receivers -/
def stp (n s : Nat) (pl lv : Int) : Int := if pl = -1 then (if lv = 1 then 0 else -1) else if pl = 0 then (if lv = 1 then 0 else 1) else if lv = 0 ∧ pl ≥ (n : Int) - s then -1 else (pl + 1) % (n : Int)
def plc (n s : Nat) (pl : Int) (ls : List Int) : Int := ls.foldl (stp n s) pl
theorem plc_app (n s : Nat) (pl : Int) (A B : List Int) : plc n s pl (A ++ B) = plc n s (plc n s pl A) B := List.foldl_append ..
theorem plc_succ {n s : Nat} {pl l : Int} {ls : List Int} {i : Nat} (h : ls[i]? = some l) : plc n s pl (ls.take (i + 1)) = stp n s (plc n s pl (ls.take i)) l := by
  rw [List.take_add_one, h, plc_app]
  rfl
/-- the place behind a text -/
def pat (b : Nat) (p : Pa) (s : Nat) (pl : Int) (ns : List Int) : Int := ns.foldl (fun q x => plc (sz b p s) s q (frm b p s x)) pl
def pls (b : Nat) (p : Pa) (s : Nat) (pl : Int) (ns : List Int) : List Int := (List.range (ns.length + 1)).map fun i => pat b p s pl (ns.take i)
theorem pls_len (b : Nat) (p : Pa) (s : Nat) (pl : Int) (ns : List Int) : (pls b p s pl ns).length = ns.length + 1 := by simp [pls]
theorem pls_last (b : Nat) (p : Pa) (s : Nat) (pl : Int) (ns : List Int) : pls b p s pl ns = ((List.range ns.length).map fun i => pat b p s pl (ns.take i)) ++ [pat b p s pl ns] := by
  unfold pls
  rw [List.range_succ, List.map_append]
  simp
theorem pat_succ {b : Nat} {p : Pa} {s : Nat} {pl x : Int} {ns : List Int} {i : Nat} (h : ns[i]? = some x) : pat b p s pl (ns.take (i + 1)) = plc (sz b p s) s (pat b p s pl (ns.take i)) (frm b p s x) := by
  unfold pat
  rw [List.take_add_one, h, List.foldl_append]
  rfl
theorem pls_succ {b : Nat} {p : Pa} {s : Nat} {pl x : Int} {ns : List Int} {i : Nat} (h : ns[i]? = some x) : pls b p s pl (ns.take (i + 1)) = pls b p s pl (ns.take i) ++ [plc (sz b p s) s (pat b p s pl (ns.take i)) (frm b p s x)] := by
  have hi := (List.getElem?_eq_some_iff.mp h).1
  have l1 : (ns.take (i + 1)).length = i + 1 := by rw [List.length_take]; omega
  have l0 : (ns.take i).length = i := by rw [List.length_take]; omega
  rw [pls_last b p s pl (ns.take (i + 1)), l1, pat_succ h]
  congr 1
  unfold pls
  rw [l0]
  refine List.map_congr_left fun j hj => ?_
  have := List.mem_range.mp hj
  rw [List.take_take, List.take_take, Nat.min_eq_left (by omega), Nat.min_eq_left (by omega)]
theorem pat_app (b : Nat) (p : Pa) (s : Nat) (pl : Int) (A B : List Int) : pat b p s pl (A ++ B) = pat b p s (pat b p s pl A) B := List.foldl_append ..
theorem stp_bd {n s : Nat} {pl lv : Int} (hn : 2 ≤ n) (h0 : -1 ≤ pl) (h1 : pl < n) : -1 ≤ stp n s pl lv ∧ stp n s pl lv < n := by
  unfold stp
  have e1 := Int.emod_nonneg (pl + 1) (show (n : Int) ≠ 0 by omega)
  have e2 := Int.emod_lt_of_pos (pl + 1) (show (0 : Int) < n by omega)
  split
  · split <;> omega
  · split
    · split <;> omega
    · split <;> omega
theorem plc_bd {n s : Nat} (hn : 2 ≤ n) : ∀ {ls : List Int} {pl : Int}, -1 ≤ pl → pl < n → -1 ≤ plc n s pl ls ∧ plc n s pl ls < n
  | [], pl, h0, h1 => ⟨h0, h1⟩
  | l :: ls, pl, h0, h1 => by
    have h := stp_bd (s := s) (lv := l) hn h0 h1
    exact plc_bd (ls := ls) hn h.1 h.2
/-- behind a 1 a receiver is not waiting -/
theorem stp_one {n s : Nat} {pl : Int} (hn : 2 ≤ n) (h0 : -1 ≤ pl) (h1 : pl < n) : 0 ≤ stp n s pl 1 ∧ stp n s pl 1 < n := by
  unfold stp
  have e1 := Int.emod_nonneg (pl + 1) (show (n : Int) ≠ 0 by omega)
  have e2 := Int.emod_lt_of_pos (pl + 1) (show (0 : Int) < n by omega)
  split
  · simp
    omega
  · split
    · simp
      omega
    · simp
      omega
theorem frm_last {b : Nat} {p : Pa} {s : Nat} (x : Int) (hs : 1 ≤ s) : ∃ ls, frm b p s x = ls ++ [1] := by
  obtain ⟨m, rfl⟩ : ∃ m, s = m + 1 := ⟨s - 1, by omega⟩
  refine ⟨0 :: (bits b x ++ (parL b p x ++ List.replicate m 1)), ?_⟩
  unfold frm
  rw [List.replicate_succ']
  simp
theorem plc_frm_bd {b : Nat} {p : Pa} {s : Nat} {x pl : Int} (hs : 1 ≤ s) (h0 : 0 ≤ pl) (h1 : pl < (sz b p s : Nat)) : 0 ≤ plc (sz b p s) s pl (frm b p s x) ∧ plc (sz b p s) s pl (frm b p s x) < (sz b p s : Nat) := by
  have hn : 2 ≤ sz b p s := by
    unfold sz
    omega
  obtain ⟨ls, e⟩ := frm_last (b := b) (p := p) x hs
  rw [e, plc_app]
  have h := plc_bd (s := s) (ls := ls) hn (show -1 ≤ pl by omega) h1
  exact stp_one hn h.1 h.2
theorem pat_bd {b : Nat} {p : Pa} {s : Nat} (hs : 1 ≤ s) : ∀ {ns : List Int} {pl : Int}, 0 ≤ pl → pl < (sz b p s : Nat) → 0 ≤ pat b p s pl ns ∧ pat b p s pl ns < (sz b p s : Nat)
  | [], pl, h0, h1 => ⟨h0, h1⟩
  | x :: ns, pl, h0, h1 => by
    have h := plc_frm_bd (x := x) hs h0 h1
    exact pat_bd (ns := ns) hs h.1 h.2
/-- a receiver in step stays so -/
theorem plc_frm0 {b : Nat} {p : Pa} {s : Nat} {x : Int} (hs : 1 ≤ s) : plc (sz b p s) s 0 (frm b p s x) = 0 := by
  have len := frm_sz b p s x
  have key : ∀ k, k ≤ sz b p s → plc (sz b p s) s 0 ((frm b p s x).take k) = if k = sz b p s then 0 else (k : Int) := by
    intro k
    induction k with
    | zero =>
      intro _
      rw [if_neg (by unfold sz; omega)]
      rfl
    | succ k ih =>
      intro hk
      have hg : (frm b p s x)[k]? = some ((frm b p s x)[k]'(by rw [len]; omega)) := List.getElem?_eq_getElem _
      rw [plc_succ hg, ih (by omega), if_neg (by omega)]
      have l01 : (frm b p s x)[k]'(by rw [len]; omega) = 0 ∨ (frm b p s x)[k]'(by rw [len]; omega) = 1 := frm_01 (List.getElem_mem _)
      have stop : sz b p s - s ≤ k → (frm b p s x)[k]'(by rw [len]; omega) = 1 := by
        intro h
        have hb := bits_len b x
        have hp : (parL b p x).length = plen p := by cases p <;> rfl
        have e : (frm b p s x)[k]? = some 1 := by
          unfold frm
          obtain ⟨j, rfl⟩ : ∃ j, k = j + 1 := ⟨k - 1, by unfold sz at *; omega⟩
          rw [List.getElem?_cons_succ, ← List.append_assoc, List.getElem?_append_right (by rw [List.length_append, hb, hp]; unfold sz at *; omega), List.getElem?_replicate, if_pos (by rw [List.length_append, hb, hp]; unfold sz at *; omega)]
        rw [e] at hg
        exact (Option.some.inj hg).symm
      generalize (frm b p s x)[k]'(by rw [len]; omega) = l at l01 stop hg
      unfold stp
      rw [if_neg (by omega)]
      by_cases k0 : k = 0
      · subst k0
        have l0 : l = 0 := by
          have e : (frm b p s x)[0]? = some 0 := rfl
          rw [e] at hg
          exact (Option.some.inj hg).symm
        rw [if_pos (show ((0 : Nat) : Int) = 0 from rfl), l0, if_neg (by decide), if_neg (by unfold sz; omega)]
        rfl
      · rw [if_neg (by omega)]
        have no : ¬ (l = 0 ∧ (k : Int) ≥ ((sz b p s : Nat) : Int) - s) := fun ⟨c1, c2⟩ => by
          have := stop (by omega)
          omega
        rw [if_neg no]
        by_cases ke : k + 1 = sz b p s
        · rw [if_pos ke, ← ke]
          exact Int.emod_self
        · rw [if_neg ke]
          exact Int.emod_eq_of_lt (by omega) (by omega)
  have := key (sz b p s) (Nat.le_refl _)
  rw [if_pos rfl, List.take_of_length_le (by omega)] at this
  exact this
theorem pat_0 {b : Nat} {p : Pa} {s : Nat} (hs : 1 ≤ s) : ∀ ns : List Int, pat b p s 0 ns = 0
  | [] => rfl
  | x :: ns => by
    show pat b p s (plc (sz b p s) s 0 (frm b p s x)) ns = 0
    rw [plc_frm0 hs, pat_0 hs ns]
theorem pls_0 {b : Nat} {p : Pa} {s : Nat} (hs : 1 ≤ s) (ns : List Int) : pls b p s 0 ns = List.replicate (ns.length + 1) 0 := by
  unfold pls
  refine List.ext_getElem (by simp) fun i h1 h2 => ?_
  simp [pat_0 hs]
/-- a comprehension of draws -/
theorem lcD {lo : Int} {n j : Nat} {te : TE} {vs : List Nat} {σ : L2.St} {H : Hp} {S D : Addr} {n0 c : Nat} {Qd : Hp → Prop} (Ok : Int → Prop) (hD : H D = none) (src : Pool H S n0) (hn : n ≤ 100000) (hj : j ∈ vs)
    (hs : ∀ (i : Nat) (H' : Hp), i < n → Kp S H H' → Pool H' S (n0 + c * i) → ∀ (Kt : VK), (∀ x H4, Ok x → Kp S H' H4 → Pool H4 S (n0 + c * (i + 1)) → Kt (.int x) H4) → te ((wipe σ vs).set j (some (.int (lo + i)))) H' Kt)
    (hd : ∀ (H' : Hp) (ns : List Int), Kp S H H' → Pool H' S (n0 + c * n) → ns.length = n → (∀ x ∈ ns, Ok x) → H' D = some (.lst (ns.map V.int)) → Qd H') :
    ∃ W : Nat → Nat → Hp → Prop, (∃ m, W 0 m (L2.upd H D (.lst []))) ∧ ∀ i m H, W i m H →
      ((Itr lo n).stop i H ∧ Qd H) ∨ ((Itr lo n).go i H ∧ ∃ Nx : Hp → Prop, (∀ H', Nx H' → ∃ m', m' < m ∧ W (i + 1) m' H') ∧ ∀ x H', (Itr lo n).yld i H x H' → gName j x (wipe σ vs) H' fun σ2 H2 => wipe σ2 vs = wipe σ vs ∧ tYes σ2 H2 fun b H3 =>
        if b = true then te σ2 H3 fun y H4 => ∃ acc, H4 D = some (.lst acc) ∧ acc.length < sizeLine ∧ Nx (L2.upd H4 D (.lst (acc ++ [y]))) else Nx H3) := by
  have DS : D ≠ S := src.ne hD
  refine lc_range (fun i H' => ∃ ns : List Int, Kp S H H' ∧ Pool H' S (n0 + c * i) ∧ ns.length = i ∧ (∀ x ∈ ns, Ok x) ∧ H' D = some (.lst (ns.map V.int))) ⟨[], Ex.kp (Ex.new hD), src.ex (Ex.new hD), rfl, (fun _ h => by cases h), upd_same⟩ (fun i H' hi ⟨ns, k, pl, hl, ok, hL⟩ => ?_) fun H' ⟨ns, k, pl, hl, ok, hL⟩ => hd H' ns k pl hl ok hL
  have key := hs i H' hi k pl (fun y H4 => ∃ acc, H4 D = some (.lst acc) ∧ acc.length < sizeLine ∧ ∃ ns : List Int, Kp S H (L2.upd H4 D (.lst (acc ++ [y]))) ∧ Pool (L2.upd H4 D (.lst (acc ++ [y]))) S (n0 + c * (i + 1)) ∧ ns.length = i + 1 ∧ (∀ x ∈ ns, Ok x) ∧ (L2.upd H4 D (.lst (acc ++ [y]))) D = some (.lst (ns.map V.int)))
  refine ⟨by rw [wipe_set hj, wipe_wipe], key fun x H4 okx k4 pl4 => ?_⟩
  refine ⟨_, k4 D _ DS hL, ?_, ns ++ [x], (k.trans k4).mut hD, pl4.upd DS, by rw [List.length_append, hl]; rfl, ?_, ?_⟩
  · rw [List.length_map]
    exact Nat.lt_of_le_of_lt (show ns.length ≤ 100000 by omega) (by decide)
  · intro z hz
    rcases List.mem_append.mp hz with h | h
    · exact ok z h
    · rw [List.mem_singleton.mp h]
      exact okx
  · rw [upd_same, List.map_append]
    rfl
end SB
namespace SB
open PySem PySem.Spec PyProof.Rows L2 Evl
theorem seq_any' {te : TE} {i : Nat} {u : TS} {D : L2.Ends} {σ : L2.St} {H : Hp} {P : V → Hp → Prop} (h : ∀ Q' : VK, (∀ v H', P v H' → Q' v H') → te σ H Q') (k : ∀ v H', P v H' → u D (σ.set i (some v)) H') :
    tSeq (tAsg te (gName i)) u D σ H := h _ k
end SB
namespace EXS
open PySem PySem.W PySem.Calls PyProof.Rows
/-! an own error whose __init__ says super().__init__(f'..') and stores its one field -/
def eArgs (fld : Str) (p1 p2 : Pos) : Arguments := { posonlyargs := [], args := [{ arg := "self", annotation := none, pos := p1 }, { arg := fld, annotation := none, pos := p2 }], vararg := none, kwonlyargs := [], kw_defaults := [], kwarg := none, defaults := [] }
def eScope (fld : Str) : Scope := { kind := .function, names := [("self", .local), (fld, .local), ("__class__", .free), ("super", .globalImplicit)], isGenerator := false, isCoroutine := false, more := [] }
def eBody (fld : Str) (js : List Expr) (a0 a1 a2 a3 a4 a5 b1 b2 b3 b4 : Pos) : List Stmt :=
  [.Expr (.Call (.Attribute (.Call (.Name "super" a0) [] [] a1) "__init__" a2) [.JoinedStr js a3] [] a4) a5, .Assign [.Attribute (.Name "self" b1) fld b2] (.Name fld b3) b4]
/-- f'TEXT{FLD}' is some text -/
def Tells (fld : Str) (js : List Expr) (v : Value) : Prop := ∀ (prog : Program) (w : World) (A : Around) (E : Value → Shared → Prop) (env : Env) (m : Str → Option Value) (s : Shared) (p : Pos) (Q : Value → Shared → Prop),
  s.heap.Ns env.locals m → m fld = some v → env.scope.kind = .function → env.kindOf fld = some .local → (∀ x t tk, Q (.str x t) { s with toks := tk }) → wpAny (model prog w) A (eval (.JoinedStr js p) env) Q E s
theorem tells2 {fld tx : Str} {p0 p1 p2 : Pos} {k : Nat} {v : Value} (hf : (fld == ("__debug__" : Str)) = false) (hl : tx.length ≤ 100) (hv : v = .none ∨ ∃ i t, v = .int i t ∧ i.natAbs.log2 < 1920) :
    Tells fld [.Constant (.str tx) k p0, .FormattedValue (.Name fld p1) (-1) none p2] v := by
  intro prog w A E env m s p Q hn hm hk hl2 q
  have fld_ok : ∀ (s' : Shared) (Q' : Value → Shared → Prop), s'.heap = s.heap → (∀ (y : Str) (t : Tok) (tk : Nat), y.length ≤ 3000 → Q' (.str y t) { s' with toks := tk }) →
      wpAny (model prog w) A (eval (.FormattedValue (.Name fld p1) (-1) none p2) env) Q' E s' := by
    intro s' Q' eh q'
    refine PySem.wpAny_FormattedValue_plain (wpAny_Name (wpAny_loadName_local hk hl2 (show s'.heap.Ns env.locals m by rw [eh]; exact hn) hm ?_) hf)
    rcases hv with rfl | ⟨i, t, rfl, hi⟩
    · exact wpAny_formatField_none (q' "None" _ _ (by decide))
    · refine PySem.wpAny_formatField_int hi (q' _ _ _ ?_)
      rw [PySem.ofString_length]
      have := int_text_length_le (k := 1920) (by decide) hi
      omega
  refine PySem.wpAny_JoinedStr ?_
  show wpAny _ _ (eval (.Constant (.str tx) k p0) env) _ _ _
  refine PySem.Calls.Constant_str ⟨tx, _, rfl, ?_, ?_⟩
  · rw [sizeLine_eq, show (Str.empty ++ tx).length = Str.empty.length + tx.length from PySem.strLen_append _ _]
    show 0 + tx.length ≤ _
    omega
  · show wpAny _ _ (eval (.FormattedValue (.Name fld p1) (-1) none p2) env) _ _ _
    refine fld_ok _ _ rfl fun y t tk hy => ⟨y, t, rfl, ?_, ?_⟩
    · rw [sizeLine_eq, PySem.strLen_append, PySem.strLen_append]
      show 0 + tx.length + y.length ≤ _
      omega
    · show _ ∧ _
      refine ⟨?_, q _ _ _⟩
      rw [sizeLine_eq, PySem.strLen_append, PySem.strLen_append]
      show 0 + tx.length + y.length ≤ _
      omega
end EXS
namespace EXS
open PySem PySem.W PySem.Calls PyProof.Rows PySem.HandSPX
theorem mcall {o : Expr} {env : Env} {ov : Value} {a2 a4 : Pos} {name : Str} {n : Nat} {args : List (Bool × Sem Value)} (hf : methodCallForm n args [] = true) (h : (a2.endLine == a4.line) = true) :
    methodCall o name a2 a4 env ov n args [] = (do
          let __x ← holding [ov] (getMethod ov name (do
      let __do_lift ← importBound o env
      pure (__do_lift.getD true)))
          match __x with
            | (f, first) => callWith a4 f first args []) := by
  unfold methodCall
  rw [hf]
  have e : methodCallPos true o env a2 a4 = pure a4 := by
    unfold methodCallPos
    rw [h] 
    rfl
  rw [e]
  rfl
theorem mcall_eq {a2 a3 a4 q0 q1 q2 : Pos} {env : Env} {tx x : Str} {kc : Nat} {p0 p1 : Pos} (h : (a2.endLine == a4.line) = true) : eval (.Call (.Attribute (.Call (.Name "super" p0) [] [] p1) "__init__" a2) [.JoinedStr [.Constant (.str tx) kc q0, .FormattedValue (.Name x q1) (-1) none q2] a3] [] a4) env = (do
          let ov ← attributeBase (.Call (.Name "super" p0) [] [] p1) "__init__" env (eval (.Call (.Name "super" p0) [] [] p1) env)
          standAt a2.atName
          let __x ← holding [ov] (getMethod ov "__init__" (do
      let __do_lift ← importBound (.Call (.Name "super" p0) [] [] p1) env
      pure (__do_lift.getD true)))
          match __x with
            | (f, first) => callWith a4 f first (backTo a4 (starEach [.JoinedStr [.Constant (.str tx) kc q0, .FormattedValue (.Name x q1) (-1) none q2] a3] env)) []) := by
  have e : eval (.Call (.Attribute (.Call (.Name "super" p0) [] [] p1) "__init__" a2) [.JoinedStr [.Constant (.str tx) kc q0, .FormattedValue (.Name x q1) (-1) none q2] a3] [] a4) env = (do
          let ov ← attributeBase (.Call (.Name "super" p0) [] [] p1) "__init__" env (eval (.Call (.Name "super" p0) [] [] p1) env)
          standAt a2.atName
          methodCall (.Call (.Name "super" p0) [] [] p1) "__init__" a2 a4 env ov 1 (backTo a4 (starEach [.JoinedStr [.Constant (.str tx) kc q0, .FormattedValue (.Name x q1) (-1) none q2] a3] env)) []) := rfl
  rw [e]
  refine congrArg _ (funext fun ov => ?_)
  refine congrArg _ (funext fun _ => ?_)
  exact mcall rfl h
/-- what the program has of an own error: its class at C, its __init__ at fI, over LineError over ValueError -/
structure ErrTxt (prog : Program) (K : Frag) (mg : Str → Option Value) (nm fld tx : Str) (C fI : Addr) : Prop where
  gC : mg nm = some (.ref C)
  sup : mg "super" = none
  cls : ∃ q N bs bm sn sub ab col dd k0 k1 k2 k3 k5, K.lookup C = some (excClassObj nm q C N bs bm true sn sub ab col dd k0 k1 k2 k3 k5 "ValueError.__new__") ∧ refsVE bm = true ∧ alongIn K "__init__" bm = some (some (.builtin "ValueError.__init__"))
  op : nsIn K cStatics "thirdparty.any" = some none
  sa : findIn K (.ref C) "__setattr__" = some (some (.builtin "object.__setattr__"))
  noN : findIn K (.ref C) fld = some none
  iC : findIn K (.ref C) "__init__" = some (some (.ref fI))
  tC : typeIn K (.ref fI) = some (.type "function")
  kC : keepIn K (.ref C) = true
  exC : subIn K (.ref C) (.type "BaseException") = some true
  veC : subIn K (.ref C) (.type "ValueError") = some true
  init : excInitIn K C [.type "ValueError", .type "Exception", .type "BaseException", .type "object"] "ValueError.__new__" = true
  seC : mroIn K C (.ref C) = some true
  tyC : typeIn K (.ref C) = some (.type "type")
  te : exmOne K (.ref C) (.ref C) = some true
  fn : ∃ (oc : Value) (od : Option Addr) (qual : Str) (doc pm : Value) (an : Option Addr) (cc co : Addr) (ct : Value) (osl : Array (Option Value)) (oc2 : Value) (od2 : Option Addr) (vs : Array Value) (osl2 : Array (Option Value)) (ocl : Obj) (p1 p2 a0 a1 a2 a3 a4 a5 b1 b2 b3 b4 q0 q1 q2 : Pos) (kk : Nat) (file : Str) (tf : Tok),
    K.lookup fI = some ⟨oc, od, .func { name := "__init__", qualname := qual, params := eArgs fld p1 p2, body := .stmts (eBody fld [.Constant (.str tx) kk q0, .FormattedValue (.Name fld q1) (-1) none q2] a0 a1 a2 a3 a4 a5 b1 b2 b3 b4), scope := eScope fld, globals := mainGlobals, closure := [("__class__", cc)], defaults := .none, kwdefaults := .none, doc := doc, pyModule := pm, annotations := an, code := .ref co, closureTuple := ct, builtins := builtinsNs }, osl⟩
      ∧ codeIn K (.ref co) qual = true ∧ K.lookup co = some ⟨oc2, od2, .fields vs, osl2⟩ ∧ vs[2]? = some (.str file tf) ∧ (prog.main.file == file) = true ∧ K.lookup cc = some ocl ∧ ocl.data = .cell (some (.ref C)) ∧ (a2.endLine == a4.line) = true
  nosup : (List.lookup ("super" : Str) prog.main.scope.names).isSome = false
  nf : fld = "index" ∨ fld = "limit" ∨ fld = "word"
  hl : tx.length ≤ 100
theorem kept_but {K : Frag} {h h' : Heap} {x : Addr} (X : K.In h) (hx : K.lookup x = none) (k : ∀ b o, b ≠ x → h.get? b = some o → h'.get? b = some o) : K.In h' := fun a o e =>
  k a o (fun z => by rw [z, hx] at e; cases e) (X a o e)
/-- what __init__ leaves of a fresh exception at x -/
structure InitEnd (h h' : Heap) (x C dx : Addr) (fld : Str) (v : Value) : Prop where
  keep : ∀ b o, b ≠ x → h.get? b = some o → h'.get? b = some o
  obj : ∃ t1, h'.get? x = some { cls := .ref C, dict := some dx, data := .fields #[.ref t1, .none, .none, .none, .bool false, .none] }
  dbig : h.objs.size ≤ dx
  dne : dx ≠ x
  ns : h'.Ns1 dx (fun y => if y = fld then some v else none)
/-- the heap without what stands at x -/
theorem hide1 (h : Heap) (x : Addr) : ∃ G : Heap, G.objs.size = h.objs.size ∧ (∀ b o, b ≠ x → h.get? b = some o → G.get? b = some o) ∧ (∀ b o, G.get? b = some o → h.get? b = some o) ∧ G.get? x = none := by
  let T : L2.Hp := fun b => if b = x then some (.lst []) else none
  refine ⟨L2.hidT h T, L2.hidT_size _ _, fun b o hb e => L2.hidT_get e (if_neg hb), fun b o e => (L2.of_hidT e).1, ?_⟩
  cases e : (L2.hidT h T).get? x with
  | none => rfl
  | some o =>
    have z := (L2.of_hidT e).2
    rw [show T x = some (.lst []) from if_pos rfl] at z
    cases z
section
variable {prog : Program} {w : World} {A : Around} {E : Value → Shared → Prop} {R : Result → Shared → Prop} {s : Shared} {K : Frag} {mg : Str → Option Value} {C fI : Addr} {nm fld tx : Str}
theorem init_raw (T : ErrTxt prog K mg nm fld tx C fI) {x t0 : Addr} {v : Value} (hv : v = .none ∨ ∃ i t, v = .int i t ∧ i.natAbs.log2 < 1920) (M : L2.Mod K mg s.heap) (hx : s.heap.get? x = some (excO C t0)) (hnx : K.lookup x = none) (hroom : A.depth < recursionLimit)
    (hq : ∀ h' tk dx, InitEnd s.heap h' x C dx fld v → R (.ok (.ret .none)) { s with heap := h', toks := tk }) :
    codeAny (model prog w) A (.call (.ref fI) ⟨[.ref x, v], []⟩) R s := by
  obtain ⟨oc, od, qual, doc, pm, an, cc, co, ct, osl, oc2, od2, vs, osl2, ocl, p1, p2, a0, a1, a2, a3, a4, a5, b1, b2, b3, b4, q0, q1, q2, kc, file, tf, lf, hcd, lco, hv2, hfile, lcc, hcell, hpos⟩ := T.fn
  obtain ⟨q, N, bs, bm, sn, sub, ab, col, dd, k0, k1, k2, k3, k5, lC, hbm, hal⟩ := T.cls
  obtain ⟨hp, g, d, t, os⟩ := s
  have X : K.In hp := M.kin
  have hxp : hp.get? x = some (excO C t0) := hx
  have hCp : hp.get? C = some (excClassObj nm q C N bs bm true sn sub ab col dd k0 k1 k2 k3 k5 "ValueError.__new__") := X _ _ lC
  have hxC : x ≠ C := fun z => by rw [z, lC] at hnx; cases hnx
  have hcl : clsIn K C = some { name := nm, bases := bs, mro := .ref C :: bm, ns := N, qualname := q, hasDict := true, slotNames := sn, subclasses := sub, abstract := ab, collection := col, hasDel := false } := by unfold clsIn; rw [lC] <;> rfl
  obtain ⟨G, Gs, G1, G2, G3⟩ := hide1 hp x
  have XG : K.In G := fun b o e => G1 b o (fun z => by rw [z, hnx] at e; cases e) (X b o e)
  have nfT := T.nf
  rcases nfT with rfl | rfl | rfl
  all_goals
    refine ks_codeAny_call_defAt (binds := [("self", .ref x), (_, v)]) hroom (X _ _ lf) rfl M.nolimit (codeRec_of X hcd) rfl (BindsTo.of_eq (by first | rfl | with_unfolding_all rfl)) (fun y hy => ?_) (fun y hy => ?_) (fun h₁ hn k => ?_) rfl rfl rfl
    · rcases hy with _ | ⟨_, _ | ⟨_, _ | ⟨_, _ | ⟨_, hy⟩⟩⟩⟩
      · exact NameKind.noConfusion
      · exact NameKind.noConfusion
      · exact NameKind.noConfusion
      · exact NameKind.noConfusion
      · cases hy
    · rcases hy with _ | ⟨_, _ | ⟨_, hy⟩⟩
      · rfl
      · rfl
      · cases hy
    have X₁ : K.In h₁ := X.keeps k
    refine ks_wpAt_execs_cons (ks_wpAt_Expr_any (ks_wpAt_MethodCall (he := mcall_eq hpos) (ks_wpAt_super_base rfl rfl rfl rfl (k _ _ (X _ _ lf)) rfl rfl rfl (k _ _ (X _ _ lco)) rfl hv2 hfile T.nosup ?_)))
    refine ks_loadName_global rfl rfl ?_
    obtain ⟨mb, hmb, hbb⟩ := M.blt
    have keepNs : ∀ {b : Addr} {m : Str → Option Value}, hp.Ns b m → h₁.Ns b m := fun ⟨o, es, n, e, r⟩ => ⟨o, es, n, k _ _ e, r⟩
    refine loadGlobal_builtin (keepNs M.glob) T.sup (keepNs hmb) ((hbb _ (by decide)).trans (show _ = some (Value.type "super") from rfl)) ⟨rfl, ?_⟩
    refine wpAny_loadName_free rfl rfl rfl ⟨_, k _ _ (X _ _ lcc), hcell⟩ ?_ rfl
    refine wpAny_loadName_local rfl rfl hn rfl ?_
    refine ks_wpAny_isType_cls (k _ _ hCp) rfl ⟨rfl, ?_⟩
    refine ks_wpAny_call_super (k _ _ hCp) rfl (k _ _ hxp) rfl (fun c z => by cases z) (looks_subIn X₁ T.seC) (fun h₂ hso k₂ => ?_)
    have X₂ : K.In h₂ := X₁.keeps k₂
    have kk : ∀ b o, hp.get? b = some o → h₂.get? b = some o := fun b o e => k₂ _ _ (k _ _ e)
    have XX : Frag.In ((x, excO C t0) :: K) h₂ := fun b o e => by
      by_cases hb : b = x
      · subst hb
        rw [List.lookup_cons_self] at e
        cases e
        exact kk _ _ hxp
      · rw [List.lookup_cons, show (b == x) = false from by simpa using hb] at e
        exact X₂ b o e
    have cl2 : clsIn ((x, excO C t0) :: K) C = clsIn K C := by
      unfold clsIn
      rw [List.lookup_cons, show (C == x) = false from by simpa using Ne.symm hxC]
    have inst : instIn ((x, excO C t0) :: K) (.ref x) (.type "ValueError") = some true := by
      have e1 : typeIn ((x, excO C t0) :: K) (.ref x) = some (.ref C) := by
        show Option.map _ (List.lookup x _) = _
        rw [List.lookup_cons_self]
        rfl
      show (typeIn ((x, excO C t0) :: K) (.ref x)).bind _ = _
      rw [e1]
      show mroIn ((x, excO C t0) :: K) C (.type "ValueError") = _
      have e2 := T.veC
      unfold mroIn
      rw [cl2]
      exact e2
    refine kxs_getMethod kxs_ValueError hso (looks_opaque X₂ T.op) (l₀ := .ref C :: bm) ?_ (PySem.ESX.drop_own C bm) X₂ hal (looks_instIn XX inst) hxC rfl ?_
    · intro A' Q' E' s' k' q'
      exact PySem.wpAny_bind (looks_clsIn X₂ hcl A' _ E' s' k' (PySem.wpAny_pure q'))
    have L1 : hp.objs.size < h₁.objs.size := hn.lt
    have L2' : h₁.objs.size ≤ h₂.objs.size := Nat.le_of_lt (Heap.lt_size hso)
    have xlt : x < hp.objs.size := Heap.lt_size hxp
    have hu : (h₂.push (kxs_mw "ValueError.__init__" x)).get? h₂.objs.size = some (kxs_mw "ValueError.__init__" x) := by heap_get
    have Gu : G.get? h₂.objs.size = none := by
      cases e : G.get? h₂.objs.size with
      | none => rfl
      | some o =>
        have z : h₂.objs.size < hp.objs.size := Heap.lt_size (G2 _ _ e)
        omega
    have k3 : ∀ b o, hp.get? b = some o → (h₂.push (kxs_mw "ValueError.__init__" x)).get? b = some o := fun b o e => Heap.get?_push_of_some _ (kk b o e)
    have N3 : News G hp.objs.size (h₂.push (kxs_mw "ValueError.__init__" x)) [(x, excObj C t0 none .none), (h₂.objs.size, kxs_mw "ValueError.__init__" x)] := by
      intro p hp'
      simp only [List.mem_cons, List.not_mem_nil, or_false] at hp'
      rcases hp' with rfl | rfl
      · exact ⟨k3 _ _ hxp, Nat.ne_of_lt xlt, G3⟩
      · exact ⟨hu, Nat.ne_of_gt (by omega), Gu⟩
    have hn3 : (h₂.push (kxs_mw "ValueError.__init__" x)).Ns hp.objs.size (fun x_1 => List.lookup x_1 (([("self", .ref x), (_, v)] : List (Str × Value)).reverse)) :=
      (fun ⟨o, es, n, e, r⟩ => ⟨o, es, n, Heap.get?_push_of_some _ (k₂ _ _ e), r⟩) hn
    have F3 : Fr G hp.objs.size (h₂.push (kxs_mw "ValueError.__init__" x)) (fun x_1 => List.lookup x_1 (([("self", .ref x), (_, v)] : List (Str × Value)).reverse)) :=
      ⟨hn3, fun b o e => k3 _ _ (G2 _ _ e), Nat.le_of_eq Gs⟩
    refine kxs_callWith1 (i := "ValueError.__init__") (x := x) N3 (List.mem_cons_of_mem _ List.mem_cons_self) (spliced_more (tells2 rfl T.hl hv _ _ _ _ _ _ _ _ _ hn3 rfl rfl rfl fun y t' tk' => spliced_none ?_))
    refine ⟨hu, ?_⟩
    refine kxs_call F3 XG N3 F.excBase_ValueError T.init (List.mem_cons_of_mem _ List.mem_cons_self) (UpdF.head (fun p hp' => ?_)) (by rw [sizeLine_eq]; exact (by decide : 1 ≤ 16777216)) (fun t1 h₄ F4 N4 gt => ?_)
    · simp only [List.mem_cons, List.not_mem_nil, or_false] at hp'
      subst hp'
      exact Nat.ne_of_gt (Nat.lt_of_lt_of_le (Nat.lt_trans xlt L1) L2')
    have hx4 : h₄.get? x = some (excObj C t1 none .none) := (N4 _ (List.mem_cons_of_mem _ List.mem_cons_self)).1
    have k4 : ∀ b o, b ≠ x → hp.get? b = some o → h₄.get? b = some o := fun b o hb e => F4.keep _ _ (G1 b o hb e)
    have X4 : K.In h₄ := kept_but X hnx k4
    have L4 : hp.objs.size < h₄.objs.size := F4.ns.lt
    show PySem.wpAt _ _ _ (execs _ _) _ _ _
    refine wpAt_of_wpAny (wpAny_execs_cons (plainObj_wpAny_Assign_Attribute ?_))
    refine wpAny_Name (wpAny_loadName_local rfl rfl F4.ns rfl (wpAny_Name (wpAny_loadName_local rfl rfl F4.ns rfl ?_) rfl)) rfl
    refine set_plain X4 (ox := excObj C t1 none .none) (od := none) ⟨hx4, rfl, rfl, trivial⟩ T.sa ?_
    refine exc_osa X4 hx4 hcl (show refsVE (.ref C :: bm) = true from hbm) rfl T.noN (fun h₅ tk₅ dx k₅ dn dne hx₅ hn₅ => ?_)
    show wpAny _ _ (execs _ _) _ _ _
    exact wpAny_execs_nil (hq h₅ tk₅ dx ⟨fun b o hb e => k₅ b o hb (k4 b o hb e), ⟨t1, hx₅⟩, Nat.le_of_lt (Nat.lt_of_lt_of_le L4 dn), dne, hn₅⟩)
end
end EXS
namespace EXS
open PySem PySem.W PySem.Calls PyProof.Rows PySem.HandSPX
theorem one_size (v : Value) : [v].length ≤ sizeLine := by
  rw [sizeLine_eq]
  exact (by decide : 1 ≤ 16777216)
theorem mod_keeps {K : Frag} {mg : Str → Option Value} {h h' : Heap} (M : L2.Mod K mg h) (k : ∀ b o, h.get? b = some o → h'.get? b = some o) : L2.Mod K mg h' := by
  have keepNs : ∀ {b : Addr} {m : Str → Option Value}, h.Ns b m → h'.Ns b m := fun ⟨o, es, n, e, r⟩ => ⟨o, es, n, k _ _ e, r⟩
  obtain ⟨mb, hmb, hbb⟩ := M.blt
  exact ⟨M.kin.keeps k, keepNs M.glob, ⟨mb, keepNs hmb, hbb⟩, M.nolimit.keeps k⟩
/-- a made error -/
structure OwnMade (h h' : Heap) (e C d : Addr) (fld : Str) (v : Value) : Prop where
  keep : ∀ b o, h.get? b = some o → h'.get? b = some o
  new : h.objs.size ≤ e
  obj : ∃ oe vs, h'.get? e = some oe ∧ oe.cls = .ref C ∧ oe.dict = some d ∧ oe.data = .fields vs ∧ vs[1]? = some .none
  dbig : h.objs.size ≤ d
  dne : d ≠ e
  ns : h'.Ns1 d (fun y => if y = fld then some v else none)
section
variable {prog : Program} {w : World} {A : Around} {E : Value → Shared → Prop} {R : Result → Shared → Prop} {s : Shared} {K : Frag} {mg : Str → Option Value} {C fI : Addr} {nm fld tx : Str}
theorem err_made (T : ErrTxt prog K mg nm fld tx C fI) {v : Value} (hv : v = .none ∨ ∃ i t, v = .int i t ∧ i.natAbs.log2 < 1920) (M : L2.Mod K mg s.heap) (hroom : A.depth + 1 < recursionLimit)
    (hq : ∀ h' tk e d, OwnMade s.heap h' e C d fld v → R (.ok (.ret (.ref e))) { s with heap := h', toks := tk }) :
    codeAny (model prog w) A (.call (.ref C) ⟨[v], []⟩) R s := by
  obtain ⟨q, N, bs, bm, sn, sub, ab, col, dd, k0, k1, k2, k3, k5, hC, hbm, hal⟩ := T.cls
  obtain ⟨hp, g, dr, tk, os⟩ := s
  have X : K.In hp := M.kin
  have k : ∀ b o, hp.get? b = some o → ((hp.push (kdv_tup [v])).push (excO C hp.objs.size)).get? b = some o := fun b o e => Heap.get?_push_of_some _ (Heap.get?_push_of_some _ e)
  have hget : ((hp.push (kdv_tup [v])).push (excO C hp.objs.size)).get? (hp.objs.size + 1) = some (excO C hp.objs.size) := by heap_get
  have hnx : K.lookup (hp.objs.size + 1) = none := by
    cases e : K.lookup (hp.objs.size + 1) with
    | none => rfl
    | some o =>
      have z : hp.get? (hp.objs.size + 1) = some o := X _ _ e
      exact absurd (Nat.lt_of_succ_lt (Heap.lt_size z)) (Nat.lt_irrefl _)
  refine call_own F.excBase_ValueError (fun X => refsVE_contains X bm hbm) (X _ _ hC) (looks_findIn X T.iC) (fun self => bind_fn X self T.tC) (one_size v) ?_
  refine init_raw (s := ⟨(hp.push (kdv_tup [v])).push (excO C hp.objs.size), g, dr, tk, os⟩) T hv (mod_keeps M k) hget hnx ?_ fun h' tk' dx ⟨k', ⟨t1, hx⟩, dn, dne, hns⟩ => ?_
  · show A.depth + 1 < recursionLimit
    exact hroom
  · have old : ∀ b o, hp.get? b = some o → h'.get? b = some o := fun b o e => k' b o (Nat.ne_of_lt (Nat.lt_succ_of_lt (Heap.lt_size e))) (k b o e)
    have z : hp.objs.size + 1 + 1 ≤ dx := by
      first
        | (simpa only [Heap.size_push] using dn)
        | exact dn
        | (have q := dn; rw [Heap.size_push, Heap.size_push] at q; exact q)
    exact ⟨rfl, hq h' tk' (hp.objs.size + 1) dx ⟨old, Nat.le_succ _, ⟨_, _, hx, rfl, rfl, rfl, rfl⟩, Nat.le_trans (Nat.le_trans (Nat.le_succ _) (Nat.le_succ _)) z, dne, hns⟩⟩
end
end EXS
namespace SB
open PySem PySem.Spec PyProof.Rows L2
theorem relO_fld {v : V} {v' : Value} (r : RelV v v') (fld f : Str) : RelO (List.lookup f [(fld, v)]) (if f = fld then some v' else none) := by
  by_cases hw : f = fld
  · subst hw
    rw [if_pos rfl, List.lookup_cons_self]
    exact r
  · rw [if_neg hw, List.lookup_cons, show (f == fld) = false from by simpa using hw]
    trivial
/-- the field of an own error: None or an index -/
def Fld (v : V) : Prop := v = .non ∨ ∃ i : Int, v = .int i ∧ i.natAbs.log2 < 1920
section
variable {X : Cx} {C fI : Addr} {nm fld tx : Str}
/-- NAME(e) -/
def tMkE (fld : Str) (C : Addr) (ta : TA) : L2.St → Hp → XK → Prop := fun σ H Q => ta σ H fun vs H1 => ∃ v, vs = [v] ∧ Fld v ∧ ∀ d, H1 d = none → Q (.ref C) (some d) (upd H1 d (.xd [(fld, v)]))
theorem pmk_err {a : Expr} {ta : TA} {p pos : Pos} {k : Nat} (T : EXS.ErrTxt X.prog X.K X.mg nm fld tx C fI) (hr : Room k X.A) (ha : PA X [a] ta) (hk : 1 ≤ k := by decide) (hg : Gl X nm := by rfl) (hdb : (nm == ("__debug__" : Str)) = false := by decide)
    (he : starEach (a :: []) X.env = (false, eval a X.env) :: starEach [] X.env := by rfl) (hpl : (backTo pos (starEach [] X.env)).any (·.1) = false := by rfl) :
    PMk X (.Call (.Name nm p) [a] [] pos) (tMkE fld C ta) := by
  intro pins s σ H Q I h
  refine wpAny_Call_Name_kw (ld_glob I hg T.gC ?_ hdb)
  refine PySem.W.callWith_K (h₀ := X.base) I.ok.mod.kin T.kC (thn (ha.run pos pins s σ H _ I h) fun us s1 hh => ?_) he hpl
  obtain ⟨vs, H1, I1, r1, v, ev, fv, q1⟩ := hh
  subst ev
  refine ⟨I1.kIn, ?_⟩
  cases r1 with
  | cons rv rn =>
    rename_i v' us'
    cases rn
    show wpAny _ _ (call (.ref C) [v']) _ _ _
    have M1 : L2.Mod X.K X.mg s1.heap := EXS.mod_keeps I1.env0.mod fun b o e => (I1.env0.bs b o e).1
    have hv : v' = .none ∨ ∃ i t, v' = .int i t ∧ i.natAbs.log2 < 1920 := by
      rcases fv with rfl | ⟨i, rfl, hi⟩
      · exact .inl rv
      · obtain ⟨t, rt⟩ := rv
        exact .inr ⟨i, t, rt, hi⟩
    obtain ⟨hp, g, dr, tk, os⟩ := s1
    refine wpAny_call (EXS.err_made T hv M1 (by have := hr.dp; omega) fun h' tk' e d M => ?_)
    show MkP X pins σ Q (.ref e) ⟨h', g, dr, tk', os⟩
    obtain ⟨oe, fv, hoe, hc, hd, hdat, h1⟩ := M.obj
    have hns := M.ns
    obtain ⟨G', g1, g2⟩ := restrict h' fun b => decide (b ≠ e)
    have gk : ∀ b, b ≠ e → G'.get? b = h'.get? b := fun b hb => g1 b (decide_eq_true hb)
    have ge : G'.get? e = none := g2 e (by simp)
    have old : ∀ b o, hp.get? b = some o → G'.get? b = some o := fun b o q => (gk b (Nat.ne_of_lt (Nat.lt_of_lt_of_le (Heap.lt_size q) M.new))).trans (M.keep b o q)
    have ob : ObjOk X.prog X.w (upd H1 d (.xd [(fld, v)])) G' d (.xd [(fld, v)]) :=
      ⟨_, hns.at (fun o q => (gk d M.dne).trans q), fun f => relO_fld rv fld f⟩
    have J : Inv X pins σ (upd H1 d (.xd [(fld, v)])) ⟨G', g, dr, tk', os⟩ := I1.laid (t' := tk') old M.dbig ob
    refine ⟨e, oe, fv, ⟨G', g, dr, tk', os⟩, _, .ref C, some d, rfl, J, fun b o q => ?_, ge, hoe, ⟨hc, hd⟩, hdat, h1, ?_, rfl, I1.bare, raises_own T.exC T.tyC, q1 d (I1.hok.fresh M.dbig)⟩
    · by_cases hb : b = e
      · have q' : G'.get? b = some o := q
        rw [hb, ge] at q'; cases q'
      · exact (gk b hb).symm.trans q
    · rw [upd_ne (Ne.symm M.dne)]
      exact I1.hok.fresh M.new
end
end SB
namespace EXS
open PySem PySem.W PySem.Calls PyProof.Rows PySem.HandSPX
/-! what a run at the head tells of own errors -/
def isBi (o : Option (Option Value)) (n : String) : Bool := match o with | some (some (.builtin m)) => m == n | _ => false
def isNo (o : Option (Option Value)) : Bool := match o with | some none => true | _ => false
def isTy (o : Option Value) (n : String) : Bool := match o with | some (.type m) => m == n | _ => false
def refD (o : Option (Option Value)) : Addr := match o with | some (some (.ref a)) => a | _ => 0
def isRef (o : Option (Option Value)) : Bool := match o with | some (some (.ref _)) => true | _ => false
theorem isBi_ok {o : Option (Option Value)} {n : String} (h : isBi o n = true) : o = some (some (.builtin n)) := by
  unfold isBi at h
  split at h
  · have e := beq_iff_eq.mp h
    subst e
    rfl
  · cases h
theorem isNo_ok {o : Option (Option Value)} (h : isNo o = true) : o = some none := by
  unfold isNo at h
  split at h
  · rfl
  · cases h
theorem isTy_ok {o : Option Value} {n : String} (h : isTy o n = true) : o = some (.type n) := by
  unfold isTy at h
  split at h
  · have e := beq_iff_eq.mp h
    subst e
    rfl
  · cases h
theorem isRef_ok {o : Option (Option Value)} (h : isRef o = true) : o = some (some (.ref (refD o))) := by
  unfold isRef at h
  split at h
  · rfl
  · cases h
def clsB (K : Frag) (C : Addr) (nm : Str) : Bool :=
  match K.lookup C with
  | some ⟨.type "type", _, .cls cd, sl⟩ =>
    match cd.mro, sl.toList with
    | .ref C' :: bm, [_, _, _, _, some (.builtin n), _] => C' == C && n == "ValueError.__new__" && cd.hasDict && !cd.hasDel && refsVE bm && isBi (alongIn K "__init__" bm) "ValueError.__init__" && cd.name == nm
    | _, _ => false
  | _ => false
theorem clsB_ok {K : Frag} {C : Addr} {nm : Str} (h : clsB K C nm = true) :
    ∃ q N bs bm sn sub ab col dd k0 k1 k2 k3 k5, K.lookup C = some (excClassObj nm q C N bs bm true sn sub ab col dd k0 k1 k2 k3 k5 "ValueError.__new__") ∧ refsVE bm = true ∧ alongIn K "__init__" bm = some (some (.builtin "ValueError.__init__")) := by
  unfold clsB at h
  split at h
  case h_2 => cases h
  rename_i dd cd sl hl
  split at h
  case h_2 => cases h
  rename_i C' bm k0 k1 k2 k3 n k5 hm hs
  simp only [Bool.and_eq_true, Bool.not_eq_true', beq_iff_eq] at h
  obtain ⟨⟨⟨⟨⟨⟨rfl, rfl⟩, h1⟩, h2⟩, h3⟩, h4⟩, rfl⟩ := h
  obtain ⟨nm, bs, mro, ns, q, hd, sn, sub, ab, col, hdel⟩ := cd
  cases hm
  cases h1
  cases h2
  have e : sl = #[k0, k1, k2, k3, some (.builtin "ValueError.__new__"), k5] := by
    cases sl
    cases hs
    rfl
  subst e
  exact ⟨_, _, _, _, _, _, _, _, _, _, _, _, _, _, hl, h3, isBi_ok h4⟩
def fileB (file : Str) : Option Value → Bool
  | some (.str f _) => file == f
  | _ => false
def fnB (K : Frag) (file : Str) (C fI : Addr) : Bool :=
  match K.lookup fI with
  | some ⟨_, _, .func fd, _⟩ =>
    match fd.closure, fd.defaults, fd.kwdefaults, fd.code with
    | [(n, cc)], .none, .none, .ref co =>
      n == "__class__" && codeIn K (.ref co) fd.qualname &&
        (match K.lookup co with
         | some ⟨_, _, .fields vs, _⟩ => fileB file vs[2]?
         | _ => false) &&
        (match K.lookup cc with
         | some ⟨_, _, .cell (some (.ref D)), _⟩ => D == C
         | _ => false)
    | _, _, _, _ => false
  | _ => false
theorem fnB_ok {K : Frag} {file : Str} {C fI : Addr} (h : fnB K file C fI = true) :
    ∃ (oc : Value) (od : Option Addr) (fd : FuncData) (osl : Array (Option Value)) (cc co : Addr) (oc2 : Value) (od2 : Option Addr) (vs : Array Value) (osl2 : Array (Option Value)) (f : Str) (tf : Tok) (oc3 : Value) (od3 : Option Addr) (osl3 : Array (Option Value)),
      K.lookup fI = some ⟨oc, od, .func fd, osl⟩ ∧ fd.closure = [(("__class__" : Str), cc)] ∧ fd.defaults = .none ∧ fd.kwdefaults = .none ∧ fd.code = .ref co ∧ codeIn K (.ref co) fd.qualname = true ∧
        K.lookup co = some ⟨oc2, od2, .fields vs, osl2⟩ ∧ vs[2]? = some (.str f tf) ∧ (file == f) = true ∧ K.lookup cc = some ⟨oc3, od3, .cell (some (.ref C)), osl3⟩ := by
  unfold fnB at h
  split at h
  case h_2 => cases h
  rename_i oc od fd osl hl
  split at h
  case h_2 => cases h
  rename_i n cc co h1 h2 h3 h4
  simp only [Bool.and_eq_true, beq_iff_eq] at h
  obtain ⟨⟨⟨rfl, hc⟩, hb⟩, hd⟩ := h
  split at hb
  case h_2 => cases hb
  rename_i oc2 od2 vs osl2 hl2
  unfold fileB at hb
  split at hb
  case h_2 => cases hb
  rename_i f tf hv
  split at hd
  case h_2 => cases hd
  rename_i oc3 od3 D osl3 hl3
  obtain rfl : D = C := by simpa using hd
  exact ⟨oc, od, fd, osl, cc, co, oc2, od2, vs, osl2, f, tf, oc3, od3, osl3, hl, h1, h2, h3, h4, hc, hl2, hv, hb, hl3⟩
/-- an own error with a field -/
structure ErrD where
  nm : Str
  fld : Str
  tx : Str
  params : Arguments
  body : List Stmt
  scope : Scope
abbrev ErrW : Type := Option (Str × Arguments × FuncBody × Scope × Addr × Addr)
def eI (K : Frag) (nm : Str) : Addr := refD (findIn K (.ref (He.ga K nm)) "__init__")
def errW (K : Frag) (nm : Str) : ErrW :=
  match K.lookup (eI K nm) with
  | some ⟨_, _, .func fd, _⟩ => some (fd.name, fd.params, fd.body, fd.scope, fd.globals, fd.builtins)
  | _ => none
def ErrD.val (e : ErrD) : ErrW := some ("__init__", e.params, .stmts e.body, e.scope, mainGlobals, builtinsNs)
def errB (file : Str) (K : Frag) (nm fld : Str) : Bool :=
  clsB K (He.ga K nm) nm && fnB K file (He.ga K nm) (eI K nm) && isRef (nsIn K mainGlobals nm) && He.Fa.ok K (.free "super") && isNo (nsIn K cStatics "thirdparty.any") &&
    isBi (findIn K (.ref (He.ga K nm)) "__setattr__") "object.__setattr__" && isNo (findIn K (.ref (He.ga K nm)) fld) && isRef (findIn K (.ref (He.ga K nm)) "__init__") &&
    isTy (typeIn K (.ref (eI K nm))) "function" && keepIn K (.ref (He.ga K nm)) && (subIn K (.ref (He.ga K nm)) (.type "BaseException") == some true) && (subIn K (.ref (He.ga K nm)) (.type "ValueError") == some true) &&
    excInitIn K (He.ga K nm) [.type "ValueError", .type "Exception", .type "BaseException", .type "object"] "ValueError.__new__" && (mroIn K (He.ga K nm) (.ref (He.ga K nm)) == some true) &&
    isTy (typeIn K (.ref (He.ga K nm))) "type" && (exmOne K (.ref (He.ga K nm)) (.ref (He.ga K nm)) == some true)
/-- the text of such an error is of the form that is told above -/
def ErrD.Good (e : ErrD) : Prop := ∃ (p1 p2 a0 a1 a2 a3 a4 a5 b1 b2 b3 b4 q0 q1 q2 : Pos) (kk : Nat), e.params = eArgs e.fld p1 p2 ∧ e.body = eBody e.fld [.Constant (.str e.tx) kk q0, .FormattedValue (.Name e.fld q1) (-1) none q2] a0 a1 a2 a3 a4 a5 b1 b2 b3 b4 ∧ e.scope = eScope e.fld ∧ (a2.endLine == a4.line) = true ∧ (e.fld = "index" ∨ e.fld = "limit" ∨ e.fld = "word") ∧ e.tx.length ≤ 100
theorem ga_ok {K : Frag} {h : Heap} {mg : Str → Option Value} {nm : Str} (X : K.In h) (G : h.Ns mainGlobals mg) (c : isRef (nsIn K mainGlobals nm) = true) : mg nm = some (.ref (He.ga K nm)) := by
  have e := isRef_ok c
  have z : refD (nsIn K mainGlobals nm) = He.ga K nm := by
    unfold He.ga refD
    rw [e]
  rw [z] at e
  exact mg_of X G e
theorem err_ok {prog : Program} {K : Frag} {h : Heap} {mg : Str → Option Value} {e : ErrD} (X : K.In h) (G : h.Ns mainGlobals mg) (hs : (List.lookup ("super" : Str) prog.main.scope.names).isSome = false)
    (g : e.Good) (c : errB prog.main.file K e.nm e.fld = true) (v : errW K e.nm = e.val) : ErrTxt prog K mg e.nm e.fld e.tx (He.ga K e.nm) (eI K e.nm) := by
  unfold errB at c
  simp only [Bool.and_eq_true, beq_iff_eq] at c
  obtain ⟨⟨⟨⟨⟨⟨⟨⟨⟨⟨⟨⟨⟨⟨⟨c1, c2⟩, c3⟩, c4⟩, c5⟩, c6⟩, c7⟩, c8⟩, c9⟩, c10⟩, c11⟩, c12⟩, c13⟩, c14⟩, c15⟩, c16⟩ := c
  obtain ⟨p1, p2, a0, a1, a2, a3, a4, a5, b1, b2, b3, b4, q0, q1, q2, kk, g1, g2, g3, g4, g5, g6⟩ := g
  obtain ⟨oc, od, fd, osl, cc, co, oc2, od2, vs, osl2, f, tf, oc3, od3, osl3, f1, f2, f3, f4, f5, f6, f7, f8, f9, f10⟩ := fnB_ok c2
  refine { gC := ga_ok X G c3, sup := ?_, cls := clsB_ok c1, op := isNo_ok c5, sa := isBi_ok c6, noN := isNo_ok c7, iC := isRef_ok c8, tC := isTy_ok c9, kC := c10, exC := ?_, veC := ?_, init := c13, seC := ?_, tyC := isTy_ok c15, te := ?_, nosup := hs, nf := g5, hl := g6, fn := ?_ }
  · exact He.free_ok X G c4
  · exact c11
  · exact c12
  · exact c14
  · exact c16
  · unfold errW at v
    rw [f1] at v
    obtain ⟨name, qual, params, body, scope, globals, closure, defaults, kwdefaults, doc, pm, an, code, ct, blt⟩ := fd
    cases f2
    cases f3
    cases f4
    cases f5
    have v' := Option.some.inj v
    simp only [Prod.mk.injEq] at v'
    obtain ⟨rfl, rfl, rfl, rfl, rfl, rfl⟩ := v'
    rw [g1, g2, g3] at f1
    exact ⟨oc, od, qual, doc, pm, an, cc, co, ct, osl, oc2, od2, vs, osl2, _, p1, p2, a0, a1, a2, a3, a4, a5, b1, b2, b3, b4, q0, q1, q2, kk, f, tf, f1, f6, f7, f8, f9, f10, rfl, g4⟩
/-! an own error without __init__ of its own -/
structure PlnTxt (K : Frag) (mg : Str → Option Value) (nm : Str) (C : Addr) : Prop where
  gC : mg nm = some (.ref C)
  ex : excIn K C [.type "ValueError", .type "Exception", .type "BaseException", .type "object"] "ValueError.__new__" = true
  kC : keepIn K (.ref C) = true
  exC : subIn K (.ref C) (.type "BaseException") = some true
  tyC : typeIn K (.ref C) = some (.type "type")
  te : exmOne K (.ref C) (.ref C) = some true
def plnB (K : Frag) (nm : Str) : Bool :=
  isRef (nsIn K mainGlobals nm) && excIn K (He.ga K nm) [.type "ValueError", .type "Exception", .type "BaseException", .type "object"] "ValueError.__new__" && keepIn K (.ref (He.ga K nm)) &&
    (subIn K (.ref (He.ga K nm)) (.type "BaseException") == some true) && isTy (typeIn K (.ref (He.ga K nm))) "type" && (exmOne K (.ref (He.ga K nm)) (.ref (He.ga K nm)) == some true)
theorem pln_ok {K : Frag} {h : Heap} {mg : Str → Option Value} {nm : Str} (X : K.In h) (G : h.Ns mainGlobals mg) (c : plnB K nm = true) : PlnTxt K mg nm (He.ga K nm) := by
  unfold plnB at c
  simp only [Bool.and_eq_true, beq_iff_eq] at c
  obtain ⟨⟨⟨⟨⟨c1, c2⟩, c3⟩, c4⟩, c5⟩, c6⟩ := c
  exact ⟨ga_ok X G c1, c2, c3, c4, isTy_ok c5, c6⟩
/-! the hook -/
def asE (g : Addr → Option Obj) : Nat → List Addr
  | 0 => [mainGlobals, cStatics]
  | n + 1 => He.growD g (asE g n)
def asF (g : Addr → Option Obj) (n : Nat) : List Addr := asE g n ++ [sysModules]
abbrev AlE : Type := He.AlX × List ErrW
def obsE (n : Nat) (fa : List He.Fa) (fn : List He.DefD) (ers : List ErrD) (ex : Frag → Bool) (g : Addr → Option Obj) : AlE :=
  ((He.obsT fa fn [] (He.frT g (asF g n)), ex (He.frT g (asF g n))), ers.map fun e => errW (He.frT g (asF g n)) e.nm)
structure SaysE (fa : List He.Fa) (fn : List He.DefD) (ers : List ErrD) (ex : Frag → Bool) (w : World) (h : Heap) (K : Frag) : Prop where
  x : He.SaysX fa fn [] [] ex w h K
  e : (ers.map fun e => errW K e.nm) = ers.map ErrD.val
def hookE (n : Nat) (fa : List He.Fa) (fn : List He.DefD) (ers : List ErrD) (ex : Frag → Bool) : Hook where
  α := AlE
  obs := fun s => obsE n fa fn ers ex s.heap.get?
  val := fun w => ((He.valT fn [] w, true), ers.map ErrD.val)
  says := fun w h => ∃ K, K.In h ∧ SaysE fa fn ers ex w h K
  of := by
    intro w s e
    have e1 := congrArg (fun z => z.1.1) e
    have e2 := congrArg (fun z => z.1.2) e
    have e3 := congrArg (fun z => z.2) e
    exact ⟨_, He.frT_in, ⟨⟨e1, e2, (fun _ z => nomatch z), (fun _ z => nomatch z), (fun _ z => nomatch z)⟩, e3⟩⟩
  keeps := by
    rintro w h h' ⟨K, X, c⟩ k
    exact ⟨K, X.keeps k, ⟨⟨c.x.t, c.x.more, (fun _ z => nomatch z), (fun _ z => nomatch z), (fun _ z => nomatch z)⟩, c.e⟩⟩
theorem obsE_eq {n : Nat} {fa : List He.Fa} {fn : List He.DefD} {ers : List ErrD} {ex : Frag → Bool} {g : Addr → Option Obj} {s : Shared} (h : ∀ a, g a = s.heap.get? a) : obsE n fa fn ers ex g = (hookE n fa fn ers ex).obs s := by
  have e := funext h
  rw [e]
  rfl
end EXS
namespace SB
open PySem PySem.Spec PyProof.Rows L2 Evl
def inB : Stmt → Nat → Stmt
  | .ClassDef (body := b) .., j => b.getD j (.Pass ⟨0, 0, 0, 0⟩)
  | s, _ => s
section
variable {X : Cx} {CX : CXT} {k j : Nat} {ps ks : List Str} {sp : Sp} {E : L2.St → XK} {x : Str} {p pos : Pos} {e : Expr} {es : List Expr} {t tk : TA}
theorem pe_calS (F : Cal X.prog X.w X.K X.mg X.base CX k x ps sp) (hr : Room k X.A) (hx : ∀ σ, PassesAt CX X σ (E σ)) (ha : PA X (e :: es) t) (hg : Gl X x := by rfl) (hdb : (x == ("__debug__" : Str)) = false := by decide)
    (he : starEach (e :: es) X.env = (false, eval e X.env) :: starEach es X.env := by rfl) (hpl : (backTo pos (starEach es X.env)).any (·.1) = false := by rfl) :
    PE X (.Call (.Name x p) (e :: es) [] pos) (tCallS sp E t) := by
  obtain ⟨f, fd, e1, e2, e3, e4⟩ := F.ex
  exact pe_callS e4 hr hg e1 e2 e3 hx ha hdb he hpl
end
section
variable {P : Program} {w : World} {K : PySem.W.Frag} {mg : Str → Option Value} {base : Heap}
/-- a def that raises: its surroundings with the way out -/
theorem Df.calX {CX : CXT} {k : Nat} {x : Str} {st : Stmt} {N ps : List Str} {sp : Sp} (D : Df K mg x st) (S : FnScope N ps (defScope st)) (len : ∀ vs H Q E, sp vs H Q E → vs.length = ps.length)
    (hb : ∀ (kV doc pm : Value) (an : Option Addr) (cdv ct : Value) (us : List Value), us.length = ps.length → bindArgs (PySem.W.fnOf x x (defArgs st) (defBody st) (defScope st) .none kV doc pm an cdv ct) ⟨us, []⟩ = pure (ps.zip us))
    (body : ∀ (f : Addr) (cdv : Value) (A : Around) (outer : List Env) (s : Shared) (H : Hp) (vs : List V) (Q : VK) (E : XK), Room k (A.deeper (envOfC x (defScope st) s.heap.objs.size f cdv)) → sp vs H Q E →
      ∃ t, PSs (cxOf CX P w K mg base N x (defScope st) f cdv A outer s H E) (defBody st) t ∧ t { nx := fun _ H' => Q .non H', rt := Q } (start N vs) H) :
    Cal P w K mg base CX (k + 1) x ps sp := by
  obtain ⟨e, fd, F⟩ := D
  exact ⟨_, fd, e, F.kp, FunD.bindsN F hb, FunD.ok F S len (fun cdv A outer s H vs Q E hr h => body _ cdv A outer s H vs Q E hr h)⟩
/-- what never raises of it -/
theorem Cal.calm {k : Nat} {x : Str} {ps : List Str} {sp : Sp} (F : Cal P w K mg base (L2.CX P w) k x ps sp) : Cal P w K mg base CX0 k x ps (fun vs H Q _ => sp vs H Q fun _ _ _ => False) := by
  obtain ⟨f, fd, e1, e2, e3, e4⟩ := F.ex
  refine ⟨f, fd, e1, e2, e3, fun vs H Q E h => e4.len vs H Q _ h, fun A outer s H ar us vs Q E r e b v h => ?_⟩
  refine codeAny_mono (e4.run A outer s H ar us vs Q _ r e b v h) ?_
  intro r s' z
  match r, z with
  | .ok (.ret u), z => exact z
  | .error e, ⟨a, B, H', cls, d, _, _, _, _, _, _, _, z⟩ => exact z.elim
theorem Cal.spm {CX : CXT} {k : Nat} {x : Str} {ps : List Str} {sp sp2 : Sp} (F : Cal P w K mg base CX k x ps sp) (h : ∀ vs H Q E, sp2 vs H Q E → sp vs H Q E) : Cal P w K mg base CX k x ps sp2 := by
  obtain ⟨f, fd, e1, e2, e3, e4⟩ := F.ex
  exact ⟨f, fd, e1, e2, e3, fun vs H Q E z => e4.len vs H Q E (h _ _ _ _ z), fun A outer s H ar us vs Q E r e b v z => e4.run A outer s H ar us vs Q E r e b v (h _ _ _ _ z)⟩
end
section
variable {X : Cx} {CX : CXT} {k : Nat} {ps : List Str} {sp : Sp} {E : XK} {x : Str} {p pos : Pos}
theorem pe_calG0 (F : CalG X.prog X.w X.K X.mg X.base CX k x ps sp) (hr : Room k X.A) (gd : X.A.guards = some []) (hx : Passes CX X E) (hg : Gl X x := by rfl) (hdb : (x == ("__debug__" : Str)) = false := by decide) :
    PE X (.Call (.Name x p) [] [] pos) (tCall sp [] E tNil) := by
  obtain ⟨f, fd, e1, e2, e3, e4⟩ := F.ex
  constructor
  intro pins s σ H Q I h
  refine wpAny_Call_Name_kw (ld_glob I hg e1 ?_ hdb)
  exact PySem.W.callWith_K0 I.kIn e2 (runG (us := []) (vs := []) e4 hr gd e3 .nil hx I .nil h)
end
/-! any values -/
def okB (lo hi : Int) : V → Bool
  | .int i => decide (lo ≤ i ∧ i ≤ hi)
  | _ => false
def okP : V → Bool
  | .str s => inV (.str s) [.str "none", .str "even", .str "odd"]
  | _ => false
/-- the first wrong item -/
def flt (x y z : V) : Option Int := if okB 1 9 x = true then (if okP y = true then (if okB 1 2 z = true then none else some 2) else some 1) else some 0
def Any (K : PySem.W.Frag) (H : Hp) (v : V) : Prop := ∃ n, TyN K H v n
theorem Any.ex {K : PySem.W.Frag} {H H' : Hp} {v : V} (e : Ex H H') (h : Any K H v) : Any K H' v := by
  obtain ⟨n, h⟩ := h
  cases h with
  | non => exact ⟨_, .non⟩
  | bl b => exact ⟨_, .bl b⟩
  | int i => exact ⟨_, .int i⟩
  | str x => exact ⟨_, .str x⟩
  | lst h => exact ⟨_, .lst (ex_l e h)⟩
  | tup h => exact ⟨_, .tup (ex_t e h)⟩
  | dct h => exact ⟨_, .dct (e _ _ h)⟩
end SB
namespace SB
open PySem PySem.Spec PyProof.Rows L2 Evl PySem.HandSPX
/-! several clauses «except C as n», all of them of own classes, and nothing else is raised -/
inductive HdsA (X : Cx) : List ExceptHandler → List (Value × Nat × (Addr → Value → Option Addr → TS)) → Prop where
  | nil : HdsA X [] []
  | cons {x n : Str} {c : Value} {i : Nat} {ts : Addr → Value → Option Addr → TS} {b₀ : Stmt} {suite : List Stmt} {np pos' : Pos} {hds : List ExceptHandler} {l : List (Value × Nat × (Addr → Value → Option Addr → TS))}
      (hg : Gl X x) (hd : (x == ("__debug__" : Str)) = false) (hm : X.mg x = some c) (hi : X.N[i]? = some n) (hk : X.env.kindOf n = some .local) (hfn : X.fn n = true ∨ List.lookup n X.env.scope.names = some .local)
      (hs : ∀ (a : Addr) (oe : Obj) (cls : Value) (d : Option Addr) (pn : List (Addr × Obj)), Zc cls d oe → (∃ vs, oe.data = .fields vs) → PSs (X.suite a ((a, oe) :: pn)) (b₀ :: suite) (ts a cls d))
      (r : HdsA X hds l) : HdsA X (.ExceptHandler (some (.Name x np)) (some n) (b₀ :: suite) pos' :: hds) ((c, i, ts) :: l)
def wManyA (K : PySem.W.Frag) (D : L2.Ends) : List (Value × Nat × (Addr → Value → Option Addr → TS)) → WX
  | [] => fun _ _ _ _ => False
  | (c, i, ts) :: r => fun cls d σ H => ∃ b, PySem.W.exmOne K cls c = some b ∧
      (b = true → ∀ a, H a = none → ts a cls d { nx := fun σ' H' => D.nx (σ'.set i none) H', rt := D.rt, bk := fun σ' H' => D.bk (σ'.set i none) H', ct := fun σ' H' => D.ct (σ'.set i none) H' } (σ.set i (some (.ref a))) H) ∧
      (b = false → wManyA K D r cls d σ H)
theorem frames_ne {h B : Heap} {a : Addr} {oe : Obj} {vs : Array Value} (ha : h.get? a = some oe) (hd : oe.data = .fields vs) : ∀ l : List Env, h.FunFrames B l → a ∉ frs l
  | [], _ => fun z => by simp [frs] at z
  | env :: rest, f => by
    obtain ⟨_, ⟨L, o, hf, _, hL, ho⟩, f2⟩ := f
    have ih := frames_ne ha hd rest f2
    intro z
    unfold frs at z ih
    rw [List.filterMap_cons, hf] at z
    rcases List.mem_cons.mp z with z | z
    · subst z
      rw [ha] at hL
      cases hL
      exact ho vs hd
    · exact ih z
theorem slots_trans {h h' h'' : Heap} (x : h.UpToSlots h') (y : h'.UpToSlots h'') : h.UpToSlots h'' := fun b o e n => by
  obtain ⟨sl, e1⟩ := x b o e n
  obtain ⟨sl2, e2⟩ := y b _ e1 n
  exact ⟨sl2, e2⟩
section
variable {X : Cx}
theorem look_cls {M : Model} {h : Heap} {a : Addr} {oe : Obj} (e : h.get? a = some oe) : PySem.W.Looks M h (typeOf (.ref a)) oe.cls := by
  have X1 : PySem.W.Frag.In [(a, oe)] h := fun b o z => by
    by_cases hb : b = a
    · subst hb
      rw [List.lookup_cons_self] at z
      cases z
      exact e
    · rw [List.lookup_cons, show (b == a) = false from by simpa using hb] at z
      cases z
  refine PySem.W.looks_typeIn X1 ?_
  show Option.map _ (List.lookup a [(a, oe)]) = _
  rw [List.lookup_cons_self]
  rfl
theorem handleA {pins : List (Addr × Obj)} {D : L2.Ends} {hds : List ExceptHandler} {l : List (Value × Nat × (Addr → Value → Option Addr → TS))} (hs : X.stack = X.env :: X.outer) (hf : X.env.frame = some X.env.locals) (hN : X.N.Nodup) (ok : X.Ok)
    {a : Addr} {B : Heap} {sI : Shared} {σ : L2.St} {H : Hp} {cls : Value} {d : Option Addr} (J : Inv X pins σ H sI) (gr : ∀ b o, sI.heap.get? b = some o → b ∉ frs X.stack → B.get? b = some o) (ha : H a = none) :
    HdsA X hds l → ∀ s₁ : Shared, FlyingZ B X.stack a (Zc cls d) s₁.heap → sI.heap.UpToSlots s₁.heap → s₁.os = sI.os → AllBare s₁.gens → wManyA X.K D l cls d σ H →
      wpAny (model X.prog X.w) X.A (handleBy (.ref a) X.env hds) (SP X pins D) X.xe s₁ := by
  intro hh
  induction hh with
  | nil => exact fun _ _ _ _ _ w => w.elim
  | @cons x n c i ts b₀ suite np pos' hds l hg hd hm hi hk hfn hsu r ih =>
    intro s₁ fl up os bare w
    obtain ⟨b, hb, wt, wf⟩ := w
    have J1 : Inv X pins σ H s₁ := J.landed gr fl.1 up os bare
    have ne1 : ∀ {s₂ : Shared} {oe : Obj} {vs : Array Value}, FlyingZ B X.stack a (Zc cls d) s₂.heap → s₂.heap.get? a = some oe → oe.data = .fields vs → a ≠ X.env.locals ∧ a ∉ X.fs := by
      intro s₂ oe vs fl2 e1 e2
      have z := frames_ne e1 e2 _ fl2.2.2.1
      rw [hs] at z
      unfold frs at z
      rw [List.filterMap_cons, hf] at z
      exact ⟨fun q => z (by rw [q]; exact List.mem_cons_self), fun q => z (List.mem_cons_of_mem _ q)⟩
    obtain ⟨oe, vs, e1, e2, e3⟩ := fl.there
    obtain ⟨n1, n2⟩ := ne1 fl e1 e3
    have JS : Inv (X.suite a ((a, oe) :: (X.pn ++ pins))) [] σ H s₁ := J1.suite e1 e3 ha n1 n2
    refine PySem.W.exc_clause_as (ld_glob (X := X.suite a ((a, oe) :: (X.pn ++ pins))) JS hg hm ⟨b, ?_, ?_⟩ hd)
    · have lc := look_cls (M := model X.prog X.w) e1
      rw [e2.1] at lc
      exact PySem.W.exm_one J1.kIn lc hb
    by_cases hbt : b = true
    · rw [if_pos hbt]
      refine lands_againZ fl fun h' fl' up' => ?_
      have up2 := slots_trans up up'
      have J2 : Inv X pins σ H ⟨h', s₁.gens, s₁.drawn, s₁.toks, s₁.os⟩ := J.landed gr fl'.1 up2 os bare
      obtain ⟨oe, vs, e1, e2, e3⟩ := fl'.there
      obtain ⟨n1, n2⟩ := ne1 (s₂ := ⟨h', s₁.gens, s₁.drawn, s₁.toks, s₁.os⟩) fl' e1 e3
      have JS : Inv (X.suite a ((a, oe) :: (X.pn ++ pins))) [] σ H ⟨h', s₁.gens, s₁.drawn, s₁.toks, s₁.os⟩ := J2.suite e1 e3 ha n1 n2
      refine store_ok (X := X.suite a ((a, oe) :: (X.pn ++ pins))) (v := .ref a) JS hN hi (Or.inl hk) rfl (fun s₃ J3 => ?_) hfn
      refine wpAny_mono ((hsu a oe cls d (X.pn ++ pins) e2 ⟨_, e3⟩).run [] s₃ _ _ _ J3 (wt hbt a ha)) ?_ (fun _ _ z => z.elim)
      intro f s₄ z
      cases f with
      | next =>
        obtain ⟨σ', H', J4, q⟩ := z
        exact gone_ok (J4.unsuite ok) hN hi hk fun s' J' => ⟨_, _, J', q⟩
      | brk =>
        obtain ⟨σ', H', J4, q⟩ := z
        exact gone_ok (J4.unsuite ok) hN hi hk fun s' J' => ⟨_, _, J', q⟩
      | cont =>
        obtain ⟨σ', H', J4, q⟩ := z
        exact gone_ok (J4.unsuite ok) hN hi hk fun s' J' => ⟨_, _, J', q⟩
      | ret u =>
        obtain ⟨v, σ', H', J4, rv, q⟩ := z
        exact gone_ok (J4.unsuite ok) hN hi hk fun s' J' => ⟨v, _, _, J', rv, q⟩
    · rw [if_neg hbt]
      exact ih s₁ fl up os bare (wf (by simpa using hbt))
theorem ps_try_manyA {body : List Stmt} {h₀ : ExceptHandler} {hds : List ExceptHandler} {l : List (Value × Nat × (Addr → Value → Option Addr → TS))} {pos : Pos} {tb : WX → TS}
    (hs : X.stack = X.env :: X.outer) (hf : X.env.frame = some X.env.locals) (hN : X.N.Nodup)
    (hb : ∀ (W : WX) (pn : List (Addr × Obj)) (xe : Value → Shared → Prop), Takes (X.tr pn xe) W → PSs (X.tr pn xe) body (tb W)) (hh : HdsA X (h₀ :: hds) l) :
    PS X (.Try body (h₀ :: hds) [] [] pos) (fun D σ H => tb (wManyA X.K D l) D σ H) := by
  constructor
  intro pins s σ H D I h
  refine wpAny_Try_except ?_
  have frm : X.A.frames = some (X.env :: X.outer) := by rw [← hs]; exact I.ok.frames
  refine wpAny_mono ((hb (wManyA X.K D l) (X.pn ++ pins) (fun e s₁ => wpAny (model X.prog X.w) X.A (noteFrame e X.env) (fun _ s₂ => wpAny (model X.prog X.w) X.A (setFlight e none) (fun _ s₃ => wpAny (model X.prog X.w) X.A (handleBy e X.env (h₀ :: hds)) (SP X pins D) X.xe s₃) X.xe s₂) X.xe s₁) ?_).run [] s σ H D (I.toTry _) h) ?_ (fun _ _ z => z)
  · rintro u s' ⟨a, B, sI, pins', σ', H', cls, d, rfl, J, gr, up, sky, ha, os, bare, w⟩
    have J2 : Inv X pins σ' H' sI := J.ofTry I.ok
    refine Sky.land Zc.steady frm hf (by rw [← hs]; exact sky) fun h' fl up' => ?_
    rw [← hs] at fl
    exact handleA hs hf hN I.ok J2 gr ha hh _ fl (slots_trans up up') os bare w
  · intro f s₁ z
    cases f with
    | next =>
      obtain ⟨σ', H', J, q⟩ := z
      exact wpAny_execs_nil ⟨σ', H', J.ofTry I.ok, q⟩
    | brk =>
      obtain ⟨σ', H', J, q⟩ := z
      exact ⟨σ', H', J.ofTry I.ok, q⟩
    | cont =>
      obtain ⟨σ', H', J, q⟩ := z
      exact ⟨σ', H', J.ofTry I.ok, q⟩
    | ret u =>
      obtain ⟨v, σ', H', J, rv, q⟩ := z
      exact ⟨v, σ', H', J.ofTry I.ok, rv, q⟩
end
end SB
namespace SB
open PySem PySem.Spec PyProof.Rows L2 Evl
/-! repr of data that may hold dicts of at most one entry -/
def keyD : Key → PyData
  | .inl i => .int i
  | .inr x => .str x
inductive DpD (K : PySem.W.Frag) (H : Hp) : V → PyData → Prop where
  | old {v : V} {d : PyData} (h : Dp K H v d) (n : d.hasDict = false) : DpD K H v d
  | dct0 {a : Addr} (h : H a = some (.dK [])) : DpD K H (.ref a) (.dict [])
  | dct1 {a : Addr} {k : Key} {v : V} {d : PyData} (h : H a = some (.dK [(k, v)])) (hd : Dp K H v d) (n : d.hasDict = false) : DpD K H (.ref a) (.dict [(keyD k, d)])
  | lst {a : Addr} {xs : List V} {ds : List PyData} (h : SqL K H a xs) (hl : xs.length = ds.length) (hi : ∀ (i : Nat) (v : V) (d : PyData), xs[i]? = some v → ds[i]? = some d → DpD K H v d) : DpD K H (.ref a) (.list ds)
  | tup {a : Addr} {xs : List V} {ds : List PyData} (h : SqT K H a xs) (hl : xs.length = ds.length) (hi : ∀ (i : Nat) (v : V) (d : PyData), xs[i]? = some v → ds[i]? = some d → DpD K H v d) : DpD K H (.ref a) (.tuple ds)
mutual
theorem rdL {h : Heap} {v : Value} {d : PyData} {as : List Addr} (r : Reads h v d as) (n : d.hasDict = false) : ∀ a ∈ as, ∃ o, h.get? a = some o ∧ o.cls = Value.type "list" := by
  cases r with
  | none => intro a z; cases z
  | bool b => intro a z; cases z
  | int i t => intro a z; cases z
  | str x t => intro a z; cases z
  | list e c dd r =>
    intro a z
    rcases List.mem_cons.mp z with rfl | z
    · exact ⟨_, e, c⟩
    · exact rdA r (by simpa [PyData.hasDict] using n) a z
  | tuple e c dd r =>
    intro a z
    exact rdA r (by simpa [PyData.hasDict] using n) a z
  | dict e c dd r1 r2 => simp [PyData.hasDict] at n
theorem rdA {h : Heap} {vs : List Value} {ds : List PyData} {as : List Addr} (r : ReadsAll h vs ds as) (n : PyData.hasDictAll ds = false) : ∀ a ∈ as, ∃ o, h.get? a = some o ∧ o.cls = Value.type "list" := by
  cases r with
  | nil => intro a z; cases z
  | cons r1 r2 =>
    simp only [PyData.hasDictAll, Bool.or_eq_false_iff] at n
    intro a z
    rcases List.mem_append.mp z with z | z
    · exact rdL r1 n.1 a z
    · exact rdA r2 n.2 a z
end
theorem sys_not {h : Heap} {as : List Addr} (hs : ∃ o, h.get? sysModules = some o ∧ o.cls = Value.type "dict") (r : ∀ a ∈ as, ∃ o, h.get? a = some o ∧ o.cls = Value.type "list") : ¬ sysModules ∈ as := fun z => by
  obtain ⟨o, e, c⟩ := r _ z
  obtain ⟨o', e', c'⟩ := hs
  rw [e] at e'
  cases e'
  rw [c] at c'
  simp at c'
theorem key_rd {h : Heap} {k : Key} {u : Value} (e : keyIs k u = true) : Reads h u (keyD k) [] := by
  cases k with
  | inl i =>
    cases u <;> simp [keyIs, Value.isInt] at e
    subst e
    exact .int _ _
  | inr x =>
    cases u <;> simp [keyIs, Value.isStrOf] at e
    subst e
    exact .str _ _
section
variable {X : Cx} {pins : List (Addr × Obj)} {σ : L2.St} {H : Hp} {s : Shared}
theorem all_rd {h : Heap} : ∀ {us : List Value} {ds : List PyData}, us.length = ds.length → (∀ (i : Nat) (u : Value) (d : PyData), us[i]? = some u → ds[i]? = some d → ∃ as, Reads h u d as ∧ ¬ sysModules ∈ as) → ∃ as, ReadsAll h us ds as ∧ ¬ sysModules ∈ as
  | [], [], _, _ => ⟨[], .nil, fun z => by cases z⟩
  | u :: us, d :: ds, hl, hi => by
    obtain ⟨as, r, n⟩ := hi 0 u d rfl rfl
    obtain ⟨bs, r2, n2⟩ := all_rd (us := us) (ds := ds) (by simpa using hl) (fun i u d h1 h2 => hi (i + 1) u d h1 h2)
    exact ⟨as ++ bs, .cons r r2, fun z => (List.mem_append.mp z).elim n n2⟩
theorem vals_at : ∀ {vs : List V} {us : List Value} {i : Nat} {u : Value}, Vals vs us → us[i]? = some u → ∃ v, vs[i]? = some v ∧ RelV v u
  | _, _, 0, _, .cons r _, h => by
    cases h
    exact ⟨_, rfl, r⟩
  | _, _, i + 1, _, .cons _ r, h => vals_at (i := i) r h
theorem readsD (I : Inv X pins σ H s) (hs : ∃ o, s.heap.get? sysModules = some o ∧ o.cls = Value.type "dict") {v : V} {d : PyData} (h : DpD X.K H v d) : ∀ u, RelV v u → ∃ as, Reads s.heap u d as ∧ ¬ sysModules ∈ as := by
  induction h with
  | old h n =>
    intro u r
    obtain ⟨as, rd⟩ := Dp.reads I _ _ u h r
    exact ⟨as, rd, sys_not hs (rdL rd n)⟩
  | dct0 h =>
    intro u r
    cases (show u = Value.ref _ from r)
    obtain ⟨_, ne, vs, kv, o, es, ep, e1, e2, e3, e4, e5, e6⟩ := dk_of I.hok h
    cases kv
    have e : es.toList = [] := by
      cases hh : es.toList with
      | nil => rfl
      | cons x y => rw [hh] at e5; cases e5
    refine ⟨_, .dict (as := []) (bs := []) e1 e2.1 e3 (by rw [e]; exact .nil) (by rw [e]; exact .nil), ?_⟩
    simpa using fun z => by
      have z' : sysModules = _ := z
      rw [z'] at ne
      simp at ne
  | @dct1 a k v d h hd n =>
    intro u r
    cases (show u = Value.ref _ from r)
    obtain ⟨_, ne, vs, kv, o, es, ep, e1, e2, e3, e4, e5, e6⟩ := dk_of I.hok h
    obtain ⟨k', y, rfl, rfl, rv⟩ : ∃ k' y, vs = [(k', y)] ∧ k' = k ∧ RelV v y := by
      cases kv with
      | cons k1 k2 =>
        cases k2
        exact ⟨_, _, rfl, k1.1.symm, k1.2⟩
    obtain ⟨e, ee, ek, ev⟩ : ∃ e, es.toList = [e] ∧ keyIs k' e.key = true ∧ e.val = y := by
      cases hh : es.toList with
      | nil => rw [hh] at e5; cases e5
      | cons x l =>
        rw [hh] at e5
        cases e5 with
        | cons q1 q2 q3 =>
          cases q3
          exact ⟨x, rfl, q1, q2⟩
    obtain ⟨as, rd⟩ := Dp.reads I _ _ y hd rv
    refine ⟨_, .dict (as := [] ++ []) (bs := as ++ []) e1 e2.1 e3 ?_ ?_, ?_⟩
    · rw [ee]
      exact .cons (key_rd ek) .nil
    · rw [ee]
      show ReadsAll _ [e.val] _ _
      rw [ev]
      exact .cons rd .nil
    · have nn := sys_not hs (rdL rd n)
      intro z
      simp only [List.append_nil, List.nil_append, List.mem_append, List.mem_cons, List.not_mem_nil, or_false] at z
      rcases z with z | z
      · rw [z] at ne
        simp at ne
      · exact nn z
  | lst h hl hi ih =>
    intro u r
    cases (show u = Value.ref _ from r)
    obtain ⟨its, vl, pl, _⟩ := I.list h
    obtain ⟨as, rd, nn⟩ := all_rd (h := s.heap) (us := its) (by rw [← vl.length, hl]) fun i u d h1 h2 => by
      obtain ⟨v, hv, rv⟩ := vals_at vl h1
      exact ih i v d hv h2 u rv
    obtain ⟨o, nn2, e1, e2, _, e3⟩ := pl
    refine ⟨_, .list e1 e2 e3 rd, fun z => ?_⟩
    rcases List.mem_cons.mp z with z | z
    · obtain ⟨o', e', c'⟩ := hs
      rw [z, e1] at e'
      cases e'
      rw [e2] at c'
      simp at c'
    · exact nn z
  | tup h hl hi ih =>
    intro u r
    cases (show u = Value.ref _ from r)
    obtain ⟨its, vl, pl, _⟩ := I.tuple h
    obtain ⟨as, rd, nn⟩ := all_rd (h := s.heap) (us := its) (by rw [← vl.length, hl]) fun i u d h1 h2 => by
      obtain ⟨v, hv, rv⟩ := vals_at vl h1
      exact ih i v d hv h2 u rv
    obtain ⟨o, e1, e2, nn2, e3⟩ := pl
    exact ⟨_, .tuple e1 e2 e3 rd, nn⟩
end
/-- what repr asks of data -/
def Shw (d : PyData) : Prop := d.showable = true ∧ d.depth ≤ 60 ∧ d.shown.length ≤ sizeLine
def rRd (K : PySem.W.Frag) : List V → Hp → VK → Prop := fun xs H Q => ∃ v d, xs = [v] ∧ DpD K H v d ∧ Shw d ∧ Q (.str d.shown) H
def SysK (K : PySem.W.Frag) : Prop := ∃ o, K.lookup sysModules = some o ∧ o.cls = Value.type "dict"
def sysB (K : PySem.W.Frag) : Bool := match K.lookup sysModules with
  | some ⟨.type n, _, _, _⟩ => n == "dict"
  | _ => false
theorem sys_ok {K : PySem.W.Frag} (h : sysB K = true) : SysK K := by
  unfold sysB at h
  split at h
  · rename_i n a b c e
    have q := beq_iff_eq.mp h
    subst q
    exact ⟨_, e, rfl⟩
  · cases h
theorem call_rd {X : Cx} (sy : SysK X.K) (hg : X.A.guards = some []) (hu : X.A.units + 64 < cLine) : CallR X (.builtin "repr") (rRd X.K) := by
  intro pins s σ H xs us Q I r h
  obtain ⟨v, d, rfl, hd, ⟨h1, h3, h4⟩, q⟩ := h
  by_cases hn : d.hasDict = false ∧ Dp X.K H v d
  · exact call_rp hg hu pins s σ H [v] us Q I r ⟨v, d, rfl, hn.2, h1, hn.1, h3, h4, q⟩
  obtain ⟨u, rfl, ru⟩ := vals1 r
  have hs : ∃ o, s.heap.get? sysModules = some o ∧ o.cls = Value.type "dict" := by
    obtain ⟨o, e, c⟩ := sy
    exact ⟨o, I.kIn _ _ e, c⟩
  obtain ⟨as, rd, nn⟩ := readsD I hs hd u ru
  have fin : ∀ a, u = Value.ref a → wpAny (model X.prog X.w) X.A (call (.builtin "repr") [u]) (EP X pins σ Q) X.xe s := by
    intro a e
    subst e
    exact PySem.repr_of_reads' rd h1 (fun _ => nn) hg (by omega) (fun _ _ e => e) (fun h' u tk hk => ⟨.str _, H, I.kept hk, ⟨_, rfl⟩, q⟩) h4
  cases hd with
  | old h n => exact absurd ⟨n, h⟩ hn
  | dct0 h => exact fin _ ru
  | dct1 h hd n => exact fin _ ru
  | lst h hl hi => exact fin _ ru
  | tup h hl hi => exact fin _ ru
end SB
namespace SB
open PySem PySem.Spec PyProof.Rows L2 Evl
/-! isinstance of a caught own error, its fields -/
structure IsT (K : PySem.W.Frag) (C : Addr) : Prop where
  cl : (PySem.W.clsIn K C).isSome = true
  xf : XfC K C
  ca : PySem.W.findIn K (.ref C) "__class__" = some (some (.builtin "object.__class__"))
  sp : PySem.W.specialIn K (.builtin "object.__class__") "__get__" = some (some (.builtin "getset_descriptor.__get__"))
  tk : PySem.W.takesIn K (.builtin "object.__class__") = some true
  mo : PySem.W.mroIn K C (.type "object") = some true
def istB (K : PySem.W.Frag) (C : Addr) : Bool :=
  (PySem.W.clsIn K C).isSome && EXS.isBi (PySem.W.findIn K (.ref C) "__getattribute__") "BaseException.__getattribute__" && EXS.isNo (PySem.W.findIn K (.ref C) "__getattr__") && (PySem.W.subIn K (.ref C) (.type "BaseException") == some true) && PySem.W.hasDictIn K C &&
    EXS.isBi (PySem.W.findIn K (.ref C) "__class__") "object.__class__" && EXS.isBi (PySem.W.specialIn K (.builtin "object.__class__") "__get__") "getset_descriptor.__get__" && (PySem.W.takesIn K (.builtin "object.__class__") == some true) && (PySem.W.mroIn K C (.type "object") == some true)
theorem ist_ok {K : PySem.W.Frag} {C : Addr} (h : istB K C = true) : IsT K C := by
  unfold istB at h
  simp only [Bool.and_eq_true, beq_iff_eq] at h
  obtain ⟨⟨⟨⟨⟨⟨⟨⟨h1, h2⟩, h3⟩, h4⟩, h5⟩, h6⟩, h7⟩, h8⟩, h9⟩ := h
  exact ⟨h1, ⟨EXS.isBi_ok h2, EXS.isNo_ok h3, h4, h5⟩, EXS.isBi_ok h6, EXS.isBi_ok h7, h8, h9⟩
/-- the error's own dict, if it has one, is told of -/
def HasD (H : Hp) : Option Addr → Prop
  | none => True
  | some dx => ∃ fs, H dx = some (.xd fs)
def rIsX (K : PySem.W.Frag) (a : Addr) (cls : Value) (d : Option Addr) : List V → Hp → VK → Prop := fun xs H Q => ∃ (D L : Addr) (b : Bool), xs = [.ref a, .ref L] ∧ cls = .ref D ∧ IsT K D ∧ HasD H d ∧ PySem.W.kitOne K (.ref D) (.ref L) = some b ∧ Q (.bl b) H
theorem call_isX {X : Cx} {a : Addr} {oe : Obj} {cls : Value} {d : Option Addr} {pn : List (Addr × Obj)} (hz : Zc cls d oe) (hf : ∃ vs, oe.data = .fields vs) : CallR (X.suite a ((a, oe) :: pn)) (.builtin "isinstance") (rIsX X.K a cls d) := by
  intro pins s σ H xs us Q I r h
  obtain ⟨D, L, b, rfl, rfl, T, hd, hk, q⟩ := h
  obtain ⟨u1, u2, rfl, r1, r2⟩ : ∃ u1 u2, us = [u1, u2] ∧ RelV (.ref a) u1 ∧ RelV (.ref L) u2 := by
    cases r with
    | cons r1 r2 =>
      cases r2 with
      | cons r2 r3 =>
        cases r3
        exact ⟨_, _, rfl, r1, r2⟩
  cases (show u1 = Value.ref _ from r1)
  cases (show u2 = Value.ref _ from r2)
  obtain ⟨ha, _⟩ := I.pin (a, oe) (List.mem_append_left _ List.mem_cons_self)
  obtain ⟨vs, hdat⟩ := hf
  have nc : PySem.W.notCls oe = true := by
    unfold PySem.W.notCls
    rw [hdat]
  obtain ⟨od, J⟩ : ∃ od, PySem.W.InstAt s.heap a oe D od := by
    cases d with
    | none => exact ⟨none, ha, hz.1, nc, by rw [hz.2]; trivial⟩
    | some dx =>
      obtain ⟨fs, hx⟩ := hd
      obtain ⟨mA, hns, _⟩ := (I.hok dx _ hx : ObjOk X.prog X.w H s.heap dx (.xd fs))
      obtain ⟨od, ho, _⟩ := lookIn_ns hns
      exact ⟨some od, ha, hz.1, nc, by rw [hz.2]; exact ho⟩
  exact PySem.W.kia_one (PySem.W.kitx_exc (od := od) T.cl T.xf.ga T.xf.gg T.xf.exC T.ca T.sp T.tk T.mo) I.kIn J hk (fun z => by cases z) fun tk => ⟨.bl b, H, I.tok _, rfl, q⟩
end SB
namespace SB
open PySem PySem.Spec PyProof.Rows L2 Evl
/-! rules within a comprehension: their readings speak of the def's own frame of data, not of the block's -/
section
variable {X : Cx} {K0 : PySem.W.Frag}
theorem ixL_K (h : X.K = K0) : IxR X (rIxL K0) := h ▸ ix_list
theorem ixT_K (h : X.K = K0) : IxR X (rIxT K0) := h ▸ ix_tup
theorem slL_K (h : X.K = K0) : L2.SlR X (rSlL K0) := h ▸ sl_list
theorem inS_K (h : X.K = K0) : OpR X (compareOp .In) (rIn K0 false) := h ▸ op_in_seq
theorem niS_K (h : X.K = K0) : OpR X (compareOp .NotIn) (rIn K0 true) := h ▸ op_notIn_seq
theorem eqD_K (h : X.K = K0) (hu : X.A.units + 64 < cLine) : OpR X (compareOp .Eq) (rEqD K0) := h ▸ op_eqD hu
theorem neD_K (h : X.K = K0) (hu : X.A.units + 64 < cLine) : OpR X (compareOp .NotEq) (rNeD K0) := h ▸ op_neD hu
theorem rd_K (h : X.K = K0) (sy : SysK K0) (hg : X.A.guards = some []) (hu : X.A.units + 64 < cLine) : CallR X (.builtin "repr") (rRd K0) := by
  subst h
  exact call_rd sy hg hu
theorem rp_K (h : X.K = K0) (hg : X.A.guards = some []) (hu : X.A.units + 64 < cLine) : CallR X (.builtin "repr") (rRp K0) := by
  subst h
  exact call_rp hg hu
end
end SB
namespace LW
open PySem PySem.Spec PyProof.Rows L2 Evl SB
def topS (i : Nat) : Stmt := PySem.Challenge.pw_startbits_k05_signals_judged_and_told.main.body.getD i (.Pass ⟨0, 0, 0, 0⟩)
abbrev s_is_int : Stmt := topS 6
abbrev s_is_list_up_to : Stmt := topS 7
abbrev s_check_tick : Stmt := topS 8
abbrev s_check_signal : Stmt := topS 9
abbrev s_is_signal : Stmt := topS 11
abbrev s_level_at : Stmt := topS 12
abbrev s_runs_between : Stmt := topS 13
abbrev s_law_source : Stmt := topS 15
abbrev s_law_draw : Stmt := topS 16
abbrev s_law_is_integer : Stmt := topS 17
abbrev s_law_signal : Stmt := topS 18
abbrev s_law_odd_signal : Stmt := topS 19
abbrev s_law_signal_fault : Stmt := topS 20
abbrev s_law_level : Stmt := topS 21
abbrev s_law_tick : Stmt := topS 22
abbrev s_law_runs : Stmt := topS 23
abbrev s_law_right : Stmt := topS 24
abbrev s_law : Stmt := topS 25
theorem sc_is_int : FnScope ["value"] ["value"] (defScope s_is_int) := ⟨rfl, rfl, rfl, by decide +kernel, rfl, by decide +kernel, by decide +kernel⟩
theorem sc_is_list_up_to : FnScope ["most", "value"] ["most", "value"] (defScope s_is_list_up_to) := ⟨rfl, rfl, rfl, by decide +kernel, rfl, by decide +kernel, by decide +kernel⟩
theorem sc_check_tick : FnScope ["tick"] ["tick"] (defScope s_check_tick) := ⟨rfl, rfl, rfl, by decide +kernel, rfl, by decide +kernel, by decide +kernel⟩
theorem sc_check_signal : FnScope ["signal", "index", "tick"] ["signal"] (defScope s_check_signal) := ⟨rfl, rfl, rfl, by decide +kernel, rfl, by decide +kernel, by decide +kernel⟩
theorem sc_is_signal : FnScope ["value"] ["value"] (defScope s_is_signal) := ⟨rfl, rfl, rfl, by decide +kernel, rfl, by decide +kernel, by decide +kernel⟩
theorem sc_level_at : FnScope ["signal", "tick", "changes", "change"] ["signal", "tick"] (defScope s_level_at) := ⟨rfl, rfl, rfl, by decide +kernel, rfl, by decide +kernel, by decide +kernel⟩
theorem sc_runs_between : FnScope ["signal", "begin", "end", "level", "edges", "runs", "behind", "edge", "change"] ["signal", "begin", "end"] (defScope s_runs_between) := ⟨rfl, rfl, rfl, by decide +kernel, rfl, by decide +kernel, by decide +kernel⟩
theorem sc_law_source : FnScope ["_law_script", "_law_at", "_law_cell", "_law_left"] ["_law_script", "_law_at"] (defScope s_law_source) := ⟨rfl, rfl, rfl, by decide +kernel, rfl, by decide +kernel, by decide +kernel⟩
theorem sc_law_draw : FnScope ["_law_source_here", "_law_many", "_law_drawn", "_law_mixed"] ["_law_source_here", "_law_many"] (defScope s_law_draw) := ⟨rfl, rfl, rfl, by decide +kernel, rfl, by decide +kernel, by decide +kernel⟩
theorem sc_law_is_integer : FnScope ["_law_thing"] ["_law_thing"] (defScope s_law_is_integer) := ⟨rfl, rfl, rfl, by decide +kernel, rfl, by decide +kernel, by decide +kernel⟩
theorem sc_law_signal : FnScope ["_law_source_here", "_law_many", "_law_wide", "_law_moment", "_law_found", "_law_turn"] ["_law_source_here", "_law_many"] (defScope s_law_signal) := ⟨rfl, rfl, rfl, by decide +kernel, rfl, by decide +kernel, by decide +kernel⟩
theorem sc_law_odd_signal : FnScope ["_law_source_here", "_law_thing", "_law_way", "_law_turn", "_law_index", "_law_other", "_law_some"] ["_law_source_here"] (defScope s_law_odd_signal) := ⟨rfl, rfl, rfl, by decide +kernel, rfl, by decide +kernel, by decide +kernel⟩
theorem sc_law_signal_fault : FnScope ["_law_thing", "_law_index", "_law_moment"] ["_law_thing"] (defScope s_law_signal_fault) := ⟨rfl, rfl, rfl, by decide +kernel, rfl, by decide +kernel, by decide +kernel⟩
theorem sc_law_level : FnScope ["_law_wire", "_law_moment", "_law_many", "_law_change"] ["_law_wire", "_law_moment"] (defScope s_law_level) := ⟨rfl, rfl, rfl, by decide +kernel, rfl, by decide +kernel, by decide +kernel⟩
theorem sc_law_tick : FnScope ["_law_source_here", "_law_wire"] ["_law_source_here", "_law_wire"] (defScope s_law_tick) := ⟨rfl, rfl, rfl, by decide +kernel, rfl, by decide +kernel, by decide +kernel⟩
theorem sc_law_runs : FnScope ["_law_wire", "_law_origin", "_law_until", "_law_found", "_law_level_here", "_law_since", "_law_change"] ["_law_wire", "_law_origin", "_law_until"] (defScope s_law_runs) := ⟨rfl, rfl, rfl, by decide +kernel, rfl, by decide +kernel, by decide +kernel⟩
theorem sc_law_right : FnScope ["_law_source_here", "_law_wire", "_law_passed", "_law_turn", "_law_moment", "_law_other", "_law_origin", "_law_until", "_law_due", "_law_found"] ["_law_source_here", "_law_wire"] (defScope s_law_right) := ⟨rfl, rfl, rfl, by decide +kernel, rfl, by decide +kernel, by decide +kernel⟩
theorem sc_law : FnScope ["_law_script", "_law_at", "_law_source_here", "_law_turn", "_law_thing", "_law_kept", "_law_long", "_law_moment", "_law_item"] ["_law_script"] (defScope s_law) := ⟨rfl, rfl, rfl, by decide +kernel, rfl, by decide +kernel, by decide +kernel⟩
structure Tx (K : PySem.W.Frag) (mg : Str → Option Value) : Prop where
  b_abs : mg "abs" = none
  b_bool : mg "bool" = none
  b_enumerate : mg "enumerate" = none
  b_int : mg "int" = none
  b_isinstance : mg "isinstance" = none
  b_len : mg "len" = none
  b_list : mg "list" = none
  b_max : mg "max" = none
  b_min : mg "min" = none
  b_range : mg "range" = none
  b_repr : mg "repr" = none
  i_MOST_CHANGES : GInt mg "MOST_CHANGES" (800)
  d_is_int : Df K mg "is_int" s_is_int
  d_is_list_up_to : Df K mg "is_list_up_to" s_is_list_up_to
  d_check_tick : Df K mg "check_tick" s_check_tick
  d_check_signal : Df K mg "check_signal" s_check_signal
  d_is_signal : Df K mg "is_signal" s_is_signal
  d_level_at : Df K mg "level_at" s_level_at
  d_runs_between : Df K mg "runs_between" s_runs_between
  d_law_source : Df K mg "_law_source" s_law_source
  d_law_draw : Df K mg "_law_draw" s_law_draw
  d_law_is_integer : Df K mg "_law_is_integer" s_law_is_integer
  d_law_signal : Df K mg "_law_signal" s_law_signal
  d_law_odd_signal : Df K mg "_law_odd_signal" s_law_odd_signal
  d_law_signal_fault : Df K mg "_law_signal_fault" s_law_signal_fault
  d_law_level : Df K mg "_law_level" s_law_level
  d_law_tick : Df K mg "_law_tick" s_law_tick
  d_law_runs : Df K mg "_law_runs" s_law_runs
  d_law_right : Df K mg "_law_right" s_law_right
  d_law : Df K mg "law" s_law
structure TxE (P : Program) (K : PySem.W.Frag) (mg : Str → Option Value) : Prop where
  x_InvalidSignal : EXS.ErrTxt P K mg "InvalidSignal" "index" "wrong tick of a signal: " (He.ga K "InvalidSignal") (EXS.eI K "InvalidSignal")
  sy : SysK K
  p_InvalidTick : EXS.PlnTxt K mg "InvalidTick" (He.ga K "InvalidTick")
section
variable {P : Program} {w : World} {K : PySem.W.Frag} {mg : Str → Option Value} {base : Heap}
def sp_is_int (K : PySem.W.Frag) : Sp := fun vs H Q _ => ∃ v n, vs = [v] ∧ TyN K H v n ∧ Q (.bl (decide (n = "int"))) H
theorem cal_is_int (T : Tx K mg) : Cal P w K mg base CX0 1 "is_int" ["value"] (sp_is_int K) := by
  refine T.d_is_int.cal sc_is_int (fun vs H Q E h => ?_) (fun _ _ _ _ _ _ us hl => match us, hl with | [_], _ => rfl) (fun f cdv A outer s H vs Q E hr h => ⟨_, (pss_one (ps_ret (pe_and (pe_callB call_isi (by rfl) T.b_isinstance (by decide +kernel) (pa_cons (pv 0) (pa_cons (pe_bltn (v := .ty "int") (by rfl) T.b_int (by decide +kernel) rfl) pa_nil))) (pe_one (pe_not (pe_callB call_isi (by rfl) T.b_isinstance (by decide +kernel) (pa_cons (pv 0) (pa_cons (pe_bltn (v := .ty "bool") (by rfl) T.b_bool (by decide +kernel) rfl) pa_nil)))))))), ?_⟩)
  · obtain ⟨v, n, rfl, _⟩ := h
    rfl
  · obtain ⟨v, n, rfl, ty, q⟩ := h
    refine ⟨v, rfl, v, .ty "int", _, _, _, rfl, .ty _, ty.x, ty.kit (.inl rfl), _, rfl, ?_⟩
    cases ty with
    | int i => exact ⟨_, rfl, _, .ty "bool", _, _, _, rfl, .ty _, (TyN.int i : TyN K H _ _).x, (TyN.int i : TyN K H _ _).kit (.inr (.inl rfl)), _, rfl, q⟩
    | bl b => exact ⟨_, rfl, _, .ty "bool", _, _, _, rfl, .ty _, (TyN.bl b : TyN K H _ _).x, (TyN.bl b : TyN K H _ _).kit (.inr (.inl rfl)), _, rfl, q⟩
    | _ => exact q
def sp_check_tick : Sp := fun vs H Q _ => ∃ i : Int, vs = [.int i] ∧ Q .non H
theorem cal_check_tick (T : Tx K mg) : Cal P w K mg base CX0 2 "check_tick" ["tick"] sp_check_tick := by
  have c_is_int := cal_is_int (P := P) (w := w) (base := base) T
  refine T.d_check_tick.cal sc_check_tick (fun vs H Q E h => ?_) (fun _ _ _ _ _ _ us hl => match us, hl with | [_], _ => rfl) (fun f cdv A outer s H vs Q E hr h => ⟨_, (pss_one (ps_if (pt_not (pt_val (pe_cal c_is_int (hr.mono (by decide)) pass0 (pa_cons (pv 0) pa_nil)))) (pss_one ps_never) pss_nil)), ?_⟩)
  · obtain ⟨i, rfl, _⟩ := h
    rfl
  · obtain ⟨i, rfl, q⟩ := h
    exact ⟨_, rfl, _, "int", rfl, .int i, _, rfl, iteNS rfl q⟩
/-- what a value is, as a list -/
inductive AsLs (K : PySem.W.Frag) (H : Hp) (v : V) : Option (List V) → Prop where
  | no {n : String} (h : TyN K H v n) (hn : n ≠ "list") : AsLs K H v none
  | yes {a : Addr} {xs : List V} (e : v = .ref a) (h : SqL K H a xs) (all : ∀ x ∈ xs, Any K H x) (hl : xs.length ≤ 1000) : AsLs K H v (some xs)
theorem AsLs.ex {H H' : Hp} {v : V} {o : Option (List V)} (e : Ex H H') (h : AsLs K H v o) : AsLs K H' v o := by
  cases h with
  | no h hn =>
    cases h with
    | non => exact .no .non hn
    | bl b => exact .no (.bl b) hn
    | int i => exact .no (.int i) hn
    | str x => exact .no (.str x) hn
    | lst h => exact .no (.lst (ex_l e h)) hn
    | tup h => exact .no (.tup (ex_t e h)) hn
    | dct h => exact .no (.dct (e _ _ h)) hn
  | yes e1 h all hl => exact .yes e1 (ex_l e h) (fun x hx => (all x hx).ex e) hl
def lenOk (m : Int) : Option (List V) → Bool
  | none => false
  | some xs => decide ((xs.length : Int) ≤ m)
def sp_lup (K : PySem.W.Frag) : Sp := fun vs H Q _ => ∃ m v o, vs = [.int m, v] ∧ AsLs K H v o ∧ Q (.bl (lenOk m o)) H
theorem cal_lup (T : Tx K mg) : Cal P w K mg base CX0 1 "is_list_up_to" ["most", "value"] (sp_lup K) := by
  refine T.d_is_list_up_to.cal sc_is_list_up_to (fun vs H Q E h => ?_) (fun _ _ _ _ _ _ us hl => match us, hl with | [_, _], _ => rfl) (fun f cdv A outer s H vs Q E hr h => ⟨_, (pss_one (ps_ret (pe_and (pe_callB call_isi (by rfl) T.b_isinstance (by decide +kernel) (pa_cons (pv 1) (pa_cons (pe_bltn (v := .ty "list") (by rfl) T.b_list (by decide +kernel) rfl) pa_nil))) (pe_one (pe_cmpR op_le (pe_callB call_len_seq (by rfl) T.b_len (by decide +kernel) (pa_cons (pv 1) pa_nil)) (pv 0) (nomark _)))))), ?_⟩)
  · obtain ⟨m, v, o, rfl, _⟩ := h
    rfl
  · obtain ⟨m, v, o, rfl, as, q⟩ := h
    cases as with
    | @no n ty hn =>
      refine ⟨_, rfl, v, .ty "list", _, _, false, rfl, .ty _, ty.x, ?_, _, rfl, q⟩
      have e := ty.kit (m := "list") (by simp)
      exact e.trans (by simp [hn])
    | @yes a xs e sq all hl =>
      subst e
      refine ⟨_, rfl, _, .ty "list", _, _, true, rfl, .ty _, (TyN.lst sq).x, ki, true, rfl, iteT ?_⟩
      exact ⟨_, rfl, a, xs, rfl, .inl sq, _, rfl, _, _, rfl, rfl, q⟩
/-- item i of a signal is right behind the one before -/
def okS (xs : List V) (i : Nat) : Bool := match xs[i]? with
  | some (.int t) => i == 0 || (match xs[i - 1]? with
    | some (.int u) => decide (u < t)
    | _ => false)
  | _ => false
def sgB (xs : List V) : Bool := (List.range xs.length).all (okS xs)
def isSg : Option (List V) → Bool
  | none => false
  | some xs => decide (xs.length ≤ 800) && sgB xs
theorem sgB_all {xs : List V} (h : ∀ i, i < xs.length → okS xs i = true) : sgB xs = true := by
  unfold sgB
  rw [List.all_eq_true]
  exact fun i hi => h i (List.mem_range.mp hi)
theorem sgB_no {xs : List V} {i : Nat} (hi : i < xs.length) (h : okS xs i = false) : sgB xs = false := by
  unfold sgB
  rw [List.all_eq_false]
  exact ⟨i, List.mem_range.mpr hi, by rw [h]; decide⟩
theorem okS_int {xs : List V} {i : Nat} (h : okS xs i = true) : ∃ t, xs[i]? = some (.int t) := by
  unfold okS at h
  split at h
  · exact ⟨_, by assumption⟩
  · cases h
def Rx (C : Addr) (H : Hp) (E : XK) : Prop := ∀ (v : V) (d : Addr) (H' : Hp), Ex H H' → H' d = none → E (.ref C) (some d) (upd H' d (.xd [("index", v)]))
def sp_check_signalX (K : PySem.W.Frag) : Sp := fun vs H Q E => ∃ v o, vs = [v] ∧ AsLs K H v o ∧ (isSg o = true → ∀ H', Ex H H' → Q .non H') ∧ (isSg o = false → Rx (He.ga K "InvalidSignal") H E)
theorem cal_check_signalX (T : Tx K mg) (TE : TxE P K mg) : Cal P w K mg base (L2.CX P w) 3 "check_signal" ["signal"] (sp_check_signalX K) := by
  have c_is_int := cal_is_int (P := P) (w := w) (base := base) T
  have c_is_list_up_to := cal_lup (P := P) (w := w) (base := base) T
  refine T.d_check_signal.calX sc_check_signal (fun vs H Q E h => ?_) (fun _ _ _ _ _ _ us hl => match us, hl with | [_], _ => rfl) (fun f cdv A outer s H vs Q E hr h => ⟨_, (pss_cons (ps_if (pt_not (pt_val (pe_cal c_is_list_up_to (hr.mono (by decide)) pass0 (pa_cons (pe_gi T.i_MOST_CHANGES) (pa_cons (pv 0) pa_nil))))) (pss_one (ps_raise rfl (takes_of rfl rfl rfl rfl) (pmk_err (k := 1) TE.x_InvalidSignal (hr.mono (by decide)) (pa_cons pe_non pa_nil)))) pss_nil)
      (pss_one (ps_for PassesOwn.leaving rfl (pi_enum (by rfl) T.b_enumerate (pa_cons (pv 0) pa_nil)) (pg_tup rfl (pgs_cons (pg_name (i := 1) sc_check_signal.nd rfl (Or.inl rfl)) (pgs_cons (pg_name (i := 2) sc_check_signal.nd rfl (Or.inl rfl)) pgs_nil))) (pss_cons (ps_if (pt_not (pt_val (pe_cal c_is_int (hr.mono (by decide)) pass0 (pa_cons (pv 2) pa_nil)))) (pss_one (ps_raise rfl (takes_of rfl rfl rfl rfl) (pmk_err (k := 1) TE.x_InvalidSignal (hr.mono (by decide)) (pa_cons (pv 1) pa_nil)))) pss_nil)
      (pss_one (ps_if (PW.pt (pw_and (pt_cmpR op_gt (pv 1) pe_int (nomark _)) (pw_and1 (pt_cmpR op_le (pv 2) (pe_ix ix_list (pv 0) (pe_op op_sub (pv 1) pe_int) (fun _ _ => rfl)) (nomark _))))) (pss_one (ps_raise rfl (takes_of rfl rfl rfl rfl) (pmk_err (k := 1) TE.x_InvalidSignal (hr.mono (by decide)) (pa_cons (pv 1) pa_nil)))) pss_nil)))))), ?_⟩)
  · obtain ⟨v, o, rfl, _⟩ := h
    rfl
  · obtain ⟨v, o, rfl, as, q, r⟩ := h
    refine ⟨_, rfl, 800, v, o, rfl, as, _, rfl, ?_⟩
    cases as with
    | @no n ty hn => exact iteT ⟨_, rfl, .inl rfl, fun d hd => r rfl _ d H (Ex.refl H) hd⟩
    | @yes a xs e sq all hl =>
      subst e
      by_cases h8 : xs.length ≤ 800
      · have e8 : lenOk 800 (some xs) = true := decide_eq_true (by omega)
        rw [e8]
        refine iteF ⟨_, rfl, a, _, rfl, sq, ?_⟩
        refine for_enum (K := K) (a := a) (xs := xs) (fun i σ H1 => ∃ u v, σ = [some (.ref a), u, v] ∧ Ex H H1 ∧ ∀ j, j < i → okS xs j = true) ⟨none, none, rfl, Ex.refl H, fun j h => absurd h (Nat.not_lt_zero _)⟩ (fun i σ H1 _ ⟨_, _, _, e, _⟩ => ex_l e sq) ?_ ?_
        · rintro i x T1 σ H1 hx ⟨u, v, rfl, ex, ok⟩ nT
          have hi := (List.getElem?_eq_some_iff.mp hx).1
          have ex2 : Ex H (upd H1 T1 (.tup [.int (i : Nat), x])) := ex.trans (Ex.new nT)
          have bad : okS xs i = false → Rx (He.ga K "InvalidSignal") H E := fun h => r (by
            show (decide (xs.length ≤ 800) && sgB xs) = false
            rw [sgB_no hi h, Bool.and_false])
          have small : ((i : Nat) : Int).natAbs.log2 < 1920 := by
            have : (i : Nat) < 2 ^ 20 := by omega
            have := int_log (i := (i : Int)) (k := 20) (by decide) (by omega)
            omega
          refine ⟨T1, _, rfl, .inl (.inl upd_same), rfl, _, _, rfl, _, _, rfl, rfl, ?_⟩
          obtain ⟨n, ty⟩ := (all x (List.mem_of_getElem? hx)).ex ex2
          refine ⟨_, rfl, x, n, rfl, ty, _, rfl, ?_⟩
          have no : (∀ t, x ≠ .int t) → okS xs i = false := fun h => by
            unfold okS
            rw [hx]
            cases x with
            | int t => exact absurd rfl (h t)
            | _ => rfl
          cases ty with
          | int t =>
            refine iteF ⟨_, rfl, _, _, rfl, rfl, _, rfl, ite2 (fun h => ?_) (fun h => ?_)⟩
            · have h : (0 : Int) < (i : Int) := of_decide_eq_true h
              obtain ⟨y, hy⟩ := okS_int (ok (i - 1) (by omega))
              have e1 : (i : Int) - 1 = ((i - 1 : Nat) : Int) := by omega
              refine ⟨_, rfl, _, rfl, _, rfl, _, _, rfl, rfl, a, _, _, _, rfl, rfl, ex_l ex2 sq, atI_i _ (i - 1) e1 hy, _, _, rfl, rfl, _, rfl, ite2 (fun h2 => ?_) (fun h2 => ?_)⟩
              · have h2 : t ≤ y := of_decide_eq_true h2
                refine ⟨_, rfl, _, rfl, .inr ⟨_, rfl, small⟩, fun d hd => bad ?_ _ d _ ex2 hd⟩
                unfold okS
                rw [hx, hy]
                have : ¬ y < t := by omega
                have i0 : ¬ i = 0 := by omega
                simp [this, i0]
              · have h2 : ¬ t ≤ y := fun c => h2 (decide_eq_true c)
                refine ⟨_, _, rfl, ex2, fun j hj => ?_⟩
                by_cases hji : j = i
                · subst hji
                  unfold okS
                  rw [hx, hy]
                  have : y < t := by omega
                  simp [this]
                · exact ok j (by omega)
            · have h : ¬ (0 : Int) < (i : Int) := fun c => h (decide_eq_true c)
              refine ⟨_, _, rfl, ex2, fun j hj => ?_⟩
              have i0 : i = 0 := by omega
              have j0 : j = i := by omega
              subst j0
              unfold okS
              rw [hx]
              simp [i0]
          | _ => exact iteT ⟨_, rfl, _, rfl, .inr ⟨_, rfl, small⟩, fun d hd => bad (no fun t z => nomatch z) _ d _ ex2 hd⟩
        · rintro σ H1 ⟨u, v, rfl, ex, ok⟩
          refine q ?_ H1 ex
          show (decide (xs.length ≤ 800) && sgB xs) = true
          rw [decide_eq_true h8, sgB_all ok]
          rfl
      · have e8 : lenOk 800 (some xs) = false := decide_eq_false (by omega)
        rw [e8]
        refine iteT ⟨_, rfl, .inl rfl, fun d hd => r ?_ _ d H (Ex.refl H) hd⟩
        show (decide (xs.length ≤ 800) && sgB xs) = false
        rw [decide_eq_false h8]
        rfl
/-- strictly rising -/
def Ris (ns : List Int) : Prop := ∀ (i : Nat) (x y : Int), ns[i]? = some x → ns[i + 1]? = some y → x < y
theorem sgB_ris {ns : List Int} (h : Ris ns) : sgB (ns.map V.int) = true := by
  refine sgB_all fun i hi => ?_
  rw [List.length_map] at hi
  unfold okS
  rw [List.getElem?_map, List.getElem?_eq_getElem hi]
  show (i == 0 || _) = true
  by_cases h0 : i = 0
  · simp [h0]
  · obtain ⟨k, rfl⟩ : ∃ k, i = k + 1 := ⟨i - 1, by omega⟩
    have e1 : (ns.map V.int)[k + 1 - 1]? = some (.int (ns[k]'(by omega))) := by
      rw [Nat.add_sub_cancel, List.getElem?_map, List.getElem?_eq_getElem (by omega)]
      rfl
    rw [e1]
    have := h k _ _ (List.getElem?_eq_getElem (by omega)) (List.getElem?_eq_getElem hi)
    simp [this]
theorem any_ints {H : Hp} (ns : List Int) : ∀ x ∈ ns.map V.int, Any K H x := fun x hx => by
  obtain ⟨z, _, rfl⟩ := List.mem_map.mp hx
  exact ⟨_, .int z⟩
def sp_check_signal (K : PySem.W.Frag) : Sp := fun vs H Q _ => ∃ a ns, vs = [.ref a] ∧ SqL K H a (ns.map V.int) ∧ ns.length ≤ 800 ∧ Ris ns ∧ ∀ H', Ex H H' → Q .non H'
theorem cal_check_signal (T : Tx K mg) (TE : TxE P K mg) : Cal P w K mg base CX0 3 "check_signal" ["signal"] (sp_check_signal K) := by
  refine (cal_check_signalX T TE).calm.spm fun vs H Q E h => ?_
  obtain ⟨a, ns, rfl, sq, hl, ri, q⟩ := h
  have e : isSg (some (ns.map V.int)) = true := by
    show (decide ((ns.map V.int).length ≤ 800) && sgB (ns.map V.int)) = true
    rw [List.length_map, decide_eq_true hl, sgB_ris ri]
    rfl
  exact ⟨_, _, rfl, .yes rfl sq (any_ints ns) (by rw [List.length_map]; omega), fun _ => q, fun z => by rw [e] at z; cases z⟩
def sp_is_signal (K : PySem.W.Frag) : Sp := fun vs H Q _ => ∃ v o, vs = [v] ∧ AsLs K H v o ∧ ∀ H', Ex H H' → Q (.bl (isSg o)) H'
theorem body_is_signal (T : Tx K mg) (TE : TxE P K mg) : ∀ (f : Addr) (cdv : Value) (A : Around) (outer : List Env) (s : Shared) (H : Hp) (vs : List V) (Q : VK) (E : XK), Room 3 (A.deeper (envOfC "is_signal" (defScope s_is_signal) s.heap.objs.size f cdv)) → sp_is_signal K vs H Q E →
      ∃ t, PSs (cxOf CX0 P w K mg base ["value"] "is_signal" (defScope s_is_signal) f cdv A outer s H E).nox (defBody s_is_signal) t ∧ t { nx := fun _ H' => Q .non H', rt := Q } (start ["value"] vs) H := by
  have x_check_signal := cal_check_signalX (w := w) (base := base) T TE
  refine fun f cdv A outer s H vs Q E hr h => ⟨_, (pss_cons (ps_try_only (Wout := fun _ _ _ _ => False) rfl rfl ⟨rfl, by decide, .inl TE.x_InvalidSignal.gC⟩ takes0 (fun W pn xe tk _ => (pss_one (ps_expr (pe_calS x_check_signal (hr.mono (by decide)) (fun _ => passAt tk _) (pa_cons (pv 0) pa_nil))))) (fun a oe cls d pn hz hf => (pss_one (ps_ret pe_bl))))
      (pss_one (ps_ret pe_bl))), ?_⟩
  obtain ⟨v, o, rfl, as, q⟩ := h
  refine ⟨v, rfl, v, o, rfl, as, fun e H' ex => ?_, fun e v d H' ex hd => ?_⟩
  · have z := q H' ex
    rw [e] at z
    exact z
  · refine ⟨true, TE.x_InvalidSignal.te, fun _ a0 _ => ?_, fun z => Bool.noConfusion z⟩
    have z := q (upd H' d (.xd [("index", v)])) (ex.trans (Ex.new hd))
    rw [e] at z
    exact z
theorem len_is_signal {vs H Q} {E : XK} (h : sp_is_signal K vs H Q E) : vs.length = (["value"] : List Str).length := by
  obtain ⟨v, o, rfl, _⟩ := h
  rfl
theorem cal_is_signal (T : Tx K mg) (TE : TxE P K mg) : Cal P w K mg base CX0 4 "is_signal" ["value"] (sp_is_signal K) :=
  T.d_is_signal.cal sc_is_signal (fun vs H Q E h => len_is_signal h) (fun _ _ _ _ _ _ us hl => match us, hl with | [_], _ => rfl) (body_is_signal T TE)
theorem cal_is_signalK (T : Tx K mg) (TE : TxE P K mg) : CalK P w K mg base CX0 4 "is_signal" ["value"] ["value"] (gPm [0]) (sp_is_signal K) := by
  refine T.d_is_signal.calK (gPm [0]) (fun kV doc pm an cdv ct us ws hl => ?_) (rel_gPm _) sc_is_signal (fun vs H Q E h => len_is_signal h) (body_is_signal T TE)
  match us, ws, hl with
  | [], [a], _ => rfl
end
end LW
namespace LW
open PySem PySem.Spec PyProof.Rows L2 Evl SB
section
variable {P : Program} {w : World} {K : PySem.W.Frag} {mg : Str → Option Value} {base : Heap}
def lv (ns : List Int) (t : Int) : Int := 1 - ((ns.filterMap fun c => if c ≤ t then some c else none).length : Int) % 2
theorem fm_len {α β γ : Type} {f : α → Option β} {g : α → Option γ} (h : ∀ x, (f x).isSome = (g x).isSome) : ∀ l : List α, (l.filterMap f).length = (l.filterMap g).length
  | [] => rfl
  | x :: l => by
    have hx := h x
    rw [List.filterMap_cons, List.filterMap_cons]
    cases e : f x <;> cases e2 : g x <;> rw [e, e2] at hx <;> simp at hx ⊢
    · exact fm_len h l
    · exact fm_len h l
theorem lv01 (ns : List Int) (t : Int) : lv ns t = 0 ∨ lv ns t = 1 := by
  unfold lv
  omega
def sp_level_at (K : PySem.W.Frag) : Sp := fun vs H Q _ => ∃ a ns t, vs = [.ref a, .int t] ∧ SqL K H a (ns.map V.int) ∧ ns.length ≤ 800 ∧ Ris ns ∧ ∀ H', Ex H H' → Q (.int (lv ns t)) H'
theorem len_level_at {vs H Q} {E : XK} (h : sp_level_at K vs H Q E) : vs.length = (["signal", "tick"] : List Str).length := by
  obtain ⟨a, ns, t, rfl, _⟩ := h
  rfl
theorem body_level_at (T : Tx K mg) (TE : TxE P K mg) : ∀ (f : Addr) (cdv : Value) (A : Around) (outer : List Env) (s : Shared) (H : Hp) (vs : List V) (Q : VK) (E : XK), Room 3 (A.deeper (envOfC "level_at" (defScope s_level_at) s.heap.objs.size f cdv)) → sp_level_at K vs H Q E →
      ∃ t, PSs (cxOf CX0 P w K mg base ["signal", "tick", "changes", "change"] "level_at" (defScope s_level_at) f cdv A outer s H E).nox (defBody s_level_at) t ∧ t { nx := fun _ H' => Q .non H', rt := Q } (start ["signal", "tick", "changes", "change"] vs) H := by
  have c_check_signal := cal_check_signal (P := P) (w := w) (base := base) T TE
  have c_check_tick := cal_check_tick (P := P) (w := w) (base := base) T
  refine fun f cdv A outer s H vs Q E hr h => ⟨_, (pss_cons (ps_expr (pe_cal c_check_signal (hr.mono (by decide)) pass0 (pa_cons (pv 0) pa_nil)))
      (pss_cons (ps_expr (pe_cal c_check_tick (hr.mono (by decide)) pass0 (pa_cons (pv 1) pa_nil)))
      (pss_cons (ps_setLc (i := 2) rfl sc_level_at.nd rfl rfl (sw_true rfl rfl rfl (by decide +kernel)) (pi_list (pv 0)) (blkOk_by (own := [("change", 3)]) (N := ["signal", "tick", "changes", "change"]) (sc := defScope s_level_at) (by decide +kernel)) (fun _ _ _ _ _ => (pg_name (i := 3) sc_level_at.nd rfl (Or.inl rfl))) (fun _ _ _ _ _ => (pts_one (pt_cmpR op_le (pv 3) (pv 1) (nomark _)))) (fun _ _ _ _ _ => (pv 3)))
      (pss_one (ps_ret (pe_op op_sub pe_int (pe_op op_mod (pe_callB call_len_seq (by rfl) T.b_len (by decide +kernel) (pa_cons (pv 2) pa_nil)) pe_int))))))), ?_⟩
  obtain ⟨a, ns, t, rfl, sq, hl, ri, q⟩ := h
  refine ⟨_, rfl, a, ns, rfl, sq, hl, ri, fun H1 e1 => ⟨_, rfl, t, rfl, ?_⟩⟩
  refine ⟨_, rfl, a, rfl, ⟨_, ex_l e1 sq⟩, fun D nD => ?_⟩
  refine lcL RI.lasts RI.lasts nD (ex_l e1 sq) (LR.of_ints ns) (by rw [List.length_map]; omega) (fun c => if c ≤ t then some c else none) (fun i x c H2 hc e2 r0 Kt Kf kt kf => ?_) (fun H2 ys e2 hy lr => ?_)
  · cases (show x = .int c from r0)
    refine ⟨rfl, ?_⟩
    refine ⟨_, rfl, _, rfl, _, _, rfl, rfl, _, rfl, ite2 (fun h => ?_) (fun h => ?_)⟩
    · have h : c ≤ t := of_decide_eq_true h
      exact ⟨_, rfl, kt _ _ _ (if_pos h) (Ex.refl _) rfl⟩
    · have h : ¬ c ≤ t := fun z => h (decide_eq_true z)
      exact kf _ (if_neg h) (Ex.refl _)
  obtain rfl := lr.ints
  refine ⟨_, rfl, D, _, rfl, .inl (sq_of hy), _, _, rfl, rfl, (by show (0 : Int) < 2; decide), _, _, rfl, rfl, ?_⟩
  have := q H2 (e1.trans e2)
  rw [List.length_map]
  exact this
theorem cal_level_at (T : Tx K mg) (TE : TxE P K mg) : Cal P w K mg base CX0 4 "level_at" ["signal", "tick"] (sp_level_at K) :=
  T.d_level_at.cal sc_level_at (fun vs H Q E h => len_level_at h) (fun _ _ _ _ _ _ us hl => match us, hl with | [_, _], _ => rfl) (body_level_at T TE)
theorem cal_level_atK (T : Tx K mg) (TE : TxE P K mg) : CalK P w K mg base CX0 4 "level_at" ["tick", "signal"] ["signal", "tick"] (gPm [1, 0]) (sp_level_at K) := by
  refine T.d_level_at.calK (gPm [1, 0]) (fun kV doc pm an cdv ct us ws hl => ?_) (rel_gPm _) sc_level_at (fun vs H Q E h => len_level_at h) (body_level_at T TE)
  match us, ws, hl with
  | [], [a, b], _ => rfl
/-- the stretches from edge to edge -/
def rns (l b : Int) : List Int → List (List Int)
  | [] => []
  | e :: es => [l, e - b] :: rns (1 - l) e es
def rst (l b : Int) (es : List Int) : Int × Int := es.foldl (fun q e => (1 - q.1, e)) (l, b)
theorem rns_snoc (e : Int) : ∀ (es : List Int) (l b : Int), rns l b (es ++ [e]) = rns l b es ++ [[(rst l b es).1, e - (rst l b es).2]]
  | [], _, _ => rfl
  | x :: es, l, b => by
    show [l, x - b] :: rns (1 - l) x (es ++ [e]) = [l, x - b] :: rns (1 - l) x es ++ _
    rw [rns_snoc e es (1 - l) x]
    rfl
theorem rst_snoc (l b e : Int) (es : List Int) : rst l b (es ++ [e]) = (1 - (rst l b es).1, e) := by
  unfold rst
  rw [List.foldl_append]
  rfl
theorem rns_len : ∀ (es : List Int) (l b : Int), (rns l b es).length = es.length
  | [], _, _ => rfl
  | _ :: es, _, _ => by
    show _ + 1 = _ + 1
    rw [rns_len es]
def mids (ns : List Int) (o u : Int) : List Int := ns.filterMap fun c => if o < c ∧ c < u then some c else none
def runsL (ns : List Int) (o u : Int) : List (List Int) := rns (lv ns o) o (mids ns o u ++ [u])
def sp_runs (K : PySem.W.Frag) : Sp := fun vs H Q _ => ∃ a ns o u, vs = [.ref a, .int o, .int u] ∧ SqL K H a (ns.map V.int) ∧ ns.length ≤ 800 ∧ Ris ns ∧ o < u ∧ RetR (RT K) (runsL ns o u) H Q
theorem len_runs {vs H Q} {E : XK} (h : sp_runs K vs H Q E) : vs.length = (["signal", "begin", "end"] : List Str).length := by
  obtain ⟨a, ns, o, u, rfl, _⟩ := h
  rfl
theorem body_runs (T : Tx K mg) (TE : TxE P K mg) : ∀ (f : Addr) (cdv : Value) (A : Around) (outer : List Env) (s : Shared) (H : Hp) (vs : List V) (Q : VK) (E : XK), Room 4 (A.deeper (envOfC "runs_between" (defScope s_runs_between) s.heap.objs.size f cdv)) → sp_runs K vs H Q E →
      ∃ t, PSs (cxOf CX0 P w K mg base ["signal", "begin", "end", "level", "edges", "runs", "behind", "edge", "change"] "runs_between" (defScope s_runs_between) f cdv A outer s H E).nox (defBody s_runs_between) t ∧ t { nx := fun _ H' => Q .non H', rt := Q } (start ["signal", "begin", "end", "level", "edges", "runs", "behind", "edge", "change"] vs) H := by
  have c_check_signal := cal_check_signal (P := P) (w := w) (base := base) T TE
  have c_check_tick := cal_check_tick (P := P) (w := w) (base := base) T
  have c_level_at := cal_level_at (P := P) (w := w) (base := base) T TE
  refine fun f cdv A outer s H vs Q E hr h => ⟨_, (pss_cons (ps_expr (pe_cal c_check_signal (hr.mono (by decide)) pass0 (pa_cons (pv 0) pa_nil)))
      (pss_cons (ps_expr (pe_cal c_check_tick (hr.mono (by decide)) pass0 (pa_cons (pv 1) pa_nil)))
      (pss_cons (ps_expr (pe_cal c_check_tick (hr.mono (by decide)) pass0 (pa_cons (pv 2) pa_nil)))
      (pss_cons (ps_if (pt_cmpR op_le (pv 2) (pv 1) (nomark _)) (pss_one ps_never) pss_nil)
      (pss_cons (ps_set (i := 3) sc_runs_between.nd rfl (Or.inl rfl) (pe_cal c_level_at (hr.mono (by decide)) pass0 (pa_cons (pv 0) (pa_cons (pv 1) pa_nil))))
      (pss_cons (ps_set (i := 4) sc_runs_between.nd rfl (Or.inl rfl) (pe_op op_cat (pe_lc rfl sc_runs_between.nd (pi_list (pv 0)) (blkOk_by (own := [("change", 8)]) (N := ["signal", "begin", "end", "level", "edges", "runs", "behind", "edge", "change"]) (sc := defScope s_runs_between) (by decide +kernel)) (fun _ _ _ _ _ => (pg_name (i := 8) sc_runs_between.nd rfl (Or.inl rfl))) (fun _ _ _ _ _ => (pts_one (pt_chain op_lt op_lt (pv 1) (pv 8) (pv 2)))) (fun _ _ _ _ _ => (pv 8))) (pe_lst (pa_cons (pv 2) pa_nil))))
      (pss_cons (ps_set (i := 5) sc_runs_between.nd rfl (Or.inl rfl) (pe_lst pa_nil))
      (pss_cons (ps_set (i := 6) sc_runs_between.nd rfl (Or.inl rfl) (pv 1))
      (pss_cons (ps_for PassesOwn.never rfl (pi_list (pv 4)) (pg_name (i := 7) sc_runs_between.nd rfl (Or.inl rfl)) (pss_cons (ps_expr (pe_bm PySem.F.plainAttrs_list PySem.F.slot_list_append PySem.F.type_list_append mt_append (pv 5) (pa_cons (pe_tup (pa_cons (pv 3) (pa_cons (pe_op op_sub (pv 7) (pv 6)) pa_nil))) pa_nil)))
      (pss_cons (ps_set (i := 3) sc_runs_between.nd rfl (Or.inl rfl) (pe_op op_sub pe_int (pv 3)))
      (pss_one (ps_set (i := 6) sc_runs_between.nd rfl (Or.inl rfl) (pv 7))))))
      (pss_one (ps_ret (pv 5)))))))))))), ?_⟩
  obtain ⟨a, ns, o, u, rfl, sq, hl, ri, ou, q⟩ := h
  refine ⟨_, rfl, a, ns, rfl, sq, hl, ri, fun H1 e1 => ⟨_, rfl, o, rfl, _, rfl, u, rfl, ?_⟩⟩
  refine ⟨_, rfl, _, rfl, _, _, rfl, rfl, _, rfl, ite2 (fun h => absurd (show u ≤ o from of_decide_eq_true h) (by omega)) (fun _ => ?_)⟩
  refine ⟨_, rfl, _, rfl, a, ns, o, rfl, ex_l e1 sq, hl, ri, fun H2 e2 => ?_⟩
  have e12 := e1.trans e2
  refine ⟨_, rfl, a, rfl, ⟨_, ex_l e12 sq⟩, fun D nD => ?_⟩
  refine lcL RI.lasts RI.lasts nD (ex_l e12 sq) (LR.of_ints ns) (by rw [List.length_map]; omega) (fun c => if o < c ∧ c < u then some c else none) (fun i x c H3 hc e3 r0 Kt Kf kt kf => ?_) (fun H3 ys e3 hy lr => ?_)
  · cases (show x = .int c from r0)
    refine ⟨rfl, ?_⟩
    refine ⟨_, rfl, _, rfl, _, _, rfl, rfl, _, rfl, ite2 (fun h => ?_) (fun h => ?_)⟩
    · have h : o < c := of_decide_eq_true h
      refine ⟨_, rfl, _, _, rfl, rfl, _, rfl, ite2 (fun h2 => ?_) (fun h2 => ?_)⟩
      · have h2 : c < u := of_decide_eq_true h2
        exact ⟨_, rfl, kt _ _ _ (if_pos ⟨h, h2⟩) (Ex.refl _) rfl⟩
      · have h2 : ¬ c < u := fun z => h2 (decide_eq_true z)
        exact kf _ (if_neg fun z => h2 z.2) (Ex.refl _)
    · have h : ¬ o < c := fun z => h (decide_eq_true z)
      exact ⟨false, rfl, kf _ (if_neg fun z => h z.1) (Ex.refl _)⟩
  obtain rfl := lr.ints
  have hy : H3 D = some (.lst ((mids ns o u).map V.int)) := hy
  have ml : (mids ns o u).length ≤ 800 := by
    unfold mids
    have := List.length_filterMap_le (fun c => if o < c ∧ c < u then some c else none) ns
    omega
  refine ⟨_, rfl, (by show 1 ≤ sizeLine; decide), fun D1 nD1 => ⟨D, D1, _, _, rfl, rfl, Ex.new nD1 _ _ hy, upd_same, ?_, fun G nG => ?_⟩⟩
  · rw [List.length_map]
    exact sz_of (by show (mids ns o u).length + 1 ≤ 100000; omega)
  have e4 := (e12.trans e3).trans ((Ex.new nD1 (o := .lst [.int u])).trans (Ex.new nG (o := .lst ((mids ns o u).map V.int ++ [.int u]))))
  have hG : (upd (upd H3 D1 (.lst [.int u])) G (.lst ((mids ns o u).map V.int ++ [.int u]))) G = some (.lst ((mids ns o u ++ [u]).map V.int)) := by
    rw [upd_same, List.map_append]
    rfl
  refine (show _ from ?_)
  generalize hes : mids ns o u ++ [u] = es at hG
  have el : es.length ≤ 801 := by
    rw [← hes, List.length_append]
    show _ + 1 ≤ 801
    omega
  have q' : RetR (RT K) (rns (lv ns o) o es) H Q := by
    rw [← hes]
    exact q
  clear q
  generalize upd (upd H3 D1 (.lst [.int u])) G (.lst ((mids ns o u).map V.int ++ [.int u])) = H4 at e4 hG
  refine ⟨Nat.zero_le _, fun R nR => ⟨_, rfl, ?_⟩⟩
  have R_G : G ≠ R := fun z => by rw [← z, hG] at nR; cases nR
  have fR : H R = none := fresh_back e4 nR
  refine ⟨_, rfl, G, rfl, ⟨_, sq_of (Ex.new nR _ _ hG)⟩, for_list (K := K) (a := G) (xs := es.map V.int) (fun i σ H5 => ∃ u1 u2 xs, σ = [some (.ref a), some (.int o), some (.int u), some (.int (rst (lv ns o) o (es.take i)).1), some (.ref G), some (.ref R), some (.int (rst (lv ns o) o (es.take i)).2), u1, u2] ∧ Ex H H5 ∧ H5 G = some (.lst (es.map V.int)) ∧ H5 R = some (.lst xs) ∧ LR (RT K H5) xs (rns (lv ns o) o (es.take i)))
    ⟨none, none, [], rfl, e4.trans (Ex.new nR), Ex.new nR _ _ hG, upd_same, LR.nil⟩ (fun i σ H5 _ ⟨_, _, _, _, _, h, _⟩ => sq_of h) ?_ ?_⟩
  · rintro i x σ H5 hx ⟨u1, u2, xs, rfl, ex, hG5, hR5, lr5⟩
    obtain ⟨e, he, rfl⟩ := ints_at hx
    have hi := (List.getElem?_eq_some_iff.mp he).1
    refine ⟨_, rfl, .inl ⟨rfl, _, sq_of hR5⟩, _, rfl, _, rfl, _, rfl, _, _, rfl, rfl, (by show 2 ≤ sizeLine; decide), fun t nt => ?_⟩
    have et := Ex.new nt (o := .tup [.int (rst (lv ns o) o (es.take i)).1, .int (e - (rst (lv ns o) o (es.take i)).2)])
    refine ⟨R, _, _, rfl, rfl, et _ _ hR5, ?_, ?_⟩
    · rw [lr5.1, rns_len, List.length_take]
      exact sz_lt (by omega)
    refine ⟨_, rfl, _, _, rfl, rfl, _, rfl, ?_⟩
    refine ⟨some (.int e), u2, _, ?_, (ex.trans et).mut fR, ?_, upd_same, ?_⟩
    · rw [List.take_add_one, he, show (some e).toList = [e] from rfl, rst_snoc]
      rfl
    · rw [upd_ne R_G]
      exact et _ _ hG5
    · rw [List.take_add_one, he, show (some e).toList = [e] from rfl, rns_snoc]
      exact LR.snoc (lr5.imp fun x r h => RT.lasts.kp (a := R) Kp.upd (et _ _ hR5) (RT.lasts.ex et h)) (RT.lasts.kp (a := R) Kp.upd (et _ _ hR5) ⟨t, rfl, st_of upd_same⟩)
  · rintro σ H5 ⟨u1, u2, xs, rfl, ex, hG5, hR5, lr5⟩
    rw [List.length_map, List.take_length] at lr5
    exact ⟨_, rfl, q' R H5 xs fR ex hR5 lr5⟩
theorem cal_runs (T : Tx K mg) (TE : TxE P K mg) : Cal P w K mg base CX0 5 "runs_between" ["signal", "begin", "end"] (sp_runs K) :=
  T.d_runs_between.cal sc_runs_between (fun vs H Q E h => len_runs h) (fun _ _ _ _ _ _ us hl => match us, hl with | [_, _, _], _ => rfl) (body_runs T TE)
theorem cal_runsK (T : Tx K mg) (TE : TxE P K mg) : CalK P w K mg base CX0 5 "runs_between" ["end", "signal", "begin"] ["signal", "begin", "end"] (gPm [1, 2, 0]) (sp_runs K) := by
  refine T.d_runs_between.calK (gPm [1, 2, 0]) (fun kV doc pm an cdv ct us ws hl => ?_) (rel_gPm _) sc_runs_between (fun vs H Q E h => len_runs h) (body_runs T TE)
  match us, ws, hl with
  | [], [a, b, c], _ => rfl
end
end LW
namespace LW
open PySem PySem.Spec PyProof.Rows L2 Evl SB
section
variable {P : Program} {w : World} {K : PySem.W.Frag} {mg : Str → Option Value} {base : Heap}
def sp_source (K : PySem.W.Frag) : Sp := fun vs H Q _ => ∃ (a : Addr) (ns : List Int) (i : Nat), vs = [.ref a, .int (i : Nat)] ∧ SqL K H a (ns.map V.int) ∧ i ≤ 1000 ∧ ∀ l H', H l = none → Ex H H' → Src H' l 0 → Q (.ref l) H'
theorem cal_source (T : Tx K mg) : Cal P w K mg base CX0 1 "_law_source" ["_law_script", "_law_at"] (sp_source K) := by
  refine T.d_law_source.cal sc_law_source (fun vs H Q E h => ?_) (fun _ _ _ _ _ _ us hl => match us, hl with | [_, _], _ => rfl) (fun f cdv A outer s H vs Q E hr h => ⟨_, (pss_cons (ps_set (i := 2) sc_law_source.nd rfl (Or.inl rfl) (pe_ifExp (pt_cmpR op_lt (pv 1) (pe_callB call_len_seq (by rfl) T.b_len (by decide +kernel) (pa_cons (pv 0) pa_nil)) (nomark _)) (pe_ix ix_list (pv 0) (pv 1) (fun _ _ => rfl)) pe_int))
      (pss_cons (ps_set (i := 3) sc_law_source.nd rfl (Or.inl rfl) (pe_ifExp (pt_cmpR op_ge (pe_callB call_abs (by rfl) T.b_abs (by decide +kernel) (pa_cons (pv 2) pa_nil)) (pe_op op_powB pe_int pe_int) (nomark _)) (pe_op op_sub (pe_callB call_abs (by rfl) T.b_abs (by decide +kernel) (pa_cons (pv 2) pa_nil)) (pe_op op_powB pe_int pe_int)) pe_int))
      (pss_one (ps_ret (pe_lst (pa_cons (pv 3) (pa_cons (pe_op op_add (pe_op op_mod (pe_callTy call_int1 (by rfl) T.b_int (by decide +kernel) (pa_cons (pv 2) pa_nil)) pe_int) (pe_op op_mul pe_int (pv 1))) (pa_cons pe_int pa_nil)))))))), ?_⟩)
  · obtain ⟨a, ns, i, rfl, _⟩ := h
    rfl
  · obtain ⟨a, ns, i, rfl, sq, hi, q⟩ := h
    refine seq_any (P := fun v => ∃ z : Int, v = .int z) (fun Q' k => ?_) ?_
    · refine ⟨_, rfl, _, rfl, a, _, rfl, .inl sq, _, _, rfl, rfl, _, rfl, ite2 (fun h => ?_) (fun _ => k _ ⟨0, rfl⟩)⟩
      have h1 : i < ns.length := by
        have h2 := of_decide_eq_true h
        rw [List.length_map] at h2
        omega
      have g : (ns.map V.int)[i]? = some (.int ns[i]) := by
        rw [List.getElem?_map, List.getElem?_eq_getElem h1]
        rfl
      exact ⟨_, rfl, _, rfl, a, _, _, _, rfl, rfl, sq, atI_nat g, k _ ⟨_, rfl⟩⟩
    rintro _ ⟨z, rfl⟩
    refine seq_any (P := fun v => ∃ z : Int, v = .int z) (fun Q' k => ?_) ?_
    · refine ⟨_, rfl, z, rfl, 10, 18, rfl, rfl, cpow10 18 (by decide) (by decide), _, _, rfl, rfl, _, rfl, ite2 (fun h => ?_) (fun _ => k _ ⟨0, rfl⟩)⟩
      exact ⟨_, rfl, z, rfl, 10, 18, rfl, rfl, cpow10 18 (by decide) (by decide), _, _, rfl, rfl, k _ ⟨_, rfl⟩⟩
    rintro _ ⟨y, rfl⟩
    refine ⟨_, rfl, _, rfl, .inl ⟨z, rfl, _, _, rfl, rfl, (by show (0 : Int) < 2305843009213693951; decide), _, rfl, _, _, rfl, rfl, .inl ⟨by decide, by decide⟩, _, _, rfl, rfl, (by show 3 ≤ sizeLine; decide), fun l nl => ?_⟩⟩
    refine q l _ nl (Ex.new nl) ⟨_, _, _, upd_same, ?_, ?_, Int.le_refl _, Int.le_refl _⟩
    · have h1 := Int.emod_nonneg z (show (2305843009213693951 : Int) ≠ 0 by decide)
      show 0 ≤ z % 2305843009213693951 + 1000003 * (i : Int)
      omega
    · have h1 := Int.emod_lt_of_pos z (show (0 : Int) < 2305843009213693951 by decide)
      show z % 2305843009213693951 + 1000003 * (i : Int) < 4611686018427387904
      omega
def sp_draw : Sp := fun vs H Q _ => ∃ (a : Addr) (m : Int) (n : Nat), vs = [.ref a, .int m] ∧ Src H a n ∧ n ≤ 1000000 ∧ 0 < m ∧ m < 2 ^ 200 ∧
  ∀ d H', 0 ≤ d → d < m → Src H' a (n + 1) → Kp a H H' → Q (.int d) H'
theorem cal_draw (T : Tx K mg) : Cal P w K mg base CX0 1 "_law_draw" ["_law_source_here", "_law_many"] sp_draw := by
  refine T.d_law_draw.cal sc_law_draw (fun vs H Q E h => ?_) (fun _ _ _ _ _ _ us hl => match us, hl with | [_, _], _ => rfl) (fun f cdv A outer s H vs Q E hr h => ⟨_, (pss_cons (ps_if (pt_cmpR op_gt (pe_ix ix_list (pv 0) pe_int (fun _ _ => rfl)) pe_int (nomark _)) (pss_cons (ps_set (i := 2) sc_law_draw.nd rfl (Or.inl rfl) (pe_op op_mod (pe_callTy call_int1 (by rfl) T.b_int (by decide +kernel) (pa_cons (pe_ix ix_list (pv 0) pe_int (fun _ _ => rfl)) pa_nil)) (pv 1)))
      (pss_cons (ps_asg (pe_op op_fdivW (pe_ix ix_list (pv 0) pe_int (fun _ _ => rfl)) (pv 1)) (pg_sub (pv 0) pe_int set_list))
      (pss_one (ps_ret (pv 2))))) pss_nil)
      (pss_cons (ps_asg (pe_op op_add (pe_ix ix_list (pv 0) pe_int (fun _ _ => rfl)) pe_int) (pg_sub (pv 0) pe_int set_list))
      (pss_cons (ps_set (i := 3) sc_law_draw.nd rfl (Or.inl rfl) (pe_op op_add (pe_ix ix_list (pv 0) pe_int (fun _ _ => rfl)) (pe_op op_mul pe_int (pe_ix ix_list (pv 0) pe_int (fun _ _ => rfl)))))
      (pss_cons (ps_set (i := 3) sc_law_draw.nd rfl (Or.inl rfl) (pe_op op_add (pe_op op_mod (pe_callTy call_int1 (by rfl) T.b_int (by decide +kernel) (pa_cons (pe_op op_powB (pv 3) pe_int) pa_nil)) (pe_op op_add (pe_op op_powB pe_int pe_int) pe_int)) (pe_op op_mul pe_int (pe_ix ix_list (pv 0) pe_int (fun _ _ => rfl)))))
      (pss_cons (ps_set (i := 3) sc_law_draw.nd rfl (Or.inl rfl) (pe_op op_mod (pe_callTy call_int1 (by rfl) T.b_int (by decide +kernel) (pa_cons (pe_op op_powB (pv 3) pe_int) pa_nil)) (pe_op op_add (pe_op op_powB pe_int pe_int) pe_int)))
      (pss_one (ps_ret (pe_op op_mod (pe_callTy call_int1 (by rfl) T.b_int (by decide +kernel) (pa_cons (pe_op op_fdivW (pv 3) pe_int) pa_nil)) (pv 1))))))))), ?_⟩)
  · obtain ⟨a, m, n, rfl, _⟩ := h
    rfl
  · obtain ⟨a, m, n, rfl, ⟨l, sd, c, hH, s0, s1, c0, c1⟩, hn, m0, m1, q⟩ := h
    have sq := sq_of (K := K) hH
    have wd : CDivW 0 m := wide_div (b := 200) m0 (by
      have e : (2 : Int) ^ 200 = ((2 ^ 200 : Nat) : Int) := by norm_cast
      omega) (by decide) (by decide)
    refine ⟨_, rfl, a, _, 0, _, rfl, rfl, sq, rfl, l, 0, rfl, rfl, _, rfl, ite2 (fun h => ?_) (fun _ => ?_)⟩
    · refine ⟨_, rfl, a, _, 0, _, rfl, rfl, sq, rfl, .inl ⟨l, rfl, _, rfl, _, _, rfl, rfl, m0, ?_⟩⟩
      refine ⟨_, rfl, a, _, 0, _, rfl, rfl, sq, rfl, _, rfl, _, _, rfl, rfl, wd, _, rfl, a, _, 0, 0, rfl, rfl, hH, rfl, ?_⟩
      exact ⟨_, rfl, q _ _ (Int.emod_nonneg l (by omega)) (Int.emod_lt_of_pos l m0) ⟨_, sd, c, upd_same, s0, s1, c0, by omega⟩ Kp.upd⟩
    · refine ⟨_, rfl, a, _, 2, _, rfl, rfl, sq, rfl, c, 1, rfl, rfl, _, rfl, a, _, 2, 2, rfl, rfl, hH, rfl, ?_⟩
      have h1 : (upd H a (.lst ([V.int l, .int sd, .int c].set 2 (.int (c + 1))))) a = some (.lst [.int l, .int sd, .int (c + 1)]) := upd_same
      have kp : Kp a H (upd H a (.lst ([V.int l, .int sd, .int c].set 2 (.int (c + 1))))) := Kp.upd
      generalize upd H a (.lst ([V.int l, .int sd, .int c].set 2 (.int (c + 1)))) = H1 at h1 kp
      have sq1 := sq_of (K := K) h1
      have src1 : Src H1 a (n + 1) := ⟨l, sd, c + 1, h1, s0, s1, by omega, by omega⟩
      refine ⟨_, rfl, a, _, 1, _, rfl, rfl, sq1, rfl, _, rfl, a, _, 2, _, rfl, rfl, sq1, rfl, _, _, rfl, rfl, .inl ⟨by decide, by decide⟩, _, _, rfl, rfl, ?_⟩
      have b1 : 0 ≤ sd + 2750159 * (c + 1) ∧ sd + 2750159 * (c + 1) < 2 ^ 250 := ⟨by omega, by omega⟩
      refine ⟨_, rfl, _, 3, rfl, rfl, cpow3 b1.1 b1.2, .inl ⟨_, rfl, 10, 38, rfl, rfl, cpow10 38 (by decide) (by decide), _, _, rfl, rfl, _, _, rfl, rfl, ?_, _, rfl, a, _, 2, _, rfl, rfl, sq1, rfl, _, _, rfl, rfl, .inl ⟨by decide, by decide⟩, _, _, rfl, rfl, ?_⟩⟩
      · show (0 : Int) < 10 ^ (38 : Int).toNat + 133
        decide
      have b2 : 0 ≤ (sd + 2750159 * (c + 1)) ^ (3 : Int).toNat % (10 ^ (38 : Int).toNat + 133) + 7368787 * (c + 1) ∧ (sd + 2750159 * (c + 1)) ^ (3 : Int).toNat % (10 ^ (38 : Int).toNat + 133) + 7368787 * (c + 1) < 2 ^ 250 := by
        have e : (10 : Int) ^ (38 : Int).toNat + 133 = 100000000000000000000000000000000000133 := by decide
        rw [e]
        generalize (sd + 2750159 * (c + 1)) ^ (3 : Int).toNat = u
        omega
      refine ⟨_, rfl, _, 3, rfl, rfl, cpow3 b2.1 b2.2, .inl ⟨_, rfl, 10, 41, rfl, rfl, cpow10 41 (by decide) (by decide), _, _, rfl, rfl, _, _, rfl, rfl, ?_, ?_⟩⟩
      · show (0 : Int) < 10 ^ (41 : Int).toNat + 217
        decide
      refine ⟨_, rfl, _, _, rfl, rfl, wide_div (b := 20) (by decide) (by decide) (by decide) (by decide), .inl ⟨_, rfl, _, rfl, _, _, rfl, rfl, m0, ?_⟩⟩
      exact q _ _ (Int.emod_nonneg _ (by omega)) (Int.emod_lt_of_pos _ m0) src1 kp
/-! ### the law's signals -/
theorem Ris.snoc {ns : List Int} {y : Int} (h : Ris ns) (hy : ∀ x ∈ ns, x < y) : Ris (ns ++ [y]) := by
  intro i a b ha hb
  have hi := (List.getElem?_eq_some_iff.mp hb).1
  rw [List.length_append] at hi
  simp at hi
  by_cases e : i + 1 < ns.length
  · rw [List.getElem?_append_left (by omega)] at ha
    rw [List.getElem?_append_left e] at hb
    exact h i a b ha hb
  · rw [List.getElem?_append_left (by omega)] at ha
    rw [List.getElem?_append_right (by omega), show i + 1 - ns.length = 0 by omega] at hb
    obtain rfl : y = b := Option.some.inj hb
    exact hy a (List.mem_of_getElem? ha)
def sp_lsignal (K : PySem.W.Frag) : Sp := fun vs H Q _ => ∃ (a : Addr) (n m : Nat), vs = [.ref a, .int (m : Nat)] ∧ Src H a n ∧ n ≤ 500000 ∧ m ≤ 800 ∧
  ∀ L ns H', H L = none → Kp a H H' → Src H' a (n + 3 + 3 * m) → ns.length = m → Ris ns → (∀ x ∈ ns, -100000000000000000000000000000 ≤ x ∧ x ≤ 20000000000000000000000000000) → H' L = some (.lst (ns.map V.int)) → Q (.ref L) H'
theorem cal_lsignal (T : Tx K mg) : Cal P w K mg base CX0 2 "_law_signal" ["_law_source_here", "_law_many"] (sp_lsignal K) := by
  have c_law_draw := cal_draw (P := P) (w := w) (base := base) T
  refine T.d_law_signal.cal sc_law_signal (fun vs H Q E h => ?_) (fun _ _ _ _ _ _ us hl => match us, hl with | [_, _], _ => rfl) (fun f cdv A outer s H vs Q E hr h => ⟨_, (pss_cons (ps_set (i := 2) sc_law_signal.nd rfl (Or.inl rfl) (pe_ix ix_list (pe_lst (pa_cons pe_int (pa_cons pe_int (pa_cons pe_int (pa_cons (pe_op op_powB pe_int pe_int) pa_nil))))) (pe_cal c_law_draw (hr.mono (by decide)) pass0 (pa_cons (pv 0) (pa_cons pe_int pa_nil))) (fun _ _ => rfl)))
      (pss_cons (ps_set (i := 3) sc_law_signal.nd rfl (Or.inl rfl) (pe_op op_add (pe_ix ix_list (pe_lst (pa_cons pe_int (pa_cons (pe_un un_neg pe_int) (pa_cons pe_int (pa_cons (pe_un un_neg (pe_op op_powB pe_int pe_int)) (pa_cons (pe_op op_powB pe_int pe_int) pa_nil)))))) (pe_cal c_law_draw (hr.mono (by decide)) pass0 (pa_cons (pv 0) (pa_cons pe_int pa_nil))) (fun _ _ => rfl)) (pe_cal c_law_draw (hr.mono (by decide)) pass0 (pa_cons (pv 0) (pa_cons pe_int pa_nil)))))
      (pss_cons (ps_set (i := 4) sc_law_signal.nd rfl (Or.inl rfl) (pe_lst pa_nil))
      (pss_cons (ps_for PassesOwn.never rfl (pi_range1 rfl T.b_range (pa_cons (pv 1) pa_nil)) (pg_name (i := 5) sc_law_signal.nd rfl (Or.inl rfl)) (pss_cons (ps_expr (pe_bm PySem.F.plainAttrs_list PySem.F.slot_list_append PySem.F.type_list_append mt_append (pv 4) (pa_cons (pv 3) pa_nil)))
      (pss_one (ps_set (i := 3) sc_law_signal.nd rfl (Or.inl rfl) (pe_op op_add (pe_op op_add (pv 3) pe_int) (pe_ix ix_list (pe_lst (pa_cons pe_int (pa_cons (pe_cal c_law_draw (hr.mono (by decide)) pass0 (pa_cons (pv 0) (pa_cons (pv 2) pa_nil))) (pa_cons (pe_cal c_law_draw (hr.mono (by decide)) pass0 (pa_cons (pv 0) (pa_cons (pv 2) pa_nil))) pa_nil)))) (pe_cal c_law_draw (hr.mono (by decide)) pass0 (pa_cons (pv 0) (pa_cons pe_int pa_nil))) (fun _ _ => rfl)))))))
      (pss_one (ps_ret (pv 4))))))), ?_⟩)
  · obtain ⟨a, n, m, rfl, _⟩ := h
    rfl
  · obtain ⟨a, n, m, rfl, src, hn, hm, q⟩ := h
    refine ⟨10, 25, rfl, rfl, cpow10 25 (by decide) (by decide), (by show 4 ≤ sizeLine; decide), fun L1 nL1 => ?_⟩
    have L1_a := src.ne nL1
    refine ⟨_, rfl, a, 4, n, rfl, src.ex (Ex.new nL1), by omega, by decide, by decide, fun d H1 d0 d1 src1 k1 => ?_⟩
    obtain ⟨wd, hwd, w1, w2⟩ : ∃ y : Int, atI [V.int 1, .int 3, .int 12, .int (10 ^ (25 : Int).toNat)] d = some (.int y) ∧ 1 ≤ y ∧ y ≤ 10000000000000000000000000 := by
      have : d = 0 ∨ d = 1 ∨ d = 2 ∨ d = 3 := by omega
      rcases this with rfl | rfl | rfl | rfl
      · exact ⟨1, rfl, by decide, by decide⟩
      · exact ⟨3, rfl, by decide, by decide⟩
      · exact ⟨12, rfl, by decide, by decide⟩
      · exact ⟨_, rfl, by decide, by decide⟩
    refine ⟨L1, _, d, _, rfl, rfl, sq_of (k1 L1 _ L1_a upd_same), hwd, ?_⟩
    have k01 := (Ex.kp (Ex.new nL1 (o := .lst [.int 1, .int 3, .int 12, .int (10 ^ (25 : Int).toNat)]))).trans k1
    refine ⟨40, rfl, 10, 29, rfl, rfl, cpow10 29 (by decide) (by decide), _, rfl, 10, 28, rfl, rfl, cpow10 28 (by decide) (by decide), (by show 5 ≤ sizeLine; decide), fun L2 nL2 => ?_⟩
    have L2_a := src1.ne nL2
    refine ⟨_, rfl, a, 5, n + 1, rfl, src1.ex (Ex.new nL2), by omega, by decide, by decide, fun d2 H2 d20 d21 src2 k2 => ?_⟩
    obtain ⟨mo, hmo, mo1, mo2⟩ : ∃ y : Int, atI [V.int 0, .int (-40), .int 7, .int (-(10 ^ (29 : Int).toNat)), .int (10 ^ (28 : Int).toNat)] d2 = some (.int y) ∧ -100000000000000000000000000000 ≤ y ∧ y ≤ 10000000000000000000000000000 := by
      have : d2 = 0 ∨ d2 = 1 ∨ d2 = 2 ∨ d2 = 3 ∨ d2 = 4 := by omega
      rcases this with rfl | rfl | rfl | rfl | rfl
      · exact ⟨0, rfl, by decide, by decide⟩
      · exact ⟨_, rfl, by decide, by decide⟩
      · exact ⟨7, rfl, by decide, by decide⟩
      · exact ⟨_, rfl, by decide, by decide⟩
      · exact ⟨_, rfl, by decide, by decide⟩
    refine ⟨L2, _, d2, _, rfl, rfl, sq_of (k2 L2 _ L2_a upd_same), hmo, ?_⟩
    have k02 := k01.trans ((Ex.kp (Ex.new nL2 (o := .lst [.int 0, .int (-40), .int 7, .int (-(10 ^ (29 : Int).toNat)), .int (10 ^ (28 : Int).toNat)]))).trans k2)
    refine ⟨_, rfl, a, 50, n + 2, rfl, src2, by omega, by decide, by decide, fun d3 H3 d30 d31 src3 k3 => ⟨_, _, rfl, rfl, ?_⟩⟩
    have k03 := k02.trans k3
    refine ⟨Nat.zero_le _, fun L nL => ?_⟩
    have L_a := src3.ne nL
    have fL : H L = none := k03.free nL L_a
    refine ⟨_, rfl, _, rfl, by omega, by omega, ?_⟩
    refine for_range (lo := 0) (n := ((m : Nat) : Int).toNat) (fun i σ H4 => ∃ (mm : Int) (u : Option V) (ns : List Int), σ = [some (.ref a), some (.int (m : Nat)), some (.int wd), some (.int mm), some (.ref L), u] ∧ Kp a H H4 ∧ Src H4 a (n + 3 + 3 * i) ∧ ns.length = i ∧ Ris ns ∧ (∀ x ∈ ns, x < mm) ∧ (∀ x ∈ ns, -100000000000000000000000000000 ≤ x ∧ x ≤ 20000000000000000000000000000) ∧ -100000000000000000000000000000 ≤ mm ∧ mm ≤ 10000000000000000000000000050 + (i : Int) * 10000000000000000000000001 ∧ H4 L = some (.lst (ns.map V.int)))
      ⟨_, none, [], rfl, k03.trans (Ex.kp (Ex.new nL)), src3.ex (Ex.new nL), rfl, (fun i x y h => by simp at h), (fun _ h => by cases h), (fun _ h => by cases h), by omega, by omega, upd_same⟩ ?_ ?_
    · rintro i σ H4 hi ⟨mm, u, ns, rfl, k4, src4, hl, ri, lt, bd, m1, m2, hL⟩
      refine ⟨_, rfl, .inl ⟨rfl, _, sq_of hL⟩, _, rfl, L, _, _, rfl, rfl, hL, ?_, ?_⟩
      · rw [List.length_map]
        exact small1000 (by omega)
      have hLu : (upd H4 L (.lst (ns.map V.int ++ [.int mm]))) L = some (.lst ((ns ++ [mm]).map V.int)) := by
        rw [upd_same, List.map_append]
        rfl
      have k4' : Kp a H (upd H4 L (.lst (ns.map V.int ++ [.int mm]))) := k4.mut fL
      have src4' := src4.upd (o := .lst (ns.map V.int ++ [.int mm])) L_a
      refine (show _ from ?_)
      generalize upd H4 L (.lst (ns.map V.int ++ [.int mm])) = H5 at hLu k4' src4'
      refine ⟨_, rfl, _, _, rfl, rfl, _, rfl, _, rfl, a, wd, _, rfl, src4', by omega, by omega, by omega, fun e1 H6 e10 e11 src6 k6 => ?_⟩
      refine ⟨_, rfl, _, rfl, a, wd, _, rfl, src6, by omega, by omega, by omega, fun e2 H7 e20 e21 src7 k7 => ⟨(by show 3 ≤ sizeLine; decide), fun M nM => ?_⟩⟩
      have M_a := src7.ne nM
      refine ⟨_, rfl, a, 3, _, rfl, src7.ex (Ex.new nM), by omega, by decide, by decide, fun e3 H8 e30 e31 src8 k8 => ?_⟩
      obtain ⟨y, hy, y0, y1⟩ : ∃ y : Int, atI [V.int 0, .int e1, .int e2] e3 = some (.int y) ∧ 0 ≤ y ∧ y ≤ 10000000000000000000000000 := by
        have : e3 = 0 ∨ e3 = 1 ∨ e3 = 2 := by omega
        rcases this with rfl | rfl | rfl
        · exact ⟨0, rfl, by decide, by decide⟩
        · exact ⟨_, rfl, e10, by omega⟩
        · exact ⟨_, rfl, e20, by omega⟩
      refine ⟨M, _, e3, _, rfl, rfl, sq_of (k8 M _ M_a upd_same), hy, _, _, rfl, rfl, ?_⟩
      have kk := ((k6.trans k7).trans (Ex.kp (Ex.new nM (o := .lst [.int 0, .int e1, .int e2])))).trans k8
      have i8 : (i : Int) ≤ 800 := by omega
      refine ⟨mm + 1 + y, _, ns ++ [mm], rfl, k4'.trans kk, src8.mono (by omega), by rw [List.length_append, hl]; rfl, ri.snoc lt, fun x hx => ?_, fun x hx => ?_, by omega, ?_, kk L _ L_a hLu⟩
      · rcases List.mem_append.mp hx with h | h
        · have := lt x h
          omega
        · rw [List.mem_singleton.mp h]
          omega
      · rcases List.mem_append.mp hx with h | h
        · exact bd x h
        · rw [List.mem_singleton.mp h]
          omega
      · rw [Int.natCast_succ, Int.add_mul]
        omega
    · rintro σ H4 ⟨mm, u, ns, rfl, k4, src4, hl, ri, lt, bd, m1, m2, hL⟩
      rw [Int.toNat_natCast] at src4 hl
      exact ⟨_, rfl, q L ns H4 fL k4 src4 hl ri bd hL⟩
end
end LW
namespace LW
open PySem PySem.Spec PyProof.Rows L2 Evl SB
section
variable {P : Program} {w : World} {K : PySem.W.Frag} {mg : Str → Option Value} {base : Heap}
theorem ixN_nat {n j : Nat} (h : j < n) : ixN n (j : Int) = some j := by
  unfold ixN
  rw [if_pos (by omega), if_pos (by omega), Int.toNat_natCast]
theorem at_mem (xs : List V) {d : Int} (h0 : 0 ≤ d) (h1 : d < xs.length) : ∃ v, v ∈ xs ∧ atI xs d = some v := by
  obtain ⟨i, rfl⟩ := Int.eq_ofNat_of_zero_le h0
  have hi : i < xs.length := by omega
  exact ⟨xs[i], List.getElem_mem hi, atI_nat (List.getElem?_eq_getElem hi)⟩
theorem pickL {K : PySem.W.Frag} {a L : Addr} {n : Nat} {m : Int} {xs : List V} {H3 : Hp} {E : XK} {Q' : VK} (hm : m = (xs.length : Int)) (h0 : 0 < xs.length) (h1 : xs.length ≤ 1000) (hn : n ≤ 1000000) (src3 : Src H3 a n) (hL : H3 L = some (.lst xs)) (ne : L ≠ a)
    (k : ∀ v H', v ∈ xs → Kp a H3 H' → Src H' a (n + 1) → Q' v H') : sp_draw ([V.ref a, .int m] ++ []) H3 (fun d H5 => rIxL K (.ref L) d H5 Q') E := by
  subst hm
  refine ⟨a, _, n, rfl, src3, hn, by omega, ?_, fun d H5 d0 d1 src5 k5 => ?_⟩
  · have : (1000 : Int) < 2 ^ 200 := by decide
    omega
  obtain ⟨v, hv, hi⟩ := at_mem xs d0 d1
  exact ⟨L, _, d, _, rfl, rfl, sq_of (k5 L _ ne hL), hi, k v H5 hv k5 src5⟩
/-- any value with what is asked of it -/
def Thg (K : PySem.W.Frag) (a : Addr) (H : Hp) (v : V) : Prop := ∃ o d, Shw d ∧ ∀ H', Kp a H H' → AsLs K H' v o ∧ DpD K H' v d
theorem shw_t {ns : List Int} (h : ∀ n ∈ ns, n.natAbs < 2 ^ 200) (hl : ns.length ≤ 1000) : Shw (.tuple (dI ns)) ∧ (PyData.tuple (dI ns)).hasDict = false := by
  obtain ⟨h1, h2, h3, h4, h5⟩ := show_ints ns h
  refine ⟨⟨?_, ?_, ?_⟩, ?_⟩
  · simp only [PyData.showable, h1]
  · simp only [PyData.depth, h3]
    omega
  · simp only [PyData.shown]
    have := tupleText_len_le (PyData.shownAll (dI ns))
    rw [sizeLine_eq]
    omega
  · simp only [PyData.hasDict, h2]
theorem cal_linteger (T : Tx K mg) : Cal P w K mg base CX0 1 "_law_is_integer" ["_law_thing"] (sp_is_int K) := by
  refine T.d_law_is_integer.cal sc_law_is_integer (fun vs H Q E h => ?_) (fun _ _ _ _ _ _ us hl => match us, hl with | [_], _ => rfl) (fun f cdv A outer s H vs Q E hr h => ⟨_, (pss_one (ps_ret (pe_and (pe_callB call_isi (by rfl) T.b_isinstance (by decide +kernel) (pa_cons (pv 0) (pa_cons (pe_bltn (v := .ty "int") (by rfl) T.b_int (by decide +kernel) rfl) pa_nil))) (pe_one (pe_not (pe_callB call_isi (by rfl) T.b_isinstance (by decide +kernel) (pa_cons (pv 0) (pa_cons (pe_bltn (v := .ty "bool") (by rfl) T.b_bool (by decide +kernel) rfl) pa_nil)))))))), ?_⟩)
  · obtain ⟨v, n, rfl, _⟩ := h
    rfl
  · obtain ⟨v, n, rfl, ty, q⟩ := h
    refine ⟨v, rfl, v, .ty "int", _, _, _, rfl, .ty _, ty.x, ty.kit (.inl rfl), _, rfl, ?_⟩
    cases ty with
    | int i => exact ⟨_, rfl, _, .ty "bool", _, _, _, rfl, .ty _, (TyN.int i : TyN K H _ _).x, (TyN.int i : TyN K H _ _).kit (.inr (.inl rfl)), _, rfl, q⟩
    | bl b => exact ⟨_, rfl, _, .ty "bool", _, _, _, rfl, .ty _, (TyN.bl b : TyN K H _ _).x, (TyN.bl b : TyN K H _ _).kit (.inr (.inl rfl)), _, rfl, q⟩
    | _ => exact q
theorem _root_.SB.Kp2.trans' {a b : Addr} {H H1 H2 : Hp} (x : Kp2 a b H H1) (y : Kp2 a b H1 H2) : Kp2 a b H H2 := fun c o n1 n2 h => y c o n1 n2 (x c o n1 n2 h)
theorem _root_.SB.Kp.kp2 {a b : Addr} {H H' : Hp} (k : Kp a H H') : Kp2 a b H H' := fun c o n1 _ h => k c o n1 h
/-- an item of a list that is written over: it lasts while the source at a and the list at L change -/
def GI (K : PySem.W.Frag) (a L : Addr) (H : Hp) (v : V) : Prop := ∃ d n, (∀ H', Kp2 a L H H' → Dp K H' v d ∧ TyN K H' v n) ∧ d.hasDict = false ∧ d.canLay0 = true ∧ d.showable = true ∧ d.depth ≤ 1 ∧ d.shown.length ≤ 110
theorem GI.kp {a L : Addr} {H H' : Hp} {v : V} (k : Kp2 a L H H') (h : GI K a L H v) : GI K a L H' v := by
  obtain ⟨d, n, h1, r⟩ := h
  exact ⟨d, n, fun H2 k2 => h1 H2 (k.trans' k2), r⟩
theorem GI.int {a L : Addr} {H : Hp} {i : Int} (h : i.natAbs < 2 ^ 100) : GI K a L H (.int i) := by
  have hl : i.natAbs.log2 < 100 := int_log (by decide) h
  refine ⟨.int i, "int", fun _ _ => ⟨.int i, .int i⟩, rfl, rfl, ?_, ?_, ?_⟩
  · simp only [PyData.showable, decide_eq_true_eq]
    omega
  · simp [PyData.depth]
  · show (Str.ofString (toString i)).length ≤ 110
    rw [PySem.ofString_length]
    have := int_text_length_le (k := 100) (by decide) hl
    omega
theorem GI.bl {a L : Addr} {H : Hp} {b : Bool} : GI K a L H (.bl b) := by
  refine ⟨.bool b, "bool", fun _ _ => ⟨.bl b, .bl b⟩, rfl, rfl, ?_, ?_, ?_⟩ <;> cases b <;> decide +kernel
theorem GI.non {a L : Addr} {H : Hp} : GI K a L H .non := ⟨.none, "NoneType", fun _ _ => ⟨.non, .non⟩, rfl, rfl, by decide +kernel, by decide +kernel, by decide +kernel⟩
theorem GI.s4 {a L : Addr} {H : Hp} : GI K a L H (.str "4") := ⟨.str "4", "str", fun _ _ => ⟨.str _, .str _⟩, rfl, by decide +kernel, by decide +kernel, by decide +kernel, by decide +kernel⟩
theorem GI.s0 {a L : Addr} {H : Hp} : GI K a L H (.str "") := ⟨.str "", "str", fun _ _ => ⟨.str _, .str _⟩, rfl, by decide +kernel, by decide +kernel, by decide +kernel, by decide +kernel⟩
theorem GI.l4 {a L p : Addr} {H : Hp} (h : H p = some (.lst [.int 4])) (ha : p ≠ a) (hL : p ≠ L) : GI K a L H (.ref p) :=
  ⟨.list [.int 4], "list", fun H' k => ⟨.lst (sq_of (k _ _ ha hL h)) (.cons (.int 4) .nil), .lst (sq_of (k _ _ ha hL h))⟩, rfl, by decide +kernel, by decide +kernel, by decide +kernel, by decide +kernel⟩
theorem GI.t4 {a L p : Addr} {H : Hp} (h : H p = some (.tup [.int 4])) (ha : p ≠ a) (hL : p ≠ L) : GI K a L H (.ref p) :=
  ⟨.tuple [.int 4], "tuple", fun H' k => ⟨.tup (st_of (k _ _ ha hL h)) (.cons (.int 4) .nil), .tup (st_of (k _ _ ha hL h))⟩, rfl, by decide +kernel, by decide +kernel, by decide +kernel, by decide +kernel⟩
theorem gi_all {a L : Addr} {H : Hp} : ∀ {xs : List V}, (∀ x ∈ xs, GI K a L H x) → ∃ ds, (∀ H', Kp2 a L H H' → DpAll K H' xs ds ∧ ∀ x ∈ xs, Any K H' x) ∧ PyData.hasDictAll ds = false ∧ PyData.canLayAll0 ds = true ∧ PyData.showableAll ds = true ∧ PyData.depthAll ds ≤ 1 ∧ ((PyData.shownAll ds).map (·.length)).sum ≤ 110 * xs.length ∧ (PyData.shownAll ds).length = xs.length
  | [], _ => ⟨[], fun _ _ => ⟨.nil, fun x hx => by cases hx⟩, by simp [PyData.hasDictAll], by simp [PyData.canLayAll0], by simp [PyData.showableAll], by simp [PyData.depthAll], by simp [PyData.shownAll], by simp [PyData.shownAll]⟩
  | x :: xs, h => by
    obtain ⟨ds, h1, h2, h3, h4, h5, h6, h7⟩ := gi_all fun y hy => h y (List.mem_cons_of_mem _ hy)
    obtain ⟨d, n, e1, e2, e3, e4, e5, e6⟩ := h x (List.mem_cons_self ..)
    refine ⟨d :: ds, fun H' k => ⟨.cons (e1 H' k).1 (h1 H' k).1, fun y hy => ?_⟩, by simp [PyData.hasDictAll, h2, e2], by simp [PyData.canLayAll0, h3, e3], by simp [PyData.showableAll, h4, e4], ?_, ?_, ?_⟩
    · rcases List.mem_cons.mp hy with rfl | hy
      · exact ⟨_, (e1 H' k).2⟩
      · exact (h1 H' k).2 y hy
    · simp only [PyData.depthAll]
      omega
    · simp only [PyData.shownAll, List.map_cons, List.sum_cons, List.length_cons]
      omega
    · simp only [PyData.shownAll, List.length_cons, h7]
theorem gi_shaped {ds : List PyData} (h1 : PyData.canLayAll0 ds = true) (h2 : PyData.depthAll ds ≤ 1) : SeqAt.shaped (.list ds) = true := by
  unfold SeqAt.shaped
  rw [Bool.and_eq_true]
  refine ⟨?_, decide_eq_true ?_⟩
  · simp only [PyData.canLay0, h1]
  · simp only [PyData.depth]
    omega
theorem gi_thg {a L : Addr} {H : Hp} {xs : List V} (La : L ≠ a) (sq : H L = some (.lst xs)) (h : ∀ x ∈ xs, GI K a L H x) (hl : xs.length ≤ 1000) : Thg K a H (.ref L) := by
  obtain ⟨ds, h1, h2, h3, h4, h5, h6, h7⟩ := gi_all h
  refine ⟨some xs, .list ds, ⟨?_, ?_, ?_⟩, fun H' k => ⟨.yes rfl (sq_of (k _ _ La sq)) (h1 H' k.kp2).2 hl, .old (.lst (sq_of (k _ _ La sq)) (h1 H' k.kp2).1) (by simpa [PyData.hasDict] using h2)⟩⟩
  · simpa [PyData.showable] using h4
  · simp only [PyData.depth]
    omega
  · simp only [PyData.shown]
    have := listText_len_le (PyData.shownAll ds)
    rw [sizeLine_eq]
    omega
def sp_odd (K : PySem.W.Frag) : Sp := fun vs H Q _ => ∃ (a : Addr) (n : Nat), vs = [.ref a] ∧ Src H a n ∧ n ≤ 400000 ∧ ∀ v H', Kp a H H' → Src H' a (n + 100) → Thg K a H' v → Q v H'
theorem cal_odd (T : Tx K mg) : Cal P w K mg base CX0 3 "_law_odd_signal" ["_law_source_here"] (sp_odd K) := by
  have c_law_draw := cal_draw (P := P) (w := w) (base := base) T
  have c_law_signal := cal_lsignal (P := P) (w := w) (base := base) T
  refine T.d_law_odd_signal.cal sc_law_odd_signal (fun vs H Q E h => ?_) (fun _ _ _ _ _ _ us hl => match us, hl with | [_], _ => rfl) (fun f cdv A outer s H vs Q E hr h => ⟨_, (pss_cons (ps_set (i := 1) sc_law_odd_signal.nd rfl (Or.inl rfl) (pe_cal c_law_signal (hr.mono (by decide)) pass0 (pa_cons (pv 0) (pa_cons (pe_cal c_law_draw (hr.mono (by decide)) pass0 (pa_cons (pv 0) (pa_cons pe_int pa_nil))) pa_nil))))
      (pss_cons (ps_set (i := 2) sc_law_odd_signal.nd rfl (Or.inl rfl) (pe_cal c_law_draw (hr.mono (by decide)) pass0 (pa_cons (pv 0) (pa_cons pe_int pa_nil))))
      (pss_cons (ps_if (pt_cmpR op_eq (pv 2) pe_int (nomark _)) (pss_one (ps_ret (pe_ix ix_list (pe_lst (pa_cons pe_non (pa_cons (pe_tup (pa_cons pe_int (pa_cons pe_int pa_nil))) (pa_cons pe_str (pa_cons pe_int (pa_cons pe_dnewK (pa_cons (pe_disp (pps_cons pe_int pe_int pps_nil) (by rfl) (by rfl) (fun z => by cases z) (by decide)) (pa_cons pe_bl (pa_cons (pe_tup pa_nil) pa_nil))))))))) (pe_cal c_law_draw (hr.mono (by decide)) pass0 (pa_cons (pv 0) (pa_cons pe_int pa_nil))) (fun _ _ => rfl)))) pss_nil)
      (pss_cons (ps_for PassesOwn.never rfl (pi_range1 rfl T.b_range (pa_cons (pe_cal c_law_draw (hr.mono (by decide)) pass0 (pa_cons (pv 0) (pa_cons pe_int pa_nil))) pa_nil)) (pg_name (i := 3) sc_law_odd_signal.nd rfl (Or.inl rfl)) (pss_one (ps_if (pt_cmpR (op_neD hr.units) (pv 1) (pe_lst pa_nil) (nomark _)) (pss_cons (ps_set (i := 4) sc_law_odd_signal.nd rfl (Or.inl rfl) (pe_cal c_law_draw (hr.mono (by decide)) pass0 (pa_cons (pv 0) (pa_cons (pe_callB call_len_seq (by rfl) T.b_len (by decide +kernel) (pa_cons (pv 1) pa_nil)) pa_nil))))
      (pss_cons (ps_set (i := 5) sc_law_odd_signal.nd rfl (Or.inl rfl) (pe_ix ix_list (pv 1) (pe_cal c_law_draw (hr.mono (by decide)) pass0 (pa_cons (pv 0) (pa_cons (pe_callB call_len_seq (by rfl) T.b_len (by decide +kernel) (pa_cons (pv 1) pa_nil)) pa_nil))) (fun _ _ => rfl)))
      (pss_cons (ps_set (i := 6) sc_law_odd_signal.nd rfl (Or.inl rfl) (pe_lst (pa_cons pe_bl (pa_cons pe_non (pa_cons pe_str (pa_cons (pe_lst (pa_cons pe_int pa_nil)) (pa_cons (pe_tup (pa_cons pe_int pa_nil)) (pa_cons pe_bl (pa_cons (pv 5) (pa_cons (pv 5) (pa_cons (pe_ix ix_list (pv 1) (pe_callB (call_max2 rfl) (by rfl) T.b_max (by decide +kernel) (pa_cons pe_int (pa_cons (pe_op op_sub (pv 4) pe_int) pa_nil))) (fun _ _ => rfl)) (pa_cons (pe_un un_neg (pe_op op_powB pe_int pe_int)) (pa_cons pe_str (pa_cons (pv 5) pa_nil))))))))))))))
      (pss_one (ps_asg (pe_ix ix_list (pv 6) (pe_cal c_law_draw (hr.mono (by decide)) pass0 (pa_cons (pv 0) (pa_cons pe_int pa_nil))) (fun _ _ => rfl)) (pg_sub (pv 1) (pv 4) set_list)))))) pss_nil)))
      (pss_one (ps_ret (pv 1))))))), ?_⟩)
  · obtain ⟨a, n, rfl, _⟩ := h
    rfl
  · obtain ⟨a, n, rfl, src, hn, q⟩ := h
    refine ⟨_, rfl, _, rfl, a, 12, n, rfl, src, by omega, by decide, by decide, fun d H1 d0 d1 src1 k1 => ?_⟩
    refine ⟨a, n + 1, d.toNat, by rw [Int.toNat_of_nonneg d0]; rfl, src1, by omega, by omega, fun L ns H2 nL k2 src2 hl ri bd hL => ?_⟩
    have L_a : L ≠ a := src1.ne nL
    have fL : H L = none := k1.free nL L_a
    have k02 := k1.trans k2
    have src2' : Src H2 a (n + 50) := src2.mono (by omega)
    refine ⟨_, rfl, a, 7, n + 50, rfl, src2', by omega, by decide, by decide, fun wy H3 w0 w1 src3 k3 => ?_⟩
    have k03 := k02.trans k3
    have hL3 := k3 _ _ L_a hL
    refine ⟨_, rfl, rfl, _, rfl, ite2 (fun _ => ?_) (fun _ => ?_)⟩
    · refine ⟨(by show 2 ≤ sizeLine; decide), fun t nt => fun c1 nc => fun p2 n2 => ⟨upd_same, [(.inl 0, .int 1)], rfl, (by decide), (by show 0 ≤ sizeLine; decide), fun e1 ne => ⟨(by show 8 ≤ sizeLine; decide), fun M nM => ⟨_, rfl, ?_⟩⟩⟩⟩
      have x1 := fun o => Ex.new (o := o) nM
      have x2 := fun o => (Ex.new (o := .tup []) ne).trans (x1 o)
      have x3 := fun o => (Ex.mut (o := .dK (mergeK [] [(Sum.inl 0, V.int 1)])) (Ex.new (o := .dK []) n2) n2).trans (x2 o)
      have x4 := fun o => (Ex.new (o := .dK []) nc).trans (x3 o)
      have x5 := fun o => (Ex.new (o := .tup [.int 0, .int 3]) nt).trans (x4 o)
      have ta : t ≠ a := src3.ne nt
      have s1 := src3.ex (Ex.new (o := .tup [.int 0, .int 3]) nt)
      have ca : c1 ≠ a := s1.ne nc
      have s2 := s1.ex (Ex.new (o := .dK []) nc)
      have pa : p2 ≠ a := s2.ne n2
      have s3 := s2.ex (Ex.mut (o := .dK (mergeK [] [(Sum.inl 0, V.int 1)])) (Ex.new (o := .dK []) n2) n2)
      have ea : e1 ≠ a := s3.ne ne
      have s4 := s3.ex (Ex.new (o := .tup []) ne)
      have Ma : M ≠ a := s4.ne nM
      refine pickL (E := E0) (n := n + 51) rfl (by simp) (by simp) (by omega) (s4.ex (x1 _)) upd_same Ma (fun v H' hv kp sr => q v H' ((k03.trans (Ex.kp (x5 _))).trans kp) (sr.mono (by omega)) ?_)
      have gt := fun H'' (k : Kp a H' H'') => k t _ ta (kp t _ ta (x4 _ t _ upd_same))
      have gc := fun H'' (k : Kp a H' H'') => k c1 _ ca (kp c1 _ ca (x3 _ c1 _ upd_same))
      have gp := fun H'' (k : Kp a H' H'') => k p2 _ pa (kp p2 _ pa (x2 _ p2 _ upd_same))
      have ge := fun H'' (k : Kp a H' H'') => k e1 _ ea (kp e1 _ ea (x1 _ e1 _ upd_same))
      simp only [List.mem_cons, List.not_mem_nil, or_false] at hv
      rcases hv with rfl | rfl | rfl | rfl | rfl | rfl | rfl | rfl
      · exact ⟨none, _, ⟨by decide +kernel, by decide +kernel, by decide +kernel⟩, fun H'' k => ⟨.no .non (by decide), .old .non rfl⟩⟩
      · exact ⟨none, .tuple [.int 0, .int 3], ⟨by decide +kernel, by decide +kernel, by decide +kernel⟩, fun H'' k => ⟨.no (.tup (.inl (.inl (gt H'' k)))) (by decide), .old (.tup (.inl (.inl (gt H'' k))) (.cons (.int 0) (.cons (.int 3) .nil))) rfl⟩⟩
      · exact ⟨none, .str "03", ⟨by decide +kernel, by decide +kernel, by decide +kernel⟩, fun H'' k => ⟨.no (.str _) (by decide), .old (.str _) rfl⟩⟩
      · exact ⟨none, .int 5, ⟨by decide +kernel, by decide +kernel, by decide +kernel⟩, fun H'' k => ⟨.no (.int _) (by decide), .old (.int _) rfl⟩⟩
      · exact ⟨none, .dict [], ⟨by decide +kernel, by decide +kernel, by decide +kernel⟩, fun H'' k => ⟨.no (.dct (gc H'' k)) (by decide), .dct0 (gc H'' k)⟩⟩
      · exact ⟨none, .dict [(.int 0, .int 1)], ⟨by decide +kernel, by decide +kernel, by decide +kernel⟩, fun H'' k => ⟨.no (.dct (gp H'' k)) (by decide), .dct1 (k := .inl 0) (gp H'' k) (.int 1) rfl⟩⟩
      · exact ⟨none, .bool true, ⟨by decide +kernel, by decide +kernel, by decide +kernel⟩, fun H'' k => ⟨.no (.bl _) (by decide), .old (.bl _) rfl⟩⟩
      · exact ⟨none, .tuple [], ⟨by decide +kernel, by decide +kernel, by decide +kernel⟩, fun H'' k => ⟨.no (.tup (.inl (.inl (ge H'' k)))) (by decide), .old (.tup (.inl (.inl (ge H'' k))) .nil) rfl⟩⟩
    · refine ⟨_, rfl, a, 3, n + 51, rfl, src3, by omega, by decide, by decide, fun d3 H4 d30 d31 src4 k4 => ⟨d3, rfl, by omega, by omega, ?_⟩⟩
      refine for_range (lo := 0) (n := d3.toNat) (fun i σ H5 => ∃ xs u1 u2 u3 u4, σ = [some (.ref a), some (.ref L), some (.int wy), u1, u2, u3, u4] ∧ Kp a H H5 ∧ Src H5 a (n + 52 + 3 * i) ∧ H5 L = some (.lst xs) ∧ (∀ x ∈ xs, GI K a L H5 x) ∧ xs.length ≤ 12)
        ⟨ns.map V.int, none, none, none, none, rfl, k03.trans k4, src4, k4 _ _ L_a hL3, ?_, by rw [List.length_map]; omega⟩ ?_ ?_
      · intro x hx
        obtain ⟨y, hy, rfl⟩ := List.mem_map.mp hx
        have := bd y hy
        exact GI.int (by omega)
      · rintro i σ H5 hi ⟨xs, u1, u2, u3, u4, rfl, k5, src5, hL5, gi, xl⟩
        have i3 : i < 3 := by omega
        refine ⟨_, rfl, Nat.zero_le _, fun EA nE => ?_⟩
        have eE := Ex.new nE (o := .lst [])
        have hE : (upd H5 EA (.lst [])) EA = some (.lst []) := upd_same
        have hL6 := eE _ _ hL5
        have src6 := src5.ex eE
        have gi6 : ∀ x ∈ xs, GI K a L (upd H5 EA (.lst [])) x := fun x hx => (gi x hx).kp (Ex.kp (a := a) eE).kp2
        have k6 := k5.trans (Ex.kp eE)
        generalize upd H5 EA (.lst []) = H6 at hE hL6 src6 gi6 k6
        obtain ⟨ds, g1, g2, g3, g4, g5, g6, g7⟩ := gi_all gi6
        refine ⟨.list ds, .list [], .lst (sq_of hL6) (g1 H6 Kp2.refl).1, .lst (sq_of hE) .nil, gi_shaped g3 g5, by decide +kernel, _, rfl, ?_⟩
        cases xs with
        | nil =>
          cases (g1 H6 Kp2.refl).1
          refine (show (if (!PyData.eqv (.list []) (.list [])) = true then _ else _) from ?_)
          rw [show PyData.eqv (.list []) (.list []) = true by decide +kernel]
          exact iteF ⟨[], _, _, _, _, rfl, k6, src6.mono (by omega), hL6, (fun _ h => by cases h), Nat.zero_le _⟩
        | cons x0 xs0 =>
          have ev : PyData.eqv (.list ds) (.list []) = false := by
            cases (g1 H6 Kp2.refl).1
            rfl
          rw [ev]
          generalize hxs : x0 :: xs0 = xs at hL6 gi6 xl g1
          have xp : 0 < xs.length := by rw [← hxs]; simp
          clear g1 ev gi hL5
          have m200 : (1000 : Int) < 2 ^ 200 := by decide
          refine (show (if (!false) = true then _ else _) from iteT ?_)
          refine ⟨_, rfl, _, rfl, L, _, rfl, .inl (sq_of hL6), a, _, _, rfl, src6, by omega, by omega, by omega, fun e H7 e0 e1 src7 k7 => ?_⟩
          obtain ⟨j, rfl⟩ := Int.eq_ofNat_of_zero_le e0
          have hj : j < xs.length := by omega
          have hL7 := k7 _ _ L_a hL6
          refine ⟨_, rfl, _, rfl, _, rfl, L, _, rfl, .inl (sq_of hL7), ?_⟩
          refine pickL (E := E0) (n := n + 52 + 3 * i + 1) rfl xp (by omega) (by omega) src7 hL7 L_a (fun ot H8 hot k8 src8 => ?_)
          have hL8 := k8 _ _ L_a hL7
          have gi8 : ∀ x ∈ xs, GI K a L H8 x := fun x hx => (gi6 x hx).kp (k7.trans k8).kp2
          have got := gi8 ot hot
          refine ⟨(by show 1 ≤ sizeLine; decide), fun p1 n1 => ⟨(by show 1 ≤ sizeLine; decide), fun p2 n2 => ⟨_, rfl, _, rfl, _, rfl, _, rfl, _, _, rfl, rfl, _, _, rfl, ?_⟩⟩⟩
          have eP := (Ex.new n1 (o := .lst [.int 4])).trans (Ex.new n2 (o := .tup [.int 4]))
          have hp1 : (upd (upd H8 p1 (.lst [.int 4])) p2 (.tup [.int 4])) p1 = some (.lst [.int 4]) := Ex.new n2 _ _ upd_same
          have hp2 : (upd (upd H8 p1 (.lst [.int 4])) p2 (.tup [.int 4])) p2 = some (.tup [.int 4]) := upd_same
          have p1a : p1 ≠ a := src8.ne n1
          have p2a : p2 ≠ a := (src8.ex (Ex.new n1 (o := .lst [.int 4]))).ne n2
          have p1L : p1 ≠ L := fun z => by rw [z, hL8] at n1; cases n1
          have p2L : p2 ≠ L := fun z => by rw [z, Ex.new n1 _ _ hL8] at n2; cases n2
          have src9 := src8.ex eP
          have hL9 := eP _ _ hL8
          have gi9 : ∀ x, GI K a L H8 x → GI K a L (upd (upd H8 p1 (.lst [.int 4])) p2 (.tup [.int 4])) x := fun x h => h.kp (Ex.kp (a := a) eP).kp2
          have k9 := (((k6.trans k7).trans k8).trans (Ex.kp eP))
          generalize upd (upd H8 p1 (.lst [.int 4])) p2 (.tup [.int 4]) = H9 at hp1 hp2 src9 hL9 gi9 k9
          obtain ⟨pv, hpv, hat⟩ := at_mem xs (d := if (j : Int) - 1 > 0 then (j : Int) - 1 else 0) (by split <;> omega) (by split <;> omega)
          refine ⟨L, _, _, pv, rfl, rfl, sq_of hL9, hat, 10, 29, rfl, rfl, cpow10 29 (by decide) (by decide), _, rfl, _, rfl, (by show 12 ≤ sizeLine; decide), fun M nM => ?_⟩
          have eM := fun o => Ex.new (o := o) nM
          refine ⟨_, rfl, _, rfl, ?_⟩
          refine pickL (E := E0) (xs := [.bl true, .non, .str "4", .ref p1, .ref p2, .bl false, ot, ot, pv, .int (-(10 ^ (29 : Int).toNat)), .str "", ot]) (n := n + 52 + 3 * i + 2) rfl (by show 0 < 12; decide) (by show 12 ≤ 1000; decide) (by omega) (src9.ex (eM _)) upd_same (src9.ne nM) (fun v H10 hv k10 src10 => ?_)
          have hL10 := k10 _ _ L_a (eM _ _ _ hL9)
          refine ⟨_, rfl, _, rfl, L, _, (j : Int), j, rfl, rfl, hL10, ixN_nat hj, ?_⟩
          have k910 : Kp a H9 H10 := (Ex.kp (eM _)).trans k10
          refine ⟨_, _, _, _, _, rfl, (k9.trans k910).mut fL, (src10.upd L_a).mono (by omega), upd_same, fun x hx => ?_, by rw [List.length_set]; exact xl⟩
          refine GI.kp (Kp2.refl.updB (o := .lst (xs.set j v))) ?_
          rcases List.mem_or_eq_of_mem_set hx with hx | rfl
          · exact (gi9 x (gi8 x hx)).kp k910.kp2
          · refine GI.kp k910.kp2 ?_
            simp only [List.mem_cons, List.not_mem_nil, or_false] at hv
            rcases hv with rfl | rfl | rfl | rfl | rfl | rfl | rfl | rfl | rfl | rfl | rfl | rfl
            · exact .bl
            · exact .non
            · exact .s4
            · exact .l4 hp1 p1a p1L
            · exact .t4 hp2 p2a p2L
            · exact .bl
            · exact gi9 _ got
            · exact gi9 _ got
            · exact gi9 _ (gi8 _ hpv)
            · exact .int (by decide)
            · exact .s0
            · exact gi9 _ got
      · rintro σ H5 ⟨xs, u1, u2, u3, u4, rfl, k5, src5, hL5, gi, xl⟩
        exact ⟨_, rfl, q _ H5 k5 (src5.mono (by omega)) (gi_thg L_a hL5 gi (by omega))⟩
def sp_fault (K : PySem.W.Frag) : Sp := fun vs H Q _ => ∃ v o, vs = [v] ∧ AsLs K H v o ∧ ∀ r H', Ex H H' → (r = .non ∨ ∃ i : Int, r = .int i) → decide (r = .int (-1)) = isSg o → Q r H'
theorem cal_fault (T : Tx K mg) : Cal P w K mg base CX0 2 "_law_signal_fault" ["_law_thing"] (sp_fault K) := by
  have c_law_is_integer := cal_linteger (P := P) (w := w) (base := base) T
  refine T.d_law_signal_fault.cal sc_law_signal_fault (fun vs H Q E h => ?_) (fun _ _ _ _ _ _ us hl => match us, hl with | [_], _ => rfl) (fun f cdv A outer s H vs Q E hr h => ⟨_, (pss_cons (ps_if (PW.pt (pw_or (pt_not (pt_val (pe_callB call_isi (by rfl) T.b_isinstance (by decide +kernel) (pa_cons (pv 0) (pa_cons (pe_bltn (v := .ty "list") (by rfl) T.b_list (by decide +kernel) rfl) pa_nil))))) (pw_or1 (pt_cmpR op_gt (pe_callB call_len_seq (by rfl) T.b_len (by decide +kernel) (pa_cons (pv 0) pa_nil)) pe_int (nomark _))))) (pss_one (ps_ret pe_non)) pss_nil)
      (pss_cons (ps_for PassesOwn.never rfl (pi_enum (by rfl) T.b_enumerate (pa_cons (pv 0) pa_nil)) (pg_tup rfl (pgs_cons (pg_name (i := 1) sc_law_signal_fault.nd rfl (Or.inl rfl)) (pgs_cons (pg_name (i := 2) sc_law_signal_fault.nd rfl (Or.inl rfl)) pgs_nil))) (pss_cons (ps_if (pt_not (pt_val (pe_cal c_law_is_integer (hr.mono (by decide)) pass0 (pa_cons (pv 2) pa_nil)))) (pss_one (ps_ret (pv 1))) pss_nil)
      (pss_one (ps_if (PW.pt (pw_and (pt_cmpR op_gt (pv 1) pe_int (nomark _)) (pw_and1 (pt_cmpR op_le (pv 2) (pe_ix ix_list (pv 0) (pe_op op_sub (pv 1) pe_int) (fun _ _ => rfl)) (nomark _))))) (pss_one (ps_ret (pv 1))) pss_nil))))
      (pss_one (ps_ret (pe_un un_neg pe_int))))), ?_⟩)
  · obtain ⟨v, o, rfl, _⟩ := h
    rfl
  · obtain ⟨v, o, rfl, as, q⟩ := h
    cases as with
    | @no n ty hn =>
      refine ⟨_, rfl, v, .ty "list", _, _, false, rfl, .ty _, ty.x, ?_, _, rfl, iteT (q .non H (Ex.refl H) (.inl rfl) rfl)⟩
      have e := ty.kit (m := "list") (by simp)
      exact e.trans (by simp [hn])
    | @yes a xs e sq all hl =>
      subst e
      refine ⟨_, rfl, _, .ty "list", _, _, true, rfl, .ty _, (TyN.lst sq).x, ki, true, rfl, iteF ?_⟩
      refine ⟨_, rfl, a, xs, rfl, .inl sq, _, _, rfl, rfl, _, rfl, ite2 (fun h => ?_) (fun h => ?_)⟩
      · have h : (800 : Int) < xs.length := of_decide_eq_true h
        refine q .non H (Ex.refl H) (.inl rfl) ?_
        show false = (decide (xs.length ≤ 800) && sgB xs)
        rw [decide_eq_false (by omega)]
        rfl
      have h8 : xs.length ≤ 800 := by
        have h : ¬ (800 : Int) < xs.length := fun c => h (decide_eq_true c)
        omega
      refine ⟨_, rfl, a, _, rfl, sq, ?_⟩
      refine for_enum (K := K) (a := a) (xs := xs) (fun i σ H1 => ∃ u v, σ = [some (.ref a), u, v] ∧ Ex H H1 ∧ ∀ j, j < i → okS xs j = true) ⟨none, none, rfl, Ex.refl H, fun j h => absurd h (Nat.not_lt_zero _)⟩ (fun i σ H1 _ ⟨_, _, _, e, _⟩ => ex_l e sq) ?_ ?_
      · rintro i x T1 σ H1 hx ⟨u, v, rfl, ex, ok⟩ nT
        have hi := (List.getElem?_eq_some_iff.mp hx).1
        have ex2 : Ex H (upd H1 T1 (.tup [.int (i : Nat), x])) := ex.trans (Ex.new nT)
        have bad : okS xs i = false → ∀ H', Ex H H' → Q (.int (i : Nat)) H' := fun h H' e' => by
          refine q _ H' e' (.inr ⟨_, rfl⟩) ?_
          show decide (V.int (i : Nat) = V.int (-1)) = (decide (xs.length ≤ 800) && sgB xs)
          rw [sgB_no hi h, Bool.and_false]
          refine decide_eq_false fun c => ?_
          injection c with c
          omega
        refine ⟨T1, _, rfl, .inl (.inl upd_same), rfl, _, _, rfl, _, _, rfl, rfl, ?_⟩
        obtain ⟨n, ty⟩ := (all x (List.mem_of_getElem? hx)).ex ex2
        have no : (∀ t, x ≠ .int t) → okS xs i = false := fun h => by
          unfold okS
          rw [hx]
          cases x with
          | int t => exact absurd rfl (h t)
          | _ => rfl
        refine ⟨_, rfl, x, n, rfl, ty, _, rfl, ?_⟩
        cases ty with
        | int t =>
          refine iteF ⟨_, rfl, _, _, rfl, rfl, _, rfl, ite2 (fun h => ?_) (fun h => ?_)⟩
          · have h : (0 : Int) < (i : Int) := of_decide_eq_true h
            obtain ⟨y, hy⟩ := okS_int (ok (i - 1) (by omega))
            have e1 : (i : Int) - 1 = ((i - 1 : Nat) : Int) := by omega
            refine ⟨_, rfl, _, rfl, _, rfl, _, _, rfl, rfl, a, _, _, _, rfl, rfl, ex_l ex2 sq, atI_i _ (i - 1) e1 hy, _, _, rfl, rfl, _, rfl, ite2 (fun h2 => ?_) (fun h2 => ?_)⟩
            · have h2 : t ≤ y := of_decide_eq_true h2
              refine ⟨_, rfl, bad ?_ _ ex2⟩
              unfold okS
              rw [hx, hy]
              have : ¬ y < t := by omega
              have i0 : ¬ i = 0 := by omega
              simp [this, i0]
            · have h2 : ¬ t ≤ y := fun c => h2 (decide_eq_true c)
              refine ⟨_, _, rfl, ex2, fun j hj => ?_⟩
              by_cases hji : j = i
              · subst hji
                unfold okS
                rw [hx, hy]
                have : y < t := by omega
                simp [this]
              · exact ok j (by omega)
          · have h : ¬ (0 : Int) < (i : Int) := fun c => h (decide_eq_true c)
            refine ⟨_, _, rfl, ex2, fun j hj => ?_⟩
            have i0 : i = 0 := by omega
            have j0 : j = i := by omega
            subst j0
            unfold okS
            rw [hx]
            simp [i0]
        | _ => exact iteT ⟨_, rfl, bad (no fun t z => nomatch z) _ ex2⟩
      · rintro σ H1 ⟨u, v, rfl, ex, ok⟩
        refine ⟨1, rfl, q _ H1 ex (.inr ⟨_, rfl⟩) ?_⟩
        show true = (decide (xs.length ≤ 800) && sgB xs)
        rw [decide_eq_true h8, sgB_all ok]
        rfl
end
end LW
namespace LW
open PySem PySem.Spec PyProof.Rows L2 Evl SB
section
variable {P : Program} {w : World} {K : PySem.W.Frag} {mg : Str → Option Value} {base : Heap}
theorem str_dec (x : Str) : decide (V.str x = V.str x) = true := decide_eq_true rfl
def sp_llevel (K : PySem.W.Frag) : Sp := fun vs H Q _ => ∃ a ns t, vs = [.ref a, .int t] ∧ SqL K H a (ns.map V.int) ∧ ns.length ≤ 1000 ∧ ∀ H', Ex H H' → Q (.int (lv ns t)) H'
theorem cal_llevel (T : Tx K mg) : Cal P w K mg base CX0 1 "_law_level" ["_law_wire", "_law_moment"] (sp_llevel K) := by
  refine T.d_law_level.cal sc_law_level (fun vs H Q E h => ?_) (fun _ _ _ _ _ _ us hl => match us, hl with | [_, _], _ => rfl) (fun f cdv A outer s H vs Q E hr h => ⟨_, (pss_cons (ps_set (i := 2) sc_law_level.nd rfl (Or.inl rfl) (pe_callB call_len_seq (by rfl) T.b_len (by decide +kernel) (pa_cons (pe_lc rfl sc_law_level.nd (pi_list (pv 0)) (blkOk_by (own := [("_law_change", 3)]) (N := ["_law_wire", "_law_moment", "_law_many", "_law_change"]) (sc := defScope s_law_level) (by decide +kernel)) (fun _ _ _ _ _ => (pg_name (i := 3) sc_law_level.nd rfl (Or.inl rfl))) (fun _ _ _ _ _ => (pts_one (pt_cmpR op_le (pv 3) (pv 1) (nomark _)))) (fun _ _ _ _ _ => pe_int)) pa_nil)))
      (pss_one (ps_ret (pe_op op_sub pe_int (pe_op op_mod (pe_callTy call_int1 (by rfl) T.b_int (by decide +kernel) (pa_cons (pv 2) pa_nil)) pe_int))))), ?_⟩)
  · obtain ⟨a, ns, t, rfl, _⟩ := h
    rfl
  · obtain ⟨a, ns, t, rfl, sq, hl, q⟩ := h
    refine ⟨_, rfl, a, rfl, ⟨_, sq⟩, fun D nD => ?_⟩
    refine lcL RI.lasts RI.lasts nD sq (LR.of_ints ns) (by rw [List.length_map]; omega) (fun c => if c ≤ t then some (1 : Int) else none) (fun i x c H2 hc e2 r0 Kt Kf kt kf => ?_) (fun H2 ys e2 hy lr => ?_)
    · cases (show x = .int c from r0)
      refine ⟨rfl, ?_⟩
      refine ⟨_, rfl, _, rfl, _, _, rfl, rfl, _, rfl, ite2 (fun h => ?_) (fun h => ?_)⟩
      · have h : c ≤ t := of_decide_eq_true h
        exact kt _ _ _ (if_pos h) (Ex.refl _) rfl
      · have h : ¬ c ≤ t := fun z => h (decide_eq_true z)
        exact kf _ (if_neg h) (Ex.refl _)
    obtain rfl := lr.ints
    refine ⟨D, _, rfl, .inl (sq_of hy), _, rfl, .inl ⟨_, rfl, _, _, rfl, rfl, (by show (0 : Int) < 2; decide), _, _, rfl, rfl, ?_⟩⟩
    have := q H2 e2
    rw [List.length_map, fm_len (g := fun c => if c ≤ t then some c else none) (fun c => by split <;> rfl)]
    exact this
def sp_ltick (K : PySem.W.Frag) : Sp := fun vs H Q _ => ∃ (S : Addr) (n : Nat) (a : Addr) (ns : List Int), vs = [.ref S, .ref a] ∧ Src H S n ∧ n ≤ 900000 ∧ H a = some (.lst (ns.map V.int)) ∧ a ≠ S ∧ ns.length ≤ 1000 ∧ (∀ x ∈ ns, -100000000000000000000000000000 ≤ x ∧ x ≤ 20000000000000000000000000000) ∧
  ∀ t H', Kp S H H' → Src H' S (n + 10) → -1000000000000000000000000000000 ≤ t → t ≤ 1000000000000000000000000000000 → Q (.int t) H'
theorem cal_ltick (T : Tx K mg) : Cal P w K mg base CX0 2 "_law_tick" ["_law_source_here", "_law_wire"] (sp_ltick K) := by
  have c_law_draw := cal_draw (P := P) (w := w) (base := base) T
  refine T.d_law_tick.cal sc_law_tick (fun vs H Q E h => ?_) (fun _ _ _ _ _ _ us hl => match us, hl with | [_, _], _ => rfl) (fun f cdv A outer s H vs Q E hr h => ⟨_, (Evl.pss_cut (ps_if (PW.pt (pw_or (pt_cmpR (op_eqD hr.units) (pv 1) (pe_lst pa_nil) (nomark _)) (pw_or1 (pt_cmpR op_eq (pe_cal c_law_draw (hr.mono (by decide)) pass0 (pa_cons (pv 0) (pa_cons pe_int pa_nil))) pe_int (nomark _))))) (pss_one (ps_ret (pe_ix ix_list (pe_lst (pa_cons pe_int (pa_cons (pe_un un_neg (pe_op op_powB pe_int pe_int)) (pa_cons (pe_op op_powB pe_int pe_int) (pa_cons (pe_op op_sub pe_int (pe_cal c_law_draw (hr.mono (by decide)) pass0 (pa_cons (pv 0) (pa_cons pe_int pa_nil)))) pa_nil))))) (pe_cal c_law_draw (hr.mono (by decide)) pass0 (pa_cons (pv 0) (pa_cons pe_int pa_nil))) (fun _ _ => rfl)))) pss_nil)
      (pss_one (ps_ret (pe_op op_add (pe_ix ix_list (pv 1) (pe_cal c_law_draw (hr.mono (by decide)) pass0 (pa_cons (pv 0) (pa_cons (pe_callB call_len_seq (by rfl) T.b_len (by decide +kernel) (pa_cons (pv 1) pa_nil)) pa_nil))) (fun _ _ => rfl)) (pe_ix ix_list (pe_lst (pa_cons pe_int (pa_cons (pe_un un_neg pe_int) (pa_cons pe_int (pa_cons (pe_op op_sub (pe_cal c_law_draw (hr.mono (by decide)) pass0 (pa_cons (pv 0) (pa_cons pe_int pa_nil))) pe_int) pa_nil))))) (pe_cal c_law_draw (hr.mono (by decide)) pass0 (pa_cons (pv 0) (pa_cons pe_int pa_nil))) (fun _ _ => rfl)))))), ?_⟩)
  · obtain ⟨S, n, a, ns, rfl, _⟩ := h
    rfl
  · obtain ⟨S, n, a, ns, rfl, src, hn, ha, a_S, hl, bd, q⟩ := h
    -- a tick far off
    have far : ∀ (H1 : Hp) (n1 : Nat), Kp S H H1 → Src H1 S n1 → n1 ≤ n + 1 → (tRet (tOp (rIxL K) (tLst (tCons (tC (.int 0)) (tCons (tUn (rU fun i => .int (-i)) (tOp (rI CPowB fun i j => .int (i ^ j.toNat)) (tC (.int 10)) (tC (.int 29)))) (tCons (tOp (rI CPowB fun i j => .int (i ^ j.toNat)) (tC (.int 10)) (tC (.int 29))) (tCons (tOp (rI0 fun i j => .int (i - j)) (tC (.int 5)) (tCall sp_draw [] E0 (tCons (tVar 0) (tCons (tC (.int 9)) tNil)))) tNil))))) (tCall sp_draw [] E0 (tCons (tVar 0) (tCons (tC (.int 4)) tNil)))))
        { nx := fun _ H' => Q .non H', rt := Q } [some (.ref S), some (.ref a)] H1 := by
      intro H1 n1 k1 src1 hn1
      refine ⟨10, 29, rfl, rfl, cpow10 29 (by decide) (by decide), _, rfl, 10, 29, rfl, rfl, cpow10 29 (by decide) (by decide), _, rfl, S, 9, n1, rfl, src1, by omega, by decide, by decide, fun d H2 d0 d1 src2 k2 => ⟨_, _, rfl, rfl, (by show 4 ≤ sizeLine; decide), fun L nL => ?_⟩⟩
      have L_S := src2.ne nL
      refine ⟨_, rfl, S, 4, n1 + 1, rfl, src2.ex (Ex.new nL), by omega, by decide, by decide, fun e H3 e0 e1 src3 k3 => ?_⟩
      obtain ⟨y, hy, y0, y1⟩ : ∃ y : Int, atI [V.int 0, .int (-(10 ^ (29 : Int).toNat)), .int (10 ^ (29 : Int).toNat), .int (5 - d)] e = some (.int y) ∧ -1000000000000000000000000000000 ≤ y ∧ y ≤ 1000000000000000000000000000000 := by
        have : e = 0 ∨ e = 1 ∨ e = 2 ∨ e = 3 := by omega
        rcases this with rfl | rfl | rfl | rfl
        · exact ⟨0, rfl, by decide, by decide⟩
        · exact ⟨_, rfl, by decide, by decide⟩
        · exact ⟨_, rfl, by decide, by decide⟩
        · exact ⟨_, rfl, by omega, by omega⟩
      refine ⟨L, _, e, _, rfl, rfl, sq_of (k3 L _ L_S upd_same), hy, q y H3 (((k1.trans k2).trans (Ex.kp (Ex.new nL))).trans k3) (src3.mono (by omega)) y0 y1⟩
    refine ⟨fun σ' H' => σ' = [some (.ref S), some (.ref a)] ∧ Kp S H H' ∧ Src H' S (n + 1) ∧ 0 < ns.length, ?_, ?_⟩
    · refine ⟨_, rfl, Nat.zero_le _, fun E1 nE => ?_⟩
      have eE := Ex.new nE (o := .lst [])
      have hE : (upd H E1 (.lst [])) E1 = some (.lst []) := upd_same
      have ha1 := eE _ _ ha
      have src1 := src.ex eE
      have k1 : Kp S H (upd H E1 (.lst [])) := Ex.kp eE
      generalize upd H E1 (.lst []) = H1 at hE ha1 src1 k1
      refine ⟨_, .list [], .lst (sq_of ha1) (dp_ints _), .lst (sq_of hE) .nil, dI_shaped _, by decide +kernel, _, rfl, ?_⟩
      rw [eqv_nil]
      cases hns : ns.isEmpty with
      | true => exact iteT (far H1 n k1 src1 (by omega))
      | false =>
        have pos : 0 < ns.length := by
          cases ns with
          | nil => cases hns
          | cons _ _ => simp
        refine iteF ⟨_, rfl, S, 6, n, rfl, src1, by omega, by decide, by decide, fun d H2 d0 d1 src2 k2 => ?_⟩
        refine ⟨rfl, _, rfl, ite2 (fun _ => far H2 (n + 1) (k1.trans k2) src2 (by omega)) (fun _ => ⟨rfl, k1.trans k2, src2, pos⟩)⟩
    rintro σ1 H1 ⟨rfl, k1, src1, pos⟩
    have ha1 := k1 _ _ a_S ha
    have m200 : (1000 : Int) < 2 ^ 200 := by decide
    refine ⟨_, rfl, _, rfl, _, rfl, a, _, rfl, .inl (sq_of ha1), ?_⟩
    refine ⟨S, _, n + 1, rfl, src1, by omega, by rw [List.length_map]; omega, by rw [List.length_map]; omega, fun d H2 d0 d1 src2 k2 => ?_⟩
    rw [List.length_map] at d1
    obtain ⟨j, rfl⟩ : ∃ j : Nat, d = (j : Int) := ⟨d.toNat, by omega⟩
    have hj : j < ns.length := by omega
    have g : (ns.map V.int)[j]? = some (.int ns[j]) := by
      rw [List.getElem?_map, List.getElem?_eq_getElem hj]
      rfl
    have bj := bd ns[j] (List.getElem_mem hj)
    refine ⟨a, _, (j : Int), _, rfl, rfl, sq_of (k2 _ _ a_S ha1), atI_nat g, 1, rfl, _, rfl, S, 9, n + 2, rfl, src2, by omega, by decide, by decide, fun e H3 e0 e1 src3 k3 => ⟨_, _, rfl, rfl, (by show 4 ≤ sizeLine; decide), fun L nL => ?_⟩⟩
    have L_S := src3.ne nL
    refine ⟨_, rfl, S, 4, n + 3, rfl, src3.ex (Ex.new nL), by omega, by decide, by decide, fun e2 H4 e20 e21 src4 k4 => ?_⟩
    obtain ⟨y, hy, y0, y1⟩ : ∃ y : Int, atI [V.int 0, .int (-1), .int 1, .int (e - 4)] e2 = some (.int y) ∧ -100 ≤ y ∧ y ≤ 100 := by
      have : e2 = 0 ∨ e2 = 1 ∨ e2 = 2 ∨ e2 = 3 := by omega
      rcases this with rfl | rfl | rfl | rfl
      · exact ⟨0, rfl, by decide, by decide⟩
      · exact ⟨_, rfl, by decide, by decide⟩
      · exact ⟨_, rfl, by decide, by decide⟩
      · exact ⟨_, rfl, by omega, by omega⟩
    refine ⟨L, _, e2, _, rfl, rfl, sq_of (k4 L _ L_S upd_same), hy, _, _, rfl, rfl, q _ H4 ((((k1.trans k2).trans k3).trans (Ex.kp (Ex.new nL))).trans k4) (src4.mono (by omega)) (by omega) (by omega)⟩
theorem mids_snoc {ns : List Int} {o u c : Int} {i : Nat} (h : ns[i]? = some c) : mids (ns.take (i + 1)) o u = mids (ns.take i) o u ++ (if o < c ∧ c < u then [c] else []) := by
  unfold mids
  rw [take_fm_succ _ h]
  by_cases hc : o < c ∧ c < u
  · rw [if_pos hc, if_pos hc]
  · rw [if_neg hc, if_neg hc]
theorem cal_lruns (T : Tx K mg) : Cal P w K mg base CX0 2 "_law_runs" ["_law_wire", "_law_origin", "_law_until"] (sp_runs K) := by
  have c_law_level := cal_llevel (P := P) (w := w) (base := base) T
  refine T.d_law_runs.cal sc_law_runs (fun vs H Q E h => ?_) (fun _ _ _ _ _ _ us hl => match us, hl with | [_, _, _], _ => rfl) (fun f cdv A outer s H vs Q E hr h => ⟨_, (pss_cons (ps_par3 (i := 3) (j := 4) (l := 5) (by rfl) sc_law_runs.nd rfl rfl rfl (by decide) (by decide) (by decide) rfl rfl rfl (pa_cons (pe_lst pa_nil) (pa_cons (pe_cal c_law_level (hr.mono (by decide)) pass0 (pa_cons (pv 0) (pa_cons (pv 1) pa_nil))) (pa_cons (pv 1) pa_nil))) (by rfl))
      (pss_cons (ps_for PassesOwn.never rfl (pi_list (pv 0)) (pg_name (i := 6) sc_law_runs.nd rfl (Or.inl rfl)) (pss_one (ps_if (pt_chain op_lt op_lt (pv 1) (pv 6) (pv 2)) (pss_cons (ps_expr (pe_bm PySem.F.plainAttrs_list PySem.F.slot_list_append PySem.F.type_list_append mt_append (pv 3) (pa_cons (pe_tup (pa_cons (pv 4) (pa_cons (pe_op op_sub (pv 6) (pv 5)) pa_nil))) pa_nil)))
      (pss_one (ps_par (i := 4) (j := 5) (by rfl) sc_law_runs.nd rfl rfl (by decide) rfl rfl (pa_cons (pe_op op_sub pe_int (pv 4)) (pa_cons (pv 6) pa_nil)) (by rfl)))) pss_nil)))
      (pss_one (ps_ret (pe_op op_cat (pv 3) (pe_lst (pa_cons (pe_tup (pa_cons (pv 4) (pa_cons (pe_op op_sub (pv 2) (pv 5)) pa_nil))) pa_nil))))))), ?_⟩)
  · obtain ⟨a, ns, o, u, rfl, _⟩ := h
    rfl
  · obtain ⟨a, ns, o, u, rfl, sq, hl, ri, ou, q⟩ := h
    refine ⟨Nat.zero_le _, fun R nR => ⟨_, rfl, _, rfl, a, ns, o, rfl, ex_l (Ex.new nR) sq, by omega, fun H1 e1 => ⟨_, rfl, _, _, _, rfl, ?_⟩⟩⟩
    have hR1 : H1 R = some (.lst []) := e1 _ _ upd_same
    have e01 : Ex H H1 := (Ex.new nR).trans e1
    refine ⟨_, rfl, a, rfl, ⟨_, ex_l e01 sq⟩, for_list (K := K) (a := a) (xs := ns.map V.int) (fun i σ H5 => ∃ u1 xs, σ = [some (.ref a), some (.int o), some (.int u), some (.ref R), some (.int (rst (lv ns o) o (mids (ns.take i) o u)).1), some (.int (rst (lv ns o) o (mids (ns.take i) o u)).2), u1] ∧ Ex H H5 ∧ H5 R = some (.lst xs) ∧ LR (RT K H5) xs (rns (lv ns o) o (mids (ns.take i) o u)))
      ⟨none, [], rfl, e01, hR1, LR.nil⟩ (fun i σ H5 _ ⟨_, _, _, e, _⟩ => ex_l e sq) ?_ ?_⟩
    · rintro i x σ H5 hx ⟨u1, xs, rfl, ex, hR5, lr5⟩
      obtain ⟨c, hc, rfl⟩ := ints_at hx
      have hi := (List.getElem?_eq_some_iff.mp hc).1
      have ml : (mids (ns.take i) o u).length ≤ 800 := by
        unfold mids
        have := List.length_filterMap_le (fun c => if o < c ∧ c < u then some c else none) (ns.take i)
        rw [List.length_take] at this
        omega
      have ms := mids_snoc (o := o) (u := u) hc
      have skip : ¬ (o < c ∧ c < u) → ∃ u1 xs, (([some (V.ref a), some (.int o), some (.int u), some (.ref R), some (.int (rst (lv ns o) o (mids (ns.take i) o u)).1), some (.int (rst (lv ns o) o (mids (ns.take i) o u)).2), some (.int c)] : L2.St)) = [some (.ref a), some (.int o), some (.int u), some (.ref R), some (.int (rst (lv ns o) o (mids (ns.take (i + 1)) o u)).1), some (.int (rst (lv ns o) o (mids (ns.take (i + 1)) o u)).2), u1] ∧ Ex H H5 ∧ H5 R = some (.lst xs) ∧ LR (RT K H5) xs (rns (lv ns o) o (mids (ns.take (i + 1)) o u)) := fun h => by
        rw [ms, if_neg h, List.append_nil]
        exact ⟨_, _, rfl, ex, hR5, lr5⟩
      refine ⟨_, rfl, _, rfl, _, _, rfl, rfl, _, rfl, ite2 (fun h => ?_) (fun h => ?_)⟩
      · have h : o < c := of_decide_eq_true h
        refine ⟨_, rfl, _, _, rfl, rfl, _, rfl, ite2 (fun h2 => ?_) (fun h2 => skip fun z => h2 (decide_eq_true z.2))⟩
        have h2 : c < u := of_decide_eq_true h2
        refine ⟨_, rfl, .inl ⟨rfl, _, sq_of hR5⟩, _, rfl, _, rfl, _, rfl, _, _, rfl, rfl, (by show 2 ≤ sizeLine; decide), fun t nt => ?_⟩
        have et := Ex.new nt (o := .tup [.int (rst (lv ns o) o (mids (ns.take i) o u)).1, .int (c - (rst (lv ns o) o (mids (ns.take i) o u)).2)])
        refine ⟨R, _, _, rfl, rfl, et _ _ hR5, ?_, ?_⟩
        · rw [lr5.1, rns_len]
          exact sz_lt (by omega)
        refine ⟨_, rfl, _, _, rfl, rfl, _, rfl, _, _, rfl, ?_⟩
        refine ⟨some (.int c), xs ++ [.ref t], ?_, (ex.trans et).mut nR, upd_same, ?_⟩
        · rw [ms, if_pos ⟨h, h2⟩, rst_snoc]
          rfl
        · rw [ms, if_pos ⟨h, h2⟩, rns_snoc]
          exact LR.snoc (lr5.imp fun x r h => RT.lasts.kp (a := R) Kp.upd (et _ _ hR5) (RT.lasts.ex et h)) (RT.lasts.kp (a := R) Kp.upd (et _ _ hR5) ⟨t, rfl, st_of upd_same⟩)
      · have h : ¬ o < c := fun z => h (decide_eq_true z)
        exact ⟨false, rfl, iteF (skip fun z => h z.1)⟩
    · rintro σ H5 ⟨u1, xs, rfl, ex, hR5, lr5⟩
      rw [List.length_map, List.take_length] at lr5 ⊢
      refine ⟨_, rfl, _, rfl, _, rfl, _, rfl, _, _, rfl, rfl, (by show 2 ≤ sizeLine; decide), fun t nt => ⟨(by show 1 ≤ sizeLine; decide), fun M nM => ?_⟩⟩
      have et := (Ex.new nt (o := .tup [.int (rst (lv ns o) o (mids ns o u)).1, .int (u - (rst (lv ns o) o (mids ns o u)).2)])).trans (Ex.new nM (o := .lst [.ref t]))
      have ml : (mids ns o u).length ≤ 800 := by
        unfold mids
        have := List.length_filterMap_le (fun c => if o < c ∧ c < u then some c else none) ns
        omega
      refine ⟨R, M, _, _, rfl, rfl, et _ _ hR5, upd_same, ?_, fun G nG => ?_⟩
      · rw [lr5.1, rns_len]
        exact sz_of (by show _ + 1 ≤ _; omega)
      have eG := et.trans (Ex.new nG (o := .lst (xs ++ [.ref t])))
      refine q G _ _ (fresh_back (ex.trans et) nG) (ex.trans eG) upd_same ?_
      unfold runsL
      rw [rns_snoc]
      exact LR.snoc (lr5.imp fun x r h => RT.lasts.ex eG h) ⟨t, rfl, st_of (Ex.new nG _ _ (Ex.new nM _ _ upd_same))⟩
end
end LW
namespace LW
open PySem PySem.Spec PyProof.Rows L2 Evl SB
section
variable {P : Program} {w : World} {K : PySem.W.Frag} {mg : Str → Option Value} {base : Heap}
theorem shw_i {i : Int} (h : i.natAbs < 2 ^ 200) : Shw (.int i) := by
  have hl : i.natAbs.log2 < 200 := int_log (by decide) h
  refine ⟨?_, ?_, ?_⟩
  · simp only [PyData.showable, decide_eq_true_eq]
    omega
  · simp [PyData.depth]
  · have ht : (Str.ofString (toString i)).length ≤ 201 := by
      rw [PySem.ofString_length]
      exact int_text_length_le (k := 200) (by decide) hl
    rw [sizeLine_eq]
    exact Nat.le_trans ht (by decide)
theorem dp_rows {H : Hp} : ∀ {xs : List V} {rs : List (List Int)}, LR (RT K H) xs rs → DpAll K H xs (rs.map fun r => PyData.tuple (dI r))
  | [], [], _ => .nil
  | [], _ :: _, h => by have := h.1; simp at this
  | _ :: _, [], h => by have := h.1; simp at this
  | x :: xs, r :: rs, h => by
    obtain ⟨t, rfl, st⟩ := h.2 0 x r rfl rfl
    exact .cons (.tup st (dp_ints r)) (dp_rows ⟨by have := h.1; simpa using this, fun k y m a b => h.2 (k + 1) y m a b⟩)
theorem show_rows : ∀ {rs : List (List Int)}, (∀ r ∈ rs, r.length ≤ 3 ∧ ∀ y ∈ r, y.natAbs < 2 ^ 200) → PyData.showableAll (rs.map fun r => PyData.tuple (dI r)) = true ∧ PyData.hasDictAll (rs.map fun r => PyData.tuple (dI r)) = false ∧ PyData.depthAll (rs.map fun r => PyData.tuple (dI r)) ≤ 1 ∧
    ((PyData.shownAll (rs.map fun r => PyData.tuple (dI r))).map (·.length)).sum ≤ 700 * rs.length ∧ (PyData.shownAll (rs.map fun r => PyData.tuple (dI r))).length = rs.length
  | [], _ => by simp [PyData.showableAll, PyData.hasDictAll, PyData.depthAll, PyData.shownAll]
  | r :: rs, h => by
    obtain ⟨h1, h2, h3, h4, h5⟩ := show_rows fun q hq => h q (List.mem_cons_of_mem _ hq)
    obtain ⟨hl, hy⟩ := h r (List.mem_cons_self ..)
    obtain ⟨g1, g2, g3, g4, g5⟩ := show_ints r hy
    have tl := tupleText_len_le (PyData.shownAll (dI r))
    rw [List.map_cons]
    refine ⟨?_, ?_, ?_, ?_, ?_⟩
    · simp only [PyData.showableAll, PyData.showable, g1, h1, Bool.and_self]
    · simp only [PyData.hasDictAll, PyData.hasDict, g2, h2, Bool.or_self]
    · simp only [PyData.depthAll, PyData.depth, g3]
      omega
    · simp only [PyData.shownAll, PyData.shown, List.map_cons, List.sum_cons, List.length_cons]
      omega
    · simp only [PyData.shownAll, List.length_cons, h5]
theorem shw_rows {rs : List (List Int)} (h : ∀ r ∈ rs, r.length ≤ 3 ∧ ∀ y ∈ r, y.natAbs < 2 ^ 200) (hl : rs.length ≤ 10000) : Shw (.list (rs.map fun r => PyData.tuple (dI r))) ∧ (PyData.list (rs.map fun r => PyData.tuple (dI r))).hasDict = false := by
  obtain ⟨h1, h2, h3, h4, h5⟩ := show_rows h
  have tl := listText_len_le (PyData.shownAll (rs.map fun r => PyData.tuple (dI r)))
  refine ⟨⟨?_, ?_, ?_⟩, ?_⟩
  · simp only [PyData.showable, h1]
  · simp only [PyData.depth]
    omega
  · simp only [PyData.shown]
    rw [sizeLine_eq]
    omega
  · simp only [PyData.hasDict, h2]
theorem rns_bd : ∀ {es : List Int} {l b : Int}, (l = 0 ∨ l = 1) → -1000000000000000000000000000001 ≤ b → b ≤ 1000000000000000000000000000001 → (∀ e ∈ es, -1000000000000000000000000000001 ≤ e ∧ e ≤ 1000000000000000000000000000001) → ∀ r ∈ rns l b es, r.length ≤ 3 ∧ ∀ y ∈ r, y.natAbs < 2 ^ 200
  | [], _, _, _, _, _, _, r, hr => by cases hr
  | e :: es, l, b, hl, b1, b2, h, r, hr => by
    have he := h e (List.mem_cons_self ..)
    rcases List.mem_cons.mp hr with rfl | hr
    · refine ⟨by show 2 ≤ 3; omega, fun y hy => ?_⟩
      rcases List.mem_cons.mp hy with rfl | hy
      · omega
      · rw [List.mem_singleton.mp hy]
        omega
    · exact rns_bd (by omega) he.1 he.2 (fun x hx => h x (List.mem_cons_of_mem _ hx)) r hr
theorem runsL_bd {ns : List Int} {o u : Int} (o1 : -1000000000000000000000000000001 ≤ o) (u1 : u ≤ 1000000000000000000000000000001) (ou : o < u) : ∀ r ∈ runsL ns o u, r.length ≤ 3 ∧ ∀ y ∈ r, y.natAbs < 2 ^ 200 := by
  unfold runsL
  refine rns_bd (lv01 ns o) o1 (by omega) fun e he => ?_
  rcases List.mem_append.mp he with h | h
  · unfold mids at h
    obtain ⟨c, _, hc⟩ := List.mem_filterMap.mp h
    split at hc
    · cases hc
      omega
    · cases hc
  · rw [List.mem_singleton.mp h]
    omega
theorem runsL_len {ns : List Int} {o u : Int} (h : ns.length ≤ 800) : (runsL ns o u).length ≤ 10000 := by
  unfold runsL mids
  rw [rns_len, List.length_append]
  have := List.length_filterMap_le (fun c => if o < c ∧ c < u then some c else none) ns
  show _ + 1 ≤ _
  omega
theorem shwB (b : Bool) : Shw (.bool b) := by cases b <;> exact ⟨by decide +kernel, by decide +kernel, by decide +kernel⟩
def sp_right (K : PySem.W.Frag) : Sp := fun vs H Q _ => ∃ (S : Addr) (n : Nat) (a : Addr) (ns : List Int), vs = [.ref S, .ref a] ∧ Src H S n ∧ n ≤ 800000 ∧ H a = some (.lst (ns.map V.int)) ∧ a ≠ S ∧ ns.length ≤ 799 ∧ Ris ns ∧ (∀ x ∈ ns, -100000000000000000000000000000 ≤ x ∧ x ≤ 20000000000000000000000000000) ∧
  ∀ H', Kp S H H' → Src H' S (n + 100) → Q (.bl true) H'
theorem cal_right (T : Tx K mg) (TE : TxE P K mg) : CalG P w K mg base CX0 6 "_law_right" ["_law_source_here", "_law_wire"] (sp_right K) := by
  have c_law_tick := cal_ltick (P := P) (w := w) (base := base) T
  have c_law_level := cal_llevel (P := P) (w := w) (base := base) T
  have c_law_runs := cal_lruns (P := P) (w := w) (base := base) T
  have c_level_at := cal_level_at (P := P) (w := w) (base := base) T TE
  have c_level_at_tick_signal := cal_level_atK (P := P) (w := w) (base := base) T TE
  have c_runs_between := cal_runs (P := P) (w := w) (base := base) T TE
  have c_runs_between_end_signal_begin := cal_runsK (P := P) (w := w) (base := base) T TE
  have c_is_signal := cal_is_signal (P := P) (w := w) (base := base) T TE
  refine T.d_law_right.calG sc_law_right (fun vs H Q E h => ?_) (fun _ _ _ _ _ _ us hl => match us, hl with | [_, _], _ => rfl) (fun f cdv A outer s H vs Q E hr hgd h => ⟨_, (pss_cons (ps_set (i := 2) sc_law_right.nd rfl (Or.inl rfl) (pe_callTy call_list_of (by rfl) T.b_list (by decide +kernel) (pa_cons (pv 1) pa_nil)))
      (pss_cons (ps_for PassesOwn.never rfl (pi_range1 rfl T.b_range (pa_cons pe_int pa_nil)) (pg_name (i := 3) sc_law_right.nd rfl (Or.inl rfl)) (pss_cons (ps_par (i := 4) (j := 5) (by rfl) sc_law_right.nd rfl rfl (by decide) rfl rfl (pa_cons (pe_cal c_law_tick (hr.mono (by decide)) pass0 (pa_cons (pv 0) (pa_cons (pv 1) pa_nil))) (pa_cons (pe_cal c_law_tick (hr.mono (by decide)) pass0 (pa_cons (pv 0) (pa_cons (pv 1) pa_nil))) pa_nil)) (by rfl))
      (pss_cons (ps_if (pt_cmpR op_ne (pe_callB (call_rd TE.sy hgd hr.units) (by rfl) T.b_repr (by decide +kernel) (pa_cons (pe_cal c_level_at (hr.mono (by decide)) pass0 (pa_cons (pv 2) (pa_cons (pv 4) pa_nil))) pa_nil)) (pe_callB (call_rd TE.sy hgd hr.units) (by rfl) T.b_repr (by decide +kernel) (pa_cons (pe_cal c_law_level (hr.mono (by decide)) pass0 (pa_cons (pv 1) (pa_cons (pv 4) pa_nil))) pa_nil)) (nomark _)) (pss_one (ps_ret pe_bl)) pss_nil)
      (pss_cons (ps_par (i := 6) (j := 7) (by rfl) sc_law_right.nd rfl rfl (by decide) rfl rfl (pa_cons (pe_callB (call_min2 rfl) (by rfl) T.b_min (by decide +kernel) (pa_cons (pv 4) (pa_cons (pv 5) pa_nil))) (pa_cons (pe_op op_add (pe_callB (call_max2 rfl) (by rfl) T.b_max (by decide +kernel) (pa_cons (pv 4) (pa_cons (pv 5) pa_nil))) (pe_callTy call_int1 (by rfl) T.b_int (by decide +kernel) (pa_cons (pe_cmpR op_eq (pv 4) (pv 5) (nomark _)) pa_nil))) pa_nil)) (by rfl))
      (pss_cons (ps_par (i := 8) (j := 9) (by rfl) sc_law_right.nd rfl rfl (by decide) rfl rfl (pa_cons (pe_cal c_law_runs (hr.mono (by decide)) pass0 (pa_cons (pv 1) (pa_cons (pv 6) (pa_cons (pv 7) pa_nil)))) (pa_cons (pe_cal c_runs_between (hr.mono (by decide)) pass0 (pa_cons (pv 2) (pa_cons (pv 6) (pa_cons (pv 7) pa_nil)))) pa_nil)) (by rfl))
      (pss_cons (ps_if (pt_cmpR op_ne (pe_callB (call_rd TE.sy hgd hr.units) (by rfl) T.b_repr (by decide +kernel) (pa_cons (pv 9) pa_nil)) (pe_callB (call_rd TE.sy hgd hr.units) (by rfl) T.b_repr (by decide +kernel) (pa_cons (pv 8) pa_nil)) (nomark _)) (pss_one (ps_ret pe_bl)) pss_nil)
      (pss_cons (ps_expr (pe_bm PySem.F.plainAttrs_list PySem.F.slot_list_append PySem.F.type_list_append mt_append (pv 9) (pa_cons (pe_tup (pa_cons pe_int (pa_cons pe_int pa_nil))) pa_nil)))
      (pss_one (ps_if (pt_cmpR op_ne (pe_callB (call_rd TE.sy hgd hr.units) (by rfl) T.b_repr (by decide +kernel) (pa_cons (pe_calK c_runs_between_end_signal_begin (hr.mono (by decide)) pass0 (pk_cons (pv 7) (pk_cons (pv 2) (pk_cons (pv 6) pk_nil)))) pa_nil)) (pe_callB (call_rd TE.sy hgd hr.units) (by rfl) T.b_repr (by decide +kernel) (pa_cons (pv 8) pa_nil)) (nomark _)) (pss_one (ps_ret pe_bl)) pss_nil)))))))))
      (pss_cons (ps_if (PW.pt (pw_or (pt_cmpR (op_neD hr.units) (pv 2) (pv 1) (nomark _)) (pw_or1 (pt_cmpR op_ne (pe_callB (call_rd TE.sy hgd hr.units) (by rfl) T.b_repr (by decide +kernel) (pa_cons (pe_cal c_is_signal (hr.mono (by decide)) pass0 (pa_cons (pv 1) pa_nil)) pa_nil)) pe_str (nomark _))))) (pss_one (ps_ret pe_bl)) pss_nil)
      (pss_cons (ps_expr (pe_bm PySem.F.plainAttrs_list PySem.F.slot_list_append PySem.F.type_list_append mt_append (pv 2) (pa_cons (pe_op op_add (pe_op op_powB pe_int pe_int) pe_int) pa_nil)))
      (pss_one (ps_ret (pe_cmpR op_eq (pe_callB (call_rd TE.sy hgd hr.units) (by rfl) T.b_repr (by decide +kernel) (pa_cons (pe_calK c_level_at_tick_signal (hr.mono (by decide)) pass0 (pk_cons (pe_op op_add (pe_op op_powB pe_int pe_int) pe_int) (pk_cons (pv 2) pk_nil))) pa_nil)) (pe_callB (call_rd TE.sy hgd hr.units) (by rfl) T.b_repr (by decide +kernel) (pa_cons (pe_cal c_law_level (hr.mono (by decide)) pass0 (pa_cons (pv 2) (pa_cons (pe_op op_add (pe_op op_powB pe_int pe_int) pe_int) pa_nil))) pa_nil)) (nomark _)))))))), ?_⟩)
  · obtain ⟨S, n, a, ns, rfl, _⟩ := h
    rfl
  · obtain ⟨S, n, a, ns, rfl, src, hn, ha, a_S, hl, ri, bd, q⟩ := h
    refine ⟨_, rfl, a, _, rfl, .inl (sq_of ha), fun C nC => ?_⟩
    have C_S := src.ne nC
    have e1 := Ex.new nC (o := .lst (ns.map V.int))
    have hC : (upd H C (.lst (ns.map V.int))) C = some (.lst (ns.map V.int)) := upd_same
    have ha1 := e1 _ _ ha
    have src1 := src.ex e1
    have k1 : Kp S H (upd H C (.lst (ns.map V.int))) := Ex.kp e1
    have a_C : a ≠ C := fun z => by rw [← z, ha] at nC; cases nC
    refine (show _ from ?_)
    generalize upd H C (.lst (ns.map V.int)) = H1 at hC ha1 src1 k1
    refine ⟨5, rfl, by decide, by decide, ?_⟩
    refine for_range (lo := 0) (n := (5 : Int).toNat) (fun i σ H2 => ∃ u1 u2 u3 u4 u5 u6 u7, σ = [some (.ref S), some (.ref a), some (.ref C), u1, u2, u3, u4, u5, u6, u7] ∧ Kp S H H2 ∧ Src H2 S (n + 20 * i) ∧ H2 a = some (.lst (ns.map V.int)) ∧ H2 C = some (.lst (ns.map V.int)))
      ⟨none, none, none, none, none, none, none, rfl, k1, src1, ha1, hC⟩ ?_ ?_
    · rintro i σ H2 hi ⟨u1, u2, u3, u4, u5, u6, u7, rfl, k2, src2, ha2, hC2⟩
      have i5 : i < 5 := hi
      refine ⟨_, rfl, _, rfl, S, _, a, ns, rfl, src2, by omega, ha2, a_S, by omega, bd, fun mo H3 k3 src3 mo1 mo2 => ?_⟩
      have ha3 := k3 _ _ a_S ha2
      refine ⟨_, rfl, _, rfl, S, _, a, ns, rfl, src3, by omega, ha3, a_S, by omega, bd, fun ot H4 k4 src4 ot1 ot2 => ⟨_, _, rfl, ?_⟩⟩
      have ha4 := k4 _ _ a_S ha3
      have hC4 := k4 _ _ C_S (k3 _ _ C_S hC2)
      have l01 := lv01 ns mo
      have sl := shw_i (i := lv ns mo) (by omega)
      refine ⟨_, rfl, _, rfl, C, ns, mo, rfl, sq_of hC4, by omega, ri, fun H5 e5 => ?_⟩
      refine ⟨_, _, rfl, .old (.int _) rfl, sl, _, rfl, _, rfl, a, ns, mo, rfl, sq_of (e5 _ _ ha4), by omega, fun H6 e6 => ?_⟩
      refine ⟨_, _, rfl, .old (.int _) rfl, sl, rfl, _, rfl, iteNS rfl ?_⟩
      have e46 := e5.trans e6
      refine ⟨_, rfl, _, rfl, _, _, rfl, _, rfl, _, rfl, _, _, rfl, _, rfl, _, rfl, rfl, .inr ⟨_, rfl, _, _, rfl, rfl, _, _, rfl, ?_⟩⟩
      have ou : (if ot < mo then ot else mo) < (if ot > mo then ot else mo) + (if decide (V.int mo = V.int ot) = true then (1 : Int) else 0) := by
        by_cases h : mo = ot
        · subst h
          rw [decide_eq_true rfl, if_neg (Int.lt_irrefl _), if_pos rfl]
          omega
        · have : decide (V.int mo = V.int ot) = false := decide_eq_false fun c => h (by injection c)
          rw [this]
          split <;> split <;> simp <;> omega
      have o1 : -1000000000000000000000000000001 ≤ (if ot < mo then ot else mo) := by split <;> omega
      have uu1 : (if ot > mo then ot else mo) + (if decide (V.int mo = V.int ot) = true then (1 : Int) else 0) ≤ 1000000000000000000000000000001 := by
        split <;> split <;> omega
      dsimp only
      generalize (if ot < mo then ot else mo) = o at ou o1 ⊢
      generalize (if ot > mo then ot else mo) + (if decide (V.int mo = V.int ot) = true then (1 : Int) else 0) = u at ou uu1 ⊢
      have sr := shw_rows (runsL_bd (ns := ns) o1 uu1 ou) (runsL_len (by omega))
      refine ⟨_, rfl, _, rfl, _, rfl, a, ns, o, u, rfl, sq_of (e46 _ _ ha4), by omega, ri, ou, fun D H7 ds nD e7 hD lD => ?_⟩
      refine ⟨_, rfl, _, rfl, _, rfl, C, ns, o, u, rfl, sq_of (e7 _ _ (e46 _ _ hC4)), by omega, ri, ou, fun F H8 fs nF e8 hF lF => ⟨_, _, rfl, ?_⟩⟩
      have lD8 := lD.imp fun x r h => RT.lasts.ex e8 h
      have hD8 := e8 _ _ hD
      refine ⟨_, rfl, _, _, rfl, .old (.lst (sq_of hF) (dp_rows lF)) sr.2, sr.1, _, rfl, _, _, rfl, .old (.lst (sq_of hD8) (dp_rows lD8)) sr.2, sr.1, rfl, _, rfl, iteNS rfl ?_⟩
      have e48 := (e46.trans e7).trans e8
      -- found.append((1, 1))
      refine ⟨_, rfl, .inl ⟨rfl, _, sq_of hF⟩, (by show 2 ≤ sizeLine; decide), fun t nt => ⟨F, _, _, rfl, rfl, Ex.new nt _ _ hF, ?_, ?_⟩⟩
      · have := lF.1
        have := runsL_len (ns := ns) (o := o) (u := u) (by omega)
        exact sz_lt (by omega)
      have D_F : D ≠ F := fun z => by rw [← z, hD] at nF; cases nF
      have F_S : F ≠ S := (((src4.ex e46).ex e7)).ne nF
      have F_a : a ≠ F := fun z => by rw [← z, e7 _ _ (e46 _ _ ha4)] at nF; cases nF
      have F_C : C ≠ F := fun z => by rw [← z, e7 _ _ (e46 _ _ hC4)] at nF; cases nF
      have hFt := Ex.new nt (o := .tup [.int 1, .int 1]) _ _ hF
      have hD9 : (upd (upd H8 t (.tup [.int 1, .int 1])) F (.lst (fs ++ [.ref t]))) D = some (.lst ds) := by
        rw [upd_ne D_F]
        exact Ex.new nt _ _ hD8
      have ha9 : (upd (upd H8 t (.tup [.int 1, .int 1])) F (.lst (fs ++ [.ref t]))) a = some (.lst (ns.map V.int)) := by
        rw [upd_ne F_a]
        exact Ex.new nt _ _ (e48 _ _ ha4)
      have hC9 : (upd (upd H8 t (.tup [.int 1, .int 1])) F (.lst (fs ++ [.ref t]))) C = some (.lst (ns.map V.int)) := by
        rw [upd_ne F_C]
        exact Ex.new nt _ _ (e48 _ _ hC4)
      have lD9 : LR (RT K (upd (upd H8 t (.tup [.int 1, .int 1])) F (.lst (fs ++ [.ref t])))) ds (runsL ns o u) := lD8.imp fun x r h => RT.lasts.kp (a := F) Kp.upd hFt (RT.lasts.ex (Ex.new nt) h)
      have k09 : Kp S H (upd (upd H8 t (.tup [.int 1, .int 1])) F (.lst (fs ++ [.ref t]))) := by
        have k08 := (((k2.trans k3).trans k4).trans (Ex.kp e48)).trans (Ex.kp (Ex.new nt (o := .tup [.int 1, .int 1])))
        exact k08.mut (((k2.trans k3).trans k4).trans (Ex.kp (e46.trans e7)) |>.free nF F_S)
      have src9 : Src (upd (upd H8 t (.tup [.int 1, .int 1])) F (.lst (fs ++ [.ref t]))) S (n + 20 * (i + 1)) := (((src4.ex e48).ex (Ex.new nt)).upd F_S).mono (by omega)
      refine (show _ from ?_)
      generalize upd (upd H8 t (.tup [.int 1, .int 1])) F (.lst (fs ++ [.ref t])) = H9 at hD9 ha9 hC9 lD9 k09 src9
      refine ⟨_, rfl, _, rfl, _, rfl, C, ns, o, u, rfl, sq_of hC9, by omega, ri, ou, fun G H10 gs nG e10 hG lG => ?_⟩
      refine ⟨_, _, rfl, .old (.lst (sq_of hG) (dp_rows lG)) sr.2, sr.1, _, rfl, _, _, rfl, .old (.lst (sq_of (e10 _ _ hD9)) (dp_rows (lD9.imp fun x r h => RT.lasts.ex e10 h))) sr.2, sr.1, rfl, _, rfl, iteNS rfl ?_⟩
      exact ⟨_, _, _, _, _, _, _, rfl, k09.trans (Ex.kp e10), src9.ex e10, e10 _ _ ha9, e10 _ _ hC9⟩
    · rintro σ H2 ⟨u1, u2, u3, u4, u5, u6, u7, rfl, k2, src2, ha2, hC2⟩
      refine ⟨_, rfl, _, rfl, _, _, .lst (sq_of hC2) (dp_ints _), .lst (sq_of ha2) (dp_ints _), dI_shaped _, dI_shaped _, _, rfl, ?_⟩
      rw [eqv_sh (dI_shaped _)]
      have ok : isSg (some (ns.map V.int)) = true := by
        show (decide ((ns.map V.int).length ≤ 800) && sgB (ns.map V.int)) = true
        rw [List.length_map, decide_eq_true (by omega), sgB_ris ri]
        rfl
      refine iteF ⟨_, rfl, _, some (ns.map V.int), rfl, .yes rfl (sq_of ha2) (any_ints ns) (by rw [List.length_map]; omega), fun H3 e3 => ?_⟩
      rw [ok]
      refine ⟨_, _, rfl, .old (.bl _) rfl, shwB _, rfl, _, rfl, ?_⟩
      have et : decide (V.str (PyData.bool true).shown = V.str "True") = true := by decide +kernel
      rw [et]
      refine iteF ?_
      have hC3 := e3 _ _ hC2
      refine ⟨_, rfl, .inl ⟨rfl, _, sq_of hC3⟩, 10, 29, rfl, rfl, cpow10 29 (by decide) (by decide), _, _, rfl, rfl, C, _, _, rfl, rfl, hC3, ?_, ?_⟩
      · rw [List.length_map]
        exact small1000 (by omega)
      have e29 : (10 : Int) ^ (29 : Int).toNat + 5 = 100000000000000000000000000005 := by decide
      have hC4 : (upd H3 C (.lst (ns.map V.int ++ [.int (10 ^ (29 : Int).toNat + 5)]))) C = some (.lst ((ns ++ [100000000000000000000000000005]).map V.int)) := by
        rw [upd_same, List.map_append, e29]
        rfl
      have ri2 : Ris (ns ++ [100000000000000000000000000005]) := ri.snoc fun x hx => by
        have := bd x hx
        omega
      have l2 : (ns ++ [100000000000000000000000000005]).length ≤ 800 := by
        rw [List.length_append]
        show _ + 1 ≤ _
        omega
      have fC : H C = none := nC
      have k4 : Kp S H (upd H3 C (.lst (ns.map V.int ++ [.int (10 ^ (29 : Int).toNat + 5)]))) := (k2.trans (Ex.kp e3)).mut fC
      have src4 := (src2.ex e3).upd (o := .lst (ns.map V.int ++ [.int (10 ^ (29 : Int).toNat + 5)])) C_S
      refine (show _ from ?_)
      generalize upd H3 C (.lst (ns.map V.int ++ [.int (10 ^ (29 : Int).toNat + 5)])) = H4 at hC4 k4 src4
      have l01 := lv01 (ns ++ [100000000000000000000000000005]) (10 ^ (29 : Int).toNat + 5)
      have sl := shw_i (i := lv (ns ++ [100000000000000000000000000005]) (10 ^ (29 : Int).toNat + 5)) (by omega)
      refine ⟨10, 29, rfl, rfl, cpow10 29 (by decide) (by decide), _, _, rfl, rfl, _, rfl, C, _, _, rfl, sq_of hC4, l2, ri2, fun H5 e5 => ?_⟩
      refine ⟨_, _, rfl, .old (.int _) rfl, sl, _, rfl, 10, 29, rfl, rfl, cpow10 29 (by decide) (by decide), _, _, rfl, rfl, C, _, _, rfl, sq_of (e5 _ _ hC4), by omega, fun H6 e6 => ?_⟩
      refine ⟨_, _, rfl, .old (.int _) rfl, sl, rfl, ?_⟩
      rw [str_dec]
      exact q H6 (k4.trans (Ex.kp (e5.trans e6))) ((src4.ex (e5.trans e6)).mono (by show n + 20 * 5 ≤ n + 100; omega))
end
end LW
namespace LW
open PySem PySem.Spec PyProof.Rows L2 Evl SB
section
variable {P : Program} {w : World} {K : PySem.W.Frag} {mg : Str → Option Value} {base : Heap}
theorem sg_big {xs : List V} (h : 800 < xs.length) : isSg (some xs) = false := by
  show (decide (xs.length ≤ 800) && sgB xs) = false
  rw [decide_eq_false (by omega)]
  rfl
def longL : List Int := (List.range 801).map fun i : Nat => (0 + (i : Int)) * 3
theorem long_len : longL.length = 801 := by simp [longL]
theorem long_at {i : Nat} (h : i < 801) : longL[i]? = some ((i : Int) * 3) := by
  unfold longL
  rw [List.getElem?_map, List.getElem?_range h]
  show some ((0 + (i : Int)) * 3) = _
  rw [Int.zero_add]
theorem long_ris (n : Nat) : Ris (longL.take n) := by
  intro i x y hx hy
  have h1 := (List.getElem?_eq_some_iff.mp hy).1
  rw [List.length_take] at h1
  have l : longL.length = 801 := by simp [longL]
  rw [List.getElem?_take_of_lt (by omega), long_at (by omega)] at hx
  rw [List.getElem?_take_of_lt (by omega), long_at (by omega)] at hy
  cases hx
  cases hy
  omega
theorem cut_to (ns : List Int) (j : Nat) (h : j ≤ ns.length) : cutV (ns.map V.int) none (some (j : Int)) = (ns.take j).map V.int := by
  unfold cutV
  rw [show HT.sIx (ns.map V.int).length (ns.map V.int).length (some (j : Int)) = min j (ns.map V.int).length from HT.sIx_nat _ _ j, HT.sIx_none, Nat.min_eq_left (by rw [List.length_map]; omega), Nat.sub_zero, List.drop_zero, List.map_take]
theorem sg_end0 {xs : List V} {v : V} (l : xs.length = 799) (h8 : xs[798]? = some (.int 2394)) (h : ∀ t : Int, v = .int t → t ≤ 2394) : isSg (some (xs ++ [v])) = false := by
  have e0 : isSg (some (xs ++ [v])) = (decide ((xs ++ [v]).length ≤ 800) && sgB (xs ++ [v])) := rfl
  rw [e0, sgB_no (i := 799) (by rw [List.length_append, l]; show 799 < 799 + 1; omega), Bool.and_false]
  unfold okS
  have e1 : (xs ++ [v])[799]? = some v := by
    rw [List.getElem?_append_right (by omega), l]
    rfl
  have e2 : (xs ++ [v])[799 - 1]? = some (.int 2394) := by
    rw [List.getElem?_append_left (by omega)]
    exact h8
  rw [e1, e2]
  cases v with
  | int t =>
    have := h t rfl
    have : ¬ (2394 : Int) < t := by omega
    simp [this]
  | _ => rfl
theorem sg_end {v : V} (h : ∀ t : Int, v = .int t → t ≤ 2394) : isSg (some ((longL.take 799).map V.int ++ [v])) = false := by
  refine sg_end0 ?_ ?_ h
  · rw [List.length_map, List.length_take, long_len]
    decide
  · rw [List.getElem?_map, List.getElem?_take_of_lt (by omega), long_at (by omega)]
    rfl
theorem sT : decide (V.str (PyData.bool true).shown = V.str "True") = true := by decide +kernel
theorem sF : decide (V.str (PyData.bool false).shown = V.str "False") = true := by decide +kernel
def sp_law (K : PySem.W.Frag) : Sp := fun vs H Q _ => ∃ (a : Addr) (ns : List Int), vs = [.ref a] ∧ SqL K H a (ns.map V.int) ∧ ns.length ≤ 63 ∧ ∀ H', Q (.bl true) H'
theorem law_ok {fd : FuncData} (T : Tx K mg) (TE : TxE P K mg) (F : FunD K "law" "law" (defArgs s_law) (defBody s_law) (defScope s_law) [] [] (He.fAd K ("law", none)) fd) : FnG P w K mg base CX0 10 (He.fAd K ("law", none)) fd ["_law_script"] (sp_law K) := by
  have c_law_source := cal_source (P := P) (w := w) (base := base) T
  have c_law_draw := cal_draw (P := P) (w := w) (base := base) T
  have c_law_odd_signal := cal_odd (P := P) (w := w) (base := base) T
  have c_law_signal_fault := cal_fault (P := P) (w := w) (base := base) T
  have c_law_signal := cal_lsignal (P := P) (w := w) (base := base) T
  have c_law_right := cal_right (P := P) (w := w) (base := base) T TE
  have c_is_signal := cal_is_signal (P := P) (w := w) (base := base) T TE
  have c_is_signal_value := cal_is_signalK (P := P) (w := w) (base := base) T TE
  have c_level_at := cal_level_at (P := P) (w := w) (base := base) T TE
  have c_runs_between := cal_runs (P := P) (w := w) (base := base) T TE
  refine FnG.body F sc_law (fun vs H Q E h => ?_) (fun cdv A outer s H vs Q E hr hgd h => ⟨_, PSs.nox ((pss_cons (ps_for PassesOwn.never rfl (pi_range1 rfl T.b_range (pa_cons (pe_callB (call_max2 rfl) (by rfl) T.b_max (by decide +kernel) (pa_cons pe_int (pa_cons (pe_callB (call_min2 rfl) (by rfl) T.b_min (by decide +kernel) (pa_cons pe_int (pa_cons (pe_callB call_len_seq (by rfl) T.b_len (by decide +kernel) (pa_cons (pv 0) pa_nil)) pa_nil))) pa_nil))) pa_nil)) (pg_name (i := 1) sc_law.nd rfl (Or.inl rfl)) (pss_cons (ps_set (i := 2) sc_law.nd rfl (Or.inl rfl) (pe_cal c_law_source (hr.mono (by decide)) pass0 (pa_cons (pv 0) (pa_cons (pv 1) pa_nil))))
      (pss_cons (ps_for PassesOwn.never rfl (pi_range1 rfl T.b_range (pa_cons pe_int pa_nil)) (pg_name (i := 3) sc_law.nd rfl (Or.inl rfl)) (pss_cons (ps_set (i := 4) sc_law.nd rfl (Or.inl rfl) (pe_cal c_law_odd_signal (hr.mono (by decide)) pass0 (pa_cons (pv 2) pa_nil)))
      (pss_cons (ps_set (i := 5) sc_law.nd rfl (Or.inl rfl) (pe_callB (call_rd TE.sy hgd hr.units) (by rfl) T.b_repr (by decide +kernel) (pa_cons (pv 4) pa_nil)))
      (pss_one (ps_if (PW.pt (pw_or (pt_cmpR op_ne (pe_callB (call_rd TE.sy hgd hr.units) (by rfl) T.b_repr (by decide +kernel) (pa_cons (pe_cal c_is_signal (hr.mono (by decide)) pass0 (pa_cons (pv 4) pa_nil)) pa_nil)) (pe_callB (call_rd TE.sy hgd hr.units) (by rfl) T.b_repr (by decide +kernel) (pa_cons (pe_cmpR op_eq (pe_cal c_law_signal_fault (hr.mono (by decide)) pass0 (pa_cons (pv 4) pa_nil)) (pe_un un_neg pe_int) (nomark _)) pa_nil)) (nomark _)) (pw_or1 (pt_cmpR op_ne (pe_callB (call_rd TE.sy hgd hr.units) (by rfl) T.b_repr (by decide +kernel) (pa_cons (pv 4) pa_nil)) (pv 5) (nomark _))))) (pss_one (ps_ret pe_bl)) pss_nil)))))
      (pss_one (ps_if (pt_not (pt_val (pe_calG c_law_right (hr.mono (by decide)) hgd pass0 (pa_cons (pv 2) (pa_cons (pe_cal c_law_signal (hr.mono (by decide)) pass0 (pa_cons (pv 2) (pa_cons (pe_cal c_law_draw (hr.mono (by decide)) pass0 (pa_cons (pv 2) (pa_cons pe_int pa_nil))) pa_nil))) pa_nil))))) (pss_one (ps_ret pe_bl)) pss_nil)))))
      (Evl.pss_cut (ps_set (i := 2) sc_law.nd rfl (Or.inl rfl) (pe_cal c_law_source (hr.mono (by decide)) pass0 (pa_cons (pv 0) (pa_cons pe_int pa_nil))))
      (Evl.pss_cut (ps_if (pt_not (pt_val (pe_calG c_law_right (hr.mono (by decide)) hgd pass0 (pa_cons (pv 2) (pa_cons (pe_cal c_law_signal (hr.mono (by decide)) pass0 (pa_cons (pv 2) (pa_cons (pe_op op_add pe_int (pe_cal c_law_draw (hr.mono (by decide)) pass0 (pa_cons (pv 2) (pa_cons pe_int pa_nil)))) pa_nil))) pa_nil))))) (pss_one (ps_ret pe_bl)) pss_nil)
      (pss_cons (ps_set (i := 6) sc_law.nd rfl (Or.inr rfl) (pe_lc rfl sc_law.nd (pi_range1 rfl T.b_range (pa_cons pe_int pa_nil)) (blkOk_by (own := [("_law_moment", 7)]) (N := ["_law_script", "_law_at", "_law_source_here", "_law_turn", "_law_thing", "_law_kept", "_law_long", "_law_moment", "_law_item"]) (sc := defScope s_law) (by decide +kernel)) (fun _ _ _ _ _ => (pg_name (i := 7) sc_law.nd rfl (Or.inl rfl))) (fun _ _ _ _ _ => pts_nil) (fun _ _ _ _ _ => (pe_op op_mul (pv 7) pe_int))))
      (pss_cons (ps_if (PW.pt (pw_or (pt_cmpR op_ne (pe_callB (call_rd TE.sy hgd hr.units) (by rfl) T.b_repr (by decide +kernel) (pa_cons (pe_cal c_is_signal (hr.mono (by decide)) pass0 (pa_cons (pv 6) pa_nil)) pa_nil)) pe_str (nomark _)) (pw_or1 (pt_cmpR op_ne (pe_callB (call_rd TE.sy hgd hr.units) (by rfl) T.b_repr (by decide +kernel) (pa_cons (pe_cal c_is_signal (hr.mono (by decide)) pass0 (pa_cons (pe_slice sl_list (pv 6) po_none (po_some pe_int)) pa_nil)) pa_nil)) pe_str (nomark _))))) (pss_one (ps_ret pe_bl)) pss_nil)
      (pss_cons (ps_if (pt_cmpR (op_neD hr.units) (pe_lc rfl sc_law.nd (pi_tup (pe_tup (pa_cons pe_int (pa_cons pe_int (pa_cons pe_bl (pa_cons pe_non (pa_cons pe_str pa_nil))))))) (blkOk_by (own := [("_law_item", 8)]) (N := ["_law_script", "_law_at", "_law_source_here", "_law_turn", "_law_thing", "_law_kept", "_law_long", "_law_moment", "_law_item"]) (sc := defScope s_law) (by decide +kernel)) (fun _ _ _ _ _ => (pg_name (i := 8) sc_law.nd rfl (Or.inl rfl))) (fun _ _ _ _ _ => (pts_one (pt_cmpR op_ne (pe_callB (rd_K (K0 := K) rfl TE.sy hgd hr.units) (by rfl) T.b_repr (by decide +kernel) (pa_cons (pe_cal c_is_signal (hr.mono (by decide)) pass0 (pa_cons (pe_op op_cat (pe_slice (slL_K (K0 := K) rfl) (pv 6) po_none (po_some pe_int)) (pe_lst (pa_cons (pv 8) pa_nil))) pa_nil)) pa_nil)) pe_str (nomark _)))) (fun _ _ _ _ _ => pe_int)) (pe_lst pa_nil) (nomark _)) (pss_one (ps_ret pe_bl)) pss_nil)
      (pss_one (ps_ret (pe_cmpR op_eq (pe_callB (call_rd TE.sy hgd hr.units) (by rfl) T.b_repr (by decide +kernel) (pa_cons (pe_lst (pa_cons (pe_calK c_is_signal_value (hr.mono (by decide)) pass0 (pk_cons (pe_lst pa_nil) pk_nil)) (pa_cons (pe_cal c_level_at (hr.mono (by decide)) pass0 (pa_cons (pe_lst pa_nil) (pa_cons pe_int pa_nil))) (pa_cons (pe_cal c_runs_between (hr.mono (by decide)) pass0 (pa_cons (pe_lst pa_nil) (pa_cons (pe_un un_neg pe_int) (pa_cons pe_int pa_nil)))) pa_nil)))) pa_nil)) pe_str (nomark _))))))))))), ?_⟩)
  · obtain ⟨a, ns, rfl, _⟩ := h
    rfl
  · obtain ⟨a, ns, rfl, sq, hl, q⟩ := h
    refine ⟨_, rfl, a, _, rfl, .inl sq, _, _, rfl, _, _, rfl, _, rfl, ?_, ?_, ?_⟩
    · split <;> split <;> omega
    · split <;> split <;> omega
    have small : ∀ i : Nat, i < (if (if ((ns.map V.int).length : Int) < 10 then ((ns.map V.int).length : Int) else 10) > 1 then (if ((ns.map V.int).length : Int) < 10 then ((ns.map V.int).length : Int) else 10) else 1 : Int).toNat → i ≤ 10 := by
      intro i hi
      split at hi <;> (try split at hi) <;> omega
    refine for_range (lo := 0) (fun i σ H1 => ∃ u1 u2 u3 u4 u5, σ = [some (.ref a), u1, u2, u3, u4, u5, none, none, none] ∧ Ex H H1) ⟨none, none, none, none, none, rfl, Ex.refl H⟩ ?_ ?_
    · rintro i σ H1 hi ⟨u1, u2, u3, u4, u5, rfl, ex⟩
      have i8 := small i hi
      refine ⟨_, rfl, _, rfl, a, ns, i, by simp, ex_l ex sq, by omega, fun S H2 nS e2 src0 => ?_⟩
      have fS : H S = none := fresh_back ex nS
      refine ⟨3, rfl, by decide, by decide, ?_⟩
      refine for_range (lo := 0) (n := (3 : Int).toNat) (fun j σ H3 => ∃ v3 v4 v5, σ = [some (.ref a), some (.int (0 + (i : Int))), some (.ref S), v3, v4, v5, none, none, none] ∧ Kp S H2 H3 ∧ Src H3 S (100 * j)) ⟨u3, u4, u5, rfl, Kp.refl, src0⟩ ?_ ?_
      · rintro j σ H3 hj ⟨v3, v4, v5, rfl, k3, src3⟩
        have hj3 : j < 3 := hj
        refine ⟨_, rfl, S, _, rfl, src3, by omega, fun v H4 k4 src4 thg => ?_⟩
        obtain ⟨o, d, sd, th⟩ := thg
        refine ⟨_, rfl, v, d, rfl, (th H4 Kp.refl).2, sd, ?_⟩
        refine ⟨_, rfl, v, o, rfl, (th H4 Kp.refl).1, fun H5 e5 => ?_⟩
        refine ⟨_, _, rfl, .old (.bl _) rfl, shwB _, ?_⟩
        refine ⟨_, rfl, v, o, rfl, (th H5 (Ex.kp e5)).1, fun r H6 e6 hr1 hr2 => ?_⟩
        have sc : scal r (.int (-1)) = true := by
          rcases hr1 with rfl | ⟨z, rfl⟩ <;> rfl
        refine ⟨1, rfl, sc, ?_⟩
        rw [hr2]
        refine ⟨_, _, rfl, .old (.bl _) rfl, shwB _, rfl, _, rfl, iteNS rfl ?_⟩
        refine ⟨_, rfl, v, d, rfl, (th H6 (Ex.kp (e5.trans e6))).2, sd, _, rfl, rfl, _, rfl, iteNS rfl ?_⟩
        exact ⟨_, _, _, rfl, (k3.trans k4).trans (Ex.kp (e5.trans e6)), (src4.ex (e5.trans e6)).mono (by omega)⟩
      · rintro σ H3 ⟨v3, v4, v5, rfl, k3, src3⟩
        have src3' : Src H3 S 300 := src3
        refine ⟨_, rfl, _, rfl, _, rfl, S, 31, 300, rfl, src3', by omega, by decide, by decide, fun d H4 d0 d1 src4 k4 => ?_⟩
        refine ⟨S, 301, d.toNat, by rw [Int.toNat_of_nonneg d0]; rfl, src4, by omega, by omega, fun L ms H5 nL k5 src5 ml ri bd hL => ?_⟩
        have L_S := src4.ne nL
        refine ⟨S, _, L, ms, rfl, src5, by omega, hL, L_S, by omega, ri, bd, fun H6 k6 src6 => ⟨_, rfl, iteF ?_⟩⟩
        exact ⟨_, _, _, _, _, rfl, Kp.new (ex.trans e2) (((k3.trans k4).trans k5).trans k6) fS⟩
    · rintro σ H1 ⟨u1, u2, u3, u4, u5, rfl, ex⟩
      refine ⟨fun σ' H' => ∃ S, σ' = [some (.ref a), u1, some (.ref S), u3, u4, u5, none, none, none] ∧ Src H' S 0 ∧ Ex H H', ?_, ?_⟩
      · refine ⟨_, rfl, a, ns, 0, rfl, ex_l ex sq, by decide, fun S H2 nS e2 src0 => ⟨S, rfl, src0, ex.trans e2⟩⟩
      rintro σ2 H2 ⟨S, rfl, src0, ex2⟩
      refine ⟨fun σ' H' => σ' = [some (.ref a), u1, some (.ref S), u3, u4, u5, none, none, none], ?_, ?_⟩
      · refine ⟨_, rfl, _, rfl, _, rfl, S, 100, 0, rfl, src0, by omega, by decide, by decide, fun d H3 d0 d1 src3 k3 => ⟨_, _, rfl, rfl, ?_⟩⟩
        refine ⟨S, 1, (700 + d).toNat, by rw [Int.toNat_of_nonneg (by omega)]; rfl, src3, by omega, by omega, fun L ms H4 nL k4 src4 ml ri bd hL => ?_⟩
        have L_S := src3.ne nL
        exact ⟨S, _, L, ms, rfl, src4, by omega, hL, L_S, by omega, ri, bd, fun H6 k6 src6 => ⟨_, rfl, iteF rfl⟩⟩
      rintro σ3 H3 rfl
      -- long
      refine ⟨801, rfl, by decide, by decide, fun D nD => ?_⟩
      refine lcR RI.lasts nD (by decide) (fun i : Nat => some ((0 + (i : Int)) * 3)) (fun i H4 hi e4 Kt Kf kt kf => ?_) (fun H4 xs e4 hx lr => ?_)
      · refine ⟨rfl, ?_⟩
        have hi8 : i < 801 := hi
        exact ⟨_, rfl, _, _, rfl, rfl, .inl ⟨by omega, by omega⟩, kt _ _ _ rfl (Ex.refl _) rfl⟩
      obtain rfl := lr.ints
      have el : (List.range (801 : Int).toNat).filterMap (fun i : Nat => some ((0 + (i : Int)) * 3)) = longL := by
        rw [List.filterMap_eq_map']
        rfl
      rw [el] at hx
      have ll : longL.length = 801 := long_len
      have asL : ∀ {H' : Hp}, Ex H4 H' → AsLs K H' (.ref D) (some (longL.map V.int)) := fun e => .yes rfl (sq_of (e _ _ hx)) (any_ints _) (by rw [List.length_map, ll]; decide)
      refine ⟨_, rfl, .ref D, _, rfl, asL (Ex.refl _), fun H5 e5 => ?_⟩
      rw [sg_big (by rw [List.length_map, ll]; decide)]
      refine ⟨_, _, rfl, .old (.bl _) rfl, shwB _, rfl, _, rfl, ?_⟩
      rw [sF]
      refine iteF ⟨_, rfl, 800, rfl, D, _, rfl, sq_of (e5 _ _ hx), fun G nG => ?_⟩
      rw [show (800 : Int) = ((800 : Nat) : Int) from rfl, cut_to _ _ (by rw [ll]; decide)]
      have ri8 := long_ris 800
      have l8 : (longL.take 800).length = 800 := by
        rw [List.length_take, ll]
        decide
      have ok8 : isSg (some ((longL.take 800).map V.int)) = true := by
        show (decide (((longL.take 800).map V.int).length ≤ 800) && sgB ((longL.take 800).map V.int)) = true
        rw [List.length_map, decide_eq_true (by omega), sgB_ris ri8]
        rfl
      refine ⟨.ref G, some ((longL.take 800).map V.int), rfl, .yes rfl (sq_of upd_same) (any_ints _) (by rw [List.length_map]; omega), fun H6 e6 => ?_⟩
      rw [ok8]
      refine ⟨_, _, rfl, .old (.bl _) rfl, shwB _, rfl, _, rfl, ?_⟩
      rw [sT]
      have e46 := (e5.trans (Ex.new nG)).trans e6
      refine iteF ⟨(by show 5 ≤ sizeLine; decide), fun t nt => ⟨t, rfl, ⟨_, st_of upd_same⟩, fun D2 nD2 => ?_⟩⟩
      have et := Ex.new nt (o := .tup [.int 2394, .int 0, .bl true, .non, .str "3000"])
      refine lc_tup (K := K) (a := t) (xs := [.int 2394, .int 0, .bl true, .non, .str "3000"]) (fun i H' => Ex (upd H6 t (.tup [.int 2394, .int 0, .bl true, .non, .str "3000"])) H' ∧ H' D2 = some (.lst [])) ⟨Ex.new nD2, upd_same⟩ (fun i H' _ ⟨e, _⟩ => ex_t e (st_of upd_same)) (fun i x H' hxi ⟨e7, h7⟩ => ?_) (fun H' ⟨e7, h7⟩ => ?_)
      · have xin := List.mem_of_getElem? hxi
        have xt : (∀ z : Int, x = .int z → z ≤ 2394) ∧ ∃ n, ∀ H'', TyN K H'' x n := by
          simp only [List.mem_cons, List.not_mem_nil, or_false] at xin
          rcases xin with rfl | rfl | rfl | rfl | rfl
          · exact ⟨fun z h => (by cases h; omega), _, fun _ => .int _⟩
          · exact ⟨fun z h => (by cases h; omega), _, fun _ => .int _⟩
          · exact ⟨fun z h => (by cases h), _, fun _ => .bl _⟩
          · exact ⟨fun z h => (by cases h), _, fun _ => .non⟩
          · exact ⟨fun z h => (by cases h), _, fun _ => .str _⟩
        obtain ⟨xz, nx, tx⟩ := xt
        refine ⟨rfl, ?_⟩
        have e47 := (e46.trans et).trans e7
        refine ⟨_, rfl, 799, rfl, D, _, rfl, sq_of (e47 _ _ hx), fun A1 nA1 => ⟨_, rfl, (by show 1 ≤ sizeLine; decide), fun A2 nA2 => ?_⟩⟩
        rw [show (799 : Int) = ((799 : Nat) : Int) from rfl, cut_to _ _ (by rw [ll]; decide)] at nA2 ⊢
        have l7 : ((longL.take 799).map V.int).length = 799 := by
          rw [List.length_map, List.length_take, ll]
          decide
        refine ⟨A1, A2, _, _, rfl, rfl, Ex.new nA2 _ _ upd_same, upd_same, ?_, fun A3 nA3 => ?_⟩
        · rw [l7]
          exact (by decide : 799 + 1 ≤ sizeLine)
        have eA := ((Ex.new nA1 (o := .lst ((longL.take 799).map V.int))).trans (Ex.new nA2 (o := .lst [x]))).trans (Ex.new nA3 (o := .lst ((longL.take 799).map V.int ++ [x])))
        refine ⟨.ref A3, some ((longL.take 799).map V.int ++ [x]), rfl, .yes rfl (sq_of upd_same) ?_ ?_, fun H8 e8 => ?_⟩
        · intro y hy
          rcases List.mem_append.mp hy with h | h
          · exact any_ints _ y h
          · rw [List.mem_singleton.mp h]
            exact ⟨_, tx _⟩
        · rw [List.length_append, l7]
          show 799 + 1 ≤ 1000
          omega
        rw [sg_end xz]
        refine ⟨_, _, rfl, .old (.bl _) rfl, shwB _, rfl, _, rfl, ?_⟩
        rw [sF]
        exact iteF ⟨(e7.trans eA).trans e8, e8 _ _ (eA _ _ h7)⟩
      refine ⟨Nat.zero_le _, fun A1 nA1 => ?_⟩
      refine ⟨.list [], .list [], .lst (sq_of (Ex.new nA1 _ _ h7)) .nil, .lst (sq_of upd_same) .nil, by decide +kernel, by decide +kernel, _, rfl, ?_⟩
      rw [show PyData.eqv (.list []) (.list []) = true by decide +kernel]
      refine iteF ⟨Nat.zero_le _, fun A2 nA2 => ?_⟩
      have ok0 : isSg (some []) = true := by decide +kernel
      refine ⟨.ref A2, some [], rfl, .yes rfl (sq_of upd_same) (fun x hx => by cases hx) (by decide), fun H8 e8 => ?_⟩
      rw [ok0]
      refine ⟨Nat.zero_le _, fun A3 nA3 => ⟨A3, [], 0, rfl, sq_of upd_same, by decide, (fun i x y h => by simp at h), fun H9 e9 => ?_⟩⟩
      refine ⟨Nat.zero_le _, fun A4 nA4 => ⟨3, rfl, A4, [], -3, 9, rfl, sq_of upd_same, by decide, (fun i x y h => by simp at h), by decide, fun R H10 rs nR e10 hR lR => ?_⟩⟩
      refine ⟨(by show 3 ≤ sizeLine; decide), fun A5 nA5 => ?_⟩
      have lR' := lR.imp fun x r h => RT.lasts.ex (Ex.new nA5 (o := .lst [.bl true, .int (lv [] 0), .ref R])) h
      have dp : Dp K (upd H10 A5 (.lst [.bl true, .int (lv [] 0), .ref R])) (.ref A5) (.list [.bool true, .int (lv [] 0), .list ((runsL [] (-3) 9).map fun r => PyData.tuple (dI r))]) :=
        .lst (sq_of upd_same) (.cons (.bl true) (.cons (.int _) (.cons (.lst (sq_of (Ex.new nA5 _ _ hR)) (dp_rows lR')) .nil)))
      refine ⟨_, _, rfl, .old dp (by decide +kernel), ⟨by decide +kernel, by decide +kernel, by decide +kernel⟩, rfl, ?_⟩
      have es : decide (V.str (PyData.list [.bool true, .int (lv [] 0), .list ((runsL [] (-3) 9).map fun r => PyData.tuple (dI r))]).shown = V.str "[True, 1, [(1, 12)]]") = true := by decide +kernel
      rw [es]
      exact q _
end
end LW
namespace LW
open PySem PySem.Spec PyProof.Rows L2 Evl SB
section
variable {P : Program} {w : World} {K : PySem.W.Frag} {mg : Str → Option Value} {base : Heap}
theorem law_facts {h : Heap} {fa : Addr} (X : K.In h) (hfa : mg ("law" : Str) = some (.ref fa)) (T : Tx K mg) (TE : TxE P K mg) :
    ∃ (K' : PySem.W.Frag) (fd : FuncData) (sp : Sp), K'.In h ∧ (∀ (s : Shared) (u : Value), BindsTo s fd ⟨[u], []⟩ [(("_law_script" : Str), u)]) ∧
        (∀ (H : Hp) (a : Addr) (ns : List Int), ns.length ≤ 63 → Only H → SqL K' H a (ns.map V.int) → sp [.ref a] H (fun v _ => v = .bl true) fun _ _ _ => False) ∧
        ∀ base : Heap, K'.In base → base.Ns mainGlobals mg → FnG P w K' mg base L2.CX0 10 fa fd ["_law_script"] sp := by
  obtain ⟨e, fd, F⟩ := T.d_law
  have e2 := hfa.symm.trans e
  cases e2
  exact ⟨K, fd, sp_law K, X, fun s u => FunD.bindsA (ps := ["_law_script"]) F (fun _ _ _ _ _ _ us hl => match us, hl with | [_], _ => rfl) s [u] rfl,
    fun H a ns hl _ hS => ⟨a, ns, rfl, hS, hl, fun _ => rfl⟩, fun base _ _ => law_ok T TE F⟩
end
def fnL : List He.DefD := [⟨("is_int", none), "is_int", "is_int", defArgs s_is_int, defBody s_is_int, defScope s_is_int, [], []⟩,
  ⟨("is_list_up_to", none), "is_list_up_to", "is_list_up_to", defArgs s_is_list_up_to, defBody s_is_list_up_to, defScope s_is_list_up_to, [], []⟩,
  ⟨("check_tick", none), "check_tick", "check_tick", defArgs s_check_tick, defBody s_check_tick, defScope s_check_tick, [], []⟩,
  ⟨("check_signal", none), "check_signal", "check_signal", defArgs s_check_signal, defBody s_check_signal, defScope s_check_signal, [], []⟩,
  ⟨("is_signal", none), "is_signal", "is_signal", defArgs s_is_signal, defBody s_is_signal, defScope s_is_signal, [], []⟩,
  ⟨("level_at", none), "level_at", "level_at", defArgs s_level_at, defBody s_level_at, defScope s_level_at, [], []⟩,
  ⟨("runs_between", none), "runs_between", "runs_between", defArgs s_runs_between, defBody s_runs_between, defScope s_runs_between, [], []⟩,
  ⟨("_law_source", none), "_law_source", "_law_source", defArgs s_law_source, defBody s_law_source, defScope s_law_source, [], []⟩,
  ⟨("_law_draw", none), "_law_draw", "_law_draw", defArgs s_law_draw, defBody s_law_draw, defScope s_law_draw, [], []⟩,
  ⟨("_law_is_integer", none), "_law_is_integer", "_law_is_integer", defArgs s_law_is_integer, defBody s_law_is_integer, defScope s_law_is_integer, [], []⟩,
  ⟨("_law_signal", none), "_law_signal", "_law_signal", defArgs s_law_signal, defBody s_law_signal, defScope s_law_signal, [], []⟩,
  ⟨("_law_odd_signal", none), "_law_odd_signal", "_law_odd_signal", defArgs s_law_odd_signal, defBody s_law_odd_signal, defScope s_law_odd_signal, [], []⟩,
  ⟨("_law_signal_fault", none), "_law_signal_fault", "_law_signal_fault", defArgs s_law_signal_fault, defBody s_law_signal_fault, defScope s_law_signal_fault, [], []⟩,
  ⟨("_law_level", none), "_law_level", "_law_level", defArgs s_law_level, defBody s_law_level, defScope s_law_level, [], []⟩,
  ⟨("_law_tick", none), "_law_tick", "_law_tick", defArgs s_law_tick, defBody s_law_tick, defScope s_law_tick, [], []⟩,
  ⟨("_law_runs", none), "_law_runs", "_law_runs", defArgs s_law_runs, defBody s_law_runs, defScope s_law_runs, [], []⟩,
  ⟨("_law_right", none), "_law_right", "_law_right", defArgs s_law_right, defBody s_law_right, defScope s_law_right, [], []⟩,
  ⟨("law", none), "law", "law", defArgs s_law, defBody s_law, defScope s_law, [], []⟩]
def faL : List He.Fa := [.free "abs", .free "bool", .free "enumerate", .free "int", .free "isinstance", .free "len", .free "list", .free "max", .free "min", .free "range", .free "repr", .int "MOST_CHANGES" (800), .glo "is_int", .glo "is_list_up_to", .glo "check_tick", .glo "check_signal", .glo "is_signal", .glo "level_at", .glo "runs_between", .glo "_law_source", .glo "_law_draw", .glo "_law_is_integer", .glo "_law_signal", .glo "_law_odd_signal", .glo "_law_signal_fault", .glo "_law_level", .glo "_law_tick", .glo "_law_runs", .glo "_law_right", .glo "law"]
def exL (K : PySem.W.Frag) : Bool := (true) && (EXS.errB PySem.Challenge.pw_startbits_k05_signals_judged_and_told.main.file K "InvalidSignal" "index" && (EXS.plnB K "InvalidTick" && (sysB K && (true))))
def errL : List EXS.ErrD := [⟨"InvalidSignal", "index", "wrong tick of a signal: ", defArgs (inB (topS 3) 0), defBody (inB (topS 3) 0), defScope (inB (topS 3) 0)⟩]
theorem tx_of {w : World} {K : PySem.W.Frag} {h : Heap} {mg : Str → Option Value} (X : K.In h) (G : h.Ns mainGlobals mg) (c : He.SaysX faL fnL [] [] exL w h K) : Tx K mg := by
  have D := c.t.d
  have M := ((Bool.and_eq_true _ _).mp c.more).1
  exact {
    b_abs := He.free_ok X G (D.fact 0 (f := .free "abs") rfl),
    b_bool := He.free_ok X G (D.fact 1 (f := .free "bool") rfl),
    b_enumerate := He.free_ok X G (D.fact 2 (f := .free "enumerate") rfl),
    b_int := He.free_ok X G (D.fact 3 (f := .free "int") rfl),
    b_isinstance := He.free_ok X G (D.fact 4 (f := .free "isinstance") rfl),
    b_len := He.free_ok X G (D.fact 5 (f := .free "len") rfl),
    b_list := He.free_ok X G (D.fact 6 (f := .free "list") rfl),
    b_max := He.free_ok X G (D.fact 7 (f := .free "max") rfl),
    b_min := He.free_ok X G (D.fact 8 (f := .free "min") rfl),
    b_range := He.free_ok X G (D.fact 9 (f := .free "range") rfl),
    b_repr := He.free_ok X G (D.fact 10 (f := .free "repr") rfl),
    i_MOST_CHANGES := He.int_ok X G (D.fact 11 (f := .int "MOST_CHANGES" (800)) rfl),
    d_is_int := ⟨He.glo_ok X G (D.fact 12 (f := .glo "is_int") rfl), D.def_ 0 rfl⟩,
    d_is_list_up_to := ⟨He.glo_ok X G (D.fact 13 (f := .glo "is_list_up_to") rfl), D.def_ 1 rfl⟩,
    d_check_tick := ⟨He.glo_ok X G (D.fact 14 (f := .glo "check_tick") rfl), D.def_ 2 rfl⟩,
    d_check_signal := ⟨He.glo_ok X G (D.fact 15 (f := .glo "check_signal") rfl), D.def_ 3 rfl⟩,
    d_is_signal := ⟨He.glo_ok X G (D.fact 16 (f := .glo "is_signal") rfl), D.def_ 4 rfl⟩,
    d_level_at := ⟨He.glo_ok X G (D.fact 17 (f := .glo "level_at") rfl), D.def_ 5 rfl⟩,
    d_runs_between := ⟨He.glo_ok X G (D.fact 18 (f := .glo "runs_between") rfl), D.def_ 6 rfl⟩,
    d_law_source := ⟨He.glo_ok X G (D.fact 19 (f := .glo "_law_source") rfl), D.def_ 7 rfl⟩,
    d_law_draw := ⟨He.glo_ok X G (D.fact 20 (f := .glo "_law_draw") rfl), D.def_ 8 rfl⟩,
    d_law_is_integer := ⟨He.glo_ok X G (D.fact 21 (f := .glo "_law_is_integer") rfl), D.def_ 9 rfl⟩,
    d_law_signal := ⟨He.glo_ok X G (D.fact 22 (f := .glo "_law_signal") rfl), D.def_ 10 rfl⟩,
    d_law_odd_signal := ⟨He.glo_ok X G (D.fact 23 (f := .glo "_law_odd_signal") rfl), D.def_ 11 rfl⟩,
    d_law_signal_fault := ⟨He.glo_ok X G (D.fact 24 (f := .glo "_law_signal_fault") rfl), D.def_ 12 rfl⟩,
    d_law_level := ⟨He.glo_ok X G (D.fact 25 (f := .glo "_law_level") rfl), D.def_ 13 rfl⟩,
    d_law_tick := ⟨He.glo_ok X G (D.fact 26 (f := .glo "_law_tick") rfl), D.def_ 14 rfl⟩,
    d_law_runs := ⟨He.glo_ok X G (D.fact 27 (f := .glo "_law_runs") rfl), D.def_ 15 rfl⟩,
    d_law_right := ⟨He.glo_ok X G (D.fact 28 (f := .glo "_law_right") rfl), D.def_ 16 rfl⟩,
    d_law := ⟨He.glo_ok X G (D.fact 29 (f := .glo "law") rfl), D.def_ 17 rfl⟩ }
theorem txe_of {w : World} {K : PySem.W.Frag} {h : Heap} {mg : Str → Option Value} (X : K.In h) (G : h.Ns mainGlobals mg) (c : EXS.SaysE faL fnL errL exL w h K) : TxE PySem.Challenge.pw_startbits_k05_signals_judged_and_told K mg := by
  have M := ((Bool.and_eq_true _ _).mp c.x.more).2
  have V := c.e
  obtain ⟨m0, M⟩ := (Bool.and_eq_true _ _).mp M
  obtain ⟨m1, M⟩ := (Bool.and_eq_true _ _).mp M
  obtain ⟨m2, M⟩ := (Bool.and_eq_true _ _).mp M
  obtain ⟨v0, V⟩ := List.cons.inj V
  exact {
    x_InvalidSignal := EXS.err_ok (e := ⟨"InvalidSignal", "index", "wrong tick of a signal: ", defArgs (inB (topS 3) 0), defBody (inB (topS 3) 0), defScope (inB (topS 3) 0)⟩) X G (by decide +kernel) ⟨_, _, _, _, _, _, _, _, _, _, _, _, _, _, _, _, rfl, rfl, rfl, rfl, .inl rfl, by decide⟩ m0 v0,
    p_InvalidTick := EXS.pln_ok X G m1,
    sy := sys_ok m2 }
def looseL : List Str := (["LineError", "InvalidTick", "InvalidSignal", "MOST_CHANGES", "is_int", "is_list_up_to", "check_tick", "check_signal", "is_signal", "level_at", "runs_between", "_law_source", "_law_draw", "_law_is_integer", "_law_signal", "_law_odd_signal", "_law_signal_fault", "_law_level", "_law_tick", "_law_runs", "_law_right"] : List Str)
abbrev RW : PySem.W.OpenRow := PySem.W.OpenLaw.row PySem.Challenge.rw_startbits_k05_signals_judged_and_told
abbrev hk : PySem.W.Hook := EXS.hookE 5 faL fnL errL exL
def obL (s : PySem.W.SharedT) : EXS.AlE := EXS.obsE 5 faL fnL errL exL (HandSHeadRun.getT s)
theorem obL_eq (s : PySem.W.SharedT) : obL s = hk.obs s.abs := EXS.obsE_eq (HandSHeadRun.getT_eq s)
theorem runL (w : World) : HandSHeadRun.RunEq RW (PySem.W.view RW.prog [25]) hk obL 6000 looseL w := by
  intro os
  kernel_rfl
end LW
open PySem PySem.W PySem.Calls PyProof.Rows
set_option maxHeartbeats 0 in
theorem PySem.Challenge.cw_startbits_k05_signals_judged_and_told_holds : PySem.Challenge.rw_startbits_k05_signals_judged_and_told.Holds := by
  w_on; o_law
  refine HandSHeadRun.head_any (r := OpenLaw.row PySem.Challenge.rw_startbits_k05_signals_judged_and_told) (q := view (OpenLaw.row PySem.Challenge.rw_startbits_k05_signals_judged_and_told).prog [25]) (H := LW.hk) (ob := LW.obL) (M := 6000) (loose := LW.looseL) (d := HandSHeadRun.topDef (OpenLaw.row PySem.Challenge.rw_startbits_k05_signals_judged_and_told).prog 25) (kwd := []) LW.obL_eq
    (by kernel_rfl) (fun s => by kernel_rfl) LW.runL (by kernel_rfl) (by kernel_rfl) (by kernel_rfl) (by rfl) (by first | assumption | decide +kernel) (by decide +kernel) ⟨rfl, rfl, rfl, rfl, rfl, by decide +kernel⟩ ?hw ?hc
  case hw => w_witness2
  case hc =>
    refine SB.walkG (l := PySem.Challenge.rw_startbits_k05_signals_judged_and_told) (n := 63) (k := 10) (x := "_law_script") (CX := L2.CX0) rfl (by decide) (by kernel_rfl) ⟨rfl, by decide, by decide⟩ ?F (fun _ _ _ _ z => z)
    intro w mg fa h Y G hmg0
    obtain ⟨K, KX, c⟩ := Y
    have hmg : mg ("law" : PySem.Str) = some (.ref fa) := by
      have e : (HandSHeadRun.topDef (OpenLaw.row PySem.Challenge.rw_startbits_k05_signals_judged_and_told).prog 25).name = ("law" : PySem.Str) := by kernel_rfl
      rw [← e]
      exact hmg0
    exact LW.law_facts KX hmg (LW.tx_of KX G c.x) (LW.txe_of KX G c)
