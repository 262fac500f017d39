import PyProof.Rows.All
import Wide.All
import OpenK.AllK
import Wide.FinOn
import PySem.Challenge.RW_startbits_k40_places_that_last
import HandS.ForMost
import HandS.Wide
import HandS.IsInst
import HandS.Defaults
import HandS.HeadHook2
import HandS.HeadHook4
import HandS.HeadEnd
import HandS.Head0
import HandS.Head1
import HandS.Head2
import PyProof.ReprRoads
import PyProof.ReprLen
import HandS.Evl
import HandS.Text
import HandS.Zip
import HandS.Style
import HandS.Conv
import HandS.ForExc
import HandS.ExcInit
import KE.KExcLine
import HandS.ExcSuper
import HandS.TryOnly
import HandS.Dict
import HandS.ExcField
import HandS.ExcIs
import KE.KExcHand
import KE.KExcIs
import KE.KIsAll
set_option Elab.async false
set_option linter.all false
set_option maxRecDepth 100000
set_option maxHeartbeats 4000000
namespace SB
open PySem PySem.Spec PyProof.Rows L2
/-! powers of wide ints -/
def CPowB (i j : Int) : Prop := 0 ≤ j ∧ ((i.natAbs.log2 : Int) + 1) * j ≤ 134217728
theorem bits_le (i : Int) : (Builtin.Int.intBits i : Int) ≤ (i.natAbs.log2 : Int) + 1 := by
  unfold Builtin.Int.intBits
  split <;> omega
theorem op_powB {X : Cx} : OpR X (binaryOp .Pow) (rI CPowB fun i j => .int (i ^ j.toNat)) :=
  opI fun i j _ _ _ _ _ hc q => by
    refine pow_int hc.1 ?_ q
    have h2 := hc.2
    have h3 := Int.mul_le_mul_of_nonneg_right (bits_le i) hc.1
    have e : (2 : Int) ^ 27 = 134217728 := by decide
    omega
/-! repr of data -/
def rRp (K : PySem.W.Frag) : List V → Hp → VK → Prop := fun xs H Q => ∃ v d, xs = [v] ∧ Dp K H v d ∧ d.showable = true ∧ d.hasDict = false ∧ d.depth ≤ 60 ∧ d.shown.length ≤ sizeLine ∧ Q (.str d.shown) H
theorem call_rp {X : Cx} (hg : X.A.guards = some []) (hu : X.A.units + 64 < cLine) : CallR X (.builtin "repr") (rRp X.K) := by
  intro pins s σ H xs us Q I r h
  obtain ⟨v, d, rfl, hd, h1, h2, h3, h4, q⟩ := h
  obtain ⟨u, rfl, ru⟩ := vals1 r
  cases hd with
  | non =>
    obtain rfl : u = Value.none := ru
    exact PySem.P.repr_of_none ⟨.str "None", H, I.tok _, ⟨_, rfl⟩, q⟩
  | bl b =>
    obtain rfl : u = Value.bool b := ru
    cases b with
    | true => exact PySem.P.repr_of_bool ⟨.str "True", H, I.tok _, ⟨_, rfl⟩, q⟩
    | false => exact PySem.P.repr_of_bool ⟨.str "False", H, I.tok _, ⟨_, rfl⟩, q⟩
  | int i =>
    obtain ⟨t, rfl⟩ := ru
    exact PySem.P.repr_of_int (of_decide_eq_true h1) ⟨.str (toString i), H, I.tok _, ⟨_, rfl⟩, q⟩
  | str x =>
    obtain ⟨t, rfl⟩ := ru
    exact PySem.P.repr_of_str ⟨.str (reprText x), H, I.tok _, ⟨_, rfl⟩, q⟩ h4
  | lst hs ha =>
    obtain ⟨as, rd⟩ := Dp.reads I _ _ u (.lst hs ha) ru
    cases (show u = Value.ref _ from ru)
    exact PySem.repr_of_reads' rd h1 (PyData.noDict_hsm h2) hg (by omega) (fun _ _ e => e) (fun h' u tk hk => ⟨.str _, H, I.kept hk, ⟨_, rfl⟩, q⟩) h4
  | tup hs ha =>
    obtain ⟨as, rd⟩ := Dp.reads I _ _ u (.tup hs ha) ru
    cases (show u = Value.ref _ from ru)
    exact PySem.repr_of_reads' rd h1 (PyData.noDict_hsm h2) hg (by omega) (fun _ _ e => e) (fun h' u tk hk => ⟨.str _, H, I.kept hk, ⟨_, rfl⟩, q⟩) h4
/-! defs that are run where no repr is under way: the promise holds for such surroundings alone -/
structure FnG (P : Program) (w : World) (K : PySem.W.Frag) (mg : Str → Option Value) (base : Heap) (CX : CXT) (k : Nat)
    (f : Addr) (fd : FuncData) (ps : List Str) (sp : Sp) : Prop where
  len : ∀ vs H Q E, sp vs H Q E → vs.length = ps.length
  go : ∀ (A : Around) (out : List Env) (s : Shared) (H : Hp) (ar : Args) (us : List Value) (vs : List V) (Q : VK) (E : XK),
    Room k A → A.guards = some [] → Env0 P w K mg base A out s H → BindsTo s fd ar (ps.zip us) → Vals vs us → sp vs H Q E →
    codeAny (model P w) A (.call (.ref f) ar) (CR CX out P w H s Q E) s
section
variable {P : Program} {w : World} {K : PySem.W.Frag} {mg : Str → Option Value} {base : Heap} {CX : CXT} {k : Nat}
  {f : Addr} {fd : FuncData} {ps : List Str} {sp : Sp}
theorem FnG.of (F : FnOk P w K mg base CX k f fd ps sp) : FnG P w K mg base CX k f fd ps sp :=
  ⟨F.len, fun A out s H ar us vs Q E r _ e b v h => F.run A out s H ar us vs Q E r e b v h⟩
theorem FnG.mono {j : Nat} (F : FnG P w K mg base CX j f fd ps sp) (h : j ≤ k) : FnG P w K mg base CX k f fd ps sp :=
  ⟨F.len, fun A out s H ar us vs Q E r g e b v z => F.go A out s H ar us vs Q E (r.mono h) g e b v z⟩
theorem FnG.body {x qual : Str} {params : Arguments} {bd : List Stmt} {scope : Scope} {dvs : List V} {kws : List (Str × V)} {N : List Str}
    (F : FunD K x qual params bd scope dvs kws f fd) (S : FnScope N ps scope) (len : ∀ vs H Q E, sp vs H Q E → vs.length = ps.length)
    (hb : ∀ (cdv : Value) (A : Around) (out : List Env) (s : Shared) (H : Hp) (vs : List V) (Q : VK) (E : XK),
      Room k (A.deeper (envOfC qual scope s.heap.objs.size f cdv)) → A.guards = some [] → sp vs H Q E →
      ∃ t, PSs (cxOf CX P w K mg base N qual scope f cdv A out s H E) bd t ∧ t { nx := fun _ H' => Q .non H', rt := Q } (start N vs) H) :
    FnG P w K mg base CX (k + 1) f fd ps sp := by
  obtain ⟨oc, od, dV, kV, doc, pm, an, cdv, ct, osl, rfl, lk, hcd, _, _⟩ := F.ex
  refine ⟨len, ?_⟩
  intro A out s H ar us vs Q E room gd e0 bnd vls pr
  have inS : K.In s.heap := e0.mod.kin.keeps fun b o z => (e0.bs b o z).1
  have nl : s.heap.NoLimit := e0.mod.nolimit.keeps fun b o z => (e0.bs b o z).1
  refine codeAny_call_function room.depth (inS _ _ lk) rfl S.co S.gen rfl (PySem.W.codeRec_of inS hcd) (bnd _ _ _ _ ?_)
  refine wpAny_newFunctionEnv_cells S.kind ?_ ?_
  · intro ⟨n, v⟩ hy
    cases S.par n (List.of_mem_zip hy).1 with
    | inl q => exact .inl q
    | inr q => exact .inr ⟨q, PySem.W.cellsFrom_some _ _ _ (.inl q)⟩
  intro env he s1 x
  subst he
  refine ⟨nl.keeps x.toInCall.keep, codeAny_func ?_⟩
  obtain ⟨t, der, rd⟩ := hb cdv A out s H vs Q E (room.deeper _) gd pr
  have I0 := inv_start (CX := CX) (P := P) (w := w) (K := K) (mg := mg) (base := base) (cd := cdv) (f := f) (E := E)
    (qual := qual) S room.hd e0 (len _ _ _ _ pr) vls x
  refine wpAny_mono (der.run [] s1 (start N vs) H _ I0 rd) ?_ (fun _ _ z => z)
  intro fl s' z
  cases fl with
  | ret u =>
    obtain ⟨v, σ', H', J, rv, q⟩ := z
    exact ⟨v, H', J.os, J.bare, J.base, J.hok, rv, q⟩
  | next =>
    obtain ⟨σ', H', J, q⟩ := z
    exact ⟨V.non, H', J.os, J.bare, J.base, J.hok, rfl, q⟩
  | brk =>
    obtain ⟨_, _, _, q⟩ := z
    exact q.elim
  | cont =>
    obtain ⟨_, _, _, q⟩ := z
    exact q.elim
end
section
variable {X : Cx} {CX : CXT} {k : Nat} {f : Addr} {fd : FuncData} {ps : List Str} {sp : Sp} {dvs : List V} {ds : List Value} {E : XK}
  {x : Str} {p pos : Pos} {e : Expr} {es : List Expr} {t : TA}
theorem runG {pins : List (Addr × Obj)} {σ : L2.St} {H : Hp} {s : Shared} {Q : VK} {us : List Value} {vs : List V}
    (F : FnG X.prog X.w X.K X.mg X.base CX k f fd ps sp) (hr : Room k X.A) (hg : X.A.guards = some []) (hb : Binds X.K fd ps ds) (hd : Vals dvs ds) (hx : Passes CX X E)
    (I : Inv X pins σ H s) (r : Vals vs us) (h : sp (vs ++ dvs) H Q E) : wpAny (model X.prog X.w) X.A (call (.ref f) us) (EP X pins σ Q) X.xe s := by
  have rr : Vals (vs ++ dvs) (us ++ ds) := r.append hd
  have ll : (us ++ ds).length = ps.length := rr.length.symm.trans (F.len _ _ _ _ h)
  have go := F.go X.A X.stack s H ⟨us, []⟩ (us ++ ds) (vs ++ dvs) Q E hr hg I.env0 (hb s us I.kIn ll) rr h
  refine wpAny_call (codeAny_mono go ?_)
  intro r s' z
  match r, z with
  | .error e, z => exact hx pins σ H s e s' I z
  | .ok (.ret u), z => exact I.after z
  | .ok .next, z => exact False.elim z
  | .ok .brk, z => exact False.elim z
  | .ok .cont, z => exact False.elim z
theorem pe_callG (F : FnG X.prog X.w X.K X.mg X.base CX k f fd ps sp) (hr : Room k X.A) (gd : X.A.guards = some []) (hg : Gl X x) (hm : X.mg x = some (.ref f))
    (hk : PySem.W.keepIn X.K (.ref f) = true) (hb : Binds X.K fd ps ds) (hd : Vals dvs ds) (hx : Passes CX X E)
    (ha : PA X (e :: es) t) (hdb : (x == ("__debug__" : Str)) = false := by decide)
    (he : starEach (e :: es) X.env = (false, eval e X.env) :: starEach es X.env := by rfl) (hpl : (backTo pos (starEach es X.env)).any (·.1) = false := by rfl) :
    PE X (.Call (.Name x p) (e :: es) [] pos) (tCall sp dvs E t) := by
  constructor
  intro pins s σ H Q I h
  refine wpAny_Call_Name_kw (ld_glob I hg hm ?_ hdb)
  refine PySem.W.callWith_K (h₀ := X.base) I.ok.mod.kin hk (thn (ha.run pos pins s σ H _ I h) ?_) he hpl
  intro us s1 ⟨vs, H1, I1, r, q⟩
  exact ⟨I1.kIn, runG F hr gd hb hd hx I1 r q⟩
end
/-! the end of a law over such a def -/
theorem callG {P : Program} {w : World} {K : PySem.W.Frag} {mg mb : Str → Option Value} {CX : CXT} {k : Nat} {fa a : Addr} {fd : FuncData} {x : Str} {sp : Sp} {s₁ : Shared}
    {vs : List Value} {ns : List Int}
    (KX : K.In s₁.heap) (hns : s₁.heap.Ns mainGlobals mg) (hb : s₁.heap.Ns builtinsNs mb) (hbb : ∀ x : Str, x ≠ "__name__" → mb x = bootBuiltins x) (hlim : s₁.heap.NoLimit) (hg : s₁.gens = #[])
    (ha : s₁.heap.get? a = some { cls := .type "list", data := .seq vs.toArray }) (hi : IntsAre vs ns) (hl : ns.length ≤ sizeLine) (hr : Room k callerA)
    (F : ∀ base : Heap, K.In base → base.Ns mainGlobals mg → FnG P w K mg base CX k fa fd [x] sp)
    (hbind : ∀ (s : Shared) (u : Value), BindsTo s fd ⟨[u], []⟩ [(x, u)])
    (hsp : ∀ H : Hp, Only H → SqL K H a (ns.map V.int) → sp [.ref a] H (fun v _ => v = .bl true) fun _ _ _ => False)
    (hCX : ∀ H e s', CX [] H s₁ (fun _ _ _ => False) e s' → False) :
    codeAny (model P w) callerA (.call (.ref fa) ⟨[.ref a], []⟩) (fun r s' => r = .ok (.ret (.bool true)) ∧ OldK s₁.heap s'.heap ∧ s'.os = s₁.os ∧ AllBare s'.gens) s₁ := by
  -- whatever is tracked at the entry is the script alone
  have main : ∀ T : Hp, Only T → SqL K T a (ns.map V.int) → HOk P w T s₁.heap → (∀ b, T b ≠ none → b = a ∧ K.lookup a = none) →
      codeAny (model P w) callerA (.call (.ref fa) ⟨[.ref a], []⟩) (fun r s' => r = .ok (.ret (.bool true)) ∧ OldK s₁.heap s'.heap ∧ s'.os = s₁.os ∧ AllBare s'.gens) s₁ := by
    intro T only sq hok alone
    have B : ∀ {b : Addr} {o : Obj}, s₁.heap.get? b = some o → T b = none → (hidT s₁.heap T).get? b = some o := fun e n => hidT_get e n
    have notD : ∀ {b : Addr} {o : Obj} {es : Array DictEntry} {n : Nat}, s₁.heap.get? b = some o → o.data = .dict es n → T b = none := by
      intro b o es n e d
      by_cases q : T b = none
      · exact q
      · have z := (alone b q).1
        subst z
        rw [ha] at e
        cases e
        cases (show Data.seq vs.toArray _ = Data.dict es n from d)
    have nsB : ∀ {b : Addr} {m : Str → Option Value}, s₁.heap.Ns b m → (hidT s₁.heap T).Ns b m :=
      fun ⟨o, es, n, e, d, r⟩ => ⟨o, es, n, B e (notD e d), d, r⟩
    have inB : K.In (hidT s₁.heap T) := by
      intro b o e
      refine B (KX b o e) ?_
      by_cases q : T b = none
      · exact q
      · obtain ⟨z1, z2⟩ := alone b q
        subst z1
        rw [z2] at e
        cases e
    have modB : Mod K mg (hidT s₁.heap T) := by
      obtain ⟨mc, l1, l2⟩ := hlim
      exact ⟨inB, nsB hns, ⟨mb, nsB hb, hbb⟩, mc, nsB l1, l2⟩
    have e0 : Env0 P w K mg (hidT s₁.heap T) callerA [] s₁ T := by
      refine ⟨rfl, modB, fun b o z => of_hidT z, Nat.le_of_eq (hidT_size _ _), trivial, ?_, hok, .of_eq hg⟩
      intro b z
      exact absurd (show b ∈ ([] : List Addr) from z) (by simp)
    have run := (F _ inB (nsB hns)).go callerA [] s₁ T ⟨[.ref a], []⟩ [.ref a] [.ref a] _ _ hr rfl e0 (hbind s₁ (.ref a)) (.cons rfl .nil) (hsp T only sq)
    refine codeAny_mono run ?_
    intro r s' z
    match r, z with
    | .error e, z => exact (hCX T e s' z).elim
    | .ok .next, z => exact False.elim z
    | .ok .brk, z => exact False.elim z
    | .ok .cont, z => exact False.elim z
    | .ok (.ret u), ⟨v, T', os, bare, un, hok', rel, q⟩ =>
      cases (show v = .bl true from q)
      cases (show u = Value.bool true from rel)
      refine ⟨rfl, OldK.of_keep ?_, os, bare⟩
      intro b o e
      cases q : T b with
      | none =>
        refine un.keep b o e q ?_ (by simp)
        intro z
        exact absurd (show b ∈ ([] : List Addr) from z) (by simp)
      | some u =>
        rcases only b with z | ⟨ob, ys, z⟩
        · rw [q] at z
          cases z
        · obtain ⟨e1, _⟩ := hok b _ z
          obtain ⟨e2, _⟩ := hok' b _ (un.frzs b ob _ z)
          rw [e] at e1
          cases e1
          exact e2
  cases hk : K.lookup a with
  | some o =>
    have e := KX a o hk
    rw [ha] at e
    cases e
    refine main (fun _ => none) (fun _ => .inl rfl) ?_ (fun b u z => nomatch (show (none : Option HO) = some u from z)) (fun b z => absurd rfl z)
    exact .inr ⟨_, vs.toArray, _, hk, rfl, rfl, rfl, by rw [List.size_toArray, hi.length]; exact hl, by simpa using vals_ints hi⟩
  | none =>
    obtain ⟨T, yes, no⟩ : ∃ T : Hp, (∀ b : Addr, b = a → T b = some (.frz { cls := .type "list", data := .seq vs.toArray } (.lst (ns.map V.int)))) ∧ (∀ b : Addr, b ≠ a → T b = none) :=
      ⟨fun c => if c = a then some (.frz { cls := .type "list", data := .seq vs.toArray } (.lst (ns.map V.int))) else none, fun b h => if_pos h, fun b h => if_neg h⟩
    refine main T ?_ (.inl (.inr ⟨_, yes a rfl⟩)) ?_ ?_
    · intro b
      by_cases h : b = a
      · exact .inr ⟨_, _, yes b h⟩
      · exact .inl (no b h)
    · intro b u z
      by_cases h : b = a
      · have z' := (yes b h).symm.trans z
        cases z'
        subst h
        exact ⟨ha, by rw [List.length_map]; exact hl, vs, _, vals_ints hi, ha⟩
      · have z' := (no b h).symm.trans z
        cases z'
    · intro b z
      by_cases h : b = a
      · exact ⟨h, hk⟩
      · exact absurd (no b h) z
theorem walkG {l : PySem.W.OpenLaw} {n k : Nat} {q : Program} {loose : List Str} {XP : (Str → Option Value) → Heap → Prop} {YP : World → Heap → Prop} {d : DefRec} {CX : CXT} {x : Str}
    (hn : l.most = some n) (hn2 : n ≤ sizeLine) (hdf : d.params.defaults = []) (hr : Room k callerA)
    (F : ∀ (w : World) (mg : Str → Option Value) (fa : Addr) (h : Heap), YP w h → h.Ns mainGlobals mg → mg d.name = some (.ref fa) →
      ∃ (K : PySem.W.Frag) (fd : FuncData) (sp : Sp), K.In h ∧ (∀ (s : Shared) (u : Value), BindsTo s fd ⟨[u], []⟩ [(x, u)]) ∧
        (∀ (H : Hp) (a : Addr) (ns : List Int), ns.length ≤ n → Only H → SqL K H a (ns.map V.int) → sp [.ref a] H (fun v _ => v = .bl true) fun _ _ _ => False) ∧
        ∀ base : Heap, K.In base → base.Ns mainGlobals mg → FnG l.prog w K mg base CX k fa fd [x] sp)
    (hCX : ∀ (H : Hp) (s : Shared) (e : Value) (s' : Shared), CX [] H s (fun _ _ _ => False) e s' → False) :
    PySem.W.WalkO q loose XP YP l.row.toRowW d [] (fun f vs => PySem.call f vs) := by
  apply Att.attach_call hn hdf
  intro w s₀ s₁ mg mb fa o pm cd doc a vs ns G Y ho hd hcd hmg hobj hints hlen hg
  obtain ⟨K, fd, sp, KX, bnd, say, prom⟩ := F w mg fa _ Y G.T.g hmg
  exact callG KX G.T.g G.T.b G.T.builtins G.T.nolimit hg hobj hints (Nat.le_trans hlen hn2) hr prom bnd (fun H hO hS => say H a ns hlen hO hS) (fun H e s' => hCX H s₁ e s')
end SB
namespace SB
open PySem PySem.Spec PyProof.Rows L2
/-! a def of the text, where it stands; what a caller has of it -/
def GInt (mg : Str → Option Value) (x : Str) (i : Int) : Prop := ∃ t, mg x = some (.int i t)
def Df (K : PySem.W.Frag) (mg : Str → Option Value) (x : Str) (st : Stmt) : Prop :=
  mg x = some (.ref (He.ga K x)) ∧ ∃ fd, FunD K x x (defArgs st) (defBody st) (defScope st) [] [] (He.fAd K (x, none)) fd
theorem pe_gi {X : Cx} {x : Str} {i : Int} {pos : Pos} (h : GInt X.mg x i) (hg : Gl X x := by rfl) (hdb : (x == ("__debug__" : Str)) = false := by decide) : PE X (.Name x pos) (tC (.int i)) := by
  obtain ⟨t, e⟩ := h
  exact pe_glob hg e ⟨_, rfl⟩ hdb
structure Cal (P : Program) (w : World) (K : PySem.W.Frag) (mg : Str → Option Value) (base : Heap) (CX : CXT) (k : Nat) (x : Str) (ps : List Str) (sp : Sp) : Prop where
  ex : ∃ f fd, mg x = some (.ref f) ∧ PySem.W.keepIn K (.ref f) = true ∧ Binds K fd ps [] ∧ FnOk P w K mg base CX k f fd ps sp
structure CalG (P : Program) (w : World) (K : PySem.W.Frag) (mg : Str → Option Value) (base : Heap) (CX : CXT) (k : Nat) (x : Str) (ps : List Str) (sp : Sp) : Prop where
  ex : ∃ f fd, mg x = some (.ref f) ∧ PySem.W.keepIn K (.ref f) = true ∧ Binds K fd ps [] ∧ FnG P w K mg base CX k f fd ps sp
/-- called by keywords alone -/
structure CalK (P : Program) (w : World) (K : PySem.W.Frag) (mg : Str → Option Value) (base : Heap) (CX : CXT) (k : Nat) (x : Str) (ks ps : List Str) (gV : List V → List V → List V) (sp : Sp) : Prop where
  ex : ∃ f fd g, mg x = some (.ref f) ∧ PySem.W.keepIn K (.ref f) = true ∧ KBinds K fd ps ks g gV ∧ FnOk P w K mg base CX k f fd ps sp
section
variable {X : Cx} {CX : CXT} {k j : Nat} {ps ks : List Str} {sp : Sp} {E : XK} {x : Str} {p pos : Pos} {e : Expr} {es : List Expr} {kws : List Keyword} {t tk : TA} {gV : List V → List V → List V}
theorem pe_cal (F : Cal X.prog X.w X.K X.mg X.base CX k x ps sp) (hr : Room k X.A) (hx : Passes CX X E) (ha : PA X (e :: es) t) (hg : Gl X x := by rfl) (hdb : (x == ("__debug__" : Str)) = false := by decide)
    (he : starEach (e :: es) X.env = (false, eval e X.env) :: starEach es X.env := by rfl) (hpl : (backTo pos (starEach es X.env)).any (·.1) = false := by rfl) :
    PE X (.Call (.Name x p) (e :: es) [] pos) (tCall sp [] E t) := by
  obtain ⟨f, fd, e1, e2, e3, e4⟩ := F.ex
  exact pe_call e4 hr hg e1 e2 e3 .nil hx ha hdb he hpl
theorem pe_cal0 (F : Cal X.prog X.w X.K X.mg X.base CX k x ps sp) (hr : Room k X.A) (hx : Passes CX X E) (hg : Gl X x := by rfl) (hdb : (x == ("__debug__" : Str)) = false := by decide) :
    PE X (.Call (.Name x p) [] [] pos) (tCall sp [] E tNil) := by
  obtain ⟨f, fd, e1, e2, e3, e4⟩ := F.ex
  exact pe_call0 e4 hr hg e1 e2 e3 .nil hx hdb
theorem pe_calG (F : CalG X.prog X.w X.K X.mg X.base CX k x ps sp) (hr : Room k X.A) (gd : X.A.guards = some []) (hx : Passes CX X E) (ha : PA X (e :: es) t) (hg : Gl X x := by rfl) (hdb : (x == ("__debug__" : Str)) = false := by decide)
    (he : starEach (e :: es) X.env = (false, eval e X.env) :: starEach es X.env := by rfl) (hpl : (backTo pos (starEach es X.env)).any (·.1) = false := by rfl) :
    PE X (.Call (.Name x p) (e :: es) [] pos) (tCall sp [] E t) := by
  obtain ⟨f, fd, e1, e2, e3, e4⟩ := F.ex
  exact pe_callG e4 hr gd hg e1 e2 e3 .nil hx ha hdb he hpl
theorem pe_calK (F : CalK X.prog X.w X.K X.mg X.base CX k x ks ps gV sp) (hr : Room k X.A) (hx : Passes CX X E) (hkw : PK X kws tk) (hg : Gl X x := by rfl)
    (hall : (backToKw pos (keywordEach kws X.env)).all (·.1.isSome) = true := by rfl) (hks : (backToKw pos (keywordEach kws X.env)).filterMap (·.1) = ks := by rfl)
    (hdb : (x == ("__debug__" : Str)) = false := by decide)
    (hpl : ((backTo pos (starEach [] X.env)).any (·.1) || (backToKw pos (keywordEach kws X.env)).any (·.1.isNone)) = false := by rfl) :
    PE X (.Call (.Name x p) [] kws pos) (tCallK sp gV E tNil tk) := by
  obtain ⟨f, fd, g, e1, e2, e3, e4⟩ := F.ex
  constructor
  intro pins s σ H Q I h
  refine wpAny_Call_Name_kw (ld_glob I hg e1 ?_ hdb)
  refine PySem.W.callWith_KW0 (h₀ := X.base) I.ok.mod.kin e2 hall (thn (hkw.run pos pins s σ H _ I h) ?_) hpl
  intro ws s2 ⟨zs, H2, I2, rz, q2⟩
  refine ⟨I2.kIn, ?_⟩
  rw [hks]
  exact run_fnk (us := []) (vs := []) e4 hr e3 hx I2 .nil rz q2
end
section
variable {P : Program} {w : World} {K : PySem.W.Frag} {mg : Str → Option Value} {base : Heap}
theorem Df.cal {CX : CXT} {k : Nat} {x : Str} {st : Stmt} {N ps : List Str} {sp : Sp} (D : Df K mg x st) (S : FnScope N ps (defScope st)) (len : ∀ vs H Q E, sp vs H Q E → vs.length = ps.length)
    (hb : ∀ (kV doc pm : Value) (an : Option Addr) (cdv ct : Value) (us : List Value), us.length = ps.length → bindArgs (PySem.W.fnOf x x (defArgs st) (defBody st) (defScope st) .none kV doc pm an cdv ct) ⟨us, []⟩ = pure (ps.zip us))
    (body : ∀ (f : Addr) (cdv : Value) (A : Around) (outer : List Env) (s : Shared) (H : Hp) (vs : List V) (Q : VK) (E : XK), Room k (A.deeper (envOfC x (defScope st) s.heap.objs.size f cdv)) → sp vs H Q E →
      ∃ t, PSs (cxOf CX P w K mg base N x (defScope st) f cdv A outer s H E).nox (defBody st) t ∧ t { nx := fun _ H' => Q .non H', rt := Q } (start N vs) H) :
    Cal P w K mg base CX (k + 1) x ps sp := by
  obtain ⟨e, fd, F⟩ := D
  exact ⟨_, fd, e, F.kp, FunD.bindsN F hb, FunD.ok F S len (fun cdv A outer s H vs Q E hr h => let ⟨t, a, b⟩ := body _ cdv A outer s H vs Q E hr h; ⟨t, a.nox, b⟩)⟩
theorem Df.calG {CX : CXT} {k : Nat} {x : Str} {st : Stmt} {N ps : List Str} {sp : Sp} (D : Df K mg x st) (S : FnScope N ps (defScope st)) (len : ∀ vs H Q E, sp vs H Q E → vs.length = ps.length)
    (hb : ∀ (kV doc pm : Value) (an : Option Addr) (cdv ct : Value) (us : List Value), us.length = ps.length → bindArgs (PySem.W.fnOf x x (defArgs st) (defBody st) (defScope st) .none kV doc pm an cdv ct) ⟨us, []⟩ = pure (ps.zip us))
    (body : ∀ (f : Addr) (cdv : Value) (A : Around) (outer : List Env) (s : Shared) (H : Hp) (vs : List V) (Q : VK) (E : XK), Room k (A.deeper (envOfC x (defScope st) s.heap.objs.size f cdv)) → A.guards = some [] → sp vs H Q E →
      ∃ t, PSs (cxOf CX P w K mg base N x (defScope st) f cdv A outer s H E).nox (defBody st) t ∧ t { nx := fun _ H' => Q .non H', rt := Q } (start N vs) H) :
    CalG P w K mg base CX (k + 1) x ps sp := by
  obtain ⟨e, fd, F⟩ := D
  exact ⟨_, fd, e, F.kp, FunD.bindsN F hb, FnG.body F S len (fun cdv A outer s H vs Q E hr g h => let ⟨t, a, b⟩ := body _ cdv A outer s H vs Q E hr g h; ⟨t, a.nox, b⟩)⟩
/-- a def with the promise that its positional callers have, called by keywords -/
theorem Df.calK {CX : CXT} {k : Nat} {x : Str} {st : Stmt} {N ks ps : List Str} {sp : Sp} {gV : List V → List V → List V} (D : Df K mg x st)
    (g : List Value → List Value → List Value)
    (hb : ∀ (kV doc pm : Value) (an : Option Addr) (cdv ct : Value) (us ws : List Value), (g us ws).length = ps.length → bindArgs (PySem.W.fnOf x x (defArgs st) (defBody st) (defScope st) .none kV doc pm an cdv ct) ⟨us, ks.zip ws⟩ = pure (ps.zip (g us ws)))
    (rel : ∀ {vs : List V} {us : List Value} {zs : List V} {ws : List Value}, Vals vs us → Vals zs ws → Vals (gV vs zs) (g us ws))
    (S : FnScope N ps (defScope st)) (len : ∀ vs H Q E, sp vs H Q E → vs.length = ps.length)
    (body : ∀ (f : Addr) (cdv : Value) (A : Around) (outer : List Env) (s : Shared) (H : Hp) (vs : List V) (Q : VK) (E : XK), Room k (A.deeper (envOfC x (defScope st) s.heap.objs.size f cdv)) → sp vs H Q E →
      ∃ t, PSs (cxOf CX P w K mg base N x (defScope st) f cdv A outer s H E).nox (defBody st) t ∧ t { nx := fun _ H' => Q .non H', rt := Q } (start N vs) H) :
    CalK P w K mg base CX (k + 1) x ks ps gV sp := by
  obtain ⟨e, fd, F⟩ := D
  have F2 := F
  obtain ⟨oc, od, dV, kV, doc, pm, an, cdv, ct, osl, rfl, lk, hcd, hD, hK⟩ := F2.ex
  refine ⟨_, _, g, e, F.kp, ⟨fun s us ws _ l => ?_, rel⟩, FunD.ok F S len (fun cdv A outer s H vs Q E hr h => let ⟨t, a, b⟩ := body _ cdv A outer s H vs Q E hr h; ⟨t, a.nox, b⟩)⟩
  rcases hD with ⟨_, rfl⟩ | ⟨z, _⟩
  · exact .of_eq (hb kV doc pm an cdv ct us ws l)
  · exact absurd rfl z
end
/-! values by their types -/
inductive TyN (K : PySem.W.Frag) (H : Hp) : V → String → Prop where
  | non : TyN K H .non "NoneType"
  | bl (b : Bool) : TyN K H (.bl b) "bool"
  | int (i : Int) : TyN K H (.int i) "int"
  | str (x : Str) : TyN K H (.str x) "str"
  | lst {a : Addr} {xs : List V} (h : SqL K H a xs) : TyN K H (.ref a) "list"
  | tup {a : Addr} {xs : List V} (h : SqT K H a xs) : TyN K H (.ref a) "tuple"
  | dct {a : Addr} {kvs : List (Key × V)} (h : H a = some (.dK kvs)) : TyN K H (.ref a) "dict"
theorem TyN.x {K : PySem.W.Frag} {H : Hp} {v : V} {n : String} (h : TyN K H v n) : TyX K H v (.type n) := by
  cases h with
  | non => exact .base .non
  | bl b => exact .base (.bl b)
  | int i => exact .base (.int i)
  | str x => exact .base (.str x)
  | lst h =>
    rcases h with (h | ⟨o, h⟩) | ⟨o, its, n, h, c, _⟩
    · exact .base (.lst h)
    · exact .base (.frz h)
    · exact .kList h c
  | tup h =>
    rcases h with (h | ⟨o, h⟩) | ⟨o, its, n, h, c, _⟩
    · exact .base (.tup h)
    · exact .fTuple h
    · exact .kTuple h c
  | dct h => exact .base (.dK h)
theorem TyN.kit {K : PySem.W.Frag} {H : Hp} {v : V} {n m : String} (h : TyN K H v n) (hm : m = "int" ∨ m = "bool" ∨ m = "str" ∨ m = "list" ∨ m = "tuple") :
    PySem.W.kitOne K (.type n) (.type m) = some (decide (n = m ∨ n = "bool" ∧ m = "int")) := by
  cases h <;> (rcases hm with rfl | rfl | rfl | rfl | rfl) <;> exact kit_ty (by decide +kernel)
theorem same_upd {H : Hp} {p : Addr} {o : HO} (h : H p = none) : Same H (upd H p o) := fun b x e => by
  rw [upd_ne (ne_of_none e h)]
  exact e
end SB
namespace SB
open PySem PySem.Spec PyProof.Rows L2 Evl
/-! shapes, frames: the mathematics -/
inductive Pa where
  | no | ev | od
def Pa.s : Pa → Str
  | .no => "none"
  | .ev => "even"
  | .od => "odd"
def bits (b : Nat) (x : Int) : List Int := (List.range b).map fun i => x / 2 ^ i % 2
def parL (b : Nat) (p : Pa) (x : Int) : List Int := match p with
  | .no => []
  | .ev => [(bits b x).sum % 2]
  | .od => [1 - (bits b x).sum % 2]
def frm (b : Nat) (p : Pa) (s : Nat) (x : Int) : List Int := 0 :: (bits b x ++ (parL b p x ++ List.replicate s 1))
def frms (b : Nat) (p : Pa) (s : Nat) (ns : List Int) : List Int := (ns.map (frm b p s)).flatten
theorem bits_len (b : Nat) (x : Int) : (bits b x).length = b := by simp [bits]
theorem bits_succ (b : Nat) (x : Int) : bits (b + 1) x = bits b x ++ [x / 2 ^ b % 2] := by
  simp [bits, List.range_succ]
theorem parL_len (b : Nat) (p : Pa) (x : Int) : (parL b p x).length ≤ 1 := by cases p <;> simp [parL]
theorem frm_len (b : Nat) (p : Pa) (s : Nat) (x : Int) : (frm b p s x).length = 1 + b + (parL b p x).length + s := by
  simp [frm, bits_len]; omega
theorem frm_le (b : Nat) (p : Pa) (s : Nat) (x : Int) : (frm b p s x).length ≤ 2 + b + s := by
  have := frm_len b p s x
  have := parL_len b p x
  omega
theorem bits_01 {b : Nat} {x y : Int} (h : y ∈ bits b x) : y = 0 ∨ y = 1 := by
  unfold bits at h
  obtain ⟨i, _, rfl⟩ := List.mem_map.mp h
  omega
theorem frm_01 {b : Nat} {p : Pa} {s : Nat} {x y : Int} (h : y ∈ frm b p s x) : y = 0 ∨ y = 1 := by
  unfold frm at h
  rcases List.mem_cons.mp h with h | h
  · exact .inl h
  rcases List.mem_append.mp h with h | h
  · exact bits_01 h
  rcases List.mem_append.mp h with h | h
  · cases p with
    | no => cases h
    | ev =>
      have := List.mem_singleton.mp h
      omega
    | od =>
      have := List.mem_singleton.mp h
      omega
  · exact .inr (List.eq_of_mem_replicate h)
theorem frms_01 {b : Nat} {p : Pa} {s : Nat} {ns : List Int} {y : Int} (h : y ∈ frms b p s ns) : y = 0 ∨ y = 1 := by
  unfold frms at h
  obtain ⟨l, hl, hy⟩ := List.mem_flatten.mp h
  obtain ⟨x, _, rfl⟩ := List.mem_map.mp hl
  exact frm_01 hy
theorem frms_snoc (b : Nat) (p : Pa) (s : Nat) (ns : List Int) (n : Int) : frms b p s (ns ++ [n]) = frms b p s ns ++ frm b p s n := by simp [frms]
theorem frms_le (b : Nat) (p : Pa) (s : Nat) : ∀ ns : List Int, (frms b p s ns).length ≤ ns.length * (2 + b + s)
  | [] => by simp [frms]
  | n :: ns => by
    have h := frms_le b p s ns
    have h2 := frm_le b p s n
    have e : frms b p s (n :: ns) = frm b p s n ++ frms b p s ns := by simp [frms]
    rw [e, List.length_append, List.length_cons, Nat.add_mul]
    omega
theorem div_step (x : Int) (i : Nat) : x / 2 ^ i / 2 = x / 2 ^ (i + 1) := by
  rw [Int.pow_succ, Int.ediv_ediv_of_nonneg (Int.pow_nonneg (by decide))]
/-! data -/
def dI (ns : List Int) : List PyData := ns.map PyData.int
theorem dp_ints {K : PySem.W.Frag} {H : Hp} : ∀ ns : List Int, DpAll K H (ns.map V.int) (dI ns)
  | [] => .nil
  | n :: ns => .cons (.int n) (dp_ints ns)
theorem int_log {i : Int} {k : Nat} (hk : 0 < k) (h : i.natAbs < 2 ^ k) : i.natAbs.log2 < k := PySem.Flt.log2_lt_of hk h
/-- a list of small ints can be shown -/
theorem show_ints (ns : List Int) (h : ∀ n ∈ ns, n.natAbs < 2 ^ 200) : PyData.showableAll (dI ns) = true ∧ PyData.hasDictAll (dI ns) = false ∧ PyData.depthAll (dI ns) = 0 ∧
    ((PyData.shownAll (dI ns)).map (·.length)).sum ≤ 201 * ns.length ∧ (PyData.shownAll (dI ns)).length = ns.length := by
  induction ns with
  | nil => simp [dI, PyData.showableAll, PyData.hasDictAll, PyData.depthAll, PyData.shownAll]
  | cons n ns ih =>
    obtain ⟨h1, h2, h3, h4, h5⟩ := ih fun m hm => h m (List.mem_cons_of_mem _ hm)
    have hn := h n (List.mem_cons_self ..)
    have hl : n.natAbs.log2 < 200 := int_log (by decide) hn
    have ht : (Str.ofString (toString n)).length ≤ 201 := by
      rw [PySem.ofString_length]
      exact int_text_length_le (k := 200) (by decide) hl
    have e : dI (n :: ns) = PyData.int n :: dI ns := rfl
    rw [e]
    refine ⟨?_, ?_, ?_, ?_, ?_⟩
    · simp only [PyData.showableAll, PyData.showable, h1, Bool.and_true, decide_eq_true_eq]
      omega
    · simp only [PyData.hasDictAll, PyData.hasDict, h2, Bool.false_or]
    · simp only [PyData.depthAll, PyData.depth, h3]
      rfl
    · simp only [PyData.shownAll, PyData.shown, List.map_cons, List.sum_cons, List.length_cons]
      omega
    · simp only [PyData.shownAll, List.length_cons, h5]
theorem show_list {ns : List Int} (h : ∀ n ∈ ns, n.natAbs < 2 ^ 200) (hl : ns.length ≤ 10000) :
    (PyData.list (dI ns)).showable = true ∧ (PyData.list (dI ns)).hasDict = false ∧ (PyData.list (dI ns)).depth ≤ 60 ∧ (PyData.list (dI ns)).shown.length ≤ sizeLine := by
  obtain ⟨h1, h2, h3, h4, h5⟩ := show_ints ns h
  refine ⟨?_, ?_, ?_, ?_⟩
  · simp only [PyData.showable, h1]
  · simp only [PyData.hasDict, h2]
  · simp only [PyData.depth, h3]
    omega
  · simp only [PyData.shown]
    have := listText_len_le (PyData.shownAll (dI ns))
    rw [sizeLine_eq]
    omega
/-- the reading of repr(xs), xs a list of ints -/
theorem rp_list {K : PySem.W.Frag} {H : Hp} {a : Addr} {ns : List Int} {Q : VK} (hs : SqL K H a (ns.map V.int)) (h : ∀ n ∈ ns, n.natAbs < 2 ^ 200) (hl : ns.length ≤ 10000)
    (q : Q (.str (PyData.list (dI ns)).shown) H) : rRp K [.ref a] H Q := by
  obtain ⟨h1, h2, h3, h4⟩ := show_list h hl
  exact ⟨_, _, rfl, .lst hs (dp_ints ns), h1, h2, h3, h4, q⟩
/-! heaps -/
def Kp (a : Addr) (H H' : Hp) : Prop := ∀ b o, b ≠ a → H b = some o → H' b = some o
theorem Ex.kp {a : Addr} {H H' : Hp} (e : Ex H H') : Kp a H H' := fun b o _ h => e b o h
theorem Kp.trans {a : Addr} {H H1 H2 : Hp} (x : Kp a H H1) (y : Kp a H1 H2) : Kp a H H2 := fun b o n h => y b o n (x b o n h)
theorem Kp.refl {a : Addr} {H : Hp} : Kp a H H := fun _ _ _ h => h
theorem Kp.upd {a : Addr} {H : Hp} {o : HO} : Kp a H (upd H a o) := fun b u n h => by
  rw [upd_ne n]
  exact h
theorem Kp.tup {K : PySem.W.Frag} {a t : Addr} {H H' : Hp} {xs ys : List V} (k : Kp a H H') (ha : H a = some (.lst ys)) (h : SqT K H t xs) : SqT K H' t xs := by
  rcases h with (h | ⟨o, h⟩) | h
  · exact .inl (.inl (k t _ (fun e => by rw [e, ha] at h; cases h) h))
  · exact .inl (.inr ⟨o, k t _ (fun e => by rw [e, ha] at h; cases h) h⟩)
  · exact .inr h
theorem Kp.free {a p : Addr} {H H' : Hp} (k : Kp a H H') (hp : H' p = none) (ha : p ≠ a) : H p = none := by
  cases h : H p with
  | none => rfl
  | some o =>
    rw [k p o ha h] at hp
    cases hp
/-! shapes as values -/
def IsSh (K : PySem.W.Frag) (H : Hp) (v : V) (b : Nat) (p : Pa) (s : Nat) : Prop :=
  ∃ t, v = .ref t ∧ SqT K H t [.int b, .str p.s, .int s] ∧ 1 ≤ b ∧ b ≤ 9 ∧ 1 ≤ s ∧ s ≤ 2
theorem IsSh.ex {K : PySem.W.Frag} {H H' : Hp} {v : V} {b : Nat} {p : Pa} {s : Nat} (e : Ex H H') (h : IsSh K H v b p s) : IsSh K H' v b p s := by
  obtain ⟨t, e1, e2, r⟩ := h
  exact ⟨t, e1, ex_t e e2, r⟩
theorem IsSh.kp {K : PySem.W.Frag} {H H' : Hp} {v : V} {b : Nat} {p : Pa} {s : Nat} {a : Addr} {ys : List V} (e : Kp a H H') (ha : H a = some (.lst ys)) (h : IsSh K H v b p s) : IsSh K H' v b p s := by
  obtain ⟨t, e1, e2, r⟩ := h
  exact ⟨t, e1, e.tup ha e2, r⟩
theorem no_is (p : Pa) : decide (V.str p.s = V.str "none") = match p with | .no => true | _ => false := by cases p <;> decide +kernel
theorem ev_is' (p : Pa) : decide (V.str p.s = V.str "even") = match p with | .ev => true | _ => false := by cases p <;> decide +kernel
theorem od_is (p : Pa) : decide (V.str p.s = V.str "odd") = match p with | .od => true | _ => false := by cases p <;> decide +kernel
theorem pa_in (p : Pa) : inV (.str p.s) [.str "none", .str "even", .str "odd"] = true := by cases p <;> decide +kernel
theorem atI_i {xs : List V} {v : V} (i : Int) (j : Nat) (e : i = (j : Int)) (h : xs[j]? = some v) : atI xs i = some v := by
  rw [e]
  exact atI_nat h
/-! isinstance of the kinds -/
section
variable {K : PySem.W.Frag}
theorem ki {n m : String} {b : Bool} (h : kitB n m = some b := by decide +kernel) : PySem.W.kitOne K (.type n) (.type m) = some b := kit_ty h
end
/-! a draw's source -/
def Src (H : Hp) (a : Addr) (n : Nat) : Prop := ∃ l sd c : Int, H a = some (.lst [.int l, .int sd, .int c]) ∧ 0 ≤ sd ∧ sd < 4611686018427387904 ∧ 0 ≤ c ∧ c ≤ n
theorem Src.mono {H : Hp} {a : Addr} {n m : Nat} (h : Src H a n) (e : n ≤ m) : Src H a m := by
  obtain ⟨l, sd, c, h1, h2, h3, h4, h5⟩ := h
  exact ⟨l, sd, c, h1, h2, h3, h4, by omega⟩
theorem Src.ex {H H' : Hp} {a : Addr} {n : Nat} (h : Src H a n) (e : Ex H H') : Src H' a n := by
  obtain ⟨l, sd, c, h1, h2⟩ := h
  exact ⟨l, sd, c, e _ _ h1, h2⟩
theorem cpow3 {i : Int} (h0 : 0 ≤ i) (h : i < 2 ^ 250) : CPowB i 3 := by
  have h1 : i.natAbs < 2 ^ 250 := by
    have e : (2 : Int) ^ 250 = ((2 ^ 250 : Nat) : Int) := by norm_cast
    omega
  have h2 := int_log (by decide) h1
  exact ⟨by decide, by omega⟩
theorem cpow10 (k : Int) (h0 : 0 ≤ k) (h : k ≤ 1000) : CPowB 10 k := by
  refine ⟨h0, ?_⟩
  have e : ((10 : Int).natAbs.log2 : Int) + 1 = 4 := by decide
  rw [e]
  omega
end SB
namespace SB
open PySem PySem.Spec PyProof.Rows L2 Evl
/-! lists that are made of lists -/
def EvX (te : TE) (σ : L2.St) (H : Hp) (xs : List V) : Prop := ∀ H1, Ex H H1 → ∀ Q : VK, (∀ p H2, Ex H1 H2 → H2 p = some (.lst xs) → Q (.ref p) H2) → te σ H1 Q
section
variable {σ : L2.St} {H : Hp} {ta tb te : TE} {xs ys : List V} {K : PySem.W.Frag}
theorem evx_var {i : Nat} {a : Addr} (h : σ[i]? = some (some (.ref a))) (ha : H a = some (.lst xs)) : EvX (tVar i) σ H xs := fun H1 e Q q => ⟨_, h, q a H1 (Ex.refl H1) (e a _ ha)⟩
theorem evx_new (h : EvL te σ H xs) : EvX te σ H xs := fun H1 e Q q => h H1 e Q fun p H2 _ e2 h2 => q p H2 e2 h2
theorem el_cat (ha : EvX ta σ H xs) (hb : EvX tb σ H ys) (hl : xs.length + ys.length ≤ 100000) : EvL (tOp rCat ta tb) σ H (xs ++ ys) := fun H1 e Q q =>
  ha H1 e _ fun p H2 e2 h2 => hb H2 (e.trans e2) _ fun r H3 e3 h3 => ⟨p, r, xs, ys, rfl, rfl, e3 _ _ h2, h3, sz_of hl, fun l nl =>
    q l _ (fresh_back (e2.trans e3) nl) ((e2.trans e3).trans (Ex.new nl)) upd_same⟩
theorem el_rep {k : Int} (ha : EvX ta σ H xs) (hb : Ev tb σ H (.int k)) (h0 : -(2 ^ 63) ≤ k) (h1 : k < 2 ^ 63) (hl : xs.length * k.toNat ≤ 100000) : EvL (tOp rRep ta tb) σ H (List.replicate k.toNat xs).flatten := fun H1 e Q q =>
  ha H1 e _ fun p H2 e2 h2 => hb H2 (e.trans e2) _ fun H3 e3 => ⟨p, k, xs, rfl, rfl, e3 _ _ h2, h0, h1, sz_of hl, fun l nl =>
    q l _ (fresh_back (e2.trans e3) nl) ((e2.trans e3).trans (Ex.new nl)) upd_same⟩
theorem el_call {sp : Sp} {E : XK} {t : TA} {vs : List V} (ha : EvA t σ H vs) (h : ∀ H1, Ex H H1 → ∀ Q : VK, RetL xs H1 Q → sp (vs ++ []) H1 Q E) : EvL (tCall sp [] E t) σ H xs := fun H1 e Q q =>
  ha H1 e _ fun H2 e2 => h H2 (e.trans e2) Q fun p H3 n e3 h3 => q p H3 (fresh_back e2 n) (e2.trans e3) h3
theorem ev_call {sp : Sp} {E : XK} {t : TA} {vs : List V} {v : V} (ha : EvA t σ H vs) (h : ∀ H1, Ex H H1 → ∀ Q : VK, RetV v H1 Q → sp (vs ++ []) H1 Q E) : Ev (tCall sp [] E t) σ H v := fun H1 e Q q =>
  ha H1 e _ fun H2 e2 => h H2 (e.trans e2) Q fun H3 e3 => q H3 (e2.trans e3)
theorem ev_ixT {t : Addr} {i : Int} {v : V} (ha : Ev ta σ H (.ref t)) (hb : Ev tb σ H (.int i)) (h : SqT K H t xs) (hi : atI xs i = some v) : Ev (tOp (rIxT K) ta tb) σ H v := ev_op ha hb (rv_ixT h hi)
end
theorem rep_one (k : Nat) (i : Int) : (List.replicate (k : Int).toNat [V.int i]).flatten = (List.replicate k i).map V.int := by
  rw [Int.toNat_natCast, List.map_replicate]
  simp
theorem ints_at {ns : List Int} {i : Nat} {y : V} (hi : (ns.map V.int)[i]? = some y) : ∃ z, ns[i]? = some z ∧ y = V.int z := by
  rw [List.getElem?_map] at hi
  cases e : ns[i]? with
  | none =>
    rw [e] at hi
    cases hi
  | some z =>
    rw [e] at hi
    exact ⟨z, rfl, (Option.some.inj hi).symm⟩
theorem Kp.new {a : Addr} {H H1 H2 : Hp} (e : Ex H H1) (k : Kp a H1 H2) (h : H a = none) : Ex H H2 := fun b o hb =>
  k b o (ne_of_none hb h) (e b o hb)
theorem Src.at {H : Hp} {a : Addr} {n : Nat} (h : Src H a n) : ∃ ys, H a = some (.lst ys) := by
  obtain ⟨l, sd, c, e, _⟩ := h
  exact ⟨_, e⟩
theorem Src.ne {H : Hp} {a p : Addr} {n : Nat} (h : Src H a n) (hp : H p = none) : p ≠ a := by
  obtain ⟨ys, e⟩ := h.at
  exact fun z => by rw [z, e] at hp; cases hp
end SB
namespace SB
open PySem PySem.Spec PyProof.Rows L2 Evl
theorem seq_any {te : TE} {i : Nat} {u : TS} {D : L2.Ends} {σ : L2.St} {H : Hp} {P : V → Prop} (h : ∀ Q' : VK, (∀ v, P v → Q' v H) → te σ H Q') (k : ∀ v, P v → u D (σ.set i (some v)) H) :
    tSeq (tAsg te (gName i)) u D σ H := h _ k
end SB
namespace SB
open PySem PySem.Spec PyProof.Rows L2 Evl
theorem Kp.mut {a p : Addr} {H H' : Hp} {o : HO} (k : Kp a H H') (h : H p = none) : Kp a H (L2.upd H' p o) := fun b u n hb => by
  rw [upd_ne (ne_of_none hb h)]
  exact k b u n hb
theorem Src.upd {H : Hp} {a p : Addr} {n : Nat} {o : HO} (h : Src H a n) (ne : p ≠ a) : Src (L2.upd H p o) a n := by
  obtain ⟨l, sd, c, e, r⟩ := h
  refine ⟨l, sd, c, ?_, r⟩
  rw [upd_ne (Ne.symm ne)]
  exact e
end SB
namespace SB
open PySem PySem.Spec PyProof.Rows L2 Evl
/-- a loop over enumerate of a list -/
theorem for_enum {K : PySem.W.Frag} {a : Addr} {xs : List V} {g : TG} {tb : TS} {D : L2.Ends} {σ : L2.St} {H : Hp} (Pv : Nat → L2.St → Hp → Prop) (h0 : Pv 0 σ H)
    (hq : ∀ i σ H, i ≤ xs.length → Pv i σ H → SqL K H a xs)
    (hs : ∀ (i : Nat) (x : V) (T : Addr) (σ : L2.St) (H : Hp), xs[i]? = some x → Pv i σ H → H T = none →
      g (.ref T) σ (L2.upd H T (.tup [.int (i : Nat), x])) fun σ2 H2 => tb { D with nx := Pv (i + 1), ct := Pv (i + 1), bk := D.nx } σ2 H2)
    (hd : ∀ σ H, Pv xs.length σ H → D.nx σ H) :
    ∃ W : Nat → Nat → L2.St → Hp → Prop, (∃ m, W 0 m σ H) ∧ ∀ i m σ H, W i m σ H →
      ((Ite K a).stop i H ∧ D.nx σ H) ∨ ((Ite K a).go i H ∧ ∃ N : L2.St → Hp → Prop, (∀ σ' H', N σ' H' → ∃ m', m' < m ∧ W (i + 1) m' σ' H') ∧
        ∀ v H', (Ite K a).yld i H v H' → g v σ H' fun σ2 H2 => tb { D with nx := N, ct := N, bk := D.nx } σ2 H2) := by
  refine ⟨fun i m σ H => m + i = xs.length ∧ Pv i σ H, ⟨xs.length, by omega, h0⟩, ?_⟩
  rintro i m σ H ⟨e, pv⟩
  have sq := hq i σ H (by omega) pv
  by_cases lt : i < xs.length
  · have hx : xs[i]? = some xs[i] := List.getElem?_eq_getElem lt
    refine .inr ⟨⟨xs, xs[i], sq, hx⟩, Pv (i + 1), fun σ' H' p' => ⟨m - 1, by omega, by omega, p'⟩, ?_⟩
    intro v H' y
    obtain ⟨T, x, rfl, nT, rfl, fx⟩ := y
    exact hs i x T σ H (fx xs sq) pv nT
  · obtain rfl : i = xs.length := by omega
    exact .inl ⟨⟨xs, sq, Nat.le_refl _⟩, hd σ H pv⟩
/-! keyword calls: the values in the parameters' order -/
def gPm {α : Type} (perm : List Nat) (us ws : List α) : List α := if us.length = 0 ∧ ws.length = perm.length then perm.filterMap fun i => ws[i]? else []
theorem rel_pick {zs : List V} {ws : List Value} (r : Vals zs ws) : ∀ perm : List Nat, Vals (perm.filterMap fun i => zs[i]?) (perm.filterMap fun i => ws[i]?)
  | [] => .nil
  | i :: perm => by
    have ih := rel_pick r perm
    have hl := r.length
    rw [List.filterMap_cons, List.filterMap_cons]
    cases e : zs[i]? with
    | none =>
      have e2 : ws[i]? = none := by
        rw [List.getElem?_eq_none_iff] at e ⊢
        omega
      rw [e2]
      exact ih
    | some v =>
      obtain ⟨u, hu, rv⟩ := r.get e
      rw [hu]
      exact .cons rv ih
theorem rel_gPm (perm : List Nat) {vs : List V} {us : List Value} {zs : List V} {ws : List Value} (r : Vals vs us) (rz : Vals zs ws) : Vals (gPm perm vs zs) (gPm perm us ws) := by
  unfold gPm
  rw [r.length, rz.length]
  split
  · exact rel_pick rz perm
  · exact .nil
/-! where a line of levels changes: the level ahead of all is 1, the i-th level begins at T i -/
def pvl (ls : List Int) : Nat → Int
  | 0 => 1
  | i + 1 => ls.getD i 1
def ch (ls : List Int) (T : Nat → Int) : Nat → List Int
  | 0 => []
  | i + 1 => ch ls T i ++ (if ls.getD i 1 = pvl ls i then [] else [T i])
theorem ch_len (ls : List Int) (T : Nat → Int) : ∀ n, (ch ls T n).length ≤ n
  | 0 => Nat.le_refl _
  | n + 1 => by
    have := ch_len ls T n
    unfold ch
    rw [List.length_append]
    split
    · simp
      omega
    · simp
      omega
theorem ch_congr {ls : List Int} {T U : Nat → Int} : ∀ {n : Nat}, (∀ i, i < n → T i = U i) → ch ls T n = ch ls U n
  | 0, _ => rfl
  | n + 1, h => by
    unfold ch
    rw [ch_congr fun i hi => h i (by omega), h n (by omega)]
theorem ch_mem {ls : List Int} {T : Nat → Int} {y : Int} : ∀ {n : Nat}, y ∈ ch ls T n → ∃ i, i < n ∧ y = T i
  | 0, h => by cases h
  | n + 1, h => by
    unfold ch at h
    rcases List.mem_append.mp h with h | h
    · obtain ⟨i, hi, e⟩ := ch_mem h
      exact ⟨i, by omega, e⟩
    · split at h
      · cases h
      · exact ⟨n, by omega, List.mem_singleton.mp h⟩
/-- a line behind another one that ends at 1 -/
theorem ch_app {A B : List Int} {T : Nat → Int} (h1 : pvl A A.length = 1) : ∀ k, k ≤ B.length → ch (A ++ B) T (A.length + k) = ch A T A.length ++ ch B (fun i => T (A.length + i)) k
  | 0, _ => by
    have : ∀ n, n ≤ A.length → ch (A ++ B) T n = ch A T n := by
      intro n
      induction n with
      | zero => intro _; rfl
      | succ n ih =>
        intro hn
        unfold ch
        rw [ih (by omega)]
        have e1 : (A ++ B).getD n 1 = A.getD n 1 := by
          rw [List.getD_eq_getElem?_getD, List.getD_eq_getElem?_getD, List.getElem?_append_left (by omega)]
        have e2 : pvl (A ++ B) n = pvl A n := by
          cases n with
          | zero => rfl
          | succ m =>
            show (A ++ B).getD m 1 = A.getD m 1
            rw [List.getD_eq_getElem?_getD, List.getD_eq_getElem?_getD, List.getElem?_append_left (by omega)]
        rw [e1, e2]
    rw [Nat.add_zero, this A.length (Nat.le_refl _)]
    simp [ch]
  | k + 1, hk => by
    have ih := ch_app (A := A) (B := B) (T := T) h1 k (by omega)
    have e1 : (A ++ B).getD (A.length + k) 1 = B.getD k 1 := by
      rw [List.getD_eq_getElem?_getD, List.getD_eq_getElem?_getD, List.getElem?_append_right (by omega), Nat.add_sub_cancel_left]
    have e2 : pvl (A ++ B) (A.length + k) = pvl B k := by
      cases k with
      | zero =>
        rw [Nat.add_zero]
        show _ = 1
        rw [← h1]
        generalize hA : A.length = n
        cases n with
        | zero => rfl
        | succ m =>
          show (A ++ B).getD m 1 = A.getD m 1
          have hm : m < A.length := by omega
          rw [List.getD_eq_getElem?_getD, List.getD_eq_getElem?_getD, List.getElem?_append_left hm]
      | succ m =>
        show (A ++ B).getD (A.length + m) 1 = B.getD m 1
        rw [List.getD_eq_getElem?_getD, List.getD_eq_getElem?_getD, List.getElem?_append_right (by omega), Nat.add_sub_cancel_left]
    show ch (A ++ B) T (A.length + k) ++ (if (A ++ B).getD (A.length + k) 1 = pvl (A ++ B) (A.length + k) then [] else [T (A.length + k)]) = _
    rw [ih, e1, e2, List.append_assoc]
    rfl
def plen : Pa → Nat
  | .no => 0
  | _ => 1
def sz (b : Nat) (p : Pa) (s : Nat) : Nat := 1 + b + plen p + s
theorem frm_sz (b : Nat) (p : Pa) (s : Nat) (x : Int) : (frm b p s x).length = sz b p s := by
  rw [frm_len]
  cases p <;> rfl
/-- a frame ends at 1 -/
theorem frm_end {b : Nat} {p : Pa} {s : Nat} (x : Int) (hs : 1 ≤ s) : pvl (frm b p s x) (frm b p s x).length = 1 := by
  have hl := frm_len b p s x
  generalize hn : (frm b p s x).length = n at hl
  cases n with
  | zero => omega
  | succ m =>
    show (frm b p s x).getD m 1 = 1
    rw [List.getD_eq_getElem?_getD]
    unfold frm
    have hp : (parL b p x).length ≤ 1 := parL_len b p x
    rw [show m = ((bits b x).length + (parL b p x).length + (s - 1)) + 1 by rw [bits_len]; omega, List.getElem?_cons_succ, ← List.append_assoc, List.getElem?_append_right (by rw [List.length_append]; omega), List.length_append, Nat.add_sub_cancel_left,
      List.getElem?_replicate]
    rw [if_pos (by omega)]
    rfl
/-- a text's levels are sent from the ticks of its sending -/
def sig (b : Nat) (p : Pa) (s : Nat) (ln : Int) (snd : List (Int × Int)) : List Int := (snd.map fun q => ch (frm b p s q.2) (fun i => q.1 + (i : Int) * ln) (sz b p s)).flatten
def tks (n : Nat) (ln : Int) (snd : List (Int × Int)) : List Int := (snd.map fun q => (List.range n).map fun i : Nat => q.1 + (i : Int) * ln).flatten
theorem tks_len (n : Nat) (ln : Int) : ∀ snd : List (Int × Int), (tks n ln snd).length = snd.length * n
  | [] => by simp [tks]
  | q :: r => by
    have ih := tks_len n ln r
    have e : tks n ln (q :: r) = ((List.range n).map fun i : Nat => q.1 + (i : Int) * ln) ++ tks n ln r := by simp [tks]
    rw [e, List.length_append, ih, List.length_map, List.length_range, List.length_cons, Nat.add_mul]
    omega
theorem frms_sz (b : Nat) (p : Pa) (s : Nat) : ∀ ns : List Int, (frms b p s ns).length = ns.length * sz b p s
  | [] => by simp [frms]
  | n :: ns => by
    have ih := frms_sz b p s ns
    have e : frms b p s (n :: ns) = frm b p s n ++ frms b p s ns := by simp [frms]
    rw [e, List.length_append, ih, frm_sz, List.length_cons, Nat.add_mul]
    omega
theorem ch_sig {b : Nat} {p : Pa} {s : Nat} {ln : Int} (hs : 1 ≤ s) : ∀ snd : List (Int × Int), ch (frms b p s (snd.map (·.2))) (fun i => (tks (sz b p s) ln snd).getD i 0) (frms b p s (snd.map (·.2))).length = sig b p s ln snd
  | [] => rfl
  | q :: r => by
    have ih := ch_sig (b := b) (p := p) (s := s) (ln := ln) hs r
    have e1 : frms b p s ((q :: r).map (·.2)) = frm b p s q.2 ++ frms b p s (r.map (·.2)) := by simp [frms]
    have e2 : tks (sz b p s) ln (q :: r) = ((List.range (sz b p s)).map fun i : Nat => q.1 + (i : Int) * ln) ++ tks (sz b p s) ln r := by simp [tks]
    have e3 : sig b p s ln (q :: r) = ch (frm b p s q.2) (fun i => q.1 + (i : Int) * ln) (sz b p s) ++ sig b p s ln r := by simp [sig]
    rw [e1, List.length_append, ch_app (frm_end q.2 hs) _ (Nat.le_refl _), e3, ← ih, frm_sz]
    congr 1
    · refine ch_congr fun i hi => ?_
      show (tks (sz b p s) ln (q :: r)).getD i 0 = _
      rw [e2, List.getD_eq_getElem?_getD, List.getElem?_append_left (by simpa using hi), List.getElem?_map, List.getElem?_range hi]
      rfl
    · refine ch_congr fun i hi => ?_
      show (tks (sz b p s) ln (q :: r)).getD (sz b p s + i) 0 = _
      rw [e2, List.getD_eq_getElem?_getD, List.getElem?_append_right (by simp), List.length_map, List.length_range, Nat.add_sub_cancel_left, ← List.getD_eq_getElem?_getD]
/-! lists of pairs -/
def Snd (K : PySem.W.Frag) (H : Hp) (xs : List V) (snd : List (Int × Int)) : Prop := xs.length = snd.length ∧ ∀ (k : Nat) (x : V) (q : Int × Int), xs[k]? = some x → snd[k]? = some q → ∃ t, x = .ref t ∧ SqT K H t [.int q.1, .int q.2]
theorem Snd.ex {K : PySem.W.Frag} {H H' : Hp} {xs : List V} {snd : List (Int × Int)} (e : Ex H H') (h : Snd K H xs snd) : Snd K H' xs snd :=
  ⟨h.1, fun k x q h1 h2 => let ⟨t, a, b⟩ := h.2 k x q h1 h2; ⟨t, a, ex_t e b⟩⟩
theorem Snd.kp {K : PySem.W.Frag} {H H' : Hp} {a : Addr} {ys : List V} {xs : List V} {snd : List (Int × Int)} (e : Kp a H H') (ha : H a = some (.lst ys)) (h : Snd K H xs snd) : Snd K H' xs snd :=
  ⟨h.1, fun k x q h1 h2 => let ⟨t, u, b⟩ := h.2 k x q h1 h2; ⟨t, u, e.tup ha b⟩⟩
theorem Snd.nil {K : PySem.W.Frag} {H : Hp} : Snd K H [] [] := ⟨rfl, fun k x q h _ => by simp at h⟩
theorem Snd.snoc {K : PySem.W.Frag} {H : Hp} {xs : List V} {snd : List (Int × Int)} {t : Addr} {q : Int × Int} (h : Snd K H xs snd) (ht : SqT K H t [.int q.1, .int q.2]) : Snd K H (xs ++ [.ref t]) (snd ++ [q]) := by
  refine ⟨by rw [List.length_append, List.length_append, h.1]; rfl, fun k x q' h1 h2 => ?_⟩
  by_cases hk : k < xs.length
  · rw [List.getElem?_append_left hk] at h1
    rw [List.getElem?_append_left (by rw [← h.1]; exact hk)] at h2
    exact h.2 k x q' h1 h2
  · have hk2 : k = xs.length := by
      have := (List.getElem?_eq_some_iff.mp h1).1
      rw [List.length_append] at this
      simp at this
      omega
    subst hk2
    rw [List.getElem?_append_right (Nat.le_refl _), Nat.sub_self] at h1
    rw [h.1, List.getElem?_append_right (Nat.le_refl _), Nat.sub_self] at h2
    obtain rfl : V.ref t = x := Option.some.inj h1
    obtain rfl : q = q' := Option.some.inj h2
    exact ⟨t, rfl, ht⟩
def dP (snd : List (Int × Int)) : List PyData := snd.map fun q => PyData.tuple [.int q.1, .int q.2]
theorem Snd.dp {K : PySem.W.Frag} {H : Hp} : ∀ {xs : List V} {snd : List (Int × Int)}, Snd K H xs snd → DpAll K H xs (dP snd)
  | [], [], _ => .nil
  | [], q :: r, h => by have := h.1; simp at this
  | x :: xs, [], h => by have := h.1; simp at this
  | x :: xs, q :: r, h => by
    obtain ⟨t, rfl, ht⟩ := h.2 0 x q rfl rfl
    exact .cons (.tup ht (.cons (.int _) (.cons (.int _) .nil))) (Snd.dp ⟨by have := h.1; simpa using this, fun k y q' h1 h2 => h.2 (k + 1) y q' h1 h2⟩)
theorem dP_ok : ∀ snd : List (Int × Int), PyData.canLayAll0 (dP snd) = true ∧ PyData.depthAll (dP snd) ≤ 1
  | [] => ⟨rfl, Nat.zero_le _⟩
  | q :: r => by
    obtain ⟨h1, h2⟩ := dP_ok r
    have e : dP (q :: r) = PyData.tuple [.int q.1, .int q.2] :: dP r := rfl
    rw [e]
    refine ⟨?_, ?_⟩
    · simp only [PyData.canLayAll0, PyData.canLay0, h1, Bool.and_true]
    · simp only [PyData.depthAll, PyData.depth]
      omega
theorem dP_shaped (snd : List (Int × Int)) : SeqAt.shaped (.list (dP snd)) = true := by
  obtain ⟨h1, h2⟩ := dP_ok snd
  unfold SeqAt.shaped
  rw [Bool.and_eq_true]
  refine ⟨?_, decide_eq_true ?_⟩
  · simp only [PyData.canLay0, h1]
  · simp only [PyData.depth]
    omega
theorem dI_ok : ∀ ns : List Int, PyData.canLayAll0 (dI ns) = true ∧ PyData.depthAll (dI ns) ≤ 1
  | [] => ⟨rfl, Nat.zero_le _⟩
  | q :: r => by
    obtain ⟨h1, h2⟩ := dI_ok r
    have e : dI (q :: r) = PyData.int q :: dI r := rfl
    rw [e]
    refine ⟨?_, ?_⟩
    · simp only [PyData.canLayAll0, PyData.canLay0, h1, Bool.and_true]
    · simp only [PyData.depthAll, PyData.depth]
      omega
theorem dI_shaped (ns : List Int) : SeqAt.shaped (.list (dI ns)) = true := by
  obtain ⟨h1, h2⟩ := dI_ok ns
  unfold SeqAt.shaped
  rw [Bool.and_eq_true]
  refine ⟨?_, decide_eq_true ?_⟩
  · simp only [PyData.canLay0, h1]
  · simp only [PyData.depth]
    omega
theorem eqv_sh {d : PyData} (h : SeqAt.shaped d = true) : PyData.eqv d d = true := SeqAt.eqv_refl d (SeqAt.canLay_of_shaped h)
end SB
namespace SB
open PySem PySem.Spec PyProof.Rows L2 Evl
def Kp2 (a b : Addr) (H H' : Hp) : Prop := ∀ c o, c ≠ a → c ≠ b → H c = some o → H' c = some o
theorem Kp2.refl {a b : Addr} {H : Hp} : Kp2 a b H H := fun _ _ _ _ h => h
theorem Kp2.ex {a b : Addr} {H H1 H2 : Hp} (k : Kp2 a b H H1) (e : Ex H1 H2) : Kp2 a b H H2 := fun c o n1 n2 h => e c o (k c o n1 n2 h)
theorem Kp2.updA {a b : Addr} {H H1 : Hp} {o : HO} (k : Kp2 a b H H1) : Kp2 a b H (L2.upd H1 a o) := fun c u n1 n2 h => by
  rw [upd_ne n1]
  exact k c u n1 n2 h
theorem Kp2.updB {a b : Addr} {H H1 : Hp} {o : HO} (k : Kp2 a b H H1) : Kp2 a b H (L2.upd H1 b o) := fun c u n1 n2 h => by
  rw [upd_ne n2]
  exact k c u n1 n2 h
theorem Kp2.tup {K : PySem.W.Frag} {a b t : Addr} {H H' : Hp} {xs ys zs : List V} (k : Kp2 a b H H') (ha : H a = some (.lst ys)) (hb : H b = some (.lst zs)) (h : SqT K H t xs) : SqT K H' t xs := by
  rcases h with (h | ⟨o, h⟩) | h
  · exact .inl (.inl (k t _ (fun e => by rw [e, ha] at h; cases h) (fun e => by rw [e, hb] at h; cases h) h))
  · exact .inl (.inr ⟨o, k t _ (fun e => by rw [e, ha] at h; cases h) (fun e => by rw [e, hb] at h; cases h) h⟩)
  · exact .inr h
theorem Snd.kp2 {K : PySem.W.Frag} {H H' : Hp} {a b : Addr} {ys zs : List V} {xs : List V} {snd : List (Int × Int)} (e : Kp2 a b H H') (ha : H a = some (.lst ys)) (hb : H b = some (.lst zs)) (h : Snd K H xs snd) : Snd K H' xs snd :=
  ⟨h.1, fun k x q h1 h2 => let ⟨t, u, c⟩ := h.2 k x q h1 h2; ⟨t, u, e.tup ha hb c⟩⟩
theorem Kp2.kp {a b S : Addr} {H0 H H' : Hp} (k : Kp2 a b H H') (k0 : Kp S H0 H) (ha : H0 a = none) (hb : H0 b = none) : Kp S H0 H' := fun c o n h =>
  k c o (ne_of_none h ha) (ne_of_none h hb) (k0 c o n h)
theorem Src.kp2 {a b S : Addr} {n : Nat} {H H' : Hp} (h : Src H S n) (k : Kp2 a b H H') (ha : S ≠ a) (hb : S ≠ b) : Src H' S n := by
  obtain ⟨l, sd, c, e, r⟩ := h
  exact ⟨l, sd, c, k _ _ ha hb e, r⟩
theorem tks_snoc (n : Nat) (ln : Int) (snd : List (Int × Int)) (q : Int × Int) : tks n ln (snd ++ [q]) = tks n ln snd ++ (List.range n).map fun i : Nat => q.1 + (i : Int) * ln := by simp [tks]
end SB
namespace SB
open PySem PySem.Spec PyProof.Rows L2 Evl
/-- a target of several names in a list comprehension: its reading speaks of nothing that the block has of its own -/
theorem pg_tupK {X : Cx} {K0 : PySem.W.Frag} {n0 k : Nat} {elts : List Expr} {pos : Pos} {gs : TGs} (hK : X.K = K0) (hc : X.calm = true) (hn : (assignEach elts X.env).length = n0) (h : PGs X elts gs)
    (hst : List.findIdx? (fun x => x.fst) (assignEach elts X.env) = none := by rfl) : PG X (.Tuple elts k pos) (gTup K0 n0 gs) := by
  subst hK
  subst hn
  exact pg_tup hc h rfl hst
end SB
namespace SB
open PySem PySem.Spec PyProof.Rows L2 Evl
/-! a draw's source with a wider seed -/
def Pool (H : Hp) (a : Addr) (n : Nat) : Prop := ∃ l sd c : Int, H a = some (.lst [.int l, .int sd, .int c]) ∧ 0 ≤ sd ∧ sd < 1208925819614629174706176 ∧ 0 ≤ c ∧ c ≤ n
theorem Pool.mono {H : Hp} {a : Addr} {n m : Nat} (h : Pool H a n) (e : n ≤ m) : Pool H a m := by
  obtain ⟨l, sd, c, h1, h2, h3, h4, h5⟩ := h
  exact ⟨l, sd, c, h1, h2, h3, h4, by omega⟩
theorem Pool.ex {H H' : Hp} {a : Addr} {n : Nat} (h : Pool H a n) (e : Ex H H') : Pool H' a n := by
  obtain ⟨l, sd, c, h1, h2⟩ := h
  exact ⟨l, sd, c, e _ _ h1, h2⟩
theorem Pool.at {H : Hp} {a : Addr} {n : Nat} (h : Pool H a n) : ∃ ys, H a = some (.lst ys) := by
  obtain ⟨l, sd, c, e, _⟩ := h
  exact ⟨_, e⟩
theorem Pool.ne {H : Hp} {a p : Addr} {n : Nat} (h : Pool H a n) (hp : H p = none) : p ≠ a := by
  obtain ⟨ys, e⟩ := h.at
  exact fun z => by rw [z, e] at hp; cases hp
theorem Pool.upd {H : Hp} {a p : Addr} {n : Nat} {o : HO} (h : Pool H a n) (ne : p ≠ a) : Pool (L2.upd H p o) a n := by
  obtain ⟨l, sd, c, e, r⟩ := h
  refine ⟨l, sd, c, ?_, r⟩
  rw [upd_ne (Ne.symm ne)]
  exact e
/-! lists of related things -/
def LR {α : Type} (R : V → α → Prop) (xs : List V) (as : List α) : Prop := xs.length = as.length ∧ ∀ (k : Nat) (x : V) (a : α), xs[k]? = some x → as[k]? = some a → R x a
section
variable {α β : Type} {R S : V → α → Prop} {xs ys : List V} {as bs : List α}
theorem LR.nil : LR R [] [] := ⟨rfl, fun k x a h _ => by simp at h⟩
theorem LR.imp (h : LR R xs as) (f : ∀ x a, R x a → S x a) : LR S xs as := ⟨h.1, fun k x a h1 h2 => f x a (h.2 k x a h1 h2)⟩
theorem LR.snoc {y : V} {b : α} (h : LR R xs as) (hy : R y b) : LR R (xs ++ [y]) (as ++ [b]) := by
  refine ⟨by rw [List.length_append, List.length_append, h.1]; rfl, fun k x a h1 h2 => ?_⟩
  by_cases hk : k < xs.length
  · rw [List.getElem?_append_left hk] at h1
    rw [List.getElem?_append_left (by rw [← h.1]; exact hk)] at h2
    exact h.2 k x a h1 h2
  · have hk2 : k = xs.length := by
      have := (List.getElem?_eq_some_iff.mp h1).1
      rw [List.length_append] at this
      simp at this
      omega
    subst hk2
    rw [List.getElem?_append_right (Nat.le_refl _), Nat.sub_self] at h1
    rw [h.1, List.getElem?_append_right (Nat.le_refl _), Nat.sub_self] at h2
    obtain rfl : y = x := Option.some.inj h1
    obtain rfl : b = a := Option.some.inj h2
    exact hy
theorem LR.append (h : LR R xs as) (h' : LR R ys bs) : LR R (xs ++ ys) (as ++ bs) := by
  refine ⟨by rw [List.length_append, List.length_append, h.1, h'.1], fun k x a h1 h2 => ?_⟩
  by_cases hk : k < xs.length
  · rw [List.getElem?_append_left hk] at h1
    rw [List.getElem?_append_left (by rw [← h.1]; exact hk)] at h2
    exact h.2 k x a h1 h2
  · rw [List.getElem?_append_right (by omega)] at h1
    rw [List.getElem?_append_right (by rw [← h.1]; omega), ← h.1] at h2
    exact h'.2 _ x a h1 h2
theorem LR.get (h : LR R xs as) {k : Nat} {x : V} (hx : xs[k]? = some x) : ∃ a, as[k]? = some a ∧ R x a := by
  have hk := (List.getElem?_eq_some_iff.mp hx).1
  have e : as[k]? = some (as[k]'(by rw [← h.1]; exact hk)) := List.getElem?_eq_getElem _
  exact ⟨_, e, h.2 k x _ hx e⟩
theorem LR.get' (h : LR R xs as) {k : Nat} {a : α} (ha : as[k]? = some a) : ∃ x, xs[k]? = some x ∧ R x a := by
  have hk := (List.getElem?_eq_some_iff.mp ha).1
  have e : xs[k]? = some (xs[k]'(by rw [h.1]; exact hk)) := List.getElem?_eq_getElem _
  exact ⟨_, e, h.2 k _ a e ha⟩
end
def isI : V → Int → Prop := fun v i => v = .int i
theorem LR.ints : ∀ {xs : List V} {ns : List Int}, LR isI xs ns → xs = ns.map V.int
  | [], [], _ => rfl
  | [], _ :: _, h => by have := h.1; simp at this
  | _ :: _, [], h => by have := h.1; simp at this
  | x :: xs, n :: ns, h => by
    have h1 : x = .int n := h.2 0 x n rfl rfl
    have h2 : LR isI xs ns := ⟨by have := h.1; simpa using this, fun k y m a b => h.2 (k + 1) y m a b⟩
    rw [h1, h2.ints]
    rfl
theorem LR.of_ints (ns : List Int) : LR isI (ns.map V.int) ns := by
  refine ⟨List.length_map _, fun k x a h1 h2 => ?_⟩
  rw [List.getElem?_map, h2] at h1
  exact (Option.some.inj h1).symm
/-- what lasts while new things come and while a list is written -/
structure Lasts {α : Type} (R : Hp → V → α → Prop) : Prop where
  ex : ∀ {H H' : Hp} {v : V} {x : α}, Ex H H' → R H v x → R H' v x
  kp : ∀ {a : Addr} {H H' : Hp} {ys : List V} {v : V} {x : α}, Kp a H H' → H a = some (.lst ys) → R H v x → R H' v x
def RI : Hp → V → Int → Prop := fun _ => isI
theorem RI.lasts : Lasts RI := ⟨fun _ h => h, fun _ _ h => h⟩
/-- a tuple of whole numbers -/
def RT (K : PySem.W.Frag) : Hp → V → List Int → Prop := fun H v r => ∃ t, v = .ref t ∧ SqT K H t (r.map V.int)
theorem RT.lasts {K : PySem.W.Frag} : Lasts (RT K) := ⟨fun e ⟨t, h1, h2⟩ => ⟨t, h1, ex_t e h2⟩, fun k ha ⟨t, h1, h2⟩ => ⟨t, h1, k.tup ha h2⟩⟩
/-! comprehensions -/
theorem fm_congr {α β : Type} {f g : α → Option β} : ∀ {l : List α}, (∀ x ∈ l, f x = g x) → l.filterMap f = l.filterMap g
  | [], _ => rfl
  | x :: l, h => by
    rw [List.filterMap_cons, List.filterMap_cons, h x (List.mem_cons_self ..), fm_congr (l := l) fun y hy => h y (List.mem_cons_of_mem _ hy)]
theorem range_fm_succ {β : Type} (f : Nat → Option β) (i : Nat) : (List.range (i + 1)).filterMap f = (List.range i).filterMap f ++ (match f i with | none => [] | some b => [b]) := by
  rw [List.range_succ, List.filterMap_append]
  cases h : f i <;> simp [h]
theorem take_fm_succ {α β : Type} (f : α → Option β) {as : List α} {i : Nat} {a : α} (h : as[i]? = some a) : (as.take (i + 1)).filterMap f = (as.take i).filterMap f ++ (match f a with | none => [] | some b => [b]) := by
  rw [List.take_add_one, h, List.filterMap_append]
  cases h : f a <;> simp [h]
theorem lcR {β : Type} {R : Hp → V → β → Prop} (la : Lasts R) {lo : Int} {n : Nat} {g : TG} {tt : TT} {te : TE} {vs : List Nat} {σ : L2.St} {H : Hp} {D : Addr} {Qd : Hp → Prop} (hD : H D = none) (hn : n ≤ 100000) (f : Nat → Option β)
    (hs : ∀ (i : Nat) (H' : Hp), i < n → Ex H H' → ∀ (Kt : VK) (Kf : Hp → Prop), (∀ b y H4, f i = some b → Ex H' H4 → R H4 y b → Kt y H4) → (∀ H3, f i = none → Ex H' H3 → Kf H3) →
      g (.int (lo + i)) (wipe σ vs) H' fun σ2 H2 => wipe σ2 vs = wipe σ vs ∧ tt σ2 H2 fun b H3 => if b = true then te σ2 H3 Kt else Kf H3)
    (hd : ∀ H' xs, Ex H H' → H' D = some (.lst xs) → LR (R H') xs ((List.range n).filterMap f) → Qd H') :
    ∃ W : Nat → Nat → Hp → Prop, (∃ m, W 0 m (L2.upd H D (.lst []))) ∧ ∀ i m H, W i m H →
      ((Itr lo n).stop i H ∧ Qd H) ∨ ((Itr lo n).go i H ∧ ∃ Nx : Hp → Prop, (∀ H', Nx H' → ∃ m', m' < m ∧ W (i + 1) m' H') ∧ ∀ x H', (Itr lo n).yld i H x H' → g x (wipe σ vs) H' fun σ2 H2 => wipe σ2 vs = wipe σ vs ∧ tt σ2 H2 fun b H3 =>
        if b = true then te σ2 H3 fun y H4 => ∃ acc, H4 D = some (.lst acc) ∧ acc.length < sizeLine ∧ Nx (L2.upd H4 D (.lst (acc ++ [y]))) else Nx H3) := by
  refine lc_range (fun i H' => ∃ xs, Ex H H' ∧ H' D = some (.lst xs) ∧ LR (R H') xs ((List.range i).filterMap f)) ⟨[], Ex.new hD, upd_same, LR.nil⟩ (fun i H' hi ⟨xs, e, hL, lr⟩ => hs i H' hi e _ _ (fun b y H4 fb e4 r => ?_) fun H3 fb e3 => ?_) fun H' ⟨xs, e, h, lr⟩ => hd H' xs e h lr
  · have hL4 := e4 _ _ hL
    have hlen : xs.length ≤ i := by
      rw [lr.1]
      have := List.length_filterMap_le f (List.range i)
      rw [List.length_range] at this
      exact this
    refine ⟨xs, hL4, Nat.lt_of_le_of_lt (show xs.length ≤ 100000 by omega) (by decide), xs ++ [y], (e.trans e4).mut hD, upd_same, ?_⟩
    rw [range_fm_succ, fb]
    exact LR.snoc (lr.imp fun x a h => la.kp (a := D) Kp.upd hL4 (la.ex e4 h)) (la.kp (a := D) Kp.upd hL4 r)
  · refine ⟨xs, e.trans e3, e3 _ _ hL, ?_⟩
    rw [range_fm_succ, fb, List.append_nil]
    exact lr.imp fun x a h => la.ex e3 h
theorem lcL {α β : Type} {R0 : Hp → V → α → Prop} {R : Hp → V → β → Prop} (la0 : Lasts R0) (la : Lasts R) {K : PySem.W.Frag} {A : Addr} {xs : List V} {as : List α} {g : TG} {tt : TT} {te : TE} {vs : List Nat} {σ : L2.St} {H : Hp} {D : Addr} {Qd : Hp → Prop} (hD : H D = none)
    (sq : SqL K H A xs) (lr0 : LR (R0 H) xs as) (hn : xs.length ≤ 100000) (f : α → Option β)
    (hs : ∀ (i : Nat) (x : V) (a : α) (H' : Hp), as[i]? = some a → Ex H H' → R0 H' x a → ∀ (Kt : VK) (Kf : Hp → Prop), (∀ b y H4, f a = some b → Ex H' H4 → R H4 y b → Kt y H4) → (∀ H3, f a = none → Ex H' H3 → Kf H3) →
      g x (wipe σ vs) H' fun σ2 H2 => wipe σ2 vs = wipe σ vs ∧ tt σ2 H2 fun b H3 => if b = true then te σ2 H3 Kt else Kf H3)
    (hd : ∀ H' ys, Ex H H' → H' D = some (.lst ys) → LR (R H') ys (as.filterMap f) → Qd H') :
    ∃ W : Nat → Nat → Hp → Prop, (∃ m, W 0 m (L2.upd H D (.lst []))) ∧ ∀ i m H, W i m H →
      ((Itl K A).stop i H ∧ Qd H) ∨ ((Itl K A).go i H ∧ ∃ Nx : Hp → Prop, (∀ H', Nx H' → ∃ m', m' < m ∧ W (i + 1) m' H') ∧ ∀ x H', (Itl K A).yld i H x H' → g x (wipe σ vs) H' fun σ2 H2 => wipe σ2 vs = wipe σ vs ∧ tt σ2 H2 fun b H3 =>
        if b = true then te σ2 H3 fun y H4 => ∃ acc, H4 D = some (.lst acc) ∧ acc.length < sizeLine ∧ Nx (L2.upd H4 D (.lst (acc ++ [y]))) else Nx H3) := by
  refine lc_list (xs := xs) (fun i H' => ∃ ys, Ex H H' ∧ H' D = some (.lst ys) ∧ LR (R H') ys ((as.take i).filterMap f)) ⟨[], Ex.new hD, upd_same, LR.nil⟩ (fun i H' _ ⟨_, e, _⟩ => ex_l e sq) (fun i x H' hx ⟨ys, e, hL, lr⟩ => ?_) fun H' ⟨ys, e, h, lr⟩ => hd H' ys e h (by rw [lr0.1, List.take_length] at lr; exact lr)
  obtain ⟨a, ha, r0⟩ := lr0.get hx
  refine hs i x a H' ha e (la0.ex e r0) _ _ (fun b y H4 fb e4 r => ?_) fun H3 fb e3 => ?_
  · have hL4 := e4 _ _ hL
    have hlen : ys.length ≤ xs.length := by
      rw [lr.1, lr0.1]
      have h1 := List.length_filterMap_le f (as.take i)
      rw [List.length_take] at h1
      omega
    refine ⟨ys, hL4, Nat.lt_of_le_of_lt (show ys.length ≤ 100000 by omega) (by decide), ys ++ [y], (e.trans e4).mut hD, upd_same, ?_⟩
    rw [take_fm_succ f ha, fb]
    exact LR.snoc (lr.imp fun x a h => la.kp (a := D) Kp.upd hL4 (la.ex e4 h)) (la.kp (a := D) Kp.upd hL4 r)
  · refine ⟨ys, e.trans e3, e3 _ _ hL, ?_⟩
    rw [take_fm_succ f ha, fb, List.append_nil]
    exact lr.imp fun x a h => la.ex e3 h
/-- a list of related things, new -/
def RetR {α : Type} (R : Hp → V → α → Prop) (as : List α) (H : Hp) (Q : VK) : Prop := ∀ p H2 xs, H p = none → Ex H H2 → H2 p = some (.lst xs) → LR (R H2) xs as → Q (.ref p) H2
def RetU (xs : List V) (H : Hp) (Q : VK) : Prop := ∀ p H2, H p = none → Ex H H2 → H2 p = some (.tup xs) → Q (.ref p) H2
/-! greatest and least -/
def Mx (L : List Int) (m : Int) : Prop := m ∈ L ∧ ∀ y ∈ L, y ≤ m
def Mi (L : List Int) (m : Int) : Prop := m ∈ L ∧ ∀ y ∈ L, m ≤ y
theorem Mx.uniq {L : List Int} {m n : Int} (h : Mx L m) (h' : Mx L n) : m = n := Int.le_antisymm (h'.2 m h.1) (h.2 n h'.1)
theorem Mi.uniq {L : List Int} {m n : Int} (h : Mi L m) (h' : Mi L n) : m = n := Int.le_antisymm (h.2 n h'.1) (h'.2 m h.1)
theorem Mx.exists : ∀ {L : List Int}, L ≠ [] → ∃ m, Mx L m
  | [x], _ => ⟨x, List.mem_cons_self .., fun y hy => by rw [List.mem_singleton.mp hy]; exact Int.le_refl _⟩
  | x :: y :: r, _ => by
    obtain ⟨m, h1, h2⟩ := Mx.exists (L := y :: r) (by simp)
    by_cases h : m ≤ x
    · refine ⟨x, List.mem_cons_self .., fun z hz => ?_⟩
      rcases List.mem_cons.mp hz with rfl | hz
      · exact Int.le_refl _
      · exact Int.le_trans (h2 z hz) h
    · refine ⟨m, List.mem_cons_of_mem _ h1, fun z hz => ?_⟩
      rcases List.mem_cons.mp hz with rfl | hz
      · omega
      · exact h2 z hz
theorem Mi.exists : ∀ {L : List Int}, L ≠ [] → ∃ m, Mi L m
  | [x], _ => ⟨x, List.mem_cons_self .., fun y hy => by rw [List.mem_singleton.mp hy]; exact Int.le_refl _⟩
  | x :: y :: r, _ => by
    obtain ⟨m, h1, h2⟩ := Mi.exists (L := y :: r) (by simp)
    by_cases h : x ≤ m
    · refine ⟨x, List.mem_cons_self .., fun z hz => ?_⟩
      rcases List.mem_cons.mp hz with rfl | hz
      · exact Int.le_refl _
      · exact Int.le_trans h (h2 z hz)
    · refine ⟨m, List.mem_cons_of_mem _ h1, fun z hz => ?_⟩
      rcases List.mem_cons.mp hz with rfl | hz
      · omega
      · exact h2 z hz
/-! more data that can be shown -/
theorem rp_bl {K : PySem.W.Frag} {H : Hp} {b : Bool} {Q : VK} (q : Q (.str (PyData.bool b).shown) H) : rRp K [.bl b] H Q := by
  refine ⟨_, .bool b, rfl, .bl b, rfl, rfl, Nat.zero_le _, ?_, q⟩
  cases b <;> decide +kernel
theorem rp_non {K : PySem.W.Frag} {H : Hp} {Q : VK} (q : Q (.str PyData.none.shown) H) : rRp K [.non] H Q :=
  ⟨_, .none, rfl, .non, rfl, rfl, Nat.zero_le _, by decide +kernel, q⟩
theorem show_tup {ns : List Int} (h : ∀ n ∈ ns, n.natAbs < 2 ^ 200) (hl : ns.length ≤ 10000) :
    (PyData.tuple (dI ns)).showable = true ∧ (PyData.tuple (dI ns)).hasDict = false ∧ (PyData.tuple (dI ns)).depth ≤ 60 ∧ (PyData.tuple (dI ns)).shown.length ≤ sizeLine := by
  obtain ⟨h1, h2, h3, h4, h5⟩ := show_ints ns h
  refine ⟨?_, ?_, ?_, ?_⟩
  · simp only [PyData.showable, h1]
  · simp only [PyData.hasDict, h2]
  · simp only [PyData.depth, h3]
    omega
  · simp only [PyData.shown]
    have := tupleText_len_le (PyData.shownAll (dI ns))
    rw [sizeLine_eq]
    omega
theorem rp_tup {K : PySem.W.Frag} {H : Hp} {a : Addr} {ns : List Int} {Q : VK} (hs : SqT K H a (ns.map V.int)) (h : ∀ n ∈ ns, n.natAbs < 2 ^ 200) (hl : ns.length ≤ 10000)
    (q : Q (.str (PyData.tuple (dI ns)).shown) H) : rRp K [.ref a] H Q := by
  obtain ⟨h1, h2, h3, h4⟩ := show_tup h hl
  exact ⟨_, _, rfl, .tup hs (dp_ints ns), h1, h2, h3, h4, q⟩
end SB
namespace SB
open PySem PySem.Spec PyProof.Rows L2 Evl
/-! receivers, windows -/
def IsRc (K : PySem.W.Frag) (H : Hp) (v : V) (gr w s : Int) : Prop :=
  ∃ t, v = .ref t ∧ SqT K H t [.int gr, .int w, .int s] ∧ 1 ≤ gr ∧ 0 ≤ w ∧ 1 ≤ s ∧ gr < 1237940039285380274899124224 ∧ w < 1237940039285380274899124224 ∧ s < 1237940039285380274899124224
theorem IsRc.ex {K : PySem.W.Frag} {H H' : Hp} {v : V} {gr w s : Int} (e : Ex H H') (h : IsRc K H v gr w s) : IsRc K H' v gr w s := by
  obtain ⟨t, e1, e2, r⟩ := h
  exact ⟨t, e1, ex_t e e2, r⟩
theorem IsRc.kp {K : PySem.W.Frag} {H H' : Hp} {v : V} {gr w s : Int} {a : Addr} {ys : List V} (e : Kp a H H') (ha : H a = some (.lst ys)) (h : IsRc K H v gr w s) : IsRc K H' v gr w s := by
  obtain ⟨t, e1, e2, r⟩ := h
  exact ⟨t, e1, e.tup ha e2, r⟩
theorem sz_bd {K : PySem.W.Frag} {H : Hp} {g : V} {b : Nat} {p : Pa} {s : Nat} (h : IsSh K H g b p s) : 1 ≤ b ∧ b ≤ 9 ∧ 1 ≤ s ∧ s ≤ 2 ∧ s + 2 ≤ sz b p s ∧ sz b p s ≤ 13 := by
  obtain ⟨t, _, _, h1, h2, h3, h4⟩ := h
  have hp : plen p ≤ 1 := by cases p <;> simp [plen]
  unfold sz
  omega
/-- the windows of a shape whose frames have n places, the last s of them stops -/
def win (n s : Nat) : List (List Int) := (List.range (n - s)).map (fun i : Nat => [(i : Int), (i : Int), (i : Int) + 1]) ++ (List.range s).map fun i : Nat => [((n - s + i : Nat) : Int), ((n - s : Nat) : Int), (n : Int)]
theorem win_eq {n s : Nat} (h : s + 2 ≤ n ∧ n ≤ 13) : win n s = (List.range ((n : Int) - s).toNat).filterMap (fun i : Nat => some [(0 : Int) + (i : Nat), (0 : Int) + (i : Nat), (0 : Int) + (i : Nat) + 1]) ++
    (List.range ((n : Int) - ((n : Int) - s)).toNat).filterMap (fun i : Nat => some [(n : Int) - s + (i : Nat), (n : Int) - s, (n : Int)]) := by
  unfold win
  have e1 : ((n : Int) - s).toNat = n - s := by omega
  have e2 : ((n : Int) - ((n : Int) - s)).toNat = s := by omega
  rw [e1, e2, List.filterMap_eq_map', List.filterMap_eq_map']
  congr 1
  · refine List.map_congr_left fun i _ => ?_
    rw [Int.zero_add]
  · refine List.map_congr_left fun i hi => ?_
    have e3 : ((n - s + i : Nat) : Int) = (n : Int) - s + (i : Nat) := by omega
    have e4 : ((n - s : Nat) : Int) = (n : Int) - s := by omega
    rw [e3, e4]
theorem win_len {n s : Nat} (h : s ≤ n) : (win n s).length = n := by
  unfold win
  simp
  omega
theorem win_mem {n s : Nat} (h : s + 2 ≤ n) {r : List Int} : r ∈ win n s ↔ ∃ p f l : Nat, r = [(p : Int), (f : Int), (l : Int)] ∧ p < n ∧ ((p < n - s ∧ f = p ∧ l = p + 1) ∨ (n - s ≤ p ∧ f = n - s ∧ l = n)) := by
  unfold win
  rw [List.mem_append, List.mem_map, List.mem_map]
  constructor
  · rintro (⟨i, hi, rfl⟩ | ⟨i, hi, rfl⟩)
    · have := List.mem_range.mp hi
      exact ⟨i, i, i + 1, by simp, by omega, .inl ⟨by omega, rfl, rfl⟩⟩
    · have := List.mem_range.mp hi
      exact ⟨n - s + i, n - s, n, rfl, by omega, .inr ⟨by omega, rfl, rfl⟩⟩
  · rintro ⟨p, f, l, rfl, hp, ⟨h1, rfl, rfl⟩ | ⟨h1, h2, h3⟩⟩
    · exact .inl ⟨f, List.mem_range.mpr h1, by simp⟩
    · refine .inr ⟨p - (n - s), List.mem_range.mpr (by omega), ?_⟩
      have : n - s + (p - (n - s)) = p := by omega
      rw [this, h2, h3]
end SB
namespace SB
open PySem PySem.Spec PyProof.Rows L2 Evl
theorem set_comm_none {σ : L2.St} {i v : Nat} {x : Option V} (h : i ≠ v) : (σ.set i x).set v none = (σ.set v none).set i x := List.set_comm x none h
theorem wipe_set {σ : L2.St} {i : Nat} {x : Option V} : ∀ {vs : List Nat}, i ∈ vs → wipe (σ.set i x) vs = wipe σ vs
  | v :: vs, h => by
    show (wipe (σ.set i x) vs).set v none = (wipe σ vs).set v none
    by_cases e : i ∈ vs
    · rw [wipe_set e]
    · have ev : i = v := by
        rcases List.mem_cons.mp h with h | h
        · exact h
        · exact absurd h e
      subst ev
      have out : ∀ {vs : List Nat}, ¬ i ∈ vs → wipe (σ.set i x) vs = (wipe σ vs).set i x := by
        intro vs
        induction vs with
        | nil => intro _; rfl
        | cons u us ih =>
          intro hu
          show (wipe (σ.set i x) us).set u none = ((wipe σ us).set u none).set i x
          rw [ih fun z => hu (List.mem_cons_of_mem _ z), set_comm_none fun z => hu (by rw [z]; exact List.mem_cons_self ..)]
      rw [out e, List.set_set]
theorem wipe_wipe {σ : L2.St} (vs : List Nat) : wipe (wipe σ vs) vs = wipe σ vs := by
  have key : ∀ (us : List Nat), (∀ u ∈ us, u ∈ vs) → wipe (wipe σ us) vs = wipe σ vs := by
    intro us
    induction us with
    | nil => intro _; rfl
    | cons u us ih =>
      intro h
      show wipe ((wipe σ us).set u none) vs = wipe σ vs
      rw [wipe_set (h u (List.mem_cons_self ..)), ih fun z hz => h z (List.mem_cons_of_mem _ hz)]
  exact key vs fun _ h => h
/-- a comprehension over a list of tuples of three whole numbers -/
theorem lcL3 {β : Type} {R : Hp → V → β → Prop} (la : Lasts R) {K : PySem.W.Frag} {A : Addr} {xs : List V} {as : List (List Int)} {i j k : Nat} {tt : TT} {te : TE} {vs : List Nat} {σ : L2.St} {H : Hp} {D : Addr} {Qd : Hp → Prop} (hD : H D = none)
    (sq : SqL K H A xs) (lr0 : LR (RT K H) xs as) (hn : xs.length ≤ 100000) (f : List Int → Option β) (h3 : ∀ r ∈ as, ∃ x y z, r = [x, y, z]) (hi : i ∈ vs) (hj : j ∈ vs) (hk : k ∈ vs)
    (hs : ∀ (x y z : Int) (H' : Hp), [x, y, z] ∈ as → Ex H H' → ∀ (Kt : VK) (Kf : Hp → Prop), (∀ b v H4, f [x, y, z] = some b → Ex H' H4 → R H4 v b → Kt v H4) → (∀ H3, f [x, y, z] = none → Ex H' H3 → Kf H3) →
      tt ((((wipe σ vs).set i (some (.int x))).set j (some (.int y))).set k (some (.int z))) H' fun b H3 => if b = true then te ((((wipe σ vs).set i (some (.int x))).set j (some (.int y))).set k (some (.int z))) H3 Kt else Kf H3)
    (hd : ∀ H' ys, Ex H H' → H' D = some (.lst ys) → LR (R H') ys (as.filterMap f) → Qd H') :
    ∃ W : Nat → Nat → Hp → Prop, (∃ m, W 0 m (L2.upd H D (.lst []))) ∧ ∀ i1 m H, W i1 m H →
      ((Itl K A).stop i1 H ∧ Qd H) ∨ ((Itl K A).go i1 H ∧ ∃ Nx : Hp → Prop, (∀ H', Nx H' → ∃ m', m' < m ∧ W (i1 + 1) m' H') ∧ ∀ x H', (Itl K A).yld i1 H x H' → gTup K 3 (gCons (gName i) (gCons (gName j) (gCons (gName k) gNil))) x (wipe σ vs) H' fun σ2 H2 => wipe σ2 vs = wipe σ vs ∧ tt σ2 H2 fun b H3 =>
        if b = true then te σ2 H3 fun y H4 => ∃ acc, H4 D = some (.lst acc) ∧ acc.length < sizeLine ∧ Nx (L2.upd H4 D (.lst (acc ++ [y]))) else Nx H3) := by
  refine lcL (RT.lasts (K := K)) la hD sq lr0 hn f (fun n v r H' hr e r0 Kt Kf kt kf => ?_) hd
  obtain ⟨x, y, z, rfl⟩ := h3 r (List.mem_of_getElem? hr)
  obtain ⟨t, rfl, st⟩ := r0
  refine ⟨t, _, rfl, st, rfl, _, _, rfl, _, _, rfl, _, _, rfl, rfl, ?_, hs x y z H' (List.mem_of_getElem? hr) e Kt Kf kt kf⟩
  rw [wipe_set hk, wipe_set hj, wipe_set hi, wipe_wipe]
end SB
namespace SB
open PySem PySem.Spec PyProof.Rows L2 Evl
theorem sh_bl (b : Bool) : (PyData.bool b).shown.length ≤ sizeLine := by cases b <;> decide +kernel
end SB
namespace SB
open PySem PySem.Spec PyProof.Rows L2 Evl
/-! safe lengths: the mathematics -/
def r3 {α : Type} (k : Int → Int → Int → α) (d : α) : List Int → α
  | [a, b, c] => k a b c
  | _ => d
theorem r3_mk {α : Type} (k : Int → Int → Int → α) (d : α) (a b c : Int) : r3 k d [a, b, c] = k a b c := rfl
def ceilI (x l : Int) : Int := -((-x) / l)
theorem ceil_le {x l y : Int} (h : 0 < l) : ceilI x l ≤ y ↔ x ≤ y * l := by
  unfold ceilI
  have h1 := Int.le_ediv_iff_mul_le (a := -y) (b := -x) h
  rw [Int.neg_mul] at h1
  omega
theorem le_ceil {x l y : Int} (h : 0 < l) : y ≤ ceilI x l ↔ (y - 1) * l < x := by
  have := ceil_le (x := x) (y := y - 1) h
  omega
theorem ceil_bd {x l : Int} (h : 0 < l) (hx : 0 ≤ x) : 0 ≤ ceilI x l ∧ ceilI x l ≤ x := by
  constructor
  · refine (le_ceil h).mpr ?_
    omega
  · refine (ceil_le h).mpr ?_
    have := Int.mul_le_mul_of_nonneg_left (show 1 ≤ l by omega) hx
    omega
def lookI (gr w st p : Int) : Int := gr * (w + st * p)
def loL (n s : Nat) (gr w st : Int) : List Int := (win n s).map (r3 (fun p _ l => ceilI (gr * (w + st * p + 1)) l) 0)
def hiL (n s : Nat) (gr w st : Int) : List Int := (win n s).filterMap (r3 (fun p f _ => if 0 < f then some (lookI gr w st p / f) else none) none)
theorem loL_mem {n s : Nat} {gr w st y : Int} (h : s + 2 ≤ n) : y ∈ loL n s gr w st ↔ ∃ p f l : Nat, p < n ∧ ((p < n - s ∧ f = p ∧ l = p + 1) ∨ (n - s ≤ p ∧ f = n - s ∧ l = n)) ∧ y = ceilI (gr * (w + st * p + 1)) l := by
  unfold loL
  rw [List.mem_map]
  constructor
  · rintro ⟨r, hr, rfl⟩
    obtain ⟨p, f, l, rfl, h1, h2⟩ := (win_mem h).mp hr
    exact ⟨p, f, l, h1, h2, rfl⟩
  · rintro ⟨p, f, l, h1, h2, rfl⟩
    exact ⟨_, (win_mem h).mpr ⟨p, f, l, rfl, h1, h2⟩, rfl⟩
theorem hiL_mem {n s : Nat} {gr w st y : Int} (h : s + 2 ≤ n) : y ∈ hiL n s gr w st ↔ ∃ p f l : Nat, p < n ∧ ((p < n - s ∧ f = p ∧ l = p + 1) ∨ (n - s ≤ p ∧ f = n - s ∧ l = n)) ∧ 0 < f ∧ y = lookI gr w st p / (f : Int) := by
  unfold hiL
  rw [List.mem_filterMap]
  constructor
  · rintro ⟨r, hr, e⟩
    obtain ⟨p, f, l, rfl, h1, h2⟩ := (win_mem h).mp hr
    rw [r3_mk] at e
    split at e
    · rename_i hf
      exact ⟨p, f, l, h1, h2, by omega, (Option.some.inj e).symm⟩
    · cases e
  · rintro ⟨p, f, l, h1, h2, hf, rfl⟩
    refine ⟨_, (win_mem h).mpr ⟨p, f, l, rfl, h1, h2⟩, ?_⟩
    rw [r3_mk, if_pos (by omega)]
structure Clk (gr w st : Int) : Prop where
  g1 : 1 ≤ gr
  w0 : 0 ≤ w
  s1 : 1 ≤ st
theorem Clk.look0 {gr w st : Int} (c : Clk gr w st) (p : Nat) : 0 ≤ lookI gr w st p := by
  have h1 := c.g1
  have h2 := c.w0
  have h3 : 0 ≤ st * (p : Int) := Int.mul_nonneg (by have := c.s1; omega) (by omega)
  exact Int.mul_nonneg (by omega) (by omega)
theorem Clk.lookp {gr w st : Int} (c : Clk gr w st) (p : Nat) : (p : Int) ≤ lookI gr w st p := by
  have h1 := c.g1
  have h2 := c.w0
  have h3 : 1 * (p : Int) ≤ st * (p : Int) := Int.mul_le_mul_of_nonneg_right c.s1 (by omega)
  have h4 : 1 * (w + st * (p : Int)) ≤ gr * (w + st * (p : Int)) := Int.mul_le_mul_of_nonneg_right h1 (by omega)
  unfold lookI
  omega
theorem look_next (gr w st p : Int) : gr * (w + st * p + 1) = lookI gr w st p + gr := by
  unfold lookI
  rw [Int.mul_add, Int.mul_one]
/-- what the bounds say of a length -/
def Fits (n s : Nat) (gr w st x : Int) (p f l : Nat) : Prop := p < n ∧ ((p < n - s ∧ f = p ∧ l = p + 1) ∨ (n - s ≤ p ∧ f = n - s ∧ l = n))
theorem lo_iff {n s : Nat} {gr w st lo x : Int} (h : s + 2 ≤ n) (hs : 1 ≤ s) (m : Mx (loL n s gr w st) lo) : lo ≤ x ↔ ∀ p f l : Nat, p < n → ((p < n - s ∧ f = p ∧ l = p + 1) ∨ (n - s ≤ p ∧ f = n - s ∧ l = n)) → lookI gr w st p + gr ≤ x * l := by
  constructor
  · intro hx p f l h1 h2
    have h3 := m.2 _ ((loL_mem h).mpr ⟨p, f, l, h1, h2, rfl⟩)
    have hl : (0 : Int) < l := by omega
    have := (ceil_le hl).mp (Int.le_trans h3 hx)
    rw [look_next] at this
    exact this
  · intro hx
    obtain ⟨p, f, l, h1, h2, e⟩ := (loL_mem h).mp m.1
    have hl : (0 : Int) < l := by omega
    rw [e]
    refine (ceil_le hl).mpr ?_
    rw [look_next]
    exact hx p f l h1 h2
theorem hi_iff {n s : Nat} {gr w st hi x : Int} (h : s + 2 ≤ n) (c : Clk gr w st) (m : Mi (hiL n s gr w st) hi) : x ≤ hi ↔ ∀ p f l : Nat, p < n → ((p < n - s ∧ f = p ∧ l = p + 1) ∨ (n - s ≤ p ∧ f = n - s ∧ l = n)) → x * f ≤ lookI gr w st p := by
  constructor
  · intro hx p f l h1 h2
    by_cases hf : 0 < f
    · have h3 := m.2 _ ((hiL_mem h).mpr ⟨p, f, l, h1, h2, hf, rfl⟩)
      exact (Int.le_ediv_iff_mul_le (show (0 : Int) < f by omega)).mp (Int.le_trans hx h3)
    · obtain rfl : f = 0 := by omega
      have := c.look0 p
      rw [show ((0 : Nat) : Int) = 0 from rfl, Int.mul_zero]
      exact this
  · intro hx
    obtain ⟨p, f, l, h1, h2, hf, e⟩ := (hiL_mem h).mp m.1
    rw [e]
    exact (Int.le_ediv_iff_mul_le (show (0 : Int) < f by omega)).mpr (hx p f l h1 h2)
theorem lo_ge {n s : Nat} {gr w st lo : Int} (h : s + 2 ≤ n) (c : Clk gr w st) (m : Mx (loL n s gr w st) lo) : 1 ≤ lo := by
  have h1 := m.2 _ ((loL_mem h).mpr ⟨0, 0, 1, by omega, .inl ⟨by omega, rfl, rfl⟩, rfl⟩)
  refine Int.le_trans ((le_ceil (by decide)).mpr ?_) h1
  rw [look_next]
  have := c.look0 0
  have := c.g1
  omega
theorem hi_ge {n s : Nat} {gr w st hi : Int} (h : s + 2 ≤ n) (c : Clk gr w st) (m : Mi (hiL n s gr w st) hi) : 1 ≤ hi := by
  obtain ⟨p, f, l, h1, h2, hf, e⟩ := (hiL_mem h).mp m.1
  rw [e]
  refine (Int.le_ediv_iff_mul_le (show (0 : Int) < f by omega)).mpr ?_
  have := c.lookp p
  omega
theorem lo_ex {n s : Nat} (gr w st : Int) (h : s + 2 ≤ n) : ∃ lo, Mx (loL n s gr w st) lo := by
  refine Mx.exists fun z => ?_
  have h1 : ceilI (gr * (w + st * (0 : Nat) + 1)) (1 : Nat) ∈ loL n s gr w st := (loL_mem h).mpr ⟨0, 0, 1, by omega, .inl ⟨by omega, rfl, rfl⟩, rfl⟩
  rw [z] at h1
  cases h1
theorem hi_ex {n s : Nat} (gr w st : Int) (h : s + 2 ≤ n) : ∃ hi, Mi (hiL n s gr w st) hi := by
  refine Mi.exists fun z => ?_
  have h1 : lookI gr w st (1 : Nat) / ((1 : Nat) : Int) ∈ hiL n s gr w st := (hiL_mem h).mpr ⟨1, 1, 2, by omega, .inl ⟨by omega, rfl, rfl⟩, by omega, rfl⟩
  rw [z] at h1
  cases h1
/-- sizes -/
structure Clb (gr w st : Int) : Prop extends Clk gr w st where
  gb : gr < 1237940039285380274899124224
  wb : w < 1237940039285380274899124224
  sb : st < 1237940039285380274899124224
theorem IsRc.clb {K : PySem.W.Frag} {H : Hp} {v : V} {gr w s : Int} (h : IsRc K H v gr w s) : Clb gr w s := by
  obtain ⟨t, _, _, h1, h2, h3, h4, h5, h6⟩ := h
  exact ⟨⟨h1, h2, h3⟩, h4, h5, h6⟩
theorem Clb.sp {gr w st : Int} (c : Clb gr w st) {p : Nat} (hp : p ≤ 13) : 0 ≤ st * (p : Int) ∧ st * (p : Int) ≤ 13 * 1237940039285380274899124224 := by
  have h1 := c.s1
  have h2 := c.sb
  refine ⟨Int.mul_nonneg (by omega) (by omega), ?_⟩
  have h3 : st * (p : Int) ≤ st * 13 := Int.mul_le_mul_of_nonneg_left (by omega) (by omega)
  omega
theorem Clb.mul {gr w st x : Int} (c : Clb gr w st) (h0 : 0 ≤ x) (hx : x ≤ 20 * 1237940039285380274899124224) : 0 ≤ gr * x ∧ gr * x < 2 ^ 185 := by
  have h1 := c.g1
  have h2 := c.gb
  refine ⟨Int.mul_nonneg (by omega) (by omega), ?_⟩
  have h3 : gr * x ≤ 1237940039285380274899124224 * x := Int.mul_le_mul_of_nonneg_right (by omega) h0
  have h4 : (1237940039285380274899124224 : Int) * x ≤ 1237940039285380274899124224 * (20 * 1237940039285380274899124224) := Int.mul_le_mul_of_nonneg_left hx (by decide)
  have h5 : (1237940039285380274899124224 : Int) * (20 * 1237940039285380274899124224) < 2 ^ 185 := by decide
  omega
theorem Clb.look {gr w st : Int} (c : Clb gr w st) {p : Nat} (hp : p ≤ 13) : 0 ≤ lookI gr w st p ∧ lookI gr w st p < 2 ^ 185 := by
  have h1 := c.sp hp
  have h2 := c.w0
  have h3 := c.wb
  exact c.mul (by omega) (by omega)
theorem lo_lt {n s : Nat} {gr w st lo : Int} (h : s + 2 ≤ n ∧ n ≤ 13) (c : Clb gr w st) (m : Mx (loL n s gr w st) lo) : lo < 2 ^ 186 := by
  obtain ⟨p, f, l, h1, h2, e⟩ := (loL_mem h.1).mp m.1
  rw [e, look_next]
  have h3 := c.look (p := p) (by omega)
  have h4 := c.g1
  have h5 := c.gb
  have h6 := (ceil_bd (x := lookI gr w st p + gr) (show (0 : Int) < l by omega) (by omega)).2
  have h7 : (2 : Int) ^ 186 = 2 ^ 185 + 2 ^ 185 := by decide
  have h8 : (1237940039285380274899124224 : Int) < 2 ^ 185 := by decide
  omega
theorem hi_lt {n s : Nat} {gr w st hi : Int} (h : s + 2 ≤ n ∧ n ≤ 13) (c : Clb gr w st) (m : Mi (hiL n s gr w st) hi) : hi < 2 ^ 185 := by
  obtain ⟨p, f, l, h1, h2, hf, e⟩ := (hiL_mem h.1).mp m.1
  rw [e]
  have h3 := c.look (p := p) (by omega)
  have h4 : lookI gr w st p / (f : Int) ≤ lookI gr w st p := Int.ediv_le_self _ h3.1
  omega
/-- an offset's looks lie in their windows -/
def goodB (rs : List (List Int)) (gr w st x off : Int) : Bool := rs.all (r3 (fun p f l => decide (x * f ≤ off + gr * (w + st * p)) && decide (off + gr * (w + st * p) < x * l)) true)
theorem good_iff {n s : Nat} {gr w st x off : Int} (h : s + 2 ≤ n) : goodB (win n s) gr w st x off = true ↔ ∀ p f l : Nat, p < n → ((p < n - s ∧ f = p ∧ l = p + 1) ∨ (n - s ≤ p ∧ f = n - s ∧ l = n)) → x * f ≤ off + lookI gr w st p ∧ off + lookI gr w st p < x * l := by
  unfold goodB
  rw [List.all_eq_true]
  constructor
  · intro hx p f l h1 h2
    have := hx _ ((win_mem h).mpr ⟨p, f, l, rfl, h1, h2⟩)
    rw [r3_mk, Bool.and_eq_true, decide_eq_true_eq, decide_eq_true_eq] at this
    exact this
  · intro hx r hr
    obtain ⟨p, f, l, rfl, h1, h2⟩ := (win_mem h).mp hr
    rw [r3_mk, Bool.and_eq_true, decide_eq_true_eq, decide_eq_true_eq]
    exact hx p f l h1 h2
/-- all offsets are good just for the lengths between the bounds -/
theorem fine_iff {n s : Nat} {gr w st lo hi x : Int} (h : s + 2 ≤ n) (hs : 1 ≤ s) (c : Clk gr w st) (m : Mx (loL n s gr w st) lo) (m' : Mi (hiL n s gr w st) hi) :
    (∀ i : Nat, (i : Int) < gr → goodB (win n s) gr w st x (i : Int) = true) ↔ lo ≤ x ∧ x ≤ hi := by
  rw [lo_iff h hs m, hi_iff h c m']
  have g1 := c.g1
  constructor
  · intro hx
    constructor
    · intro p f l h1 h2
      have := ((good_iff h).mp (hx (gr - 1).toNat (by omega)) p f l h1 h2).2
      omega
    · intro p f l h1 h2
      have := ((good_iff h).mp (hx 0 (by omega)) p f l h1 h2).1
      omega
  · intro ⟨ha, hb⟩ i hi
    refine (good_iff h).mpr fun p f l h1 h2 => ?_
    have := ha p f l h1 h2
    have := hb p f l h1 h2
    omega
/-! the numbers of a stretch among those from 1 on -/
theorem given_between (lo hi : Int) : ∀ m : Nat, 1 ≤ lo → (List.range m).filterMap (fun i : Nat => if lo ≤ 1 + (i : Int) ∧ 1 + (i : Int) ≤ hi then some (1 + (i : Int)) else none) = (List.range (min (m : Int) hi - lo + 1).toNat).map fun i : Nat => lo + (i : Int)
  | 0, h => by
    have : (min ((0 : Nat) : Int) hi - lo + 1).toNat = 0 := by omega
    rw [this]
    rfl
  | m + 1, h => by
    rw [range_fm_succ, given_between lo hi m h]
    by_cases h1 : lo ≤ 1 + (m : Int) ∧ 1 + (m : Int) ≤ hi
    · rw [if_pos h1]
      have e : (min ((m + 1 : Nat) : Int) hi - lo + 1).toNat = (min (m : Int) hi - lo + 1).toNat + 1 := by omega
      rw [e, List.range_succ, List.map_append]
      congr 1
      show [1 + (m : Int)] = [lo + _]
      congr 1
      omega
    · rw [if_neg h1]
      have e : (min ((m + 1 : Nat) : Int) hi - lo + 1).toNat = (min (m : Int) hi - lo + 1).toNat := by omega
      rw [e, List.append_nil]
theorem str_ne_iff (x y : Str) : (!decide (V.str x = V.str y)) = !decide (x = y) := by
  congr 1
  exact decide_eq_decide.mpr ⟨fun h => by injection h, fun h => by rw [h]⟩
end SB
namespace SB
theorem win_three {n s : Nat} {r : List Int} (h : r ∈ win n s) : ∃ p f l : Int, r = [p, f, l] := by
  unfold win at h
  rw [List.mem_append, List.mem_map, List.mem_map] at h
  rcases h with ⟨i, hi, rfl⟩ | ⟨i, hi, rfl⟩
  · exact ⟨_, _, _, rfl⟩
  · exact ⟨_, _, _, rfl⟩
end SB
namespace SB
open PySem PySem.Spec PyProof.Rows L2 Evl
theorem inV_ints (x : Int) (ns : List Int) : inV (.int x) (ns.map V.int) = decide (x ∈ ns) := by
  unfold inV
  rw [List.any_map]
  induction ns with
  | nil => rfl
  | cons n ns ih =>
    rw [List.any_cons, ih]
    have e : ((fun y => eqV y (.int x)) ∘ V.int) n = decide (n = x) := rfl
    rw [e]
    by_cases h : n = x
    · subst h
      simp
    · have h' : ¬ x = n := fun z => h z.symm
      simp [h, h', List.mem_cons]
theorem flat_ints (ns : List Int) : (ns.map V.int).all flatV = true := by
  rw [List.all_map, List.all_eq_true]
  intro x _
  rfl
theorem eqv_nil (ns : List Int) : PyData.eqv (.list (dI ns)) (.list []) = ns.isEmpty := by
  cases ns with
  | nil => decide +kernel
  | cons n ns => rfl
/-! None, or a tuple of whole numbers -/
def optT (lo hi : Int) : Option (List Int) := if lo ≤ hi then some [lo, hi] else none
def IsO (K : PySem.W.Frag) (H : Hp) (v : V) : Option (List Int) → Prop
  | none => v = .non
  | some r => RT K H v r
theorem IsO.ex {K : PySem.W.Frag} {H H' : Hp} {v : V} {o : Option (List Int)} (e : Ex H H') (h : IsO K H v o) : IsO K H' v o := by
  cases o with
  | none => exact h
  | some r => exact RT.lasts.ex e h
theorem IsO.kp {K : PySem.W.Frag} {H H' : Hp} {v : V} {o : Option (List Int)} {a : Addr} {ys : List V} (e : Kp a H H') (ha : H a = some (.lst ys)) (h : IsO K H v o) : IsO K H' v o := by
  cases o with
  | none => exact h
  | some r => exact RT.lasts.kp e ha h
def optD : Option (List Int) → PyData
  | none => .none
  | some r => .tuple (dI r)
theorem IsO.dp {K : PySem.W.Frag} {H : Hp} {v : V} {o : Option (List Int)} (h : IsO K H v o) : Dp K H v (optD o) := by
  cases o with
  | none =>
    cases (show v = .non from h)
    exact .non
  | some r =>
    obtain ⟨t, rfl, ht⟩ := h
    exact .tup ht (dp_ints r)
def Ok200 (o : Option (List Int)) : Prop := ∀ r, o = some r → r.length ≤ 10 ∧ ∀ y ∈ r, y.natAbs < 2 ^ 200
theorem show_opt {o : Option (List Int)} (h : Ok200 o) : (optD o).showable = true ∧ (optD o).hasDict = false ∧ (optD o).depth ≤ 60 ∧ (optD o).shown.length ≤ sizeLine := by
  cases o with
  | none => exact ⟨rfl, rfl, Nat.zero_le _, by decide +kernel⟩
  | some r =>
    obtain ⟨h1, h2⟩ := h r rfl
    exact show_tup h2 (by omega)
theorem rp_opt {K : PySem.W.Frag} {H : Hp} {v : V} {o : Option (List Int)} {Q : VK} (h : IsO K H v o) (k : Ok200 o) (q : Q (.str (optD o).shown) H) : rRp K [v] H Q := by
  obtain ⟨h1, h2, h3, h4⟩ := show_opt k
  exact ⟨_, _, rfl, h.dp, h1, h2, h3, h4, q⟩
theorem ok_optT {lo hi : Int} (h1 : lo.natAbs < 2 ^ 200) (h2 : hi.natAbs < 2 ^ 200) : Ok200 (optT lo hi) := by
  intro r hr
  unfold optT at hr
  split at hr
  · cases hr
    refine ⟨by show 2 ≤ 10; omega, fun y hy => ?_⟩
    rcases List.mem_cons.mp hy with rfl | hy
    · exact h1
    · rw [List.mem_singleton.mp hy]
      exact h2
  · cases hr
theorem stretch_at {lo hi : Int} (h : lo ≤ hi) : ((List.range (hi - lo + 1).toNat).map fun i : Nat => lo + (i : Int)) = lo :: ((List.range (hi - lo).toNat).map fun i : Nat => lo + 1 + (i : Int)) := by
  have e : (hi - lo + 1).toNat = (hi - lo).toNat + 1 := by omega
  rw [e, List.range_succ_eq_map, List.map_cons, List.map_map]
  congr 1
  · simp
  · refine List.map_congr_left fun i _ => ?_
    show lo + ((i + 1 : Nat) : Int) = lo + 1 + (i : Int)
    omega
theorem stretch_end {lo hi : Int} (h : lo ≤ hi) : ((List.range (hi - lo + 1).toNat).map fun i : Nat => lo + (i : Int)) = ((List.range (hi - lo).toNat).map fun i : Nat => lo + (i : Int)) ++ [hi] := by
  have e : (hi - lo + 1).toNat = (hi - lo).toNat + 1 := by omega
  rw [e, List.range_succ, List.map_append]
  congr 1
  show [lo + (((hi - lo).toNat : Nat) : Int)] = [hi]
  congr 1
  omega
theorem stretch_mem {lo hi x : Int} : x ∈ ((List.range (hi - lo + 1).toNat).map fun i : Nat => lo + (i : Int)) ↔ lo ≤ x ∧ x ≤ hi := by
  rw [List.mem_map]
  constructor
  · rintro ⟨i, hi, rfl⟩
    have := List.mem_range.mp hi
    omega
  · intro h
    exact ⟨(x - lo).toNat, List.mem_range.mpr (by omega), by omega⟩
theorem stretch_nil {lo hi : Int} (h : ¬ lo ≤ hi) : ((List.range (hi - lo + 1).toNat).map fun i : Nat => lo + (i : Int)) = [] := by
  have e : (hi - lo + 1).toNat = 0 := by omega
  rw [e]
  rfl
end SB
namespace SB
open PySem PySem.Spec PyProof.Rows L2 Evl
/-! good offsets -/
def gdL (n s : Nat) (gr w st x : Int) : List Int := (win n s).map (r3 (fun p f _ => f * x - gr * (w + st * p)) 0)
def gdH (n s : Nat) (gr w st x : Int) : List Int := (win n s).map (r3 (fun p _ l => l * x - 1 - gr * (w + st * p)) 0)
theorem gdL_pos {n s : Nat} {gr w st x : Int} (h : s + 2 ≤ n) : 0 < (gdL n s gr w st x).length := by
  unfold gdL
  rw [List.length_map, win_len (by omega)]
  omega
theorem gdH_pos {n s : Nat} {gr w st x : Int} (h : s + 2 ≤ n) : 0 < (gdH n s gr w st x).length := by
  unfold gdH
  rw [List.length_map, win_len (by omega)]
  omega
theorem Mx.cons {a m k : Int} {L : List Int} (h : Mx (a :: L) k) (h' : Mx L m) : k = if a > m then a else m := by
  refine h.uniq ?_
  by_cases c : a > m
  · rw [if_pos c]
    refine ⟨List.mem_cons_self .., fun y hy => ?_⟩
    rcases List.mem_cons.mp hy with rfl | hy
    · exact Int.le_refl _
    · have := h'.2 y hy
      omega
  · rw [if_neg c]
    refine ⟨List.mem_cons_of_mem _ h'.1, fun y hy => ?_⟩
    rcases List.mem_cons.mp hy with rfl | hy
    · omega
    · exact h'.2 y hy
theorem Mi.cons {a m k : Int} {L : List Int} (h : Mi (a :: L) k) (h' : Mi L m) : k = if a < m then a else m := by
  refine h.uniq ?_
  by_cases c : a < m
  · rw [if_pos c]
    refine ⟨List.mem_cons_self .., fun y hy => ?_⟩
    rcases List.mem_cons.mp hy with rfl | hy
    · exact Int.le_refl _
    · have := h'.2 y hy
      omega
  · rw [if_neg c]
    refine ⟨List.mem_cons_of_mem _ h'.1, fun y hy => ?_⟩
    rcases List.mem_cons.mp hy with rfl | hy
    · omega
    · exact h'.2 y hy
/-- an offset is good just between the bounds -/
theorem gd_iff {n s : Nat} {gr w st x lo hi off : Int} (m1 : Mx (0 :: gdL n s gr w st x) lo) (m2 : Mi ((gr - 1) :: gdH n s gr w st x) hi) (h0 : 0 ≤ off) (h1 : off < gr) : goodB (win n s) gr w st x off = true ↔ lo ≤ off ∧ off ≤ hi := by
  unfold goodB
  rw [List.all_eq_true]
  constructor
  · intro hx
    constructor
    · rcases List.mem_cons.mp m1.1 with h | h
      · omega
      · unfold gdL at h
        obtain ⟨r, hr, e⟩ := List.mem_map.mp h
        obtain ⟨p, f, l, rfl⟩ := win_three hr
        have := hx _ hr
        rw [r3_mk, Bool.and_eq_true, decide_eq_true_eq, decide_eq_true_eq] at this
        rw [r3_mk, Int.mul_comm f x] at e
        omega
    · rcases List.mem_cons.mp m2.1 with h | h
      · omega
      · unfold gdH at h
        obtain ⟨r, hr, e⟩ := List.mem_map.mp h
        obtain ⟨p, f, l, rfl⟩ := win_three hr
        have := hx _ hr
        rw [r3_mk, Bool.and_eq_true, decide_eq_true_eq, decide_eq_true_eq] at this
        rw [r3_mk, Int.mul_comm l x] at e
        omega
  · intro ⟨ha, hb⟩ r hr
    obtain ⟨p, f, l, rfl⟩ := win_three hr
    have a1 := m1.2 _ (List.mem_cons_of_mem _ (List.mem_map.mpr ⟨_, hr, rfl⟩))
    have a2 := m2.2 _ (List.mem_cons_of_mem _ (List.mem_map.mpr ⟨_, hr, rfl⟩))
    rw [r3_mk, Int.mul_comm f x] at a1
    rw [r3_mk, Int.mul_comm l x] at a2
    rw [r3_mk, Bool.and_eq_true, decide_eq_true_eq, decide_eq_true_eq]
    omega
end SB
namespace SB
open PySem PySem.Spec PyProof.Rows L2 Evl
theorem sh_int {i : Int} (h : i.natAbs < 2 ^ 200) : (PyData.int i).showable = true ∧ (PyData.int i).shown.length ≤ sizeLine := by
  have hl : i.natAbs.log2 < 200 := int_log (by decide) h
  have ht : (Str.ofString (toString i)).length ≤ 201 := by
    rw [PySem.ofString_length]
    exact int_text_length_le (k := 200) (by decide) hl
  refine ⟨?_, ?_⟩
  · simp only [PyData.showable, decide_eq_true_eq]
    omega
  · show (Str.ofString (toString i)).length ≤ sizeLine
    rw [sizeLine_eq]
    omega
theorem nat_abs_lt {x : Int} {k : Nat} (h0 : 0 ≤ x) (h1 : x < 2 ^ k) : x.natAbs < 2 ^ k := by
  have e : (2 : Int) ^ k = ((2 ^ k : Nat) : Int) := by norm_cast
  omega
theorem emod_small {i g : Int} (h : 1 ≤ g) (hg : g < 1237940039285380274899124224) : (i % g).natAbs < 2 ^ 200 := by
  have h1 := Int.emod_nonneg i (show g ≠ 0 by omega)
  have h2 := Int.emod_lt_of_pos i (show 0 < g by omega)
  omega
end SB
namespace SB
open PySem PySem.Spec PyProof.Rows L2 Evl
theorem given_from (c lo hi : Int) : ∀ m : Nat, c ≤ lo → (List.range m).filterMap (fun i : Nat => if lo ≤ c + (i : Int) ∧ c + (i : Int) ≤ hi then some (c + (i : Int)) else none) = (List.range (min (c + (m : Int) - 1) hi - lo + 1).toNat).map fun i : Nat => lo + (i : Int)
  | 0, h => by
    have : (min (c + ((0 : Nat) : Int) - 1) hi - lo + 1).toNat = 0 := by omega
    rw [this]
    rfl
  | m + 1, h => by
    rw [range_fm_succ, given_from c lo hi m h]
    by_cases h1 : lo ≤ c + (m : Int) ∧ c + (m : Int) ≤ hi
    · rw [if_pos h1]
      have e : (min (c + ((m + 1 : Nat) : Int) - 1) hi - lo + 1).toNat = (min (c + (m : Int) - 1) hi - lo + 1).toNat + 1 := by omega
      rw [e, List.range_succ, List.map_append]
      congr 1
      show [c + (m : Int)] = [lo + _]
      congr 1
      omega
    · rw [if_neg h1]
      have e : (min (c + ((m + 1 : Nat) : Int) - 1) hi - lo + 1).toNat = (min (c + (m : Int) - 1) hi - lo + 1).toNat := by omega
      rw [e, List.append_nil]
theorem rgV_stretch (lo hi : Int) : rgV lo (hi + 1) = ((List.range (hi - lo + 1).toNat).map fun i : Nat => lo + (i : Int)).map V.int := by
  unfold rgV
  rw [List.map_map, show hi + 1 - lo = hi - lo + 1 by omega]
  rfl
theorem gd_ex {n s : Nat} (gr w st x : Int) : (∃ lo, Mx (0 :: gdL n s gr w st x) lo) ∧ ∃ hi, Mi ((gr - 1) :: gdH n s gr w st x) hi :=
  ⟨Mx.exists (by simp), Mi.exists (by simp)⟩
theorem gd_bd {n s : Nat} {gr w st x lo hi : Int} (h : s + 2 ≤ n ∧ n ≤ 13) (c : Clb gr w st) (x1 : 1 ≤ x) (x2 : x < 2 ^ 190) (m1 : Mx (0 :: gdL n s gr w st x) lo) (m2 : Mi ((gr - 1) :: gdH n s gr w st x) hi) :
    0 ≤ lo ∧ hi ≤ gr - 1 ∧ lo.natAbs < 2 ^ 200 ∧ hi.natAbs < 2 ^ 200 := by
  have l0 := m1.2 0 (List.mem_cons_self ..)
  have h0 := m2.2 (gr - 1) (List.mem_cons_self ..)
  have g1 := c.g1
  have gb := c.gb
  have p1 : (2 : Int) ^ 200 = ((2 ^ 200 : Nat) : Int) := by norm_cast
  have p2 : (13 : Int) * 2 ^ 190 + 2 ^ 185 < 2 ^ 200 := by decide
  have p3 : (1237940039285380274899124224 : Int) < 2 ^ 185 := by decide
  refine ⟨l0, h0, ?_, ?_⟩
  · rcases List.mem_cons.mp m1.1 with e | e
    · rw [e]
      decide
    · obtain ⟨r, hr, e⟩ := List.mem_map.mp e
      obtain ⟨p, f, l, rfl, h1, h2⟩ := (win_mem h.1).mp hr
      rw [r3_mk] at e
      have lk := c.look (p := p) (by omega)
      have e2 : lookI gr w st p = gr * (w + st * (p : Int)) := rfl
      have fx : (f : Int) * x ≤ 13 * x := Int.mul_le_mul_of_nonneg_right (by omega) (by omega)
      omega
  · rcases List.mem_cons.mp m2.1 with e | e
    · omega
    · obtain ⟨r, hr, e⟩ := List.mem_map.mp e
      obtain ⟨p, f, l, rfl, h1, h2⟩ := (win_mem h.1).mp hr
      rw [r3_mk] at e
      have lk := c.look (p := p) (by omega)
      have e2 : lookI gr w st p = gr * (w + st * (p : Int)) := rfl
      have fx : 0 ≤ (l : Int) * x := Int.mul_nonneg (by omega) (by omega)
      omega
end SB
namespace SB
open PySem PySem.Spec PyProof.Rows L2 Evl
/-! places of receivers -/
def stp (n s : Nat) (pl lv : Int) : Int := if pl = -1 then (if lv = 1 then 0 else -1) else if pl = 0 then (if lv = 1 then 0 else 1) else if lv = 0 ∧ pl ≥ (n : Int) - s then -1 else (pl + 1) % (n : Int)
def plc (n s : Nat) (pl : Int) (ls : List Int) : Int := ls.foldl (stp n s) pl
theorem plc_app (n s : Nat) (pl : Int) (A B : List Int) : plc n s pl (A ++ B) = plc n s (plc n s pl A) B := List.foldl_append ..
theorem plc_succ {n s : Nat} {pl l : Int} {ls : List Int} {i : Nat} (h : ls[i]? = some l) : plc n s pl (ls.take (i + 1)) = stp n s (plc n s pl (ls.take i)) l := by
  rw [List.take_add_one, h, plc_app]
  rfl
/-- the place behind a text -/
def pat (b : Nat) (p : Pa) (s : Nat) (pl : Int) (ns : List Int) : Int := ns.foldl (fun q x => plc (sz b p s) s q (frm b p s x)) pl
def pls (b : Nat) (p : Pa) (s : Nat) (pl : Int) (ns : List Int) : List Int := (List.range (ns.length + 1)).map fun i => pat b p s pl (ns.take i)
theorem pls_len (b : Nat) (p : Pa) (s : Nat) (pl : Int) (ns : List Int) : (pls b p s pl ns).length = ns.length + 1 := by simp [pls]
theorem pls_last (b : Nat) (p : Pa) (s : Nat) (pl : Int) (ns : List Int) : pls b p s pl ns = ((List.range ns.length).map fun i => pat b p s pl (ns.take i)) ++ [pat b p s pl ns] := by
  unfold pls
  rw [List.range_succ, List.map_append]
  simp
theorem pat_succ {b : Nat} {p : Pa} {s : Nat} {pl x : Int} {ns : List Int} {i : Nat} (h : ns[i]? = some x) : pat b p s pl (ns.take (i + 1)) = plc (sz b p s) s (pat b p s pl (ns.take i)) (frm b p s x) := by
  unfold pat
  rw [List.take_add_one, h, List.foldl_append]
  rfl
theorem pls_succ {b : Nat} {p : Pa} {s : Nat} {pl x : Int} {ns : List Int} {i : Nat} (h : ns[i]? = some x) : pls b p s pl (ns.take (i + 1)) = pls b p s pl (ns.take i) ++ [plc (sz b p s) s (pat b p s pl (ns.take i)) (frm b p s x)] := by
  have hi := (List.getElem?_eq_some_iff.mp h).1
  have l1 : (ns.take (i + 1)).length = i + 1 := by rw [List.length_take]; omega
  have l0 : (ns.take i).length = i := by rw [List.length_take]; omega
  rw [pls_last b p s pl (ns.take (i + 1)), l1, pat_succ h]
  congr 1
  unfold pls
  rw [l0]
  refine List.map_congr_left fun j hj => ?_
  have := List.mem_range.mp hj
  rw [List.take_take, List.take_take, Nat.min_eq_left (by omega), Nat.min_eq_left (by omega)]
theorem pat_app (b : Nat) (p : Pa) (s : Nat) (pl : Int) (A B : List Int) : pat b p s pl (A ++ B) = pat b p s (pat b p s pl A) B := List.foldl_append ..
theorem stp_bd {n s : Nat} {pl lv : Int} (hn : 2 ≤ n) (h0 : -1 ≤ pl) (h1 : pl < n) : -1 ≤ stp n s pl lv ∧ stp n s pl lv < n := by
  unfold stp
  have e1 := Int.emod_nonneg (pl + 1) (show (n : Int) ≠ 0 by omega)
  have e2 := Int.emod_lt_of_pos (pl + 1) (show (0 : Int) < n by omega)
  split
  · split <;> omega
  · split
    · split <;> omega
    · split <;> omega
theorem plc_bd {n s : Nat} (hn : 2 ≤ n) : ∀ {ls : List Int} {pl : Int}, -1 ≤ pl → pl < n → -1 ≤ plc n s pl ls ∧ plc n s pl ls < n
  | [], pl, h0, h1 => ⟨h0, h1⟩
  | l :: ls, pl, h0, h1 => by
    have h := stp_bd (s := s) (lv := l) hn h0 h1
    exact plc_bd (ls := ls) hn h.1 h.2
/-- behind a 1 a receiver is not waiting -/
theorem stp_one {n s : Nat} {pl : Int} (hn : 2 ≤ n) (h0 : -1 ≤ pl) (h1 : pl < n) : 0 ≤ stp n s pl 1 ∧ stp n s pl 1 < n := by
  unfold stp
  have e1 := Int.emod_nonneg (pl + 1) (show (n : Int) ≠ 0 by omega)
  have e2 := Int.emod_lt_of_pos (pl + 1) (show (0 : Int) < n by omega)
  split
  · simp
    omega
  · split
    · simp
      omega
    · simp
      omega
theorem frm_last {b : Nat} {p : Pa} {s : Nat} (x : Int) (hs : 1 ≤ s) : ∃ ls, frm b p s x = ls ++ [1] := by
  obtain ⟨m, rfl⟩ : ∃ m, s = m + 1 := ⟨s - 1, by omega⟩
  refine ⟨0 :: (bits b x ++ (parL b p x ++ List.replicate m 1)), ?_⟩
  unfold frm
  rw [List.replicate_succ']
  simp
theorem plc_frm_bd {b : Nat} {p : Pa} {s : Nat} {x pl : Int} (hs : 1 ≤ s) (h0 : 0 ≤ pl) (h1 : pl < (sz b p s : Nat)) : 0 ≤ plc (sz b p s) s pl (frm b p s x) ∧ plc (sz b p s) s pl (frm b p s x) < (sz b p s : Nat) := by
  have hn : 2 ≤ sz b p s := by
    unfold sz
    omega
  obtain ⟨ls, e⟩ := frm_last (b := b) (p := p) x hs
  rw [e, plc_app]
  have h := plc_bd (s := s) (ls := ls) hn (show -1 ≤ pl by omega) h1
  exact stp_one hn h.1 h.2
theorem pat_bd {b : Nat} {p : Pa} {s : Nat} (hs : 1 ≤ s) : ∀ {ns : List Int} {pl : Int}, 0 ≤ pl → pl < (sz b p s : Nat) → 0 ≤ pat b p s pl ns ∧ pat b p s pl ns < (sz b p s : Nat)
  | [], pl, h0, h1 => ⟨h0, h1⟩
  | x :: ns, pl, h0, h1 => by
    have h := plc_frm_bd (x := x) hs h0 h1
    exact pat_bd (ns := ns) hs h.1 h.2
/-- a receiver in step stays so -/
theorem plc_frm0 {b : Nat} {p : Pa} {s : Nat} {x : Int} (hs : 1 ≤ s) : plc (sz b p s) s 0 (frm b p s x) = 0 := by
  have len := frm_sz b p s x
  have key : ∀ k, k ≤ sz b p s → plc (sz b p s) s 0 ((frm b p s x).take k) = if k = sz b p s then 0 else (k : Int) := by
    intro k
    induction k with
    | zero =>
      intro _
      rw [if_neg (by unfold sz; omega)]
      rfl
    | succ k ih =>
      intro hk
      have hg : (frm b p s x)[k]? = some ((frm b p s x)[k]'(by rw [len]; omega)) := List.getElem?_eq_getElem _
      rw [plc_succ hg, ih (by omega), if_neg (by omega)]
      have l01 : (frm b p s x)[k]'(by rw [len]; omega) = 0 ∨ (frm b p s x)[k]'(by rw [len]; omega) = 1 := frm_01 (List.getElem_mem _)
      have stop : sz b p s - s ≤ k → (frm b p s x)[k]'(by rw [len]; omega) = 1 := by
        intro h
        have hb := bits_len b x
        have hp : (parL b p x).length = plen p := by cases p <;> rfl
        have e : (frm b p s x)[k]? = some 1 := by
          unfold frm
          obtain ⟨j, rfl⟩ : ∃ j, k = j + 1 := ⟨k - 1, by unfold sz at *; omega⟩
          rw [List.getElem?_cons_succ, ← List.append_assoc, List.getElem?_append_right (by rw [List.length_append, hb, hp]; unfold sz at *; omega), List.getElem?_replicate, if_pos (by rw [List.length_append, hb, hp]; unfold sz at *; omega)]
        rw [e] at hg
        exact (Option.some.inj hg).symm
      generalize (frm b p s x)[k]'(by rw [len]; omega) = l at l01 stop hg
      unfold stp
      rw [if_neg (by omega)]
      by_cases k0 : k = 0
      · subst k0
        have l0 : l = 0 := by
          have e : (frm b p s x)[0]? = some 0 := rfl
          rw [e] at hg
          exact (Option.some.inj hg).symm
        rw [if_pos (show ((0 : Nat) : Int) = 0 from rfl), l0, if_neg (by decide), if_neg (by unfold sz; omega)]
        rfl
      · rw [if_neg (by omega)]
        have no : ¬ (l = 0 ∧ (k : Int) ≥ ((sz b p s : Nat) : Int) - s) := fun ⟨c1, c2⟩ => by
          have := stop (by omega)
          omega
        rw [if_neg no]
        by_cases ke : k + 1 = sz b p s
        · rw [if_pos ke, ← ke]
          exact Int.emod_self
        · rw [if_neg ke]
          exact Int.emod_eq_of_lt (by omega) (by omega)
  have := key (sz b p s) (Nat.le_refl _)
  rw [if_pos rfl, List.take_of_length_le (by omega)] at this
  exact this
theorem pat_0 {b : Nat} {p : Pa} {s : Nat} (hs : 1 ≤ s) : ∀ ns : List Int, pat b p s 0 ns = 0
  | [] => rfl
  | x :: ns => by
    show pat b p s (plc (sz b p s) s 0 (frm b p s x)) ns = 0
    rw [plc_frm0 hs, pat_0 hs ns]
theorem pls_0 {b : Nat} {p : Pa} {s : Nat} (hs : 1 ≤ s) (ns : List Int) : pls b p s 0 ns = List.replicate (ns.length + 1) 0 := by
  unfold pls
  refine List.ext_getElem (by simp) fun i h1 h2 => ?_
  simp [pat_0 hs]
/-- a comprehension of draws -/
theorem lcD {lo : Int} {n j : Nat} {te : TE} {vs : List Nat} {σ : L2.St} {H : Hp} {S D : Addr} {n0 c : Nat} {Qd : Hp → Prop} (Ok : Int → Prop) (hD : H D = none) (src : Pool H S n0) (hn : n ≤ 100000) (hj : j ∈ vs)
    (hs : ∀ (i : Nat) (H' : Hp), i < n → Kp S H H' → Pool H' S (n0 + c * i) → ∀ (Kt : VK), (∀ x H4, Ok x → Kp S H' H4 → Pool H4 S (n0 + c * (i + 1)) → Kt (.int x) H4) → te ((wipe σ vs).set j (some (.int (lo + i)))) H' Kt)
    (hd : ∀ (H' : Hp) (ns : List Int), Kp S H H' → Pool H' S (n0 + c * n) → ns.length = n → (∀ x ∈ ns, Ok x) → H' D = some (.lst (ns.map V.int)) → Qd H') :
    ∃ W : Nat → Nat → Hp → Prop, (∃ m, W 0 m (L2.upd H D (.lst []))) ∧ ∀ i m H, W i m H →
      ((Itr lo n).stop i H ∧ Qd H) ∨ ((Itr lo n).go i H ∧ ∃ Nx : Hp → Prop, (∀ H', Nx H' → ∃ m', m' < m ∧ W (i + 1) m' H') ∧ ∀ x H', (Itr lo n).yld i H x H' → gName j x (wipe σ vs) H' fun σ2 H2 => wipe σ2 vs = wipe σ vs ∧ tYes σ2 H2 fun b H3 =>
        if b = true then te σ2 H3 fun y H4 => ∃ acc, H4 D = some (.lst acc) ∧ acc.length < sizeLine ∧ Nx (L2.upd H4 D (.lst (acc ++ [y]))) else Nx H3) := by
  have DS : D ≠ S := src.ne hD
  refine lc_range (fun i H' => ∃ ns : List Int, Kp S H H' ∧ Pool H' S (n0 + c * i) ∧ ns.length = i ∧ (∀ x ∈ ns, Ok x) ∧ H' D = some (.lst (ns.map V.int))) ⟨[], Ex.kp (Ex.new hD), src.ex (Ex.new hD), rfl, (fun _ h => by cases h), upd_same⟩ (fun i H' hi ⟨ns, k, pl, hl, ok, hL⟩ => ?_) fun H' ⟨ns, k, pl, hl, ok, hL⟩ => hd H' ns k pl hl ok hL
  have key := hs i H' hi k pl (fun y H4 => ∃ acc, H4 D = some (.lst acc) ∧ acc.length < sizeLine ∧ ∃ ns : List Int, Kp S H (L2.upd H4 D (.lst (acc ++ [y]))) ∧ Pool (L2.upd H4 D (.lst (acc ++ [y]))) S (n0 + c * (i + 1)) ∧ ns.length = i + 1 ∧ (∀ x ∈ ns, Ok x) ∧ (L2.upd H4 D (.lst (acc ++ [y]))) D = some (.lst (ns.map V.int)))
  refine ⟨by rw [wipe_set hj, wipe_wipe], key fun x H4 okx k4 pl4 => ?_⟩
  refine ⟨_, k4 D _ DS hL, ?_, ns ++ [x], (k.trans k4).mut hD, pl4.upd DS, by rw [List.length_append, hl]; rfl, ?_, ?_⟩
  · rw [List.length_map]
    exact Nat.lt_of_le_of_lt (show ns.length ≤ 100000 by omega) (by decide)
  · intro z hz
    rcases List.mem_append.mp hz with h | h
    · exact ok z h
    · rw [List.mem_singleton.mp h]
      exact okx
  · rw [upd_same, List.map_append]
    rfl
end SB
namespace SB
open PySem PySem.Spec PyProof.Rows L2 Evl
theorem seq_any' {te : TE} {i : Nat} {u : TS} {D : L2.Ends} {σ : L2.St} {H : Hp} {P : V → Hp → Prop} (h : ∀ Q' : VK, (∀ v H', P v H' → Q' v H') → te σ H Q') (k : ∀ v H', P v H' → u D (σ.set i (some v)) H') :
    tSeq (tAsg te (gName i)) u D σ H := h _ k
end SB
namespace EXS
open PySem PySem.W PySem.Calls PyProof.Rows
/-! an own error whose __init__ says super().__init__(f'..') and stores its one field -/
def eArgs (fld : Str) (p1 p2 : Pos) : Arguments := { posonlyargs := [], args := [{ arg := "self", annotation := none, pos := p1 }, { arg := fld, annotation := none, pos := p2 }], vararg := none, kwonlyargs := [], kw_defaults := [], kwarg := none, defaults := [] }
def eScope (fld : Str) : Scope := { kind := .function, names := [("self", .local), (fld, .local), ("__class__", .free), ("super", .globalImplicit)], isGenerator := false, isCoroutine := false, more := [] }
def eBody (fld : Str) (js : List Expr) (a0 a1 a2 a3 a4 a5 b1 b2 b3 b4 : Pos) : List Stmt :=
  [.Expr (.Call (.Attribute (.Call (.Name "super" a0) [] [] a1) "__init__" a2) [.JoinedStr js a3] [] a4) a5, .Assign [.Attribute (.Name "self" b1) fld b2] (.Name fld b3) b4]
/-- f'TEXT{FLD}' is some text -/
def Tells (fld : Str) (js : List Expr) (v : Value) : Prop := ∀ (prog : Program) (w : World) (A : Around) (E : Value → Shared → Prop) (env : Env) (m : Str → Option Value) (s : Shared) (p : Pos) (Q : Value → Shared → Prop),
  s.heap.Ns env.locals m → m fld = some v → env.scope.kind = .function → env.kindOf fld = some .local → (∀ x t tk, Q (.str x t) { s with toks := tk }) → wpAny (model prog w) A (eval (.JoinedStr js p) env) Q E s
theorem tells2 {fld tx : Str} {p0 p1 p2 : Pos} {k : Nat} {v : Value} (hf : (fld == ("__debug__" : Str)) = false) (hl : tx.length ≤ 100) (hv : v = .none ∨ ∃ i t, v = .int i t ∧ i.natAbs.log2 < 1920) :
    Tells fld [.Constant (.str tx) k p0, .FormattedValue (.Name fld p1) (-1) none p2] v := by
  intro prog w A E env m s p Q hn hm hk hl2 q
  have fld_ok : ∀ (s' : Shared) (Q' : Value → Shared → Prop), s'.heap = s.heap → (∀ (y : Str) (t : Tok) (tk : Nat), y.length ≤ 3000 → Q' (.str y t) { s' with toks := tk }) →
      wpAny (model prog w) A (eval (.FormattedValue (.Name fld p1) (-1) none p2) env) Q' E s' := by
    intro s' Q' eh q'
    refine PySem.wpAny_FormattedValue_plain (wpAny_Name (wpAny_loadName_local hk hl2 (show s'.heap.Ns env.locals m by rw [eh]; exact hn) hm ?_) hf)
    rcases hv with rfl | ⟨i, t, rfl, hi⟩
    · exact wpAny_formatField_none (q' "None" _ _ (by decide))
    · refine PySem.wpAny_formatField_int hi (q' _ _ _ ?_)
      rw [PySem.ofString_length]
      have := int_text_length_le (k := 1920) (by decide) hi
      omega
  refine PySem.wpAny_JoinedStr ?_
  show wpAny _ _ (eval (.Constant (.str tx) k p0) env) _ _ _
  refine PySem.Calls.Constant_str ⟨tx, _, rfl, ?_, ?_⟩
  · rw [sizeLine_eq, show (Str.empty ++ tx).length = Str.empty.length + tx.length from PySem.strLen_append _ _]
    show 0 + tx.length ≤ _
    omega
  · show wpAny _ _ (eval (.FormattedValue (.Name fld p1) (-1) none p2) env) _ _ _
    refine fld_ok _ _ rfl fun y t tk hy => ⟨y, t, rfl, ?_, ?_⟩
    · rw [sizeLine_eq, PySem.strLen_append, PySem.strLen_append]
      show 0 + tx.length + y.length ≤ _
      omega
    · show _ ∧ _
      refine ⟨?_, q _ _ _⟩
      rw [sizeLine_eq, PySem.strLen_append, PySem.strLen_append]
      show 0 + tx.length + y.length ≤ _
      omega
end EXS
namespace EXS
open PySem PySem.W PySem.Calls PyProof.Rows PySem.HandSPX
theorem mcall {o : Expr} {env : Env} {ov : Value} {a2 a4 : Pos} {name : Str} {n : Nat} {args : List (Bool × Sem Value)} (hf : methodCallForm n args [] = true) (h : (a2.endLine == a4.line) = true) :
    methodCall o name a2 a4 env ov n args [] = (do
          let __x ← holding [ov] (getMethod ov name (do
      let __do_lift ← importBound o env
      pure (__do_lift.getD true)))
          match __x with
            | (f, first) => callWith a4 f first args []) := by
  unfold methodCall
  rw [hf]
  have e : methodCallPos true o env a2 a4 = pure a4 := by
    unfold methodCallPos
    rw [h] 
    rfl
  rw [e]
  rfl
theorem mcall_eq {a2 a3 a4 q0 q1 q2 : Pos} {env : Env} {tx x : Str} {kc : Nat} {p0 p1 : Pos} (h : (a2.endLine == a4.line) = true) : eval (.Call (.Attribute (.Call (.Name "super" p0) [] [] p1) "__init__" a2) [.JoinedStr [.Constant (.str tx) kc q0, .FormattedValue (.Name x q1) (-1) none q2] a3] [] a4) env = (do
          let ov ← attributeBase (.Call (.Name "super" p0) [] [] p1) "__init__" env (eval (.Call (.Name "super" p0) [] [] p1) env)
          standAt a2.atName
          let __x ← holding [ov] (getMethod ov "__init__" (do
      let __do_lift ← importBound (.Call (.Name "super" p0) [] [] p1) env
      pure (__do_lift.getD true)))
          match __x with
            | (f, first) => callWith a4 f first (backTo a4 (starEach [.JoinedStr [.Constant (.str tx) kc q0, .FormattedValue (.Name x q1) (-1) none q2] a3] env)) []) := by
  have e : eval (.Call (.Attribute (.Call (.Name "super" p0) [] [] p1) "__init__" a2) [.JoinedStr [.Constant (.str tx) kc q0, .FormattedValue (.Name x q1) (-1) none q2] a3] [] a4) env = (do
          let ov ← attributeBase (.Call (.Name "super" p0) [] [] p1) "__init__" env (eval (.Call (.Name "super" p0) [] [] p1) env)
          standAt a2.atName
          methodCall (.Call (.Name "super" p0) [] [] p1) "__init__" a2 a4 env ov 1 (backTo a4 (starEach [.JoinedStr [.Constant (.str tx) kc q0, .FormattedValue (.Name x q1) (-1) none q2] a3] env)) []) := rfl
  rw [e]
  refine congrArg _ (funext fun ov => ?_)
  refine congrArg _ (funext fun _ => ?_)
  exact mcall rfl h
/-- what the program has of an own error: its class at C, its __init__ at fI, over LineError over ValueError -/
structure ErrTxt (prog : Program) (K : Frag) (mg : Str → Option Value) (nm fld tx : Str) (C fI : Addr) : Prop where
  gC : mg nm = some (.ref C)
  sup : mg "super" = none
  cls : ∃ q N bs bm sn sub ab col dd k0 k1 k2 k3 k5, K.lookup C = some (excClassObj nm q C N bs bm true sn sub ab col dd k0 k1 k2 k3 k5 "ValueError.__new__") ∧ refsVE bm = true ∧ alongIn K "__init__" bm = some (some (.builtin "ValueError.__init__"))
  op : nsIn K cStatics "thirdparty.any" = some none
  sa : findIn K (.ref C) "__setattr__" = some (some (.builtin "object.__setattr__"))
  noN : findIn K (.ref C) fld = some none
  iC : findIn K (.ref C) "__init__" = some (some (.ref fI))
  tC : typeIn K (.ref fI) = some (.type "function")
  kC : keepIn K (.ref C) = true
  exC : subIn K (.ref C) (.type "BaseException") = some true
  veC : subIn K (.ref C) (.type "ValueError") = some true
  init : excInitIn K C [.type "ValueError", .type "Exception", .type "BaseException", .type "object"] "ValueError.__new__" = true
  seC : mroIn K C (.ref C) = some true
  tyC : typeIn K (.ref C) = some (.type "type")
  te : exmOne K (.ref C) (.ref C) = some true
  fn : ∃ (oc : Value) (od : Option Addr) (qual : Str) (doc pm : Value) (an : Option Addr) (cc co : Addr) (ct : Value) (osl : Array (Option Value)) (oc2 : Value) (od2 : Option Addr) (vs : Array Value) (osl2 : Array (Option Value)) (ocl : Obj) (p1 p2 a0 a1 a2 a3 a4 a5 b1 b2 b3 b4 q0 q1 q2 : Pos) (kk : Nat) (file : Str) (tf : Tok),
    K.lookup fI = some ⟨oc, od, .func { name := "__init__", qualname := qual, params := eArgs fld p1 p2, body := .stmts (eBody fld [.Constant (.str tx) kk q0, .FormattedValue (.Name fld q1) (-1) none q2] a0 a1 a2 a3 a4 a5 b1 b2 b3 b4), scope := eScope fld, globals := mainGlobals, closure := [("__class__", cc)], defaults := .none, kwdefaults := .none, doc := doc, pyModule := pm, annotations := an, code := .ref co, closureTuple := ct, builtins := builtinsNs }, osl⟩
      ∧ codeIn K (.ref co) qual = true ∧ K.lookup co = some ⟨oc2, od2, .fields vs, osl2⟩ ∧ vs[2]? = some (.str file tf) ∧ (prog.main.file == file) = true ∧ K.lookup cc = some ocl ∧ ocl.data = .cell (some (.ref C)) ∧ (a2.endLine == a4.line) = true
  nosup : (List.lookup ("super" : Str) prog.main.scope.names).isSome = false
  nf : fld = "index" ∨ fld = "limit" ∨ fld = "word"
  hl : tx.length ≤ 100
theorem kept_but {K : Frag} {h h' : Heap} {x : Addr} (X : K.In h) (hx : K.lookup x = none) (k : ∀ b o, b ≠ x → h.get? b = some o → h'.get? b = some o) : K.In h' := fun a o e =>
  k a o (fun z => by rw [z, hx] at e; cases e) (X a o e)
/-- what __init__ leaves of a fresh exception at x -/
structure InitEnd (h h' : Heap) (x C dx : Addr) (fld : Str) (v : Value) : Prop where
  keep : ∀ b o, b ≠ x → h.get? b = some o → h'.get? b = some o
  obj : ∃ t1, h'.get? x = some { cls := .ref C, dict := some dx, data := .fields #[.ref t1, .none, .none, .none, .bool false, .none] }
  dbig : h.objs.size ≤ dx
  dne : dx ≠ x
  ns : h'.Ns1 dx (fun y => if y = fld then some v else none)
/-- the heap without what stands at x -/
theorem hide1 (h : Heap) (x : Addr) : ∃ G : Heap, G.objs.size = h.objs.size ∧ (∀ b o, b ≠ x → h.get? b = some o → G.get? b = some o) ∧ (∀ b o, G.get? b = some o → h.get? b = some o) ∧ G.get? x = none := by
  let T : L2.Hp := fun b => if b = x then some (.lst []) else none
  refine ⟨L2.hidT h T, L2.hidT_size _ _, fun b o hb e => L2.hidT_get e (if_neg hb), fun b o e => (L2.of_hidT e).1, ?_⟩
  cases e : (L2.hidT h T).get? x with
  | none => rfl
  | some o =>
    have z := (L2.of_hidT e).2
    rw [show T x = some (.lst []) from if_pos rfl] at z
    cases z
section
variable {prog : Program} {w : World} {A : Around} {E : Value → Shared → Prop} {R : Result → Shared → Prop} {s : Shared} {K : Frag} {mg : Str → Option Value} {C fI : Addr} {nm fld tx : Str}
theorem init_raw (T : ErrTxt prog K mg nm fld tx C fI) {x t0 : Addr} {v : Value} (hv : v = .none ∨ ∃ i t, v = .int i t ∧ i.natAbs.log2 < 1920) (M : L2.Mod K mg s.heap) (hx : s.heap.get? x = some (excO C t0)) (hnx : K.lookup x = none) (hroom : A.depth < recursionLimit)
    (hq : ∀ h' tk dx, InitEnd s.heap h' x C dx fld v → R (.ok (.ret .none)) { s with heap := h', toks := tk }) :
    codeAny (model prog w) A (.call (.ref fI) ⟨[.ref x, v], []⟩) R s := by
  obtain ⟨oc, od, qual, doc, pm, an, cc, co, ct, osl, oc2, od2, vs, osl2, ocl, p1, p2, a0, a1, a2, a3, a4, a5, b1, b2, b3, b4, q0, q1, q2, kc, file, tf, lf, hcd, lco, hv2, hfile, lcc, hcell, hpos⟩ := T.fn
  obtain ⟨q, N, bs, bm, sn, sub, ab, col, dd, k0, k1, k2, k3, k5, lC, hbm, hal⟩ := T.cls
  obtain ⟨hp, g, d, t, os⟩ := s
  have X : K.In hp := M.kin
  have hxp : hp.get? x = some (excO C t0) := hx
  have hCp : hp.get? C = some (excClassObj nm q C N bs bm true sn sub ab col dd k0 k1 k2 k3 k5 "ValueError.__new__") := X _ _ lC
  have hxC : x ≠ C := fun z => by rw [z, lC] at hnx; cases hnx
  have hcl : clsIn K C = some { name := nm, bases := bs, mro := .ref C :: bm, ns := N, qualname := q, hasDict := true, slotNames := sn, subclasses := sub, abstract := ab, collection := col, hasDel := false } := by unfold clsIn; rw [lC] <;> rfl
  obtain ⟨G, Gs, G1, G2, G3⟩ := hide1 hp x
  have XG : K.In G := fun b o e => G1 b o (fun z => by rw [z, hnx] at e; cases e) (X b o e)
  have nfT := T.nf
  rcases nfT with rfl | rfl | rfl
  all_goals
    refine ks_codeAny_call_defAt (binds := [("self", .ref x), (_, v)]) hroom (X _ _ lf) rfl M.nolimit (codeRec_of X hcd) rfl (BindsTo.of_eq (by first | rfl | with_unfolding_all rfl)) (fun y hy => ?_) (fun y hy => ?_) (fun h₁ hn k => ?_) rfl rfl rfl
    · rcases hy with _ | ⟨_, _ | ⟨_, _ | ⟨_, _ | ⟨_, hy⟩⟩⟩⟩
      · exact NameKind.noConfusion
      · exact NameKind.noConfusion
      · exact NameKind.noConfusion
      · exact NameKind.noConfusion
      · cases hy
    · rcases hy with _ | ⟨_, _ | ⟨_, hy⟩⟩
      · rfl
      · rfl
      · cases hy
    have X₁ : K.In h₁ := X.keeps k
    refine ks_wpAt_execs_cons (ks_wpAt_Expr_any (ks_wpAt_MethodCall (he := mcall_eq hpos) (ks_wpAt_super_base rfl rfl rfl rfl (k _ _ (X _ _ lf)) rfl rfl rfl (k _ _ (X _ _ lco)) rfl hv2 hfile T.nosup ?_)))
    refine ks_loadName_global rfl rfl ?_
    obtain ⟨mb, hmb, hbb⟩ := M.blt
    have keepNs : ∀ {b : Addr} {m : Str → Option Value}, hp.Ns b m → h₁.Ns b m := fun ⟨o, es, n, e, r⟩ => ⟨o, es, n, k _ _ e, r⟩
    refine loadGlobal_builtin (keepNs M.glob) T.sup (keepNs hmb) ((hbb _ (by decide)).trans (show _ = some (Value.type "super") from rfl)) ⟨rfl, ?_⟩
    refine wpAny_loadName_free rfl rfl rfl ⟨_, k _ _ (X _ _ lcc), hcell⟩ ?_ rfl
    refine wpAny_loadName_local rfl rfl hn rfl ?_
    refine ks_wpAny_isType_cls (k _ _ hCp) rfl ⟨rfl, ?_⟩
    refine ks_wpAny_call_super (k _ _ hCp) rfl (k _ _ hxp) rfl (fun c z => by cases z) (looks_subIn X₁ T.seC) (fun h₂ hso k₂ => ?_)
    have X₂ : K.In h₂ := X₁.keeps k₂
    have kk : ∀ b o, hp.get? b = some o → h₂.get? b = some o := fun b o e => k₂ _ _ (k _ _ e)
    have XX : Frag.In ((x, excO C t0) :: K) h₂ := fun b o e => by
      by_cases hb : b = x
      · subst hb
        rw [List.lookup_cons_self] at e
        cases e
        exact kk _ _ hxp
      · rw [List.lookup_cons, show (b == x) = false from by simpa using hb] at e
        exact X₂ b o e
    have cl2 : clsIn ((x, excO C t0) :: K) C = clsIn K C := by
      unfold clsIn
      rw [List.lookup_cons, show (C == x) = false from by simpa using Ne.symm hxC]
    have inst : instIn ((x, excO C t0) :: K) (.ref x) (.type "ValueError") = some true := by
      have e1 : typeIn ((x, excO C t0) :: K) (.ref x) = some (.ref C) := by
        show Option.map _ (List.lookup x _) = _
        rw [List.lookup_cons_self]
        rfl
      show (typeIn ((x, excO C t0) :: K) (.ref x)).bind _ = _
      rw [e1]
      show mroIn ((x, excO C t0) :: K) C (.type "ValueError") = _
      have e2 := T.veC
      unfold mroIn
      rw [cl2]
      exact e2
    refine kxs_getMethod kxs_ValueError hso (looks_opaque X₂ T.op) (l₀ := .ref C :: bm) ?_ (PySem.ESX.drop_own C bm) X₂ hal (looks_instIn XX inst) hxC rfl ?_
    · intro A' Q' E' s' k' q'
      exact PySem.wpAny_bind (looks_clsIn X₂ hcl A' _ E' s' k' (PySem.wpAny_pure q'))
    have L1 : hp.objs.size < h₁.objs.size := hn.lt
    have L2' : h₁.objs.size ≤ h₂.objs.size := Nat.le_of_lt (Heap.lt_size hso)
    have xlt : x < hp.objs.size := Heap.lt_size hxp
    have hu : (h₂.push (kxs_mw "ValueError.__init__" x)).get? h₂.objs.size = some (kxs_mw "ValueError.__init__" x) := by heap_get
    have Gu : G.get? h₂.objs.size = none := by
      cases e : G.get? h₂.objs.size with
      | none => rfl
      | some o =>
        have z : h₂.objs.size < hp.objs.size := Heap.lt_size (G2 _ _ e)
        omega
    have k3 : ∀ b o, hp.get? b = some o → (h₂.push (kxs_mw "ValueError.__init__" x)).get? b = some o := fun b o e => Heap.get?_push_of_some _ (kk b o e)
    have N3 : News G hp.objs.size (h₂.push (kxs_mw "ValueError.__init__" x)) [(x, excObj C t0 none .none), (h₂.objs.size, kxs_mw "ValueError.__init__" x)] := by
      intro p hp'
      simp only [List.mem_cons, List.not_mem_nil, or_false] at hp'
      rcases hp' with rfl | rfl
      · exact ⟨k3 _ _ hxp, Nat.ne_of_lt xlt, G3⟩
      · exact ⟨hu, Nat.ne_of_gt (by omega), Gu⟩
    have hn3 : (h₂.push (kxs_mw "ValueError.__init__" x)).Ns hp.objs.size (fun x_1 => List.lookup x_1 (([("self", .ref x), (_, v)] : List (Str × Value)).reverse)) :=
      (fun ⟨o, es, n, e, r⟩ => ⟨o, es, n, Heap.get?_push_of_some _ (k₂ _ _ e), r⟩) hn
    have F3 : Fr G hp.objs.size (h₂.push (kxs_mw "ValueError.__init__" x)) (fun x_1 => List.lookup x_1 (([("self", .ref x), (_, v)] : List (Str × Value)).reverse)) :=
      ⟨hn3, fun b o e => k3 _ _ (G2 _ _ e), Nat.le_of_eq Gs⟩
    refine kxs_callWith1 (i := "ValueError.__init__") (x := x) N3 (List.mem_cons_of_mem _ List.mem_cons_self) (spliced_more (tells2 rfl T.hl hv _ _ _ _ _ _ _ _ _ hn3 rfl rfl rfl fun y t' tk' => spliced_none ?_))
    refine ⟨hu, ?_⟩
    refine kxs_call F3 XG N3 F.excBase_ValueError T.init (List.mem_cons_of_mem _ List.mem_cons_self) (UpdF.head (fun p hp' => ?_)) (by rw [sizeLine_eq]; exact (by decide : 1 ≤ 16777216)) (fun t1 h₄ F4 N4 gt => ?_)
    · simp only [List.mem_cons, List.not_mem_nil, or_false] at hp'
      subst hp'
      exact Nat.ne_of_gt (Nat.lt_of_lt_of_le (Nat.lt_trans xlt L1) L2')
    have hx4 : h₄.get? x = some (excObj C t1 none .none) := (N4 _ (List.mem_cons_of_mem _ List.mem_cons_self)).1
    have k4 : ∀ b o, b ≠ x → hp.get? b = some o → h₄.get? b = some o := fun b o hb e => F4.keep _ _ (G1 b o hb e)
    have X4 : K.In h₄ := kept_but X hnx k4
    have L4 : hp.objs.size < h₄.objs.size := F4.ns.lt
    show PySem.wpAt _ _ _ (execs _ _) _ _ _
    refine wpAt_of_wpAny (wpAny_execs_cons (plainObj_wpAny_Assign_Attribute ?_))
    refine wpAny_Name (wpAny_loadName_local rfl rfl F4.ns rfl (wpAny_Name (wpAny_loadName_local rfl rfl F4.ns rfl ?_) rfl)) rfl
    refine set_plain X4 (ox := excObj C t1 none .none) (od := none) ⟨hx4, rfl, rfl, trivial⟩ T.sa ?_
    refine exc_osa X4 hx4 hcl (show refsVE (.ref C :: bm) = true from hbm) rfl T.noN (fun h₅ tk₅ dx k₅ dn dne hx₅ hn₅ => ?_)
    show wpAny _ _ (execs _ _) _ _ _
    exact wpAny_execs_nil (hq h₅ tk₅ dx ⟨fun b o hb e => k₅ b o hb (k4 b o hb e), ⟨t1, hx₅⟩, Nat.le_of_lt (Nat.lt_of_lt_of_le L4 dn), dne, hn₅⟩)
end
end EXS
namespace EXS
open PySem PySem.W PySem.Calls PyProof.Rows PySem.HandSPX
theorem one_size (v : Value) : [v].length ≤ sizeLine := by
  rw [sizeLine_eq]
  exact (by decide : 1 ≤ 16777216)
theorem mod_keeps {K : Frag} {mg : Str → Option Value} {h h' : Heap} (M : L2.Mod K mg h) (k : ∀ b o, h.get? b = some o → h'.get? b = some o) : L2.Mod K mg h' := by
  have keepNs : ∀ {b : Addr} {m : Str → Option Value}, h.Ns b m → h'.Ns b m := fun ⟨o, es, n, e, r⟩ => ⟨o, es, n, k _ _ e, r⟩
  obtain ⟨mb, hmb, hbb⟩ := M.blt
  exact ⟨M.kin.keeps k, keepNs M.glob, ⟨mb, keepNs hmb, hbb⟩, M.nolimit.keeps k⟩
/-- a made error -/
structure OwnMade (h h' : Heap) (e C d : Addr) (fld : Str) (v : Value) : Prop where
  keep : ∀ b o, h.get? b = some o → h'.get? b = some o
  new : h.objs.size ≤ e
  obj : ∃ oe vs, h'.get? e = some oe ∧ oe.cls = .ref C ∧ oe.dict = some d ∧ oe.data = .fields vs ∧ vs[1]? = some .none
  dbig : h.objs.size ≤ d
  dne : d ≠ e
  ns : h'.Ns1 d (fun y => if y = fld then some v else none)
section
variable {prog : Program} {w : World} {A : Around} {E : Value → Shared → Prop} {R : Result → Shared → Prop} {s : Shared} {K : Frag} {mg : Str → Option Value} {C fI : Addr} {nm fld tx : Str}
theorem err_made (T : ErrTxt prog K mg nm fld tx C fI) {v : Value} (hv : v = .none ∨ ∃ i t, v = .int i t ∧ i.natAbs.log2 < 1920) (M : L2.Mod K mg s.heap) (hroom : A.depth + 1 < recursionLimit)
    (hq : ∀ h' tk e d, OwnMade s.heap h' e C d fld v → R (.ok (.ret (.ref e))) { s with heap := h', toks := tk }) :
    codeAny (model prog w) A (.call (.ref C) ⟨[v], []⟩) R s := by
  obtain ⟨q, N, bs, bm, sn, sub, ab, col, dd, k0, k1, k2, k3, k5, hC, hbm, hal⟩ := T.cls
  obtain ⟨hp, g, dr, tk, os⟩ := s
  have X : K.In hp := M.kin
  have k : ∀ b o, hp.get? b = some o → ((hp.push (kdv_tup [v])).push (excO C hp.objs.size)).get? b = some o := fun b o e => Heap.get?_push_of_some _ (Heap.get?_push_of_some _ e)
  have hget : ((hp.push (kdv_tup [v])).push (excO C hp.objs.size)).get? (hp.objs.size + 1) = some (excO C hp.objs.size) := by heap_get
  have hnx : K.lookup (hp.objs.size + 1) = none := by
    cases e : K.lookup (hp.objs.size + 1) with
    | none => rfl
    | some o =>
      have z : hp.get? (hp.objs.size + 1) = some o := X _ _ e
      exact absurd (Nat.lt_of_succ_lt (Heap.lt_size z)) (Nat.lt_irrefl _)
  refine call_own F.excBase_ValueError (fun X => refsVE_contains X bm hbm) (X _ _ hC) (looks_findIn X T.iC) (fun self => bind_fn X self T.tC) (one_size v) ?_
  refine init_raw (s := ⟨(hp.push (kdv_tup [v])).push (excO C hp.objs.size), g, dr, tk, os⟩) T hv (mod_keeps M k) hget hnx ?_ fun h' tk' dx ⟨k', ⟨t1, hx⟩, dn, dne, hns⟩ => ?_
  · show A.depth + 1 < recursionLimit
    exact hroom
  · have old : ∀ b o, hp.get? b = some o → h'.get? b = some o := fun b o e => k' b o (Nat.ne_of_lt (Nat.lt_succ_of_lt (Heap.lt_size e))) (k b o e)
    have z : hp.objs.size + 1 + 1 ≤ dx := by
      first
        | (simpa only [Heap.size_push] using dn)
        | exact dn
        | (have q := dn; rw [Heap.size_push, Heap.size_push] at q; exact q)
    exact ⟨rfl, hq h' tk' (hp.objs.size + 1) dx ⟨old, Nat.le_succ _, ⟨_, _, hx, rfl, rfl, rfl, rfl⟩, Nat.le_trans (Nat.le_trans (Nat.le_succ _) (Nat.le_succ _)) z, dne, hns⟩⟩
end
end EXS
namespace SB
open PySem PySem.Spec PyProof.Rows L2
theorem relO_fld {v : V} {v' : Value} (r : RelV v v') (fld f : Str) : RelO (List.lookup f [(fld, v)]) (if f = fld then some v' else none) := by
  by_cases hw : f = fld
  · subst hw
    rw [if_pos rfl, List.lookup_cons_self]
    exact r
  · rw [if_neg hw, List.lookup_cons, show (f == fld) = false from by simpa using hw]
    trivial
/-- the field of an own error: None or an index -/
def Fld (v : V) : Prop := v = .non ∨ ∃ i : Int, v = .int i ∧ i.natAbs.log2 < 1920
section
variable {X : Cx} {C fI : Addr} {nm fld tx : Str}
/-- NAME(e) -/
def tMkE (fld : Str) (C : Addr) (ta : TA) : L2.St → Hp → XK → Prop := fun σ H Q => ta σ H fun vs H1 => ∃ v, vs = [v] ∧ Fld v ∧ ∀ d, H1 d = none → Q (.ref C) (some d) (upd H1 d (.xd [(fld, v)]))
theorem pmk_err {a : Expr} {ta : TA} {p pos : Pos} {k : Nat} (T : EXS.ErrTxt X.prog X.K X.mg nm fld tx C fI) (hr : Room k X.A) (ha : PA X [a] ta) (hk : 1 ≤ k := by decide) (hg : Gl X nm := by rfl) (hdb : (nm == ("__debug__" : Str)) = false := by decide)
    (he : starEach (a :: []) X.env = (false, eval a X.env) :: starEach [] X.env := by rfl) (hpl : (backTo pos (starEach [] X.env)).any (·.1) = false := by rfl) :
    PMk X (.Call (.Name nm p) [a] [] pos) (tMkE fld C ta) := by
  intro pins s σ H Q I h
  refine wpAny_Call_Name_kw (ld_glob I hg T.gC ?_ hdb)
  refine PySem.W.callWith_K (h₀ := X.base) I.ok.mod.kin T.kC (thn (ha.run pos pins s σ H _ I h) fun us s1 hh => ?_) he hpl
  obtain ⟨vs, H1, I1, r1, v, ev, fv, q1⟩ := hh
  subst ev
  refine ⟨I1.kIn, ?_⟩
  cases r1 with
  | cons rv rn =>
    rename_i v' us'
    cases rn
    show wpAny _ _ (call (.ref C) [v']) _ _ _
    have M1 : L2.Mod X.K X.mg s1.heap := EXS.mod_keeps I1.env0.mod fun b o e => (I1.env0.bs b o e).1
    have hv : v' = .none ∨ ∃ i t, v' = .int i t ∧ i.natAbs.log2 < 1920 := by
      rcases fv with rfl | ⟨i, rfl, hi⟩
      · exact .inl rv
      · obtain ⟨t, rt⟩ := rv
        exact .inr ⟨i, t, rt, hi⟩
    obtain ⟨hp, g, dr, tk, os⟩ := s1
    refine wpAny_call (EXS.err_made T hv M1 (by have := hr.dp; omega) fun h' tk' e d M => ?_)
    show MkP X pins σ Q (.ref e) ⟨h', g, dr, tk', os⟩
    obtain ⟨oe, fv, hoe, hc, hd, hdat, h1⟩ := M.obj
    have hns := M.ns
    obtain ⟨G', g1, g2⟩ := restrict h' fun b => decide (b ≠ e)
    have gk : ∀ b, b ≠ e → G'.get? b = h'.get? b := fun b hb => g1 b (decide_eq_true hb)
    have ge : G'.get? e = none := g2 e (by simp)
    have old : ∀ b o, hp.get? b = some o → G'.get? b = some o := fun b o q => (gk b (Nat.ne_of_lt (Nat.lt_of_lt_of_le (Heap.lt_size q) M.new))).trans (M.keep b o q)
    have ob : ObjOk X.prog X.w (upd H1 d (.xd [(fld, v)])) G' d (.xd [(fld, v)]) :=
      ⟨_, hns.at (fun o q => (gk d M.dne).trans q), fun f => relO_fld rv fld f⟩
    have J : Inv X pins σ (upd H1 d (.xd [(fld, v)])) ⟨G', g, dr, tk', os⟩ := I1.laid (t' := tk') old M.dbig ob
    refine ⟨e, oe, fv, ⟨G', g, dr, tk', os⟩, _, .ref C, some d, rfl, J, fun b o q => ?_, ge, hoe, ⟨hc, hd⟩, hdat, h1, ?_, rfl, I1.bare, raises_own T.exC T.tyC, q1 d (I1.hok.fresh M.dbig)⟩
    · by_cases hb : b = e
      · have q' : G'.get? b = some o := q
        rw [hb, ge] at q'; cases q'
      · exact (gk b hb).symm.trans q
    · rw [upd_ne (Ne.symm M.dne)]
      exact I1.hok.fresh M.new
end
end SB
namespace EXS
open PySem PySem.W PySem.Calls PyProof.Rows PySem.HandSPX
/-! what a run at the head tells of own errors -/
def isBi (o : Option (Option Value)) (n : String) : Bool := match o with | some (some (.builtin m)) => m == n | _ => false
def isNo (o : Option (Option Value)) : Bool := match o with | some none => true | _ => false
def isTy (o : Option Value) (n : String) : Bool := match o with | some (.type m) => m == n | _ => false
def refD (o : Option (Option Value)) : Addr := match o with | some (some (.ref a)) => a | _ => 0
def isRef (o : Option (Option Value)) : Bool := match o with | some (some (.ref _)) => true | _ => false
theorem isBi_ok {o : Option (Option Value)} {n : String} (h : isBi o n = true) : o = some (some (.builtin n)) := by
  unfold isBi at h
  split at h
  · have e := beq_iff_eq.mp h
    subst e
    rfl
  · cases h
theorem isNo_ok {o : Option (Option Value)} (h : isNo o = true) : o = some none := by
  unfold isNo at h
  split at h
  · rfl
  · cases h
theorem isTy_ok {o : Option Value} {n : String} (h : isTy o n = true) : o = some (.type n) := by
  unfold isTy at h
  split at h
  · have e := beq_iff_eq.mp h
    subst e
    rfl
  · cases h
theorem isRef_ok {o : Option (Option Value)} (h : isRef o = true) : o = some (some (.ref (refD o))) := by
  unfold isRef at h
  split at h
  · rfl
  · cases h
def clsB (K : Frag) (C : Addr) (nm : Str) : Bool :=
  match K.lookup C with
  | some ⟨.type "type", _, .cls cd, sl⟩ =>
    match cd.mro, sl.toList with
    | .ref C' :: bm, [_, _, _, _, some (.builtin n), _] => C' == C && n == "ValueError.__new__" && cd.hasDict && !cd.hasDel && refsVE bm && isBi (alongIn K "__init__" bm) "ValueError.__init__" && cd.name == nm
    | _, _ => false
  | _ => false
theorem clsB_ok {K : Frag} {C : Addr} {nm : Str} (h : clsB K C nm = true) :
    ∃ q N bs bm sn sub ab col dd k0 k1 k2 k3 k5, K.lookup C = some (excClassObj nm q C N bs bm true sn sub ab col dd k0 k1 k2 k3 k5 "ValueError.__new__") ∧ refsVE bm = true ∧ alongIn K "__init__" bm = some (some (.builtin "ValueError.__init__")) := by
  unfold clsB at h
  split at h
  case h_2 => cases h
  rename_i dd cd sl hl
  split at h
  case h_2 => cases h
  rename_i C' bm k0 k1 k2 k3 n k5 hm hs
  simp only [Bool.and_eq_true, Bool.not_eq_true', beq_iff_eq] at h
  obtain ⟨⟨⟨⟨⟨⟨rfl, rfl⟩, h1⟩, h2⟩, h3⟩, h4⟩, rfl⟩ := h
  obtain ⟨nm, bs, mro, ns, q, hd, sn, sub, ab, col, hdel⟩ := cd
  cases hm
  cases h1
  cases h2
  have e : sl = #[k0, k1, k2, k3, some (.builtin "ValueError.__new__"), k5] := by
    cases sl
    cases hs
    rfl
  subst e
  exact ⟨_, _, _, _, _, _, _, _, _, _, _, _, _, _, hl, h3, isBi_ok h4⟩
def fileB (file : Str) : Option Value → Bool
  | some (.str f _) => file == f
  | _ => false
def fnB (K : Frag) (file : Str) (C fI : Addr) : Bool :=
  match K.lookup fI with
  | some ⟨_, _, .func fd, _⟩ =>
    match fd.closure, fd.defaults, fd.kwdefaults, fd.code with
    | [(n, cc)], .none, .none, .ref co =>
      n == "__class__" && codeIn K (.ref co) fd.qualname &&
        (match K.lookup co with
         | some ⟨_, _, .fields vs, _⟩ => fileB file vs[2]?
         | _ => false) &&
        (match K.lookup cc with
         | some ⟨_, _, .cell (some (.ref D)), _⟩ => D == C
         | _ => false)
    | _, _, _, _ => false
  | _ => false
theorem fnB_ok {K : Frag} {file : Str} {C fI : Addr} (h : fnB K file C fI = true) :
    ∃ (oc : Value) (od : Option Addr) (fd : FuncData) (osl : Array (Option Value)) (cc co : Addr) (oc2 : Value) (od2 : Option Addr) (vs : Array Value) (osl2 : Array (Option Value)) (f : Str) (tf : Tok) (oc3 : Value) (od3 : Option Addr) (osl3 : Array (Option Value)),
      K.lookup fI = some ⟨oc, od, .func fd, osl⟩ ∧ fd.closure = [(("__class__" : Str), cc)] ∧ fd.defaults = .none ∧ fd.kwdefaults = .none ∧ fd.code = .ref co ∧ codeIn K (.ref co) fd.qualname = true ∧
        K.lookup co = some ⟨oc2, od2, .fields vs, osl2⟩ ∧ vs[2]? = some (.str f tf) ∧ (file == f) = true ∧ K.lookup cc = some ⟨oc3, od3, .cell (some (.ref C)), osl3⟩ := by
  unfold fnB at h
  split at h
  case h_2 => cases h
  rename_i oc od fd osl hl
  split at h
  case h_2 => cases h
  rename_i n cc co h1 h2 h3 h4
  simp only [Bool.and_eq_true, beq_iff_eq] at h
  obtain ⟨⟨⟨rfl, hc⟩, hb⟩, hd⟩ := h
  split at hb
  case h_2 => cases hb
  rename_i oc2 od2 vs osl2 hl2
  unfold fileB at hb
  split at hb
  case h_2 => cases hb
  rename_i f tf hv
  split at hd
  case h_2 => cases hd
  rename_i oc3 od3 D osl3 hl3
  obtain rfl : D = C := by simpa using hd
  exact ⟨oc, od, fd, osl, cc, co, oc2, od2, vs, osl2, f, tf, oc3, od3, osl3, hl, h1, h2, h3, h4, hc, hl2, hv, hb, hl3⟩
/-- an own error with a field -/
structure ErrD where
  nm : Str
  fld : Str
  tx : Str
  params : Arguments
  body : List Stmt
  scope : Scope
abbrev ErrW : Type := Option (Str × Arguments × FuncBody × Scope × Addr × Addr)
def eI (K : Frag) (nm : Str) : Addr := refD (findIn K (.ref (He.ga K nm)) "__init__")
def errW (K : Frag) (nm : Str) : ErrW :=
  match K.lookup (eI K nm) with
  | some ⟨_, _, .func fd, _⟩ => some (fd.name, fd.params, fd.body, fd.scope, fd.globals, fd.builtins)
  | _ => none
def ErrD.val (e : ErrD) : ErrW := some ("__init__", e.params, .stmts e.body, e.scope, mainGlobals, builtinsNs)
def errB (file : Str) (K : Frag) (nm fld : Str) : Bool :=
  clsB K (He.ga K nm) nm && fnB K file (He.ga K nm) (eI K nm) && isRef (nsIn K mainGlobals nm) && He.Fa.ok K (.free "super") && isNo (nsIn K cStatics "thirdparty.any") &&
    isBi (findIn K (.ref (He.ga K nm)) "__setattr__") "object.__setattr__" && isNo (findIn K (.ref (He.ga K nm)) fld) && isRef (findIn K (.ref (He.ga K nm)) "__init__") &&
    isTy (typeIn K (.ref (eI K nm))) "function" && keepIn K (.ref (He.ga K nm)) && (subIn K (.ref (He.ga K nm)) (.type "BaseException") == some true) && (subIn K (.ref (He.ga K nm)) (.type "ValueError") == some true) &&
    excInitIn K (He.ga K nm) [.type "ValueError", .type "Exception", .type "BaseException", .type "object"] "ValueError.__new__" && (mroIn K (He.ga K nm) (.ref (He.ga K nm)) == some true) &&
    isTy (typeIn K (.ref (He.ga K nm))) "type" && (exmOne K (.ref (He.ga K nm)) (.ref (He.ga K nm)) == some true)
/-- the text of such an error is of the form that is told above -/
def ErrD.Good (e : ErrD) : Prop := ∃ (p1 p2 a0 a1 a2 a3 a4 a5 b1 b2 b3 b4 q0 q1 q2 : Pos) (kk : Nat), e.params = eArgs e.fld p1 p2 ∧ e.body = eBody e.fld [.Constant (.str e.tx) kk q0, .FormattedValue (.Name e.fld q1) (-1) none q2] a0 a1 a2 a3 a4 a5 b1 b2 b3 b4 ∧ e.scope = eScope e.fld ∧ (a2.endLine == a4.line) = true ∧ (e.fld = "index" ∨ e.fld = "limit" ∨ e.fld = "word") ∧ e.tx.length ≤ 100
theorem ga_ok {K : Frag} {h : Heap} {mg : Str → Option Value} {nm : Str} (X : K.In h) (G : h.Ns mainGlobals mg) (c : isRef (nsIn K mainGlobals nm) = true) : mg nm = some (.ref (He.ga K nm)) := by
  have e := isRef_ok c
  have z : refD (nsIn K mainGlobals nm) = He.ga K nm := by
    unfold He.ga refD
    rw [e]
  rw [z] at e
  exact mg_of X G e
theorem err_ok {prog : Program} {K : Frag} {h : Heap} {mg : Str → Option Value} {e : ErrD} (X : K.In h) (G : h.Ns mainGlobals mg) (hs : (List.lookup ("super" : Str) prog.main.scope.names).isSome = false)
    (g : e.Good) (c : errB prog.main.file K e.nm e.fld = true) (v : errW K e.nm = e.val) : ErrTxt prog K mg e.nm e.fld e.tx (He.ga K e.nm) (eI K e.nm) := by
  unfold errB at c
  simp only [Bool.and_eq_true, beq_iff_eq] at c
  obtain ⟨⟨⟨⟨⟨⟨⟨⟨⟨⟨⟨⟨⟨⟨⟨c1, c2⟩, c3⟩, c4⟩, c5⟩, c6⟩, c7⟩, c8⟩, c9⟩, c10⟩, c11⟩, c12⟩, c13⟩, c14⟩, c15⟩, c16⟩ := c
  obtain ⟨p1, p2, a0, a1, a2, a3, a4, a5, b1, b2, b3, b4, q0, q1, q2, kk, g1, g2, g3, g4, g5, g6⟩ := g
  obtain ⟨oc, od, fd, osl, cc, co, oc2, od2, vs, osl2, f, tf, oc3, od3, osl3, f1, f2, f3, f4, f5, f6, f7, f8, f9, f10⟩ := fnB_ok c2
  refine { gC := ga_ok X G c3, sup := ?_, cls := clsB_ok c1, op := isNo_ok c5, sa := isBi_ok c6, noN := isNo_ok c7, iC := isRef_ok c8, tC := isTy_ok c9, kC := c10, exC := ?_, veC := ?_, init := c13, seC := ?_, tyC := isTy_ok c15, te := ?_, nosup := hs, nf := g5, hl := g6, fn := ?_ }
  · exact He.free_ok X G c4
  · exact c11
  · exact c12
  · exact c14
  · exact c16
  · unfold errW at v
    rw [f1] at v
    obtain ⟨name, qual, params, body, scope, globals, closure, defaults, kwdefaults, doc, pm, an, code, ct, blt⟩ := fd
    cases f2
    cases f3
    cases f4
    cases f5
    have v' := Option.some.inj v
    simp only [Prod.mk.injEq] at v'
    obtain ⟨rfl, rfl, rfl, rfl, rfl, rfl⟩ := v'
    rw [g1, g2, g3] at f1
    exact ⟨oc, od, qual, doc, pm, an, cc, co, ct, osl, oc2, od2, vs, osl2, _, p1, p2, a0, a1, a2, a3, a4, a5, b1, b2, b3, b4, q0, q1, q2, kk, f, tf, f1, f6, f7, f8, f9, f10, rfl, g4⟩
/-! an own error without __init__ of its own -/
structure PlnTxt (K : Frag) (mg : Str → Option Value) (nm : Str) (C : Addr) : Prop where
  gC : mg nm = some (.ref C)
  ex : excIn K C [.type "ValueError", .type "Exception", .type "BaseException", .type "object"] "ValueError.__new__" = true
  kC : keepIn K (.ref C) = true
  exC : subIn K (.ref C) (.type "BaseException") = some true
  tyC : typeIn K (.ref C) = some (.type "type")
  te : exmOne K (.ref C) (.ref C) = some true
def plnB (K : Frag) (nm : Str) : Bool :=
  isRef (nsIn K mainGlobals nm) && excIn K (He.ga K nm) [.type "ValueError", .type "Exception", .type "BaseException", .type "object"] "ValueError.__new__" && keepIn K (.ref (He.ga K nm)) &&
    (subIn K (.ref (He.ga K nm)) (.type "BaseException") == some true) && isTy (typeIn K (.ref (He.ga K nm))) "type" && (exmOne K (.ref (He.ga K nm)) (.ref (He.ga K nm)) == some true)
theorem pln_ok {K : Frag} {h : Heap} {mg : Str → Option Value} {nm : Str} (X : K.In h) (G : h.Ns mainGlobals mg) (c : plnB K nm = true) : PlnTxt K mg nm (He.ga K nm) := by
  unfold plnB at c
  simp only [Bool.and_eq_true, beq_iff_eq] at c
  obtain ⟨⟨⟨⟨⟨c1, c2⟩, c3⟩, c4⟩, c5⟩, c6⟩ := c
  exact ⟨ga_ok X G c1, c2, c3, c4, isTy_ok c5, c6⟩
/-! the hook -/
def asE (g : Addr → Option Obj) : Nat → List Addr
  | 0 => [mainGlobals, cStatics]
  | n + 1 => He.growD g (asE g n)
def asF (g : Addr → Option Obj) (n : Nat) : List Addr := asE g n ++ [sysModules]
abbrev AlE : Type := He.AlX × List ErrW
def obsE (n : Nat) (fa : List He.Fa) (fn : List He.DefD) (ers : List ErrD) (ex : Frag → Bool) (g : Addr → Option Obj) : AlE :=
  ((He.obsT fa fn [] (He.frT g (asF g n)), ex (He.frT g (asF g n))), ers.map fun e => errW (He.frT g (asF g n)) e.nm)
structure SaysE (fa : List He.Fa) (fn : List He.DefD) (ers : List ErrD) (ex : Frag → Bool) (w : World) (h : Heap) (K : Frag) : Prop where
  x : He.SaysX fa fn [] [] ex w h K
  e : (ers.map fun e => errW K e.nm) = ers.map ErrD.val
def hookE (n : Nat) (fa : List He.Fa) (fn : List He.DefD) (ers : List ErrD) (ex : Frag → Bool) : Hook where
  α := AlE
  obs := fun s => obsE n fa fn ers ex s.heap.get?
  val := fun w => ((He.valT fn [] w, true), ers.map ErrD.val)
  says := fun w h => ∃ K, K.In h ∧ SaysE fa fn ers ex w h K
  of := by
    intro w s e
    have e1 := congrArg (fun z => z.1.1) e
    have e2 := congrArg (fun z => z.1.2) e
    have e3 := congrArg (fun z => z.2) e
    exact ⟨_, He.frT_in, ⟨⟨e1, e2, (fun _ z => nomatch z), (fun _ z => nomatch z), (fun _ z => nomatch z)⟩, e3⟩⟩
  keeps := by
    rintro w h h' ⟨K, X, c⟩ k
    exact ⟨K, X.keeps k, ⟨⟨c.x.t, c.x.more, (fun _ z => nomatch z), (fun _ z => nomatch z), (fun _ z => nomatch z)⟩, c.e⟩⟩
theorem obsE_eq {n : Nat} {fa : List He.Fa} {fn : List He.DefD} {ers : List ErrD} {ex : Frag → Bool} {g : Addr → Option Obj} {s : Shared} (h : ∀ a, g a = s.heap.get? a) : obsE n fa fn ers ex g = (hookE n fa fn ers ex).obs s := by
  have e := funext h
  rw [e]
  rfl
end EXS
namespace SB
open PySem PySem.Spec PyProof.Rows L2 Evl
def inB : Stmt → Nat → Stmt
  | .ClassDef (body := b) .., j => b.getD j (.Pass ⟨0, 0, 0, 0⟩)
  | s, _ => s
section
variable {X : Cx} {CX : CXT} {k j : Nat} {ps ks : List Str} {sp : Sp} {E : L2.St → XK} {x : Str} {p pos : Pos} {e : Expr} {es : List Expr} {t tk : TA}
theorem pe_calS (F : Cal X.prog X.w X.K X.mg X.base CX k x ps sp) (hr : Room k X.A) (hx : ∀ σ, PassesAt CX X σ (E σ)) (ha : PA X (e :: es) t) (hg : Gl X x := by rfl) (hdb : (x == ("__debug__" : Str)) = false := by decide)
    (he : starEach (e :: es) X.env = (false, eval e X.env) :: starEach es X.env := by rfl) (hpl : (backTo pos (starEach es X.env)).any (·.1) = false := by rfl) :
    PE X (.Call (.Name x p) (e :: es) [] pos) (tCallS sp E t) := by
  obtain ⟨f, fd, e1, e2, e3, e4⟩ := F.ex
  exact pe_callS e4 hr hg e1 e2 e3 hx ha hdb he hpl
end
section
variable {P : Program} {w : World} {K : PySem.W.Frag} {mg : Str → Option Value} {base : Heap}
/-- a def that raises: its surroundings with the way out -/
theorem Df.calX {CX : CXT} {k : Nat} {x : Str} {st : Stmt} {N ps : List Str} {sp : Sp} (D : Df K mg x st) (S : FnScope N ps (defScope st)) (len : ∀ vs H Q E, sp vs H Q E → vs.length = ps.length)
    (hb : ∀ (kV doc pm : Value) (an : Option Addr) (cdv ct : Value) (us : List Value), us.length = ps.length → bindArgs (PySem.W.fnOf x x (defArgs st) (defBody st) (defScope st) .none kV doc pm an cdv ct) ⟨us, []⟩ = pure (ps.zip us))
    (body : ∀ (f : Addr) (cdv : Value) (A : Around) (outer : List Env) (s : Shared) (H : Hp) (vs : List V) (Q : VK) (E : XK), Room k (A.deeper (envOfC x (defScope st) s.heap.objs.size f cdv)) → sp vs H Q E →
      ∃ t, PSs (cxOf CX P w K mg base N x (defScope st) f cdv A outer s H E) (defBody st) t ∧ t { nx := fun _ H' => Q .non H', rt := Q } (start N vs) H) :
    Cal P w K mg base CX (k + 1) x ps sp := by
  obtain ⟨e, fd, F⟩ := D
  exact ⟨_, fd, e, F.kp, FunD.bindsN F hb, FunD.ok F S len (fun cdv A outer s H vs Q E hr h => body _ cdv A outer s H vs Q E hr h)⟩
/-- what never raises of it -/
theorem Cal.calm {k : Nat} {x : Str} {ps : List Str} {sp : Sp} (F : Cal P w K mg base (L2.CX P w) k x ps sp) : Cal P w K mg base CX0 k x ps (fun vs H Q _ => sp vs H Q fun _ _ _ => False) := by
  obtain ⟨f, fd, e1, e2, e3, e4⟩ := F.ex
  refine ⟨f, fd, e1, e2, e3, fun vs H Q E h => e4.len vs H Q _ h, fun A outer s H ar us vs Q E r e b v h => ?_⟩
  refine codeAny_mono (e4.run A outer s H ar us vs Q _ r e b v h) ?_
  intro r s' z
  match r, z with
  | .ok (.ret u), z => exact z
  | .error e, ⟨a, B, H', cls, d, _, _, _, _, _, _, _, z⟩ => exact z.elim
theorem Cal.spm {CX : CXT} {k : Nat} {x : Str} {ps : List Str} {sp sp2 : Sp} (F : Cal P w K mg base CX k x ps sp) (h : ∀ vs H Q E, sp2 vs H Q E → sp vs H Q E) : Cal P w K mg base CX k x ps sp2 := by
  obtain ⟨f, fd, e1, e2, e3, e4⟩ := F.ex
  exact ⟨f, fd, e1, e2, e3, fun vs H Q E z => e4.len vs H Q E (h _ _ _ _ z), fun A outer s H ar us vs Q E r e b v z => e4.run A outer s H ar us vs Q E r e b v (h _ _ _ _ z)⟩
end
section
variable {X : Cx} {CX : CXT} {k : Nat} {ps : List Str} {sp : Sp} {E : XK} {x : Str} {p pos : Pos}
theorem pe_calG0 (F : CalG X.prog X.w X.K X.mg X.base CX k x ps sp) (hr : Room k X.A) (gd : X.A.guards = some []) (hx : Passes CX X E) (hg : Gl X x := by rfl) (hdb : (x == ("__debug__" : Str)) = false := by decide) :
    PE X (.Call (.Name x p) [] [] pos) (tCall sp [] E tNil) := by
  obtain ⟨f, fd, e1, e2, e3, e4⟩ := F.ex
  constructor
  intro pins s σ H Q I h
  refine wpAny_Call_Name_kw (ld_glob I hg e1 ?_ hdb)
  exact PySem.W.callWith_K0 I.kIn e2 (runG (us := []) (vs := []) e4 hr gd e3 .nil hx I .nil h)
end
/-! any values -/
def okB (lo hi : Int) : V → Bool
  | .int i => decide (lo ≤ i ∧ i ≤ hi)
  | _ => false
def okP : V → Bool
  | .str s => inV (.str s) [.str "none", .str "even", .str "odd"]
  | _ => false
/-- the first wrong item -/
def flt (x y z : V) : Option Int := if okB 1 9 x = true then (if okP y = true then (if okB 1 2 z = true then none else some 2) else some 1) else some 0
def Any (K : PySem.W.Frag) (H : Hp) (v : V) : Prop := ∃ n, TyN K H v n
theorem Any.ex {K : PySem.W.Frag} {H H' : Hp} {v : V} (e : Ex H H') (h : Any K H v) : Any K H' v := by
  obtain ⟨n, h⟩ := h
  cases h with
  | non => exact ⟨_, .non⟩
  | bl b => exact ⟨_, .bl b⟩
  | int i => exact ⟨_, .int i⟩
  | str x => exact ⟨_, .str x⟩
  | lst h => exact ⟨_, .lst (ex_l e h)⟩
  | tup h => exact ⟨_, .tup (ex_t e h)⟩
  | dct h => exact ⟨_, .dct (e _ _ h)⟩
end SB
namespace SB
open PySem PySem.Spec PyProof.Rows L2 Evl PySem.HandSPX
/-! several clauses «except C as n», all of them of own classes, and nothing else is raised -/
inductive HdsA (X : Cx) : List ExceptHandler → List (Value × Nat × (Addr → Value → Option Addr → TS)) → Prop where
  | nil : HdsA X [] []
  | cons {x n : Str} {c : Value} {i : Nat} {ts : Addr → Value → Option Addr → TS} {b₀ : Stmt} {suite : List Stmt} {np pos' : Pos} {hds : List ExceptHandler} {l : List (Value × Nat × (Addr → Value → Option Addr → TS))}
      (hg : Gl X x) (hd : (x == ("__debug__" : Str)) = false) (hm : X.mg x = some c) (hi : X.N[i]? = some n) (hk : X.env.kindOf n = some .local) (hfn : X.fn n = true ∨ List.lookup n X.env.scope.names = some .local)
      (hs : ∀ (a : Addr) (oe : Obj) (cls : Value) (d : Option Addr) (pn : List (Addr × Obj)), Zc cls d oe → (∃ vs, oe.data = .fields vs) → PSs (X.suite a ((a, oe) :: pn)) (b₀ :: suite) (ts a cls d))
      (r : HdsA X hds l) : HdsA X (.ExceptHandler (some (.Name x np)) (some n) (b₀ :: suite) pos' :: hds) ((c, i, ts) :: l)
def wManyA (K : PySem.W.Frag) (D : L2.Ends) : List (Value × Nat × (Addr → Value → Option Addr → TS)) → WX
  | [] => fun _ _ _ _ => False
  | (c, i, ts) :: r => fun cls d σ H => ∃ b, PySem.W.exmOne K cls c = some b ∧
      (b = true → ∀ a, H a = none → ts a cls d { nx := fun σ' H' => D.nx (σ'.set i none) H', rt := D.rt, bk := fun σ' H' => D.bk (σ'.set i none) H', ct := fun σ' H' => D.ct (σ'.set i none) H' } (σ.set i (some (.ref a))) H) ∧
      (b = false → wManyA K D r cls d σ H)
theorem frames_ne {h B : Heap} {a : Addr} {oe : Obj} {vs : Array Value} (ha : h.get? a = some oe) (hd : oe.data = .fields vs) : ∀ l : List Env, h.FunFrames B l → a ∉ frs l
  | [], _ => fun z => by simp [frs] at z
  | env :: rest, f => by
    obtain ⟨_, ⟨L, o, hf, _, hL, ho⟩, f2⟩ := f
    have ih := frames_ne ha hd rest f2
    intro z
    unfold frs at z ih
    rw [List.filterMap_cons, hf] at z
    rcases List.mem_cons.mp z with z | z
    · subst z
      rw [ha] at hL
      cases hL
      exact ho vs hd
    · exact ih z
theorem slots_trans {h h' h'' : Heap} (x : h.UpToSlots h') (y : h'.UpToSlots h'') : h.UpToSlots h'' := fun b o e n => by
  obtain ⟨sl, e1⟩ := x b o e n
  obtain ⟨sl2, e2⟩ := y b _ e1 n
  exact ⟨sl2, e2⟩
section
variable {X : Cx}
theorem look_cls {M : Model} {h : Heap} {a : Addr} {oe : Obj} (e : h.get? a = some oe) : PySem.W.Looks M h (typeOf (.ref a)) oe.cls := by
  have X1 : PySem.W.Frag.In [(a, oe)] h := fun b o z => by
    by_cases hb : b = a
    · subst hb
      rw [List.lookup_cons_self] at z
      cases z
      exact e
    · rw [List.lookup_cons, show (b == a) = false from by simpa using hb] at z
      cases z
  refine PySem.W.looks_typeIn X1 ?_
  show Option.map _ (List.lookup a [(a, oe)]) = _
  rw [List.lookup_cons_self]
  rfl
theorem handleA {pins : List (Addr × Obj)} {D : L2.Ends} {hds : List ExceptHandler} {l : List (Value × Nat × (Addr → Value → Option Addr → TS))} (hs : X.stack = X.env :: X.outer) (hf : X.env.frame = some X.env.locals) (hN : X.N.Nodup) (ok : X.Ok)
    {a : Addr} {B : Heap} {sI : Shared} {σ : L2.St} {H : Hp} {cls : Value} {d : Option Addr} (J : Inv X pins σ H sI) (gr : ∀ b o, sI.heap.get? b = some o → b ∉ frs X.stack → B.get? b = some o) (ha : H a = none) :
    HdsA X hds l → ∀ s₁ : Shared, FlyingZ B X.stack a (Zc cls d) s₁.heap → sI.heap.UpToSlots s₁.heap → s₁.os = sI.os → AllBare s₁.gens → wManyA X.K D l cls d σ H →
      wpAny (model X.prog X.w) X.A (handleBy (.ref a) X.env hds) (SP X pins D) X.xe s₁ := by
  intro hh
  induction hh with
  | nil => exact fun _ _ _ _ _ w => w.elim
  | @cons x n c i ts b₀ suite np pos' hds l hg hd hm hi hk hfn hsu r ih =>
    intro s₁ fl up os bare w
    obtain ⟨b, hb, wt, wf⟩ := w
    have J1 : Inv X pins σ H s₁ := J.landed gr fl.1 up os bare
    have ne1 : ∀ {s₂ : Shared} {oe : Obj} {vs : Array Value}, FlyingZ B X.stack a (Zc cls d) s₂.heap → s₂.heap.get? a = some oe → oe.data = .fields vs → a ≠ X.env.locals ∧ a ∉ X.fs := by
      intro s₂ oe vs fl2 e1 e2
      have z := frames_ne e1 e2 _ fl2.2.2.1
      rw [hs] at z
      unfold frs at z
      rw [List.filterMap_cons, hf] at z
      exact ⟨fun q => z (by rw [q]; exact List.mem_cons_self), fun q => z (List.mem_cons_of_mem _ q)⟩
    obtain ⟨oe, vs, e1, e2, e3⟩ := fl.there
    obtain ⟨n1, n2⟩ := ne1 fl e1 e3
    have JS : Inv (X.suite a ((a, oe) :: (X.pn ++ pins))) [] σ H s₁ := J1.suite e1 e3 ha n1 n2
    refine PySem.W.exc_clause_as (ld_glob (X := X.suite a ((a, oe) :: (X.pn ++ pins))) JS hg hm ⟨b, ?_, ?_⟩ hd)
    · have lc := look_cls (M := model X.prog X.w) e1
      rw [e2.1] at lc
      exact PySem.W.exm_one J1.kIn lc hb
    by_cases hbt : b = true
    · rw [if_pos hbt]
      refine lands_againZ fl fun h' fl' up' => ?_
      have up2 := slots_trans up up'
      have J2 : Inv X pins σ H ⟨h', s₁.gens, s₁.drawn, s₁.toks, s₁.os⟩ := J.landed gr fl'.1 up2 os bare
      obtain ⟨oe, vs, e1, e2, e3⟩ := fl'.there
      obtain ⟨n1, n2⟩ := ne1 (s₂ := ⟨h', s₁.gens, s₁.drawn, s₁.toks, s₁.os⟩) fl' e1 e3
      have JS : Inv (X.suite a ((a, oe) :: (X.pn ++ pins))) [] σ H ⟨h', s₁.gens, s₁.drawn, s₁.toks, s₁.os⟩ := J2.suite e1 e3 ha n1 n2
      refine store_ok (X := X.suite a ((a, oe) :: (X.pn ++ pins))) (v := .ref a) JS hN hi (Or.inl hk) rfl (fun s₃ J3 => ?_) hfn
      refine wpAny_mono ((hsu a oe cls d (X.pn ++ pins) e2 ⟨_, e3⟩).run [] s₃ _ _ _ J3 (wt hbt a ha)) ?_ (fun _ _ z => z.elim)
      intro f s₄ z
      cases f with
      | next =>
        obtain ⟨σ', H', J4, q⟩ := z
        exact gone_ok (J4.unsuite ok) hN hi hk fun s' J' => ⟨_, _, J', q⟩
      | brk =>
        obtain ⟨σ', H', J4, q⟩ := z
        exact gone_ok (J4.unsuite ok) hN hi hk fun s' J' => ⟨_, _, J', q⟩
      | cont =>
        obtain ⟨σ', H', J4, q⟩ := z
        exact gone_ok (J4.unsuite ok) hN hi hk fun s' J' => ⟨_, _, J', q⟩
      | ret u =>
        obtain ⟨v, σ', H', J4, rv, q⟩ := z
        exact gone_ok (J4.unsuite ok) hN hi hk fun s' J' => ⟨v, _, _, J', rv, q⟩
    · rw [if_neg hbt]
      exact ih s₁ fl up os bare (wf (by simpa using hbt))
theorem ps_try_manyA {body : List Stmt} {h₀ : ExceptHandler} {hds : List ExceptHandler} {l : List (Value × Nat × (Addr → Value → Option Addr → TS))} {pos : Pos} {tb : WX → TS}
    (hs : X.stack = X.env :: X.outer) (hf : X.env.frame = some X.env.locals) (hN : X.N.Nodup)
    (hb : ∀ (W : WX) (pn : List (Addr × Obj)) (xe : Value → Shared → Prop), Takes (X.tr pn xe) W → PSs (X.tr pn xe) body (tb W)) (hh : HdsA X (h₀ :: hds) l) :
    PS X (.Try body (h₀ :: hds) [] [] pos) (fun D σ H => tb (wManyA X.K D l) D σ H) := by
  constructor
  intro pins s σ H D I h
  refine wpAny_Try_except ?_
  have frm : X.A.frames = some (X.env :: X.outer) := by rw [← hs]; exact I.ok.frames
  refine wpAny_mono ((hb (wManyA X.K D l) (X.pn ++ pins) (fun e s₁ => wpAny (model X.prog X.w) X.A (noteFrame e X.env) (fun _ s₂ => wpAny (model X.prog X.w) X.A (setFlight e none) (fun _ s₃ => wpAny (model X.prog X.w) X.A (handleBy e X.env (h₀ :: hds)) (SP X pins D) X.xe s₃) X.xe s₂) X.xe s₁) ?_).run [] s σ H D (I.toTry _) h) ?_ (fun _ _ z => z)
  · rintro u s' ⟨a, B, sI, pins', σ', H', cls, d, rfl, J, gr, up, sky, ha, os, bare, w⟩
    have J2 : Inv X pins σ' H' sI := J.ofTry I.ok
    refine Sky.land Zc.steady frm hf (by rw [← hs]; exact sky) fun h' fl up' => ?_
    rw [← hs] at fl
    exact handleA hs hf hN I.ok J2 gr ha hh _ fl (slots_trans up up') os bare w
  · intro f s₁ z
    cases f with
    | next =>
      obtain ⟨σ', H', J, q⟩ := z
      exact wpAny_execs_nil ⟨σ', H', J.ofTry I.ok, q⟩
    | brk =>
      obtain ⟨σ', H', J, q⟩ := z
      exact ⟨σ', H', J.ofTry I.ok, q⟩
    | cont =>
      obtain ⟨σ', H', J, q⟩ := z
      exact ⟨σ', H', J.ofTry I.ok, q⟩
    | ret u =>
      obtain ⟨v, σ', H', J, rv, q⟩ := z
      exact ⟨v, σ', H', J.ofTry I.ok, rv, q⟩
end
end SB
namespace SB
open PySem PySem.Spec PyProof.Rows L2 Evl
/-! repr of data that may hold dicts of at most one entry -/
def keyD : Key → PyData
  | .inl i => .int i
  | .inr x => .str x
inductive DpD (K : PySem.W.Frag) (H : Hp) : V → PyData → Prop where
  | old {v : V} {d : PyData} (h : Dp K H v d) (n : d.hasDict = false) : DpD K H v d
  | dct0 {a : Addr} (h : H a = some (.dK [])) : DpD K H (.ref a) (.dict [])
  | dct1 {a : Addr} {k : Key} {v : V} {d : PyData} (h : H a = some (.dK [(k, v)])) (hd : Dp K H v d) (n : d.hasDict = false) : DpD K H (.ref a) (.dict [(keyD k, d)])
  | lst {a : Addr} {xs : List V} {ds : List PyData} (h : SqL K H a xs) (hl : xs.length = ds.length) (hi : ∀ (i : Nat) (v : V) (d : PyData), xs[i]? = some v → ds[i]? = some d → DpD K H v d) : DpD K H (.ref a) (.list ds)
  | tup {a : Addr} {xs : List V} {ds : List PyData} (h : SqT K H a xs) (hl : xs.length = ds.length) (hi : ∀ (i : Nat) (v : V) (d : PyData), xs[i]? = some v → ds[i]? = some d → DpD K H v d) : DpD K H (.ref a) (.tuple ds)
mutual
theorem rdL {h : Heap} {v : Value} {d : PyData} {as : List Addr} (r : Reads h v d as) (n : d.hasDict = false) : ∀ a ∈ as, ∃ o, h.get? a = some o ∧ o.cls = Value.type "list" := by
  cases r with
  | none => intro a z; cases z
  | bool b => intro a z; cases z
  | int i t => intro a z; cases z
  | str x t => intro a z; cases z
  | list e c dd r =>
    intro a z
    rcases List.mem_cons.mp z with rfl | z
    · exact ⟨_, e, c⟩
    · exact rdA r (by simpa [PyData.hasDict] using n) a z
  | tuple e c dd r =>
    intro a z
    exact rdA r (by simpa [PyData.hasDict] using n) a z
  | dict e c dd r1 r2 => simp [PyData.hasDict] at n
theorem rdA {h : Heap} {vs : List Value} {ds : List PyData} {as : List Addr} (r : ReadsAll h vs ds as) (n : PyData.hasDictAll ds = false) : ∀ a ∈ as, ∃ o, h.get? a = some o ∧ o.cls = Value.type "list" := by
  cases r with
  | nil => intro a z; cases z
  | cons r1 r2 =>
    simp only [PyData.hasDictAll, Bool.or_eq_false_iff] at n
    intro a z
    rcases List.mem_append.mp z with z | z
    · exact rdL r1 n.1 a z
    · exact rdA r2 n.2 a z
end
theorem sys_not {h : Heap} {as : List Addr} (hs : ∃ o, h.get? sysModules = some o ∧ o.cls = Value.type "dict") (r : ∀ a ∈ as, ∃ o, h.get? a = some o ∧ o.cls = Value.type "list") : ¬ sysModules ∈ as := fun z => by
  obtain ⟨o, e, c⟩ := r _ z
  obtain ⟨o', e', c'⟩ := hs
  rw [e] at e'
  cases e'
  rw [c] at c'
  simp at c'
theorem key_rd {h : Heap} {k : Key} {u : Value} (e : keyIs k u = true) : Reads h u (keyD k) [] := by
  cases k with
  | inl i =>
    cases u <;> simp [keyIs, Value.isInt] at e
    subst e
    exact .int _ _
  | inr x =>
    cases u <;> simp [keyIs, Value.isStrOf] at e
    subst e
    exact .str _ _
section
variable {X : Cx} {pins : List (Addr × Obj)} {σ : L2.St} {H : Hp} {s : Shared}
theorem all_rd {h : Heap} : ∀ {us : List Value} {ds : List PyData}, us.length = ds.length → (∀ (i : Nat) (u : Value) (d : PyData), us[i]? = some u → ds[i]? = some d → ∃ as, Reads h u d as ∧ ¬ sysModules ∈ as) → ∃ as, ReadsAll h us ds as ∧ ¬ sysModules ∈ as
  | [], [], _, _ => ⟨[], .nil, fun z => by cases z⟩
  | u :: us, d :: ds, hl, hi => by
    obtain ⟨as, r, n⟩ := hi 0 u d rfl rfl
    obtain ⟨bs, r2, n2⟩ := all_rd (us := us) (ds := ds) (by simpa using hl) (fun i u d h1 h2 => hi (i + 1) u d h1 h2)
    exact ⟨as ++ bs, .cons r r2, fun z => (List.mem_append.mp z).elim n n2⟩
theorem vals_at : ∀ {vs : List V} {us : List Value} {i : Nat} {u : Value}, Vals vs us → us[i]? = some u → ∃ v, vs[i]? = some v ∧ RelV v u
  | _, _, 0, _, .cons r _, h => by
    cases h
    exact ⟨_, rfl, r⟩
  | _, _, i + 1, _, .cons _ r, h => vals_at (i := i) r h
theorem readsD (I : Inv X pins σ H s) (hs : ∃ o, s.heap.get? sysModules = some o ∧ o.cls = Value.type "dict") {v : V} {d : PyData} (h : DpD X.K H v d) : ∀ u, RelV v u → ∃ as, Reads s.heap u d as ∧ ¬ sysModules ∈ as := by
  induction h with
  | old h n =>
    intro u r
    obtain ⟨as, rd⟩ := Dp.reads I _ _ u h r
    exact ⟨as, rd, sys_not hs (rdL rd n)⟩
  | dct0 h =>
    intro u r
    cases (show u = Value.ref _ from r)
    obtain ⟨_, ne, vs, kv, o, es, ep, e1, e2, e3, e4, e5, e6⟩ := dk_of I.hok h
    cases kv
    have e : es.toList = [] := by
      cases hh : es.toList with
      | nil => rfl
      | cons x y => rw [hh] at e5; cases e5
    refine ⟨_, .dict (as := []) (bs := []) e1 e2.1 e3 (by rw [e]; exact .nil) (by rw [e]; exact .nil), ?_⟩
    simpa using fun z => by
      have z' : sysModules = _ := z
      rw [z'] at ne
      simp at ne
  | @dct1 a k v d h hd n =>
    intro u r
    cases (show u = Value.ref _ from r)
    obtain ⟨_, ne, vs, kv, o, es, ep, e1, e2, e3, e4, e5, e6⟩ := dk_of I.hok h
    obtain ⟨k', y, rfl, rfl, rv⟩ : ∃ k' y, vs = [(k', y)] ∧ k' = k ∧ RelV v y := by
      cases kv with
      | cons k1 k2 =>
        cases k2
        exact ⟨_, _, rfl, k1.1.symm, k1.2⟩
    obtain ⟨e, ee, ek, ev⟩ : ∃ e, es.toList = [e] ∧ keyIs k' e.key = true ∧ e.val = y := by
      cases hh : es.toList with
      | nil => rw [hh] at e5; cases e5
      | cons x l =>
        rw [hh] at e5
        cases e5 with
        | cons q1 q2 q3 =>
          cases q3
          exact ⟨x, rfl, q1, q2⟩
    obtain ⟨as, rd⟩ := Dp.reads I _ _ y hd rv
    refine ⟨_, .dict (as := [] ++ []) (bs := as ++ []) e1 e2.1 e3 ?_ ?_, ?_⟩
    · rw [ee]
      exact .cons (key_rd ek) .nil
    · rw [ee]
      show ReadsAll _ [e.val] _ _
      rw [ev]
      exact .cons rd .nil
    · have nn := sys_not hs (rdL rd n)
      intro z
      simp only [List.append_nil, List.nil_append, List.mem_append, List.mem_cons, List.not_mem_nil, or_false] at z
      rcases z with z | z
      · rw [z] at ne
        simp at ne
      · exact nn z
  | lst h hl hi ih =>
    intro u r
    cases (show u = Value.ref _ from r)
    obtain ⟨its, vl, pl, _⟩ := I.list h
    obtain ⟨as, rd, nn⟩ := all_rd (h := s.heap) (us := its) (by rw [← vl.length, hl]) fun i u d h1 h2 => by
      obtain ⟨v, hv, rv⟩ := vals_at vl h1
      exact ih i v d hv h2 u rv
    obtain ⟨o, nn2, e1, e2, _, e3⟩ := pl
    refine ⟨_, .list e1 e2 e3 rd, fun z => ?_⟩
    rcases List.mem_cons.mp z with z | z
    · obtain ⟨o', e', c'⟩ := hs
      rw [z, e1] at e'
      cases e'
      rw [e2] at c'
      simp at c'
    · exact nn z
  | tup h hl hi ih =>
    intro u r
    cases (show u = Value.ref _ from r)
    obtain ⟨its, vl, pl, _⟩ := I.tuple h
    obtain ⟨as, rd, nn⟩ := all_rd (h := s.heap) (us := its) (by rw [← vl.length, hl]) fun i u d h1 h2 => by
      obtain ⟨v, hv, rv⟩ := vals_at vl h1
      exact ih i v d hv h2 u rv
    obtain ⟨o, e1, e2, nn2, e3⟩ := pl
    exact ⟨_, .tuple e1 e2 e3 rd, nn⟩
end
/-- what repr asks of data -/
def Shw (d : PyData) : Prop := d.showable = true ∧ d.depth ≤ 60 ∧ d.shown.length ≤ sizeLine
def rRd (K : PySem.W.Frag) : List V → Hp → VK → Prop := fun xs H Q => ∃ v d, xs = [v] ∧ DpD K H v d ∧ Shw d ∧ Q (.str d.shown) H
def SysK (K : PySem.W.Frag) : Prop := ∃ o, K.lookup sysModules = some o ∧ o.cls = Value.type "dict"
def sysB (K : PySem.W.Frag) : Bool := match K.lookup sysModules with
  | some ⟨.type n, _, _, _⟩ => n == "dict"
  | _ => false
theorem sys_ok {K : PySem.W.Frag} (h : sysB K = true) : SysK K := by
  unfold sysB at h
  split at h
  · rename_i n a b c e
    have q := beq_iff_eq.mp h
    subst q
    exact ⟨_, e, rfl⟩
  · cases h
theorem call_rd {X : Cx} (sy : SysK X.K) (hg : X.A.guards = some []) (hu : X.A.units + 64 < cLine) : CallR X (.builtin "repr") (rRd X.K) := by
  intro pins s σ H xs us Q I r h
  obtain ⟨v, d, rfl, hd, ⟨h1, h3, h4⟩, q⟩ := h
  by_cases hn : d.hasDict = false ∧ Dp X.K H v d
  · exact call_rp hg hu pins s σ H [v] us Q I r ⟨v, d, rfl, hn.2, h1, hn.1, h3, h4, q⟩
  obtain ⟨u, rfl, ru⟩ := vals1 r
  have hs : ∃ o, s.heap.get? sysModules = some o ∧ o.cls = Value.type "dict" := by
    obtain ⟨o, e, c⟩ := sy
    exact ⟨o, I.kIn _ _ e, c⟩
  obtain ⟨as, rd, nn⟩ := readsD I hs hd u ru
  have fin : ∀ a, u = Value.ref a → wpAny (model X.prog X.w) X.A (call (.builtin "repr") [u]) (EP X pins σ Q) X.xe s := by
    intro a e
    subst e
    exact PySem.repr_of_reads' rd h1 (fun _ => nn) hg (by omega) (fun _ _ e => e) (fun h' u tk hk => ⟨.str _, H, I.kept hk, ⟨_, rfl⟩, q⟩) h4
  cases hd with
  | old h n => exact absurd ⟨n, h⟩ hn
  | dct0 h => exact fin _ ru
  | dct1 h hd n => exact fin _ ru
  | lst h hl hi => exact fin _ ru
  | tup h hl hi => exact fin _ ru
end SB
namespace SB
open PySem PySem.Spec PyProof.Rows L2 Evl
/-! isinstance of a caught own error, its fields -/
structure IsT (K : PySem.W.Frag) (C : Addr) : Prop where
  cl : (PySem.W.clsIn K C).isSome = true
  xf : XfC K C
  ca : PySem.W.findIn K (.ref C) "__class__" = some (some (.builtin "object.__class__"))
  sp : PySem.W.specialIn K (.builtin "object.__class__") "__get__" = some (some (.builtin "getset_descriptor.__get__"))
  tk : PySem.W.takesIn K (.builtin "object.__class__") = some true
  mo : PySem.W.mroIn K C (.type "object") = some true
def istB (K : PySem.W.Frag) (C : Addr) : Bool :=
  (PySem.W.clsIn K C).isSome && EXS.isBi (PySem.W.findIn K (.ref C) "__getattribute__") "BaseException.__getattribute__" && EXS.isNo (PySem.W.findIn K (.ref C) "__getattr__") && (PySem.W.subIn K (.ref C) (.type "BaseException") == some true) && PySem.W.hasDictIn K C &&
    EXS.isBi (PySem.W.findIn K (.ref C) "__class__") "object.__class__" && EXS.isBi (PySem.W.specialIn K (.builtin "object.__class__") "__get__") "getset_descriptor.__get__" && (PySem.W.takesIn K (.builtin "object.__class__") == some true) && (PySem.W.mroIn K C (.type "object") == some true)
theorem ist_ok {K : PySem.W.Frag} {C : Addr} (h : istB K C = true) : IsT K C := by
  unfold istB at h
  simp only [Bool.and_eq_true, beq_iff_eq] at h
  obtain ⟨⟨⟨⟨⟨⟨⟨⟨h1, h2⟩, h3⟩, h4⟩, h5⟩, h6⟩, h7⟩, h8⟩, h9⟩ := h
  exact ⟨h1, ⟨EXS.isBi_ok h2, EXS.isNo_ok h3, h4, h5⟩, EXS.isBi_ok h6, EXS.isBi_ok h7, h8, h9⟩
/-- the error's own dict, if it has one, is told of -/
def HasD (H : Hp) : Option Addr → Prop
  | none => True
  | some dx => ∃ fs, H dx = some (.xd fs)
def rIsX (K : PySem.W.Frag) (a : Addr) (cls : Value) (d : Option Addr) : List V → Hp → VK → Prop := fun xs H Q => ∃ (D L : Addr) (b : Bool), xs = [.ref a, .ref L] ∧ cls = .ref D ∧ IsT K D ∧ HasD H d ∧ PySem.W.kitOne K (.ref D) (.ref L) = some b ∧ Q (.bl b) H
theorem call_isX {X : Cx} {a : Addr} {oe : Obj} {cls : Value} {d : Option Addr} {pn : List (Addr × Obj)} (hz : Zc cls d oe) (hf : ∃ vs, oe.data = .fields vs) : CallR (X.suite a ((a, oe) :: pn)) (.builtin "isinstance") (rIsX X.K a cls d) := by
  intro pins s σ H xs us Q I r h
  obtain ⟨D, L, b, rfl, rfl, T, hd, hk, q⟩ := h
  obtain ⟨u1, u2, rfl, r1, r2⟩ : ∃ u1 u2, us = [u1, u2] ∧ RelV (.ref a) u1 ∧ RelV (.ref L) u2 := by
    cases r with
    | cons r1 r2 =>
      cases r2 with
      | cons r2 r3 =>
        cases r3
        exact ⟨_, _, rfl, r1, r2⟩
  cases (show u1 = Value.ref _ from r1)
  cases (show u2 = Value.ref _ from r2)
  obtain ⟨ha, _⟩ := I.pin (a, oe) (List.mem_append_left _ List.mem_cons_self)
  obtain ⟨vs, hdat⟩ := hf
  have nc : PySem.W.notCls oe = true := by
    unfold PySem.W.notCls
    rw [hdat]
  obtain ⟨od, J⟩ : ∃ od, PySem.W.InstAt s.heap a oe D od := by
    cases d with
    | none => exact ⟨none, ha, hz.1, nc, by rw [hz.2]; trivial⟩
    | some dx =>
      obtain ⟨fs, hx⟩ := hd
      obtain ⟨mA, hns, _⟩ := (I.hok dx _ hx : ObjOk X.prog X.w H s.heap dx (.xd fs))
      obtain ⟨od, ho, _⟩ := lookIn_ns hns
      exact ⟨some od, ha, hz.1, nc, by rw [hz.2]; exact ho⟩
  exact PySem.W.kia_one (PySem.W.kitx_exc (od := od) T.cl T.xf.ga T.xf.gg T.xf.exC T.ca T.sp T.tk T.mo) I.kIn J hk (fun z => by cases z) fun tk => ⟨.bl b, H, I.tok _, rfl, q⟩
end SB
namespace SB
open PySem PySem.Spec PyProof.Rows L2 Evl
/-! rules within a comprehension: their readings speak of the def's own frame of data, not of the block's -/
section
variable {X : Cx} {K0 : PySem.W.Frag}
theorem ixL_K (h : X.K = K0) : IxR X (rIxL K0) := h ▸ ix_list
theorem ixT_K (h : X.K = K0) : IxR X (rIxT K0) := h ▸ ix_tup
theorem slL_K (h : X.K = K0) : L2.SlR X (rSlL K0) := h ▸ sl_list
theorem inS_K (h : X.K = K0) : OpR X (compareOp .In) (rIn K0 false) := h ▸ op_in_seq
theorem niS_K (h : X.K = K0) : OpR X (compareOp .NotIn) (rIn K0 true) := h ▸ op_notIn_seq
theorem eqD_K (h : X.K = K0) (hu : X.A.units + 64 < cLine) : OpR X (compareOp .Eq) (rEqD K0) := h ▸ op_eqD hu
theorem neD_K (h : X.K = K0) (hu : X.A.units + 64 < cLine) : OpR X (compareOp .NotEq) (rNeD K0) := h ▸ op_neD hu
theorem rd_K (h : X.K = K0) (sy : SysK K0) (hg : X.A.guards = some []) (hu : X.A.units + 64 < cLine) : CallR X (.builtin "repr") (rRd K0) := by
  subst h
  exact call_rd sy hg hu
theorem rp_K (h : X.K = K0) (hg : X.A.guards = some []) (hu : X.A.units + 64 < cLine) : CallR X (.builtin "repr") (rRp K0) := by
  subst h
  exact call_rp hg hu
end
end SB
namespace LW
open PySem PySem.Spec PyProof.Rows L2 Evl SB
def topS (i : Nat) : Stmt := PySem.Challenge.pw_startbits_k40_places_that_last.main.body.getD i (.Pass ⟨0, 0, 0, 0⟩)
abbrev s_is_int : Stmt := topS 10
abbrev s_is_int_between : Stmt := topS 11
abbrev s_is_parity : Stmt := topS 12
abbrev s_fits : Stmt := topS 13
abbrev s_is_list_up_to : Stmt := topS 14
abbrev s_check_shape : Stmt := topS 15
abbrev s_check_number : Stmt := topS 16
abbrev s_check_text : Stmt := topS 17
abbrev s_check_text_between : Stmt := topS 18
abbrev s_size_of : Stmt := topS 20
abbrev s_parity_of : Stmt := topS 21
abbrev s_frame_of : Stmt := topS 22
abbrev s_levels_of : Stmt := topS 23
abbrev s_bits_of : Stmt := topS 24
abbrev s_place_after : Stmt := topS 27
abbrev s_place_after_all : Stmt := topS 28
abbrev s_lasting_places : Stmt := topS 31
abbrev s_places_behind : Stmt := topS 32
abbrev s_law_tank : Stmt := topS 34
abbrev s_law_tap : Stmt := topS 35
abbrev s_law_shape : Stmt := topS 36
abbrev s_law_numbers : Stmt := topS 37
abbrev s_law_frame : Stmt := topS 38
abbrev s_law_place : Stmt := topS 39
abbrev s_law_maps : Stmt := topS 40
abbrev s_law_allowed : Stmt := topS 41
abbrev s_law_due : Stmt := topS 42
abbrev s_law_right : Stmt := topS 43
abbrev s_law : Stmt := topS 44
theorem sc_is_int : FnScope ["value"] ["value"] (defScope s_is_int) := ⟨rfl, rfl, rfl, by decide +kernel, rfl, by decide +kernel, by decide +kernel⟩
theorem sc_is_int_between : FnScope ["least", "most", "value"] ["least", "most", "value"] (defScope s_is_int_between) := ⟨rfl, rfl, rfl, by decide +kernel, rfl, by decide +kernel, by decide +kernel⟩
theorem sc_is_parity : FnScope ["value"] ["value"] (defScope s_is_parity) := ⟨rfl, rfl, rfl, by decide +kernel, rfl, by decide +kernel, by decide +kernel⟩
theorem sc_fits : FnScope ["shape", "value"] ["shape", "value"] (defScope s_fits) := ⟨rfl, rfl, rfl, by decide +kernel, rfl, by decide +kernel, by decide +kernel⟩
theorem sc_is_list_up_to : FnScope ["most", "value"] ["most", "value"] (defScope s_is_list_up_to) := ⟨rfl, rfl, rfl, by decide +kernel, rfl, by decide +kernel, by decide +kernel⟩
theorem sc_check_shape : FnScope ["shape", "bits", "parity", "stops"] ["shape"] (defScope s_check_shape) := ⟨rfl, rfl, rfl, by decide +kernel, rfl, by decide +kernel, by decide +kernel⟩
theorem sc_check_number : FnScope ["shape", "number"] ["shape", "number"] (defScope s_check_number) := ⟨rfl, rfl, rfl, by decide +kernel, rfl, by decide +kernel, by decide +kernel⟩
theorem sc_check_text : FnScope ["shape", "numbers"] ["shape", "numbers"] (defScope s_check_text) := ⟨rfl, rfl, rfl, by decide +kernel, rfl, by decide +kernel, by decide +kernel⟩
theorem sc_check_text_between : FnScope ["least", "most", "shape", "numbers", "index", "number"] ["least", "most", "shape", "numbers"] (defScope s_check_text_between) := ⟨rfl, rfl, rfl, by decide +kernel, rfl, by decide +kernel, by decide +kernel⟩
theorem sc_size_of : FnScope ["shape", "bits", "parity", "stops", "parity_bits"] ["shape"] (defScope s_size_of) := ⟨rfl, rfl, rfl, by decide +kernel, rfl, by decide +kernel, by decide +kernel⟩
theorem sc_parity_of : FnScope ["shape", "number", "parity", "odd_ones"] ["shape", "number"] (defScope s_parity_of) := ⟨rfl, rfl, rfl, by decide +kernel, rfl, by decide +kernel, by decide +kernel⟩
theorem sc_frame_of : FnScope ["shape", "number", "parity_bit", "parity_bits", "stop_bits"] ["shape", "number"] (defScope s_frame_of) := ⟨rfl, rfl, rfl, by decide +kernel, rfl, by decide +kernel, by decide +kernel⟩
theorem sc_levels_of : FnScope ["shape", "numbers", "levels", "number"] ["shape", "numbers"] (defScope s_levels_of) := ⟨rfl, rfl, rfl, by decide +kernel, rfl, by decide +kernel, by decide +kernel⟩
theorem sc_bits_of : FnScope ["shape", "number", "at"] ["shape", "number"] (defScope s_bits_of) := ⟨rfl, rfl, rfl, by decide +kernel, rfl, by decide +kernel, by decide +kernel⟩
theorem sc_place_after : FnScope ["shape", "place", "level", "size"] ["shape", "place", "level"] (defScope s_place_after) := ⟨rfl, rfl, rfl, by decide +kernel, rfl, by decide +kernel, by decide +kernel⟩
theorem sc_place_after_all : FnScope ["shape", "place", "levels", "level"] ["shape", "place", "levels"] (defScope s_place_after_all) := ⟨rfl, rfl, rfl, by decide +kernel, rfl, by decide +kernel, by decide +kernel⟩
theorem sc_lasting_places : FnScope ["shape", "numbers", "behind", "places", "_", "begin", "place"] ["shape", "numbers"] (defScope s_lasting_places) := ⟨rfl, rfl, rfl, by decide +kernel, rfl, by decide +kernel, by decide +kernel⟩
theorem sc_places_behind : FnScope ["shape", "numbers", "levels", "place"] ["shape", "numbers"] (defScope s_places_behind) := ⟨rfl, rfl, rfl, by decide +kernel, rfl, by decide +kernel, by decide +kernel⟩
theorem sc_law_tank : FnScope ["_law_script", "_law_at", "_law_cell"] ["_law_script", "_law_at"] (defScope s_law_tank) := ⟨rfl, rfl, rfl, by decide +kernel, rfl, by decide +kernel, by decide +kernel⟩
theorem sc_law_tap : FnScope ["_law_tank_here", "_law_many", "_law_drawn", "_law_mixed"] ["_law_tank_here", "_law_many"] (defScope s_law_tap) := ⟨rfl, rfl, rfl, by decide +kernel, rfl, by decide +kernel, by decide +kernel⟩
theorem sc_law_shape : FnScope ["_law_tank_here", "_law_most", "_law_bits"] ["_law_tank_here", "_law_most"] (defScope s_law_shape) := ⟨rfl, rfl, rfl, by decide +kernel, rfl, by decide +kernel, by decide +kernel⟩
theorem sc_law_numbers : FnScope ["_law_make", "_law_found", "_law_turn"] ["_law_make"] (defScope s_law_numbers) := ⟨rfl, rfl, rfl, by decide +kernel, rfl, by decide +kernel, by decide +kernel⟩
theorem sc_law_frame : FnScope ["_law_make", "_law_number", "_law_levels", "_law_left", "_law_turn"] ["_law_make", "_law_number"] (defScope s_law_frame) := ⟨rfl, rfl, rfl, by decide +kernel, rfl, by decide +kernel, by decide +kernel⟩
theorem sc_law_place : FnScope ["_law_make", "_law_place_here", "_law_levels", "_law_stop", "_law_level"] ["_law_make", "_law_place_here", "_law_levels"] (defScope s_law_place) := ⟨rfl, rfl, rfl, by decide +kernel, rfl, by decide +kernel, by decide +kernel⟩
theorem sc_law_maps : FnScope ["_law_make", "_law_notes", "_law_found", "_law_size", "_law_number", "_law_place_here"] ["_law_make", "_law_notes"] (defScope s_law_maps) := ⟨rfl, rfl, rfl, by decide +kernel, rfl, by decide +kernel, by decide +kernel⟩
theorem sc_law_allowed : FnScope ["_law_tank_here", "_law_make", "_law_most", "_law_every", "_law_maps_here", "_law_found", "_law_keep", "_law_turn", "_law_some", "_law_number"] ["_law_tank_here", "_law_make", "_law_most"] (defScope s_law_allowed) := ⟨rfl, rfl, rfl, by decide +kernel, rfl, by decide +kernel, by decide +kernel⟩
theorem sc_law_due : FnScope ["_law_make", "_law_notes", "_law_found", "_law_size", "_law_levels", "_law_number", "_law_first", "_law_place_here", "_law_turn"] ["_law_make", "_law_notes"] (defScope s_law_due) := ⟨rfl, rfl, rfl, by decide +kernel, rfl, by decide +kernel, by decide +kernel⟩
theorem sc_law_right : FnScope ["_law_tank_here", "_law_make", "_law_notes", "_law_kept", "_law_due_here", "_law_told", "_law_cut", "_law_other"] ["_law_tank_here", "_law_make", "_law_notes"] (defScope s_law_right) := ⟨rfl, rfl, rfl, by decide +kernel, rfl, by decide +kernel, by decide +kernel⟩
theorem sc_law : FnScope ["_law_script", "_law_at", "_law_tank_here", "_law_turn", "_law_make", "_law_some", "_law_notes", "_law_plain", "_law_number", "_law_lap"] ["_law_script"] (defScope s_law) := ⟨rfl, rfl, rfl, by decide +kernel, rfl, by decide +kernel, by decide +kernel⟩
structure Tx (K : PySem.W.Frag) (mg : Str → Option Value) : Prop where
  b_abs : mg "abs" = none
  b_bool : mg "bool" = none
  b_enumerate : mg "enumerate" = none
  b_int : mg "int" = none
  b_isinstance : mg "isinstance" = none
  b_len : mg "len" = none
  b_list : mg "list" = none
  b_max : mg "max" = none
  b_min : mg "min" = none
  b_range : mg "range" = none
  b_repr : mg "repr" = none
  b_str : mg "str" = none
  b_sum : mg "sum" = none
  b_tuple : mg "tuple" = none
  t_PARITIES : mg "PARITIES" = some (.ref (He.ga K "PARITIES"))
  v_PARITIES : ∀ H, SqT K H (He.ga K "PARITIES") [.str "none", .str "even", .str "odd"]
  i_MOST_BITS : GInt mg "MOST_BITS" (9)
  i_MOST_STOPS : GInt mg "MOST_STOPS" (2)
  i_MOST_NUMBERS : GInt mg "MOST_NUMBERS" (60)
  i_WAITING : GInt mg "WAITING" (-1)
  i_MOST_REPEATED : GInt mg "MOST_REPEATED" (8)
  d_is_int : Df K mg "is_int" s_is_int
  d_is_int_between : Df K mg "is_int_between" s_is_int_between
  d_is_parity : Df K mg "is_parity" s_is_parity
  d_fits : Df K mg "fits" s_fits
  d_is_list_up_to : Df K mg "is_list_up_to" s_is_list_up_to
  d_check_shape : Df K mg "check_shape" s_check_shape
  d_check_number : Df K mg "check_number" s_check_number
  d_check_text : Df K mg "check_text" s_check_text
  d_check_text_between : Df K mg "check_text_between" s_check_text_between
  d_size_of : Df K mg "size_of" s_size_of
  d_parity_of : Df K mg "parity_of" s_parity_of
  d_frame_of : Df K mg "frame_of" s_frame_of
  d_levels_of : Df K mg "levels_of" s_levels_of
  d_bits_of : Df K mg "_bits_of" s_bits_of
  d_place_after : Df K mg "place_after" s_place_after
  d_place_after_all : Df K mg "place_after_all" s_place_after_all
  d_lasting_places : Df K mg "lasting_places" s_lasting_places
  d_places_behind : Df K mg "_places_behind" s_places_behind
  d_law_tank : Df K mg "_law_tank" s_law_tank
  d_law_tap : Df K mg "_law_tap" s_law_tap
  d_law_shape : Df K mg "_law_shape" s_law_shape
  d_law_numbers : Df K mg "_law_numbers" s_law_numbers
  d_law_frame : Df K mg "_law_frame" s_law_frame
  d_law_place : Df K mg "_law_place" s_law_place
  d_law_maps : Df K mg "_law_maps" s_law_maps
  d_law_allowed : Df K mg "_law_allowed" s_law_allowed
  d_law_due : Df K mg "_law_due" s_law_due
  d_law_right : Df K mg "_law_right" s_law_right
  d_law : Df K mg "law" s_law
section
variable {P : Program} {w : World} {K : PySem.W.Frag} {mg : Str → Option Value} {base : Heap}
def sp_is_int (K : PySem.W.Frag) : Sp := fun vs H Q _ => ∃ v n, vs = [v] ∧ TyN K H v n ∧ Q (.bl (decide (n = "int"))) H
theorem cal_is_int (T : Tx K mg) : Cal P w K mg base CX0 1 "is_int" ["value"] (sp_is_int K) := by
  refine T.d_is_int.cal sc_is_int (fun vs H Q E h => ?_) (fun _ _ _ _ _ _ us hl => match us, hl with | [_], _ => rfl) (fun f cdv A outer s H vs Q E hr h => ⟨_, (pss_one (ps_ret (pe_and (pe_callB call_isi (by rfl) T.b_isinstance (by decide +kernel) (pa_cons (pv 0) (pa_cons (pe_bltn (v := .ty "int") (by rfl) T.b_int (by decide +kernel) rfl) pa_nil))) (pe_one (pe_not (pe_callB call_isi (by rfl) T.b_isinstance (by decide +kernel) (pa_cons (pv 0) (pa_cons (pe_bltn (v := .ty "bool") (by rfl) T.b_bool (by decide +kernel) rfl) pa_nil)))))))), ?_⟩)
  · obtain ⟨v, n, rfl, _⟩ := h
    rfl
  · obtain ⟨v, n, rfl, ty, q⟩ := h
    refine ⟨v, rfl, v, .ty "int", _, _, _, rfl, .ty _, ty.x, ty.kit (.inl rfl), _, rfl, ?_⟩
    cases ty with
    | int i => exact ⟨_, rfl, _, .ty "bool", _, _, _, rfl, .ty _, (TyN.int i : TyN K H _ _).x, (TyN.int i : TyN K H _ _).kit (.inr (.inl rfl)), _, rfl, q⟩
    | bl b => exact ⟨_, rfl, _, .ty "bool", _, _, _, rfl, .ty _, (TyN.bl b : TyN K H _ _).x, (TyN.bl b : TyN K H _ _).kit (.inr (.inl rfl)), _, rfl, q⟩
    | _ => exact q
def sp_between (K : PySem.W.Frag) : Sp := fun vs H Q _ => ∃ lo hi v n, vs = [.int lo, .int hi, v] ∧ TyN K H v n ∧
  ∀ b : Bool, (∀ i, v = .int i → b = decide (lo ≤ i ∧ i ≤ hi)) → (n ≠ "int" → b = false) → Q (.bl b) H
theorem cal_between (T : Tx K mg) : Cal P w K mg base CX0 2 "is_int_between" ["least", "most", "value"] (sp_between K) := by
  have c_is_int := cal_is_int (P := P) (w := w) (base := base) T
  refine T.d_is_int_between.cal sc_is_int_between (fun vs H Q E h => ?_) (fun _ _ _ _ _ _ us hl => match us, hl with | [_, _, _], _ => rfl) (fun f cdv A outer s H vs Q E hr h => ⟨_, (pss_one (ps_ret (pe_and (pe_cal c_is_int (hr.mono (by decide)) pass0 (pa_cons (pv 2) pa_nil)) (pe_one (pe_chain op_le op_le (pv 0) (pv 2) (pv 1)))))), ?_⟩)
  · obtain ⟨lo, hi, v, n, rfl, _⟩ := h
    rfl
  · obtain ⟨lo, hi, v, n, rfl, ty, q⟩ := h
    refine ⟨v, rfl, v, n, rfl, ty, _, rfl, ?_⟩
    cases ty with
    | int i =>
      refine ⟨_, rfl, _, rfl, lo, i, rfl, rfl, _, rfl, ?_⟩
      by_cases h1 : lo ≤ i
      · rw [if_pos (decide_eq_true h1)]
        refine ⟨_, rfl, i, hi, rfl, rfl, q _ (fun j e => ?_) (fun z => absurd rfl z)⟩
        cases e
        simp [h1]
      · rw [if_neg (by simpa using h1)]
        refine q _ (fun j e => ?_) (fun z => absurd rfl z)
        cases e
        simp [h1]
    | _ => exact q false (fun j e => nomatch e) (fun _ => rfl)
def sp_is_parity : Sp := fun vs H Q _ => ∃ p : Pa, vs = [.str p.s] ∧ Q (.bl true) H
theorem cal_is_parity (T : Tx K mg) : Cal P w K mg base CX0 1 "is_parity" ["value"] sp_is_parity := by
  refine T.d_is_parity.cal sc_is_parity (fun vs H Q E h => ?_) (fun _ _ _ _ _ _ us hl => match us, hl with | [_], _ => rfl) (fun f cdv A outer s H vs Q E hr h => ⟨_, (pss_one (ps_ret (pe_and (pe_callB call_isi (by rfl) T.b_isinstance (by decide +kernel) (pa_cons (pv 0) (pa_cons (pe_bltn (v := .ty "str") (by rfl) T.b_str (by decide +kernel) rfl) pa_nil))) (pe_one (pe_cmpR op_in_seq (pv 0) (pe_glob (v := .ref (He.ga K "PARITIES")) rfl T.t_PARITIES rfl) (by rfl)))))), ?_⟩)
  · obtain ⟨p, rfl, _⟩ := h
    rfl
  · obtain ⟨p, rfl, q⟩ := h
    refine ⟨_, rfl, _, .ty "str", _, _, true, rfl, .ty _, (TyN.str _).x, ki, true, rfl, iteT ?_⟩
    refine ⟨_, rfl, _, _, rfl, .inr (T.v_PARITIES _), rfl, rfl, ?_⟩
    rw [pa_in]
    exact q
def sp_fits (K : PySem.W.Frag) : Sp := fun vs H Q _ => ∃ g b p s v n, vs = [g, v] ∧ IsSh K H g b p s ∧ TyN K H v n ∧
  ∀ r : Bool, (∀ i, v = .int i → r = decide (0 ≤ i ∧ i < 2 ^ b)) → (n ≠ "int" → r = false) → Q (.bl r) H
theorem cal_fits (T : Tx K mg) : Cal P w K mg base CX0 3 "fits" ["shape", "value"] (sp_fits K) := by
  have c_is_int_between := cal_between (P := P) (w := w) (base := base) T
  refine T.d_fits.cal sc_fits (fun vs H Q E h => ?_) (fun _ _ _ _ _ _ us hl => match us, hl with | [_, _], _ => rfl) (fun f cdv A outer s H vs Q E hr h => ⟨_, (pss_one (ps_ret (pe_cal c_is_int_between (hr.mono (by decide)) pass0 (pa_cons pe_int (pa_cons (pe_op op_sub (pe_op op_shl pe_int (pe_ix ix_tup (pv 0) pe_int (fun _ _ => rfl))) pe_int) (pa_cons (pv 1) pa_nil)))))), ?_⟩)
  · obtain ⟨g, b, p, s, v, n, rfl, _⟩ := h
    rfl
  · obtain ⟨g, b, p, s, v, n, rfl, ⟨t, rfl, sq, h1, h2, _⟩, ty, q⟩ := h
    refine ⟨_, rfl, t, _, 0, .int b, rfl, rfl, sq, rfl, 1, b, rfl, rfl, ⟨by omega, by omega, by decide⟩, _, _, rfl, rfl, v, rfl, 0, _, v, n, rfl, ty, fun r r1 r2 => q r (fun i e => ?_) r2⟩
    rw [r1 i e, Int.one_mul, Int.toNat_natCast]
    exact decide_eq_decide.mpr (by omega)
def sp_list_up_to (K : PySem.W.Frag) : Sp := fun vs H Q _ => ∃ m a xs, vs = [.int m, .ref a] ∧ SqL K H a xs ∧ Q (.bl (decide ((xs.length : Int) ≤ m))) H
theorem cal_list_up_to (T : Tx K mg) : Cal P w K mg base CX0 1 "is_list_up_to" ["most", "value"] (sp_list_up_to K) := by
  refine T.d_is_list_up_to.cal sc_is_list_up_to (fun vs H Q E h => ?_) (fun _ _ _ _ _ _ us hl => match us, hl with | [_, _], _ => rfl) (fun f cdv A outer s H vs Q E hr h => ⟨_, (pss_one (ps_ret (pe_and (pe_callB call_isi (by rfl) T.b_isinstance (by decide +kernel) (pa_cons (pv 1) (pa_cons (pe_bltn (v := .ty "list") (by rfl) T.b_list (by decide +kernel) rfl) pa_nil))) (pe_one (pe_cmpR op_le (pe_callB call_len_seq (by rfl) T.b_len (by decide +kernel) (pa_cons (pv 1) pa_nil)) (pv 0) (nomark _)))))), ?_⟩)
  · obtain ⟨m, a, xs, rfl, _⟩ := h
    rfl
  · obtain ⟨m, a, xs, rfl, sq, q⟩ := h
    refine ⟨_, rfl, _, .ty "list", _, _, true, rfl, .ty _, (TyN.lst sq).x, ki, true, rfl, iteT ?_⟩
    exact ⟨_, rfl, a, xs, rfl, .inl sq, _, rfl, _, _, rfl, rfl, q⟩
def sp_check_shape (K : PySem.W.Frag) : Sp := fun vs H Q _ => ∃ g b p s, vs = [g] ∧ IsSh K H g b p s ∧ Q .non H
theorem cal_check_shape (T : Tx K mg) : Cal P w K mg base CX0 3 "check_shape" ["shape"] (sp_check_shape K) := by
  have c_is_int_between := cal_between (P := P) (w := w) (base := base) T
  have c_is_parity := cal_is_parity (P := P) (w := w) (base := base) T
  refine T.d_check_shape.cal sc_check_shape (fun vs H Q E h => ?_) (fun _ _ _ _ _ _ us hl => match us, hl with | [_], _ => rfl) (fun f cdv A outer s H vs Q E hr h => ⟨_, (pss_cons (ps_if (PW.pt (pw_or (pt_not (pt_val (pe_callB call_isi (by rfl) T.b_isinstance (by decide +kernel) (pa_cons (pv 0) (pa_cons (pe_bltn (v := .ty "tuple") (by rfl) T.b_tuple (by decide +kernel) rfl) pa_nil))))) (pw_or1 (pt_cmpR op_ne (pe_callB call_len_seq (by rfl) T.b_len (by decide +kernel) (pa_cons (pv 0) pa_nil)) pe_int (nomark _))))) (pss_one ps_never) pss_nil)
      (pss_cons (ps_asg (pv 0) (pg_tup rfl (pgs_cons (pg_name (i := 1) sc_check_shape.nd rfl (Or.inl rfl)) (pgs_cons (pg_name (i := 2) sc_check_shape.nd rfl (Or.inl rfl)) (pgs_cons (pg_name (i := 3) sc_check_shape.nd rfl (Or.inl rfl)) pgs_nil)))))
      (pss_cons (ps_if (pt_not (pt_val (pe_cal c_is_int_between (hr.mono (by decide)) pass0 (pa_cons pe_int (pa_cons (pe_gi T.i_MOST_BITS) (pa_cons (pv 1) pa_nil)))))) (pss_one ps_never) pss_nil)
      (pss_cons (ps_if (pt_not (pt_val (pe_cal c_is_parity (hr.mono (by decide)) pass0 (pa_cons (pv 2) pa_nil)))) (pss_one ps_never) pss_nil)
      (pss_one (ps_if (pt_not (pt_val (pe_cal c_is_int_between (hr.mono (by decide)) pass0 (pa_cons pe_int (pa_cons (pe_gi T.i_MOST_STOPS) (pa_cons (pv 3) pa_nil)))))) (pss_one ps_never) pss_nil)))))), ?_⟩)
  · obtain ⟨g, b, p, s, rfl, _⟩ := h
    rfl
  · obtain ⟨g, b, p, s, rfl, ⟨t, rfl, sq, h1, h2, h3, h4⟩, q⟩ := h
    refine ⟨_, rfl, _, .ty "tuple", _, _, true, rfl, .ty _, (TyN.tup sq).x, ki, true, rfl, iteF ?_⟩
    refine ⟨_, rfl, t, _, rfl, .inr sq, rfl, _, rfl, iteNS rfl ?_⟩
    refine ⟨_, rfl, t, _, rfl, sq, rfl, _, _, rfl, _, _, rfl, _, _, rfl, rfl, ?_⟩
    refine ⟨_, rfl, 1, 9, _, "int", rfl, .int _, fun r r1 r2 => ⟨r, rfl, ?_⟩⟩
    have e1 : r = true := by
      rw [r1 _ rfl]
      exact decide_eq_true ⟨by omega, by omega⟩
    subst e1
    refine iteF ⟨_, rfl, p, rfl, true, rfl, iteF ?_⟩
    refine ⟨_, rfl, 1, 2, _, "int", rfl, .int _, fun r r1 r2 => ⟨r, rfl, ?_⟩⟩
    have e2 : r = true := by
      rw [r1 _ rfl]
      exact decide_eq_true ⟨by omega, by omega⟩
    subst e2
    exact iteF q
def sp_check_number (K : PySem.W.Frag) : Sp := fun vs H Q _ => ∃ g b p s i, vs = [g, .int i] ∧ IsSh K H g b p s ∧ 0 ≤ i ∧ i < 2 ^ b ∧ Q .non H
theorem cal_check_number (T : Tx K mg) : Cal P w K mg base CX0 4 "check_number" ["shape", "number"] (sp_check_number K) := by
  have c_fits := cal_fits (P := P) (w := w) (base := base) T
  refine T.d_check_number.cal sc_check_number (fun vs H Q E h => ?_) (fun _ _ _ _ _ _ us hl => match us, hl with | [_, _], _ => rfl) (fun f cdv A outer s H vs Q E hr h => ⟨_, (pss_one (ps_if (pt_not (pt_val (pe_cal c_fits (hr.mono (by decide)) pass0 (pa_cons (pv 0) (pa_cons (pv 1) pa_nil))))) (pss_one ps_never) pss_nil)), ?_⟩)
  · obtain ⟨g, b, p, s, i, rfl, _⟩ := h
    rfl
  · obtain ⟨g, b, p, s, i, rfl, sh, h1, h2, q⟩ := h
    refine ⟨_, rfl, _, rfl, g, b, p, s, _, "int", rfl, sh, .int i, fun r r1 r2 => ⟨r, rfl, ?_⟩⟩
    have e : r = true := by
      rw [r1 _ rfl]
      exact decide_eq_true ⟨h1, h2⟩
    subst e
    exact iteF q
def InSh (b : Nat) (ns : List Int) : Prop := ∀ n ∈ ns, 0 ≤ n ∧ n < 2 ^ b
def sp_check_tb (K : PySem.W.Frag) : Sp := fun vs H Q _ => ∃ lo hi g b p s a ns, vs = [.int lo, .int hi, g, .ref a] ∧ IsSh K H g b p s ∧ SqL K H a (ns.map V.int) ∧ lo ≤ (ns.length : Int) ∧ (ns.length : Int) ≤ hi ∧ InSh b ns ∧ ∀ H', Ex H H' → Q .non H'
theorem cal_check_tb (T : Tx K mg) : Cal P w K mg base CX0 4 "check_text_between" ["least", "most", "shape", "numbers"] (sp_check_tb K) := by
  have c_fits := cal_fits (P := P) (w := w) (base := base) T
  have c_is_list_up_to := cal_list_up_to (P := P) (w := w) (base := base) T
  refine T.d_check_text_between.cal sc_check_text_between (fun vs H Q E h => ?_) (fun _ _ _ _ _ _ us hl => match us, hl with | [_, _, _, _], _ => rfl) (fun f cdv A outer s H vs Q E hr h => ⟨_, (pss_cons (ps_if (PW.pt (pw_or (pt_not (pt_val (pe_cal c_is_list_up_to (hr.mono (by decide)) pass0 (pa_cons (pv 1) (pa_cons (pv 3) pa_nil))))) (pw_or1 (pt_cmpR op_lt (pe_callB call_len_seq (by rfl) T.b_len (by decide +kernel) (pa_cons (pv 3) pa_nil)) (pv 0) (nomark _))))) (pss_one ps_never) pss_nil)
      (pss_one (ps_for PassesOwn.never rfl (pi_enum (by rfl) T.b_enumerate (pa_cons (pv 3) pa_nil)) (pg_tup rfl (pgs_cons (pg_name (i := 4) sc_check_text_between.nd rfl (Or.inl rfl)) (pgs_cons (pg_name (i := 5) sc_check_text_between.nd rfl (Or.inl rfl)) pgs_nil))) (pss_one (ps_if (pt_not (pt_val (pe_cal c_fits (hr.mono (by decide)) pass0 (pa_cons (pv 2) (pa_cons (pv 5) pa_nil))))) (pss_one ps_never) pss_nil))))), ?_⟩)
  · obtain ⟨lo, hi, g, b, p, s, a, ns, rfl, _⟩ := h
    rfl
  · obtain ⟨lo, hi, g, b, p, s, a, ns, rfl, sh, sq, hl, hl2, hin, q⟩ := h
    refine ⟨_, rfl, _, rfl, hi, a, _, rfl, sq, _, rfl, ?_⟩
    have e : decide (((ns.map V.int).length : Int) ≤ hi) = true := by
      rw [List.length_map]
      exact decide_eq_true hl2
    rw [e]
    refine iteF ⟨_, rfl, a, _, rfl, .inl sq, _, rfl, _, _, rfl, rfl, _, rfl, ?_⟩
    have e2 : decide (((ns.map V.int).length : Int) < lo) = false := by
      rw [List.length_map]
      exact decide_eq_false (by omega)
    rw [e2]
    refine iteF ⟨_, rfl, a, _, rfl, sq, ?_⟩
    refine ⟨fun i m σ H1 => ∃ u v, σ = [some (.int lo), some (.int hi), some g, some (.ref a), u, v] ∧ i + m = ns.length ∧ Ex H H1, ⟨ns.length, none, none, rfl, by omega, Ex.refl H⟩, ?_⟩
    rintro i m σ H1 ⟨u, v, rfl, em, ex⟩
    have sq1 := ex_l ex sq
    by_cases hlt : i < ns.length
    · have gi : (ns.map V.int)[i]? = some (.int ns[i]) := by
        rw [List.getElem?_map, List.getElem?_eq_getElem hlt]
        rfl
      refine .inr ⟨⟨_, _, sq1, gi⟩, fun σ' H' => ∃ u v, σ' = [some (.int lo), some (.int hi), some g, some (.ref a), u, v] ∧ i + 1 + (m - 1) = ns.length ∧ Ex H H', fun σ' H' hN => ?_, fun x H' hy => ?_⟩
      · obtain ⟨u, v, e1, e2, e3⟩ := hN
        exact ⟨m - 1, by omega, u, v, e1, e2, e3⟩
      · obtain ⟨T1, y, rfl, nT, rfl, fy⟩ := hy
        obtain rfl : y = .int ns[i] := Option.some.inj ((fy _ sq1).symm.trans gi)
        have ex2 : Ex H (upd H1 T1 (.tup [.int (i : Nat), .int ns[i]])) := ex.trans (Ex.new nT)
        refine ⟨T1, _, rfl, .inl (.inl upd_same), rfl, _, _, rfl, _, _, rfl, rfl, ?_⟩
        refine ⟨_, rfl, _, rfl, g, b, p, s, _, "int", rfl, sh.ex ex2, .int _, fun r r1 r2 => ⟨r, rfl, ?_⟩⟩
        have e : r = true := by
          rw [r1 _ rfl]
          exact decide_eq_true (hin _ (List.getElem_mem hlt))
        subst e
        exact iteF ⟨_, _, rfl, by omega, ex2⟩
    · exact .inl ⟨⟨_, sq1, by rw [List.length_map]; omega⟩, q H1 ex⟩
def sp_check_text (K : PySem.W.Frag) : Sp := fun vs H Q _ => ∃ g b p s a ns, vs = [g, .ref a] ∧ IsSh K H g b p s ∧ SqL K H a (ns.map V.int) ∧ ns.length ≤ 60 ∧ InSh b ns ∧ ∀ H', Ex H H' → Q .non H'
theorem cal_check_text (T : Tx K mg) : Cal P w K mg base CX0 5 "check_text" ["shape", "numbers"] (sp_check_text K) := by
  have c_check_text_between := cal_check_tb (P := P) (w := w) (base := base) T
  refine T.d_check_text.cal sc_check_text (fun vs H Q E h => ?_) (fun _ _ _ _ _ _ us hl => match us, hl with | [_, _], _ => rfl) (fun f cdv A outer s H vs Q E hr h => ⟨_, (pss_one (ps_expr (pe_cal c_check_text_between (hr.mono (by decide)) pass0 (pa_cons pe_int (pa_cons (pe_gi T.i_MOST_NUMBERS) (pa_cons (pv 0) (pa_cons (pv 1) pa_nil))))))), ?_⟩)
  · obtain ⟨g, b, p, s, a, ns, rfl, _⟩ := h
    rfl
  · obtain ⟨g, b, p, s, a, ns, rfl, sh, sq, hl, hin, q⟩ := h
    exact ⟨_, rfl, _, rfl, 0, 60, g, b, p, s, a, ns, rfl, sh, sq, by omega, by omega, hin, q⟩
def sp_size (K : PySem.W.Frag) : Sp := fun vs H Q _ => ∃ g b p s, vs = [g] ∧ IsSh K H g b p s ∧ Q (.int (sz b p s : Nat)) H
theorem cal_size (T : Tx K mg) : Cal P w K mg base CX0 4 "size_of" ["shape"] (sp_size K) := by
  have c_check_shape := cal_check_shape (P := P) (w := w) (base := base) T
  refine T.d_size_of.cal sc_size_of (fun vs H Q E h => ?_) (fun _ _ _ _ _ _ us hl => match us, hl with | [_], _ => rfl) (fun f cdv A outer s H vs Q E hr h => ⟨_, (pss_cons (ps_expr (pe_cal c_check_shape (hr.mono (by decide)) pass0 (pa_cons (pv 0) pa_nil)))
      (pss_cons (ps_asg (pv 0) (pg_tup rfl (pgs_cons (pg_name (i := 1) sc_size_of.nd rfl (Or.inl rfl)) (pgs_cons (pg_name (i := 2) sc_size_of.nd rfl (Or.inl rfl)) (pgs_cons (pg_name (i := 3) sc_size_of.nd rfl (Or.inl rfl)) pgs_nil)))))
      (pss_cons (ps_set (i := 4) sc_size_of.nd rfl (Or.inl rfl) (pe_ifExp (pt_cmpR op_eq (pv 2) pe_str (nomark _)) pe_int pe_int))
      (pss_one (ps_ret (pe_op op_add (pe_op op_add (pe_op op_add pe_int (pv 1)) (pv 4)) (pv 3))))))), ?_⟩)
  · obtain ⟨g, b, p, s, rfl, _⟩ := h
    rfl
  · obtain ⟨g, b, p, s, rfl, sh, q⟩ := h
    refine ⟨_, rfl, g, b, p, s, rfl, sh, ?_⟩
    obtain ⟨t, rfl, sq, h1, h2, h3, h4⟩ := id sh
    refine ⟨_, rfl, t, _, rfl, sq, rfl, _, _, rfl, _, _, rfl, _, _, rfl, rfl, ?_⟩
    refine ⟨_, rfl, rfl, _, rfl, ?_⟩
    rw [no_is p]
    have fin : ∀ z : Int, z = (plen p : Nat) → Q (.int (1 + (b : Int) + z + (s : Int))) H := fun z e => by
      have e2 : 1 + (b : Int) + z + (s : Int) = ((sz b p s : Nat) : Int) := by
        unfold sz
        omega
      rw [e2]
      exact q
    cases p with
    | no => exact iteT ⟨_, rfl, _, _, rfl, rfl, _, rfl, _, _, rfl, rfl, _, rfl, _, _, rfl, rfl, fin 0 rfl⟩
    | ev => exact iteF ⟨_, rfl, _, _, rfl, rfl, _, rfl, _, _, rfl, rfl, _, rfl, _, _, rfl, rfl, fin 1 rfl⟩
    | od => exact iteF ⟨_, rfl, _, _, rfl, rfl, _, rfl, _, _, rfl, rfl, _, rfl, _, _, rfl, rfl, fin 1 rfl⟩
def sp_bits (K : PySem.W.Frag) : Sp := fun vs H Q _ => ∃ g b p s x, vs = [g, .int x] ∧ IsSh K H g b p s ∧ 0 ≤ x ∧ RetL ((bits b x).map V.int) H Q
theorem cal_bits (T : Tx K mg) : Cal P w K mg base CX0 1 "_bits_of" ["shape", "number"] (sp_bits K) := by
  refine T.d_bits_of.cal sc_bits_of (fun vs H Q E h => ?_) (fun _ _ _ _ _ _ us hl => match us, hl with | [_, _], _ => rfl) (fun f cdv A outer s H vs Q E hr h => ⟨_, (pss_one (ps_ret (pe_lc rfl sc_bits_of.nd (pi_range1 rfl T.b_range (pa_cons (pe_ix ix_tup (pv 0) pe_int (fun _ _ => rfl)) pa_nil)) (blkOk_by (own := [("at", 2)]) (N := ["shape", "number", "at"]) (sc := defScope s_bits_of) (by decide +kernel)) (fun _ _ _ _ _ => (pg_name (i := 2) sc_bits_of.nd rfl (Or.inl rfl))) (fun _ _ _ _ _ => pts_nil) (fun _ _ _ _ _ => (pe_op op_and (pe_op op_shr (pv 1) (pv 2)) pe_int))))), ?_⟩)
  · obtain ⟨g, b, p, s, x, rfl, _⟩ := h
    rfl
  · obtain ⟨g, b, p, s, x, rfl, ⟨t, rfl, sq, h1, h2, _⟩, hx, q⟩ := h
    refine ⟨_, rfl, t, _, 0, .int b, rfl, rfl, sq, rfl, b, rfl, by omega, by omega, fun D hD => ?_⟩
    refine lc_range (lo := 0) (n := (b : Int).toNat) (fun i H' => Ex H H' ∧ H' D = some (.lst ((bits i x).map V.int))) ⟨Ex.new hD, upd_same⟩ (fun i H' hi ⟨e1, e2⟩ => ?_) (fun H' ⟨e1, e2⟩ => ?_)
    · refine ⟨rfl, ?_⟩
      refine ⟨_, rfl, _, rfl, x, _, rfl, rfl, by omega, _, 1, rfl, rfl, _, e2, ?_, e1.mut hD, ?_⟩
      · rw [List.length_map, bits_len]
        exact small1000 (by omega)
      · rw [upd_same, bits_succ, List.map_append]
        have e3 : ((0 : Int) + (i : Int)).toNat = i := by omega
        have e4 : Builtin.bitAnd (x / 2 ^ ((0 : Int) + (i : Int)).toNat) 1 = x / 2 ^ i % 2 := by
          rw [e3, ← Int.fdiv_eq_ediv_of_nonneg x (Int.pow_nonneg (by decide)), Bits.bit_at, Int.fdiv_eq_ediv_of_nonneg x (Int.pow_nonneg (by decide))]
        exact congrArg (fun z => some (HO.lst (List.map V.int (bits i x) ++ [V.int z]))) e4
    · rw [Int.toNat_natCast] at e2
      exact q D H' hD e1 e2
def parV (b : Nat) (p : Pa) (x : Int) : V := match p with
  | .no => .non
  | .ev => .int ((bits b x).sum % 2)
  | .od => .int (1 - (bits b x).sum % 2)
def sp_parity (K : PySem.W.Frag) : Sp := fun vs H Q _ => ∃ g b p s x, vs = [g, .int x] ∧ IsSh K H g b p s ∧ 0 ≤ x ∧ x < 2 ^ b ∧ RetV (parV b p x) H Q
theorem cal_parity (T : Tx K mg) : Cal P w K mg base CX0 5 "parity_of" ["shape", "number"] (sp_parity K) := by
  have c_check_shape := cal_check_shape (P := P) (w := w) (base := base) T
  have c_check_number := cal_check_number (P := P) (w := w) (base := base) T
  have c_bits_of := cal_bits (P := P) (w := w) (base := base) T
  refine T.d_parity_of.cal sc_parity_of (fun vs H Q E h => ?_) (fun _ _ _ _ _ _ us hl => match us, hl with | [_, _], _ => rfl) (fun f cdv A outer s H vs Q E hr h => ⟨_, (pss_cons (ps_expr (pe_cal c_check_shape (hr.mono (by decide)) pass0 (pa_cons (pv 0) pa_nil)))
      (pss_cons (ps_expr (pe_cal c_check_number (hr.mono (by decide)) pass0 (pa_cons (pv 0) (pa_cons (pv 1) pa_nil))))
      (pss_cons (ps_set (i := 2) sc_parity_of.nd rfl (Or.inl rfl) (pe_ix ix_tup (pv 0) pe_int (fun _ _ => rfl)))
      (pss_cons (ps_if (pt_cmpR op_eq (pv 2) pe_str (nomark _)) (pss_one (ps_ret pe_non)) pss_nil)
      (pss_cons (ps_set (i := 3) sc_parity_of.nd rfl (Or.inl rfl) (pe_op op_mod (pe_callB (cr_sum rfl) (by rfl) T.b_sum (by decide +kernel) (pa_cons (pe_cal c_bits_of (hr.mono (by decide)) pass0 (pa_cons (pv 0) (pa_cons (pv 1) pa_nil))) pa_nil)) pe_int))
      (pss_one (ps_ret (pe_ifExp (pt_cmpR op_eq (pv 2) pe_str (nomark _)) (pv 3) (pe_op op_sub pe_int (pv 3)))))))))), ?_⟩)
  · obtain ⟨g, b, p, s, x, rfl, _⟩ := h
    rfl
  · obtain ⟨g, b, p, s, x, rfl, sh, hx, hx2, q⟩ := h
    refine ⟨_, rfl, g, b, p, s, rfl, sh, _, rfl, _, rfl, g, b, p, s, x, rfl, sh, hx, hx2, ?_⟩
    obtain ⟨t, rfl, sq, h1, h2, h3, h4⟩ := id sh
    refine ⟨_, rfl, t, _, 1, .str p.s, rfl, rfl, sq, rfl, _, rfl, rfl, _, rfl, ?_⟩
    rw [no_is p]
    cases p with
    | no => exact iteT (q H (Ex.refl H))
    | ev =>
      refine iteF ⟨_, rfl, _, rfl, _, b, .ev, s, x, rfl, sh, hx, fun l H1 _ e1 hl => ?_⟩
      refine ⟨l, _, rfl, sq_of hl, _, _, rfl, rfl, (by show (0 : Int) < 2; decide), _, rfl, rfl, _, rfl, ?_⟩
      have e2 := ev_is' .ev
      refine (show (if decide (V.str Pa.ev.s = V.str "even") = true then _ else _) from ?_)
      rw [e2]
      exact iteT ⟨_, rfl, q H1 e1⟩
    | od =>
      refine iteF ⟨_, rfl, _, rfl, _, b, .od, s, x, rfl, sh, hx, fun l H1 _ e1 hl => ?_⟩
      refine ⟨l, _, rfl, sq_of hl, _, _, rfl, rfl, (by show (0 : Int) < 2; decide), _, rfl, rfl, _, rfl, ?_⟩
      have e2 := ev_is' .od
      refine (show (if decide (V.str Pa.od.s = V.str "even") = true then _ else _) from ?_)
      rw [e2]
      exact iteF ⟨_, rfl, _, _, rfl, rfl, q H1 e1⟩
theorem ref_non (a : Addr) : decide (V.ref a = V.non) = false := decide_eq_false (fun h => nomatch h)
def sp_frame (K : PySem.W.Frag) : Sp := fun vs H Q _ => ∃ g b p s x, vs = [g, .int x] ∧ IsSh K H g b p s ∧ 0 ≤ x ∧ x < 2 ^ b ∧ RetL ((frm b p s x).map V.int) H Q
theorem cal_frame (T : Tx K mg) : Cal P w K mg base CX0 6 "frame_of" ["shape", "number"] (sp_frame K) := by
  have c_parity_of := cal_parity (P := P) (w := w) (base := base) T
  have c_bits_of := cal_bits (P := P) (w := w) (base := base) T
  refine T.d_frame_of.cal sc_frame_of (fun vs H Q E h => ?_) (fun _ _ _ _ _ _ us hl => match us, hl with | [_, _], _ => rfl) (fun f cdv A outer s H vs Q E hr h => ⟨_, (pss_cons (ps_set (i := 2) sc_frame_of.nd rfl (Or.inl rfl) (pe_cal c_parity_of (hr.mono (by decide)) pass0 (pa_cons (pv 0) (pa_cons (pv 1) pa_nil))))
      (pss_cons (ps_set (i := 3) sc_frame_of.nd rfl (Or.inl rfl) (pe_ifExp (pt_cmpR op_isN (pv 2) pe_non (nomark _)) (pe_lst pa_nil) (pe_lst (pa_cons (pv 2) pa_nil))))
      (pss_cons (ps_set (i := 4) sc_frame_of.nd rfl (Or.inl rfl) (pe_op op_rep (pe_lst (pa_cons pe_int pa_nil)) (pe_ix ix_tup (pv 0) pe_int (fun _ _ => rfl))))
      (pss_one (ps_ret (pe_op op_cat (pe_op op_cat (pe_op op_cat (pe_lst (pa_cons pe_int pa_nil)) (pe_cal c_bits_of (hr.mono (by decide)) pass0 (pa_cons (pv 0) (pa_cons (pv 1) pa_nil)))) (pv 3)) (pv 4))))))), ?_⟩)
  · obtain ⟨g, b, p, s, x, rfl, _⟩ := h
    rfl
  · obtain ⟨g, b, p, s, x, rfl, sh, hx, hx2, q⟩ := h
    refine ⟨_, rfl, _, rfl, g, b, p, s, x, rfl, sh, hx, hx2, fun H1 e1 => ?_⟩
    obtain ⟨t, rfl, sq, h1, h2, h3, h4⟩ := id sh
    -- parity_bits
    have rest : ∀ (H2 : Hp) (l : Addr), Ex H H2 → H2 l = some (.lst ((parL b p x).map V.int)) →
        (tSeq (tAsg (tOp rRep (tLst (tCons (tC (.int 1)) tNil)) (tOp (rIxT K) (tVar 0) (tC (.int 2)))) (gName 4))
          (tRet (tOp rCat (tOp rCat (tOp rCat (tLst (tCons (tC (.int 0)) tNil)) (tCall (sp_bits K) [] E0 (tCons (tVar 0) (tCons (tVar 1) tNil)))) (tVar 3)) (tVar 4))))
          { nx := fun _ H' => Q .non H', rt := Q } [some (.ref t), some (.int x), some (parV b p x), some (.ref l), none] H2 := by
      intro H2 l e2 hl
      refine ⟨by decide, fun a1 n1 => ⟨_, rfl, t, _, 2, .int s, rfl, rfl, ex_t (e2.trans (Ex.new n1)) sq, rfl, a1, s, _, rfl, rfl, upd_same, by omega, by omega, ?_, fun a2 n2 => ?_⟩⟩
      · show 1 * (s : Int).toNat ≤ sizeLine
        rw [Int.toNat_natCast, sizeLine_eq]
        omega
      have e3 := (e2.trans (Ex.new n1 (o := .lst [.int 1]))).trans (Ex.new n2 (o := .lst (List.replicate (s : Int).toNat [V.int 1]).flatten))
      refine ⟨by decide, fun a3 n3 => ?_⟩
      have e4 := e3.trans (Ex.new n3 (o := .lst [.int 0]))
      refine ⟨_, rfl, _, rfl, _, b, p, s, x, rfl, sh.ex e4, hx, fun a4 H5 n4 e5 h5 => ?_⟩
      have e6 := e4.trans e5
      refine ⟨a3, a4, _, _, rfl, rfl, e5 _ _ upd_same, h5, ?_, fun a5 n5 => ?_⟩
      · rw [List.length_map, bits_len, sizeLine_eq]
        show 1 + b ≤ _
        omega
      have hl2 : (upd H2 a1 (.lst [.int 1])) l = some (.lst ((parL b p x).map V.int)) := Ex.new n1 _ _ hl
      have hl3 := Ex.new n2 (o := .lst (List.replicate (s : Int).toNat [V.int 1]).flatten) _ _ hl2
      have hl4 := Ex.new n3 (o := .lst [.int 0]) _ _ hl3
      have hl5 := e5 _ _ hl4
      refine ⟨_, rfl, a5, l, _, _, rfl, rfl, upd_same, Ex.new n5 _ _ hl5, ?_, fun a6 n6 => ?_⟩
      · have := parL_len b p x
        rw [List.length_append, List.length_map, List.length_map, bits_len, sizeLine_eq]
        show 1 + b + _ ≤ _
        omega
      have hs2 : (upd (upd H2 a1 (.lst [.int 1])) a2 (.lst (List.replicate (s : Int).toNat [V.int 1]).flatten)) a2 = some (.lst (List.replicate (s : Int).toNat [V.int 1]).flatten) := upd_same
      have hs4 := Ex.new n3 (o := .lst [.int 0]) _ _ hs2
      have hs5 := e5 _ _ hs4
      have hs6 := Ex.new n5 (o := .lst ([V.int 0] ++ (bits b x).map V.int)) _ _ hs5
      have er : (List.replicate (s : Int).toNat [V.int 1]).flatten = (List.replicate s (1 : Int)).map V.int := by
        rw [Int.toNat_natCast, List.map_replicate]
        simp
      refine ⟨_, rfl, a6, a2, _, _, rfl, rfl, upd_same, Ex.new n6 _ _ hs6, ?_, fun a7 n7 => ?_⟩
      · have := parL_len b p x
        rw [er, List.length_append, List.length_append, List.length_map, List.length_map, List.length_map, bits_len, List.length_replicate, sizeLine_eq]
        show 1 + b + _ + s ≤ _
        omega
      have e7 := ((e6.trans (Ex.new n5 (o := .lst ([V.int 0] ++ (bits b x).map V.int)))).trans (Ex.new n6 (o := .lst ([V.int 0] ++ (bits b x).map V.int ++ (parL b p x).map V.int)))).trans
        (Ex.new n7 (o := .lst ([V.int 0] ++ (bits b x).map V.int ++ (parL b p x).map V.int ++ (List.replicate (s : Int).toNat [V.int 1]).flatten)))
      refine q a7 _ ?_ e7 ?_
      · exact fresh_back (((e6.trans (Ex.new n5 (o := .lst ([V.int 0] ++ (bits b x).map V.int)))).trans (Ex.new n6 (o := .lst ([V.int 0] ++ (bits b x).map V.int ++ (parL b p x).map V.int))))) n7
      · refine (upd_same).trans ?_
        rw [er]
        simp [frm, List.map_append]
    cases p with
    | no => exact ⟨_, rfl, rfl, _, rfl, Nat.zero_le _, fun l n => rest _ l (e1.trans (Ex.new n)) upd_same⟩
    | ev => exact ⟨_, rfl, rfl, _, rfl, _, rfl, (by decide : 1 ≤ sizeLine), fun l n => rest _ l (e1.trans (Ex.new n)) upd_same⟩
    | od => exact ⟨_, rfl, rfl, _, rfl, _, rfl, (by decide : 1 ≤ sizeLine), fun l n => rest _ l (e1.trans (Ex.new n)) upd_same⟩
def sp_levels (K : PySem.W.Frag) : Sp := fun vs H Q _ => ∃ g b p s a ns, vs = [g, .ref a] ∧ IsSh K H g b p s ∧ SqL K H a (ns.map V.int) ∧ ns.length ≤ 60 ∧ InSh b ns ∧ RetL ((frms b p s ns).map V.int) H Q
theorem body_levels (T : Tx K mg) : ∀ (f : Addr) (cdv : Value) (A : Around) (outer : List Env) (s : Shared) (H : Hp) (vs : List V) (Q : VK) (E : XK), Room 6 (A.deeper (envOfC "levels_of" (defScope s_levels_of) s.heap.objs.size f cdv)) → sp_levels K vs H Q E →
      ∃ t, PSs (cxOf CX0 P w K mg base ["shape", "numbers", "levels", "number"] "levels_of" (defScope s_levels_of) f cdv A outer s H E).nox (defBody s_levels_of) t ∧ t { nx := fun _ H' => Q .non H', rt := Q } (start ["shape", "numbers", "levels", "number"] vs) H := by
  have c_check_shape := cal_check_shape (P := P) (w := w) (base := base) T
  have c_check_text := cal_check_text (P := P) (w := w) (base := base) T
  have c_frame_of := cal_frame (P := P) (w := w) (base := base) T
  refine fun f cdv A outer s H vs Q E hr h => ⟨_, (pss_cons (ps_expr (pe_cal c_check_shape (hr.mono (by decide)) pass0 (pa_cons (pv 0) pa_nil)))
      (pss_cons (ps_expr (pe_cal c_check_text (hr.mono (by decide)) pass0 (pa_cons (pv 0) (pa_cons (pv 1) pa_nil))))
      (pss_cons (ps_set (i := 2) sc_levels_of.nd rfl (Or.inl rfl) (pe_lst pa_nil))
      (pss_cons (ps_for PassesOwn.never rfl (pi_list (pv 1)) (pg_name (i := 3) sc_levels_of.nd rfl (Or.inl rfl)) (pss_one (ps_expr (pe_bm PySem.F.plainAttrs_list PySem.F.slot_list_extend PySem.F.type_list_extend mt_extend (pv 2) (pa_cons (pe_cal c_frame_of (hr.mono (by decide)) pass0 (pa_cons (pv 0) (pa_cons (pv 3) pa_nil))) pa_nil)))))
      (pss_one (ps_ret (pv 2))))))), ?_⟩
  obtain ⟨g, b, p, s, a, ns, rfl, sh, sq, hl, hin, q⟩ := h
  refine ⟨_, rfl, g, b, p, s, rfl, sh, _, rfl, _, rfl, g, b, p, s, a, ns, rfl, sh, sq, hl, hin, fun H1 e1 => ?_⟩
  refine ⟨Nat.zero_le _, fun L nL => ?_⟩
  have e2 : Ex H (upd H1 L (.lst [])) := e1.trans (Ex.new nL)
  have fL : H L = none := fresh_back e1 nL
  refine ⟨_, rfl, a, rfl, ⟨_, ex_l e2 sq⟩, for_list (K := K) (a := a) (xs := ns.map V.int) (fun i σ H2 => ∃ u, σ = [some g, some (.ref a), some (.ref L), u] ∧ Ex H H2 ∧ H2 L = some (.lst ((frms b p s (ns.take i)).map V.int)))
    ⟨none, rfl, e2, upd_same⟩ (fun i σ H2 _ ⟨_, _, e, _⟩ => ex_l e sq) ?_ ?_⟩
  · rintro i y σ H2 hi ⟨u, rfl, ex, hL⟩
    obtain ⟨z, hz, rfl⟩ : ∃ z, ns[i]? = some z ∧ y = V.int z := by
      rw [List.getElem?_map] at hi
      cases e : ns[i]? with
      | none =>
        rw [e] at hi
        cases hi
      | some z =>
        rw [e] at hi
        exact ⟨z, rfl, (Option.some.inj hi).symm⟩
    have hil := (List.getElem?_eq_some_iff.mp hz).1
    have hm : z ∈ ns := List.mem_of_getElem? hz
    refine ⟨_, rfl, .inl ⟨rfl, _, sq_of hL⟩, ?_⟩
    refine ⟨_, rfl, _, rfl, g, b, p, s, z, rfl, sh.ex ex, (hin z hm).1, (hin z hm).2, fun l H3 nl e3 h3 => ?_⟩
    refine ⟨L, l, _, _, rfl, rfl, e3 _ _ hL, h3, ?_, ?_⟩
    · have h1 := frms_le b p s (ns.take i)
      have h2 := frm_le b p s z
      have h4 : (ns.take i).length ≤ 60 := by
        rw [List.length_take]
        omega
      obtain ⟨_, _, _, _, hb, _, hs⟩ := sh
      have h5 : (ns.take i).length * (2 + b + s) ≤ 60 * 13 := Nat.mul_le_mul h4 (by omega)
      rw [List.length_map, List.length_map, sizeLine_eq]
      omega
    · refine ⟨_, rfl, ?_, ?_⟩
      · exact (ex.trans e3).mut fL
      · rw [upd_same, ← List.map_append, ← frms_snoc]
        rw [List.take_add_one, hz]
        rfl
  · rintro σ H2 ⟨u, rfl, ex, hL⟩
    rw [List.length_map, List.take_length] at hL
    exact ⟨_, rfl, q L H2 fL ex hL⟩
theorem len_levels {vs H Q} {E : XK} (h : sp_levels K vs H Q E) : vs.length = (["shape", "numbers"] : List Str).length := by
  obtain ⟨g, b, p, s, a, ns, rfl, _⟩ := h
  rfl
theorem cal_levels (T : Tx K mg) : Cal P w K mg base CX0 7 "levels_of" ["shape", "numbers"] (sp_levels K) :=
  T.d_levels_of.cal sc_levels_of (fun vs H Q E h => len_levels h) (fun _ _ _ _ _ _ us hl => match us, hl with | [_, _], _ => rfl) (body_levels T)
def gK2 {α : Type} (us ws : List α) : List α := match us, ws with
  | [], [a, b] => [b, a]
  | _, _ => []
theorem rel_gK2 {vs : List V} {us : List Value} {zs : List V} {ws : List Value} (r : Vals vs us) (rz : Vals zs ws) : Vals (gK2 vs zs) (gK2 us ws) := by
  cases r with
  | cons _ _ => exact .nil
  | nil =>
    cases rz with
    | nil => exact .nil
    | cons a r1 =>
      cases r1 with
      | nil => exact .nil
      | cons b r2 =>
        cases r2 with
        | nil => exact .cons b (.cons a .nil)
        | cons _ _ => exact .nil
theorem cal_levelsK (T : Tx K mg) : CalK P w K mg base CX0 7 "levels_of" ["numbers", "shape"] ["shape", "numbers"] gK2 (sp_levels K) := by
  refine T.d_levels_of.calK gK2 (fun kV doc pm an cdv ct us ws hl => ?_) rel_gK2 sc_levels_of (fun vs H Q E h => len_levels h) (body_levels T)
  match us, ws, hl with
  | [], [a, b], _ => rfl
/-- behind so many rounds of a text -/
def itp (b : Nat) (p : Pa) (s : Nat) (ns : List Int) : Nat → Int → Int
  | 0, x => x
  | k + 1, x => pat b p s (itp b p s ns k x) ns
theorem plc_frms (b : Nat) (p : Pa) (s : Nat) : ∀ (ns : List Int) (x : Int), plc (sz b p s) s x (frms b p s ns) = pat b p s x ns
  | [], x => rfl
  | y :: ns, x => by
    have e : frms b p s (y :: ns) = frm b p s y ++ frms b p s ns := by
      unfold frms
      simp
    rw [e, plc_app, plc_frms b p s ns]
    rfl
theorem itp_bd {b : Nat} {p : Pa} {s : Nat} (hs : 1 ≤ s) {ns : List Int} {x : Int} (h0 : 0 ≤ x) (h1 : x < (sz b p s : Nat)) : ∀ k, 0 ≤ itp b p s ns k x ∧ itp b p s ns k x < (sz b p s : Nat)
  | 0 => ⟨h0, h1⟩
  | k + 1 => by
    have h := itp_bd hs (ns := ns) h0 h1 k
    exact pat_bd hs h.1 h.2
theorem itp_0 {b : Nat} {p : Pa} {s : Nat} (hs : 1 ≤ s) (ns : List Int) : ∀ k, itp b p s ns k 0 = 0
  | 0 => rfl
  | k + 1 => by
    show pat b p s (itp b p s ns k 0) ns = 0
    rw [itp_0 hs ns k, pat_0 hs]
theorem itp_stay {b : Nat} {p : Pa} {s : Nat} (hs : 1 ≤ s) {ns : List Int} {x : Int} {k : Nat} (h : itp b p s ns k x = 0) : ∀ m, itp b p s ns (k + m) x = 0
  | 0 => h
  | m + 1 => by
    show pat b p s (itp b p s ns (k + m) x) ns = 0
    rw [itp_stay hs h m, pat_0 hs]
theorem itp_same {b : Nat} {p : Pa} {s : Nat} {ns : List Int} {x : Int} {i j : Nat} (h : itp b p s ns i x = itp b p s ns j x) : ∀ m, itp b p s ns (i + m) x = itp b p s ns (j + m) x
  | 0 => h
  | m + 1 => by
    show pat b p s (itp b p s ns (i + m) x) ns = pat b p s (itp b p s ns (j + m) x) ns
    rw [itp_same h m]
theorem holes : ∀ (n : Nat) (f : Nat → Nat), (∀ i, i ≤ n → f i < n) → ∃ i j, i < j ∧ j ≤ n ∧ f i = f j
  | 0, f, h => absurd (h 0 (Nat.le_refl _)) (Nat.not_lt_zero _)
  | n + 1, f, h => by
    by_cases c : ∃ i, i ≤ n ∧ f i = f (n + 1)
    · obtain ⟨i, hi, e⟩ := c
      exact ⟨i, n + 1, by omega, Nat.le_refl _, e⟩
    · have c : ∀ i, i ≤ n → f i ≠ f (n + 1) := fun i hi e => c ⟨i, hi, e⟩
      have hN := h (n + 1) (Nat.le_refl _)
      obtain ⟨i, j, hij, hj, e⟩ := holes n (fun i => if f i = n then f (n + 1) else f i) (fun i hi => by
        have h1 := h i (by omega)
        have h2 := c i hi
        show (if f i = n then f (n + 1) else f i) < n
        split <;> omega)
      refine ⟨i, j, hij, by omega, ?_⟩
      have h2 := c i (by omega)
      have h3 := c j hj
      split at e <;> split at e <;> omega
/-- one more round than there are places tells nothing new -/
theorem itp_end {b : Nat} {p : Pa} {s : Nat} (hs : 1 ≤ s) {ns : List Int} {x : Int} (h0 : 0 ≤ x) (h1 : x < (sz b p s : Nat)) {m : Nat} (h : itp b p s ns m x = 0) : itp b p s ns (sz b p s) x = 0 := by
  refine Classical.byContradiction fun no => ?_
  obtain ⟨i, j, hij, hj, e⟩ := holes (sz b p s) (fun k => (itp b p s ns k x).toNat) (fun k _ => by
    have := itp_bd hs (ns := ns) h0 h1 k
    show (itp b p s ns k x).toNat < sz b p s
    omega)
  have bi := itp_bd hs (ns := ns) h0 h1 i
  have bj := itp_bd hs (ns := ns) h0 h1 j
  have e2 : itp b p s ns i x = itp b p s ns j x := by
    have : (itp b p s ns i x).toNat = (itp b p s ns j x).toNat := e
    omega
  -- never 0, by the number of rounds
  have never : ∀ N k, k ≤ N → itp b p s ns k x ≠ 0 := by
    intro N
    induction N with
    | zero =>
      intro k hk hz
      have := itp_stay hs hz (sz b p s - k)
      rw [show k + (sz b p s - k) = sz b p s by omega] at this
      exact no this
    | succ N ih =>
      intro k hk hz
      by_cases hkn : k ≤ sz b p s
      · have := itp_stay hs hz (sz b p s - k)
        rw [show k + (sz b p s - k) = sz b p s by omega] at this
        exact no this
      · have e3 := itp_same e2 (k - j)
        rw [show j + (k - j) = k by omega, hz] at e3
        exact ih (i + (k - j)) (by omega) e3
  exact never m m (Nat.le_refl _) h
theorem itp_turn (b : Nat) (p : Pa) (s : Nat) (A B : List Int) (y : Int) : ∀ k, itp b p s (B ++ A) (k + 1) y = pat b p s (itp b p s (A ++ B) k (pat b p s y B)) A
  | 0 => by
    show pat b p s y (B ++ A) = pat b p s (pat b p s y B) A
    rw [pat_app]
  | k + 1 => by
    show pat b p s (itp b p s (B ++ A) (k + 1) y) (B ++ A) = pat b p s (pat b p s (itp b p s (A ++ B) k (pat b p s y B)) (A ++ B)) A
    rw [itp_turn b p s A B y k, pat_app, pat_app]
/-- the places that last -/
def lpl (b : Nat) (p : Pa) (s : Nat) (ns : List Int) : List Int := (List.range (sz b p s)).filterMap fun i : Nat => if itp b p s ns (sz b p s) (i : Int) = 0 then none else some (i : Int)
theorem lpl_nil {b : Nat} {p : Pa} {s : Nat} {ns : List Int} : lpl b p s ns = [] ↔ ∀ i : Nat, i < sz b p s → itp b p s ns (sz b p s) (i : Int) = 0 := by
  unfold lpl
  rw [List.filterMap_eq_nil_iff]
  constructor
  · intro h i hi
    have := h i (List.mem_range.mpr hi)
    split at this
    · assumption
    · cases this
  · intro h i hi
    rw [if_pos (h i (List.mem_range.mp hi))]
theorem lpl_turn {b : Nat} {p : Pa} {s : Nat} (hs : 1 ≤ s) {A B : List Int} (h : lpl b p s (A ++ B) = []) : lpl b p s (B ++ A) = [] := by
  rw [lpl_nil] at h ⊢
  intro i hi
  have bd := pat_bd (b := b) (p := p) hs (ns := B) (show (0 : Int) ≤ (i : Int) by omega) (by omega)
  have hz := h (pat b p s i B).toNat (by omega)
  rw [Int.toNat_of_nonneg bd.1] at hz
  refine itp_end hs (by omega) (by omega) (m := sz b p s + 1) ?_
  rw [itp_turn, hz, pat_0 hs]
theorem lpl_turn_iff {b : Nat} {p : Pa} {s : Nat} (hs : 1 ≤ s) (A B : List Int) : lpl b p s (A ++ B) = [] ↔ lpl b p s (B ++ A) = [] := ⟨lpl_turn hs, lpl_turn hs⟩
/-- a comprehension over enumerate of a list of integers -/
theorem lcE {K : PySem.W.Frag} {a : Addr} {ns : List Int} {g : TG} {tt : TT} {te : TE} {vs : List Nat} {σ : L2.St} {H : Hp} {D : Addr} {Qd : Hp → Prop} (hD : H D = none) (sq : SqL K H a (ns.map V.int)) (hn : ns.length ≤ 100000) (f : Nat → Option Int)
    (hs : ∀ (i : Nat) (x : Int) (U : Addr) (H' : Hp), ns[i]? = some x → Ex H H' → H' U = none → ∀ (Kt : VK) (Kf : Hp → Prop), (∀ y H4, f i = some y → Ex (L2.upd H' U (.tup [.int (i : Nat), .int x])) H4 → Kt (.int y) H4) → (∀ H3, f i = none → Ex (L2.upd H' U (.tup [.int (i : Nat), .int x])) H3 → Kf H3) →
      g (.ref U) (wipe σ vs) (L2.upd H' U (.tup [.int (i : Nat), .int x])) fun σ2 H2 => wipe σ2 vs = wipe σ vs ∧ tt σ2 H2 fun b H3 => if b = true then te σ2 H3 Kt else Kf H3)
    (hd : ∀ H', Ex H H' → H' D = some (.lst (((List.range ns.length).filterMap f).map V.int)) → Qd H') :
    ∃ W : Nat → Nat → Hp → Prop, (∃ m, W 0 m (L2.upd H D (.lst []))) ∧ ∀ i m H, W i m H →
      ((Ite K a).stop i H ∧ Qd H) ∨ ((Ite K a).go i H ∧ ∃ Nx : Hp → Prop, (∀ H', Nx H' → ∃ m', m' < m ∧ W (i + 1) m' H') ∧ ∀ x H', (Ite K a).yld i H x H' → g x (wipe σ vs) H' fun σ2 H2 => wipe σ2 vs = wipe σ vs ∧ tt σ2 H2 fun b H3 =>
        if b = true then te σ2 H3 fun y H4 => ∃ acc, H4 D = some (.lst acc) ∧ acc.length < sizeLine ∧ Nx (L2.upd H4 D (.lst (acc ++ [y]))) else Nx H3) := by
  refine ⟨fun i m H' => m + i = ns.length ∧ Ex H H' ∧ H' D = some (.lst (((List.range i).filterMap f).map V.int)), ⟨ns.length, by omega, Ex.new hD, upd_same⟩, ?_⟩
  rintro i m H' ⟨e, ex, hL⟩
  have sq2 := ex_l ex sq
  by_cases lt : i < ns.length
  · have hx : ns[i]? = some ns[i] := List.getElem?_eq_getElem lt
    have hv : (ns.map V.int)[i]? = some (.int ns[i]) := by
      rw [List.getElem?_map, hx]
      rfl
    refine .inr ⟨⟨_, _, sq2, hv⟩, fun H2 => ∃ m', m' < m ∧ m' + (i + 1) = ns.length ∧ Ex H H2 ∧ H2 D = some (.lst (((List.range (i + 1)).filterMap f).map V.int)), fun H2 h => h, ?_⟩
    intro v H2 y
    obtain ⟨U, x, rfl, nU, rfl, fx⟩ := y
    have ey := fx _ sq2
    rw [hv] at ey
    obtain rfl := Option.some.inj ey
    have DU : D ≠ U := fun c => by rw [← c, hL] at nU; cases nU
    have hL2 : (L2.upd H' U (.tup [.int (i : Nat), .int ns[i]])) D = some (.lst (((List.range i).filterMap f).map V.int)) := by
      rw [upd_ne DU]
      exact hL
    have e2 := ex.trans (Ex.new nU (o := .tup [.int (i : Nat), .int ns[i]]))
    refine hs i _ U H' hx ex nU _ _ (fun y H4 fy e4 => ?_) fun H3 fy e3 => ?_
    · refine ⟨_, e4 _ _ hL2, ?_, m - 1, by omega, by omega, (e2.trans e4).mut hD, ?_⟩
      · have h1 := List.length_filterMap_le f (List.range i)
        rw [List.length_range] at h1
        rw [List.length_map]
        exact Nat.lt_of_le_of_lt (show _ ≤ 100000 by omega) (by decide)
      · rw [upd_same, List.range_succ, List.filterMap_append, List.map_append, List.filterMap_cons, fy]
        rfl
    · refine ⟨m - 1, by omega, by omega, e2.trans e3, ?_⟩
      rw [e3 _ _ hL2, List.range_succ, List.filterMap_append, List.map_append, List.filterMap_cons, fy]
      simp
  · obtain rfl : i = ns.length := by omega
    refine .inl ⟨⟨_, sq2, by rw [List.length_map]; exact Nat.le_refl _⟩, hd H' ex hL⟩
end
end LW
namespace LW
open PySem PySem.Spec PyProof.Rows L2 Evl SB
section
variable {P : Program} {w : World} {K : PySem.W.Frag} {mg : Str → Option Value} {base : Heap}
def sp_pafter (K : PySem.W.Frag) : Sp := fun vs H Q _ => ∃ g b p s pl lv, vs = [g, .int pl, .int lv] ∧ IsSh K H g b p s ∧ Q (.int (stp (sz b p s) s pl lv)) H
theorem cal_pafter (T : Tx K mg) : Cal P w K mg base CX0 5 "place_after" ["shape", "place", "level"] (sp_pafter K) := by
  have c_size_of := cal_size (P := P) (w := w) (base := base) T
  refine T.d_place_after.cal sc_place_after (fun vs H Q E h => ?_) (fun _ _ _ _ _ _ us hl => match us, hl with | [_, _, _], _ => rfl) (fun f cdv A outer s H vs Q E hr h => ⟨_, (pss_cons (ps_if (pt_cmpR op_eq (pv 1) (pe_gi T.i_WAITING) (nomark _)) (pss_one (ps_ret (pe_ifExp (pt_cmpR op_eq (pv 2) pe_int (nomark _)) pe_int (pe_gi T.i_WAITING)))) pss_nil)
      (pss_cons (ps_if (pt_cmpR op_eq (pv 1) pe_int (nomark _)) (pss_one (ps_ret (pe_ifExp (pt_cmpR op_eq (pv 2) pe_int (nomark _)) pe_int pe_int))) pss_nil)
      (pss_cons (ps_set (i := 3) sc_place_after.nd rfl (Or.inl rfl) (pe_cal c_size_of (hr.mono (by decide)) pass0 (pa_cons (pv 0) pa_nil)))
      (pss_cons (ps_if (PW.pt (pw_and (pt_cmpR op_eq (pv 2) pe_int (nomark _)) (pw_and1 (pt_cmpR op_ge (pv 1) (pe_op op_sub (pv 3) (pe_ix ix_tup (pv 0) pe_int (fun _ _ => rfl))) (nomark _))))) (pss_one (ps_ret (pe_gi T.i_WAITING))) pss_nil)
      (pss_one (ps_ret (pe_op op_mod (pe_op op_add (pv 1) pe_int) (pv 3)))))))), ?_⟩)
  · obtain ⟨g, b, p, s, pl, lv, rfl, _⟩ := h
    rfl
  · obtain ⟨g, b, p, s, pl, lv, rfl, sh, q⟩ := h
    have z := sz_bd sh
    obtain ⟨t, rfl, sq, _⟩ := id sh
    unfold stp at q
    refine ⟨_, rfl, rfl, _, rfl, ite2 (fun h => ?_) (fun h => ?_)⟩
    · have h : pl = -1 := by
        have := of_decide_eq_true h
        injection this
      rw [if_pos h] at q
      refine ⟨_, rfl, rfl, _, rfl, ite2 (fun h2 => ?_) (fun h2 => ?_)⟩
      · have h2 : lv = 1 := by
          have := of_decide_eq_true h2
          injection this
        rw [if_pos h2] at q
        exact q
      · have h2 : ¬ lv = 1 := fun c => h2 (decide_eq_true (by rw [c]))
        rw [if_neg h2] at q
        exact q
    · have h : ¬ pl = -1 := fun c => h (decide_eq_true (by rw [c]))
      rw [if_neg h] at q
      refine ⟨_, rfl, rfl, _, rfl, ite2 (fun h1 => ?_) (fun h1 => ?_)⟩
      · have h1 : pl = 0 := by
          have := of_decide_eq_true h1
          injection this
        rw [if_pos h1] at q
        refine ⟨_, rfl, rfl, _, rfl, ite2 (fun h2 => ?_) (fun h2 => ?_)⟩
        · have h2 : lv = 1 := by
            have := of_decide_eq_true h2
            injection this
          rw [if_pos h2] at q
          exact q
        · have h2 : ¬ lv = 1 := fun c => h2 (decide_eq_true (by rw [c]))
          rw [if_neg h2] at q
          exact q
      · have h1 : ¬ pl = 0 := fun c => h1 (decide_eq_true (by rw [c]))
        rw [if_neg h1] at q
        refine ⟨_, rfl, .ref t, b, p, s, rfl, sh, ?_⟩
        refine ⟨_, rfl, rfl, _, rfl, ite2 (fun h2 => ?_) (fun h2 => ?_)⟩
        · have h2 : lv = 0 := by
            have := of_decide_eq_true h2
            injection this
          refine ⟨_, rfl, _, rfl, _, rfl, t, _, 2, .int s, rfl, rfl, sq, rfl, _, _, rfl, rfl, _, _, rfl, rfl, _, rfl, ite2 (fun h3 => ?_) (fun h3 => ?_)⟩
          · have h3 : pl ≥ ((sz b p s : Nat) : Int) - s := of_decide_eq_true h3
            rw [if_pos ⟨h2, h3⟩] at q
            exact q
          · have h3 : ¬ pl ≥ ((sz b p s : Nat) : Int) - s := fun c => h3 (decide_eq_true c)
            rw [if_neg fun c => h3 c.2] at q
            exact ⟨_, rfl, _, _, rfl, rfl, _, rfl, _, _, rfl, rfl, (by omega), q⟩
        · have h2 : ¬ lv = 0 := fun c => h2 (decide_eq_true (by rw [c]))
          rw [if_neg fun c => h2 c.1] at q
          exact ⟨_, rfl, _, _, rfl, rfl, _, rfl, _, _, rfl, rfl, (by omega), q⟩
def sp_pall (K : PySem.W.Frag) : Sp := fun vs H Q _ => ∃ g b p s pl a ls, vs = [g, .int pl, .ref a] ∧ IsSh K H g b p s ∧ SqL K H a (ls.map V.int) ∧ Q (.int (plc (sz b p s) s pl ls)) H
theorem cal_pall (T : Tx K mg) : Cal P w K mg base CX0 6 "place_after_all" ["shape", "place", "levels"] (sp_pall K) := by
  have c_place_after := cal_pafter (P := P) (w := w) (base := base) T
  refine T.d_place_after_all.cal sc_place_after_all (fun vs H Q E h => ?_) (fun _ _ _ _ _ _ us hl => match us, hl with | [_, _, _], _ => rfl) (fun f cdv A outer s H vs Q E hr h => ⟨_, (pss_cons (ps_for PassesOwn.never rfl (pi_list (pv 2)) (pg_name (i := 3) sc_place_after_all.nd rfl (Or.inl rfl)) (pss_one (ps_set (i := 1) sc_place_after_all.nd rfl (Or.inl rfl) (pe_cal c_place_after (hr.mono (by decide)) pass0 (pa_cons (pv 0) (pa_cons (pv 1) (pa_cons (pv 3) pa_nil)))))))
      (pss_one (ps_ret (pv 1)))), ?_⟩)
  · obtain ⟨g, b, p, s, pl, a, ls, rfl, _⟩ := h
    rfl
  · obtain ⟨g, b, p, s, pl, a, ls, rfl, sh, sq, q⟩ := h
    refine ⟨_, rfl, a, rfl, ⟨_, sq⟩, for_list (K := K) (a := a) (xs := ls.map V.int) (fun i σ H1 => ∃ u, σ = [some g, some (.int (plc (sz b p s) s pl (ls.take i))), some (.ref a), u] ∧ H1 = H) ⟨none, rfl, rfl⟩ (fun i σ H1 _ ⟨_, _, e⟩ => by rw [e]; exact sq) ?_ ?_⟩
    · rintro i y σ H1 hy ⟨u, rfl, rfl⟩
      obtain ⟨l, hl, rfl⟩ := ints_at hy
      refine ⟨_, rfl, _, rfl, _, rfl, g, b, p, s, _, l, rfl, sh, some (.int l), ?_, rfl⟩
      rw [plc_succ hl]
      rfl
    · rintro σ H1 ⟨u, rfl, rfl⟩
      rw [List.length_map, List.take_length]
      exact ⟨_, rfl, q⟩
theorem fm_some {α β : Type} (f : α → β) (l : List α) : (l.filterMap fun i => some (f i)) = l.map f := by
  rw [show (fun i => some (f i)) = some ∘ f from rfl, List.filterMap_eq_map]
def sp_pb (K : PySem.W.Frag) : Sp := fun vs H Q _ => ∃ g b p s a ns, vs = [g, .ref a] ∧ IsSh K H g b p s ∧ SqL K H a (ns.map V.int) ∧ ns.length ≤ 60 ∧ InSh b ns ∧ RetL (((List.range (sz b p s)).map fun i : Nat => pat b p s (i : Int) ns).map V.int) H Q
theorem cal_pb (T : Tx K mg) : Cal P w K mg base CX0 8 "_places_behind" ["shape", "numbers"] (sp_pb K) := by
  have c_levels_of := cal_levels (P := P) (w := w) (base := base) T
  have c_size_of := cal_size (P := P) (w := w) (base := base) T
  have c_place_after_all := cal_pall (P := P) (w := w) (base := base) T
  refine T.d_places_behind.cal sc_places_behind (fun vs H Q E h => ?_) (fun _ _ _ _ _ _ us hl => match us, hl with | [_, _], _ => rfl) (fun f cdv A outer s H vs Q E hr h => ⟨_, (pss_cons (ps_set (i := 2) sc_places_behind.nd rfl (Or.inr rfl) (pe_cal c_levels_of (hr.mono (by decide)) pass0 (pa_cons (pv 0) (pa_cons (pv 1) pa_nil))))
      (pss_one (ps_ret (pe_lc rfl sc_places_behind.nd (pi_range1 rfl T.b_range (pa_cons (pe_cal c_size_of (hr.mono (by decide)) pass0 (pa_cons (pv 0) pa_nil)) pa_nil)) (blkOk_by (own := [("place", 3)]) (N := ["shape", "numbers", "levels", "place"]) (sc := defScope s_places_behind) (by decide +kernel)) (fun _ _ _ _ _ => (pg_name (i := 3) sc_places_behind.nd rfl (Or.inl rfl))) (fun _ _ _ _ _ => pts_nil) (fun _ _ _ _ _ => (pe_cal c_place_after_all (hr.mono (by decide)) pass0 (pa_cons (pv 0) (pa_cons (pv 3) (pa_cons (pv 2) pa_nil))))))))), ?_⟩)
  · obtain ⟨g, b, p, s, a, ns, rfl, _⟩ := h
    rfl
  · obtain ⟨g, b, p, s, a, ns, rfl, sh, sq, hl, hin, q⟩ := h
    have z := sz_bd sh
    refine ⟨_, rfl, _, rfl, g, b, p, s, a, ns, rfl, sh, sq, hl, hin, fun L H1 nL e1 hL => ?_⟩
    refine ⟨_, rfl, g, b, p, s, rfl, sh.ex e1, _, rfl, by omega, by omega, fun D nD => ?_⟩
    refine lcR RI.lasts nD (by omega) (fun i : Nat => some (pat b p s (i : Int) ns)) (fun i H3 hi e3 Kt Kf kt kf => ?_) (fun H3 xs e3 hx lr => ?_)
    · refine ⟨rfl, ?_⟩
      refine ⟨_, rfl, _, rfl, _, rfl, g, b, p, s, _, L, _, rfl, (sh.ex e1).ex e3, sq_of (e3 _ _ hL), ?_⟩
      rw [plc_frms, Int.zero_add]
      exact kt _ _ _ rfl (Ex.refl _) rfl
    · obtain rfl := lr.ints
      rw [fm_some, Int.toNat_natCast] at hx
      exact q D H3 (fresh_back e1 nD) (e1.trans e3) hx
def sp_last (K : PySem.W.Frag) : Sp := fun vs H Q _ => ∃ g b p s a ns, vs = [g, .ref a] ∧ IsSh K H g b p s ∧ SqL K H a (ns.map V.int) ∧ 1 ≤ ns.length ∧ ns.length ≤ 8 ∧ InSh b ns ∧ RetL ((lpl b p s ns).map V.int) H Q
theorem len_last {vs H Q} {E : XK} (h : sp_last K vs H Q E) : vs.length = (["shape", "numbers"] : List Str).length := by
  obtain ⟨g, b, p, s, a, ns, rfl, _⟩ := h
  rfl
theorem body_last (T : Tx K mg) : ∀ (f : Addr) (cdv : Value) (A : Around) (outer : List Env) (s : Shared) (H : Hp) (vs : List V) (Q : VK) (E : XK), Room 8 (A.deeper (envOfC "lasting_places" (defScope s_lasting_places) s.heap.objs.size f cdv)) → sp_last K vs H Q E →
      ∃ t, PSs (cxOf CX0 P w K mg base ["shape", "numbers", "behind", "places", "_", "begin", "place"] "lasting_places" (defScope s_lasting_places) f cdv A outer s H E).nox (defBody s_lasting_places) t ∧ t { nx := fun _ H' => Q .non H', rt := Q } (start ["shape", "numbers", "behind", "places", "_", "begin", "place"] vs) H := by
  have c_check_shape := cal_check_shape (P := P) (w := w) (base := base) T
  have c_check_text_between := cal_check_tb (P := P) (w := w) (base := base) T
  have c_places_behind := cal_pb (P := P) (w := w) (base := base) T
  refine fun f cdv A outer s H vs Q E hr h => ⟨_, (pss_cons (ps_expr (pe_cal c_check_shape (hr.mono (by decide)) pass0 (pa_cons (pv 0) pa_nil)))
      (pss_cons (ps_expr (pe_cal c_check_text_between (hr.mono (by decide)) pass0 (pa_cons pe_int (pa_cons (pe_gi T.i_MOST_REPEATED) (pa_cons (pv 0) (pa_cons (pv 1) pa_nil))))))
      (pss_cons (ps_set (i := 2) sc_lasting_places.nd rfl (Or.inr rfl) (pe_cal c_places_behind (hr.mono (by decide)) pass0 (pa_cons (pv 0) (pa_cons (pv 1) pa_nil))))
      (pss_cons (ps_set (i := 3) sc_lasting_places.nd rfl (Or.inl rfl) (pe_listRg rfl (by rfl) T.b_list (prg_1 (by rfl) T.b_range (pe_callB call_len_seq (by rfl) T.b_len (by decide +kernel) (pa_cons (pv 2) pa_nil)))))
      (pss_cons (ps_for PassesOwn.never rfl (pi_list (pv 2)) (pg_name (i := 4) sc_lasting_places.nd rfl (Or.inl rfl)) (pss_one (ps_setLc (i := 3) rfl sc_lasting_places.nd rfl rfl (sw_true rfl rfl rfl (by decide +kernel)) (pi_list (pv 3)) (blkOk_by (own := [("place", 6)]) (N := ["shape", "numbers", "behind", "places", "_", "begin", "place"]) (sc := defScope s_lasting_places) (by decide +kernel)) (fun _ _ _ _ _ => (pg_name (i := 6) sc_lasting_places.nd rfl (Or.inl rfl))) (fun _ _ _ _ _ => pts_nil) (fun _ _ _ _ _ => (pe_ix (ixL_K (K0 := K) rfl) (pv 2) (pv 6) (fun _ _ => rfl))))))
      (pss_one (ps_ret (pe_lc rfl sc_lasting_places.nd (pi_enum (by rfl) T.b_enumerate (pa_cons (pv 3) pa_nil)) (blkOk_by (own := [("begin", 5), ("place", 6)]) (N := ["shape", "numbers", "behind", "places", "_", "begin", "place"]) (sc := defScope s_lasting_places) (by decide +kernel)) (fun _ _ _ _ _ => (pg_tupK (K0 := K) (n0 := 2) rfl rfl rfl (pgs_cons (pg_name (i := 5) sc_lasting_places.nd rfl (Or.inl rfl)) (pgs_cons (pg_name (i := 6) sc_lasting_places.nd rfl (Or.inl rfl)) pgs_nil)))) (fun _ _ _ _ _ => (pts_one (pt_cmpR op_ne (pv 6) pe_int (nomark _)))) (fun _ _ _ _ _ => (pv 5)))))))))), ?_⟩
  obtain ⟨g, b, p, s, a, ns, rfl, sh, sq, h1, hl, hin, q⟩ := h
  obtain ⟨b1, b9, s1, s2, z1, z13⟩ := sz_bd sh
  refine ⟨_, rfl, g, b, p, s, rfl, sh, ?_⟩
  refine ⟨_, rfl, _, rfl, _, _, g, b, p, s, a, ns, rfl, sh, sq, by omega, by omega, hin, fun H1 e1 => ?_⟩
  refine ⟨_, rfl, _, rfl, g, b, p, s, a, ns, rfl, sh.ex e1, ex_l e1 sq, by omega, hin, fun B H2 nB e2 hB => ?_⟩
  have e12 := e1.trans e2
  refine ⟨_, rfl, B, _, rfl, .inl (sq_of hB), ?_⟩
  rw [List.length_map, List.length_map, List.length_range]
  refine ⟨_, rfl, RgOk.of_le (by omega) (by omega) (by omega) (by omega), fun L nL => ?_⟩
  have eL : rgV 0 ((sz b p s : Nat) : Int) = ((List.range (sz b p s)).map fun k : Nat => itp b p s ns 0 (k : Int)).map V.int := by
    unfold rgV
    rw [List.map_map, Int.sub_zero, Int.toNat_natCast]
    refine List.map_congr_left fun k _ => ?_
    rw [Int.zero_add]
    rfl
  rw [eL]
  have hL0 : (upd H2 L (.lst (((List.range (sz b p s)).map fun k : Nat => itp b p s ns 0 (k : Int)).map V.int))) L = some (.lst (((List.range (sz b p s)).map fun k : Nat => itp b p s ns 0 (k : Int)).map V.int)) := upd_same
  have e3 := Ex.new nL (o := .lst (((List.range (sz b p s)).map fun k : Nat => itp b p s ns 0 (k : Int)).map V.int))
  generalize upd H2 L (.lst (((List.range (sz b p s)).map fun k : Nat => itp b p s ns 0 (k : Int)).map V.int)) = H3 at hL0 e3
  have hB3 := e3 _ _ hB
  refine ⟨_, rfl, B, rfl, ⟨_, sq_of hB3⟩, for_list (K := K) (a := B) (xs := ((List.range (sz b p s)).map fun i : Nat => pat b p s (i : Int) ns).map V.int) (fun i σ H4 => ∃ l u, σ = [some g, some (.ref a), some (.ref B), some (.ref l), u, none, none] ∧ Ex H3 H4 ∧ H4 l = some (.lst (((List.range (sz b p s)).map fun k : Nat => itp b p s ns i (k : Int)).map V.int)))
    ⟨L, none, rfl, Ex.refl _, hL0⟩ (fun i σ H4 _ ⟨_, _, _, e, _⟩ => sq_of (e _ _ hB3)) ?_ ?_⟩
  · rintro i y σ H4 hy ⟨l, u, rfl, e4, hl4⟩
    refine ⟨_, rfl, l, rfl, ⟨_, sq_of hl4⟩, fun D nD => ?_⟩
    refine lcL RI.lasts RI.lasts nD (sq_of hl4) (LR.of_ints _) (by simp; omega) (fun x => some (pat b p s x ns)) (fun k x c H5 hc e5 r0 Kt Kf kt kf => ?_) (fun H5 ys e5 hy5 lr => ?_)
    · cases (show x = .int c from r0)
      rw [List.getElem?_map] at hc
      have hk : k < sz b p s := by
        refine Classical.byContradiction fun no => ?_
        rw [List.getElem?_eq_none (by simp; omega)] at hc
        cases hc
      rw [List.getElem?_range hk] at hc
      obtain rfl := Option.some.inj hc
      have bd := itp_bd (b := b) (p := p) s1 (ns := ns) (show (0 : Int) ≤ (k : Int) by omega) (by omega) i
      refine ⟨rfl, ?_⟩
      refine ⟨_, rfl, _, rfl, B, _, _, _, rfl, rfl, sq_of (e5 _ _ (e4 _ _ hB3)), ?_, kt _ _ _ rfl (Ex.refl _) rfl⟩
      obtain ⟨j, hj⟩ : ∃ j : Nat, itp b p s ns i (k : Int) = (j : Int) := ⟨_, (Int.toNat_of_nonneg bd.1).symm⟩
      dsimp only
      rw [hj]
      refine atI_nat ?_
      rw [List.getElem?_map, List.getElem?_map, List.getElem?_range (by omega)]
      rfl
    · obtain rfl := lr.ints
      have ee : ((List.range (sz b p s)).map fun k : Nat => itp b p s ns i (k : Int)).map (fun x => pat b p s x ns) = (List.range (sz b p s)).map fun k : Nat => itp b p s ns (i + 1) (k : Int) := by
        rw [List.map_map]
        rfl
      rw [fm_some, ee] at hy5
      exact ⟨D, some y, rfl, e4.trans e5, hy5⟩
  rintro σ H4 ⟨l, u, rfl, e4, hl4⟩
  rw [List.length_map, List.length_map, List.length_range] at hl4
  refine ⟨_, rfl, l, _, rfl, sq_of hl4, fun D nD => ?_⟩
  refine lcE nD (sq_of hl4) (by simp; omega) (fun k => if itp b p s ns (sz b p s) (k : Int) = 0 then none else some (k : Int)) (fun k x U H5 hc e5 nU Kt Kf kt kf => ?_) (fun H5 e5 hy5 => ?_)
  · rw [List.getElem?_map] at hc
    have hk : k < sz b p s := by
      refine Classical.byContradiction fun no => ?_
      rw [List.getElem?_eq_none (by simp; omega)] at hc
      cases hc
    rw [List.getElem?_range hk] at hc
    obtain rfl := Option.some.inj hc
    refine ⟨U, _, rfl, st_of upd_same, rfl, _, _, rfl, _, _, rfl, rfl, rfl, ?_⟩
    refine ⟨_, rfl, rfl, _, rfl, ite2 (fun h => ?_) (fun h => ?_)⟩
    · have h : ¬ itp b p s ns (sz b p s) (k : Int) = 0 := fun c => by
        have h2 : (!decide (V.int (itp b p s ns (sz b p s) (k : Int)) = V.int 0)) = true := h
        rw [c] at h2
        cases h2
      exact ⟨_, rfl, kt _ _ (if_neg h) (Ex.refl _)⟩
    · have h : itp b p s ns (sz b p s) (k : Int) = 0 := Classical.byContradiction fun c => h (by
        show (!decide (V.int (itp b p s ns (sz b p s) (k : Int)) = V.int 0)) = true
        rw [decide_eq_false (fun e => c (by injection e))]
        rfl)
      exact kf _ (if_pos h) (Ex.refl _)
  rw [List.length_map, List.length_range] at hy5
  exact q D H5 (fresh_back ((e12.trans e3).trans e4) nD) (((e12.trans e3).trans e4).trans e5) hy5
theorem cal_last (T : Tx K mg) : Cal P w K mg base CX0 9 "lasting_places" ["shape", "numbers"] (sp_last K) :=
  T.d_lasting_places.cal sc_lasting_places (fun vs H Q E h => len_last h) (fun _ _ _ _ _ _ us hl => match us, hl with | [_, _], _ => rfl) (body_last T)
theorem cal_lastK (T : Tx K mg) : CalK P w K mg base CX0 9 "lasting_places" ["numbers", "shape"] ["shape", "numbers"] (gPm [1, 0]) (sp_last K) := by
  refine T.d_lasting_places.calK (gPm [1, 0]) (fun kV doc pm an cdv ct us ws hl => ?_) (rel_gPm _) sc_lasting_places (fun vs H Q E h => len_last h) (body_last T)
  match us, ws, hl with
  | [], [a, b], _ => rfl
end
end LW
namespace LW
open PySem PySem.Spec PyProof.Rows L2 Evl SB
section
variable {P : Program} {w : World} {K : PySem.W.Frag} {mg : Str → Option Value} {base : Heap}
def sp_tank (K : PySem.W.Frag) : Sp := fun vs H Q _ => ∃ (a : Addr) (ns : List Int) (i : Nat), vs = [.ref a, .int (i : Nat)] ∧ SqL K H a (ns.map V.int) ∧ i ≤ 1000 ∧ ∀ l H', H l = none → Ex H H' → Pool H' l 0 → Q (.ref l) H'
theorem cal_tank (T : Tx K mg) : Cal P w K mg base CX0 1 "_law_tank" ["_law_script", "_law_at"] (sp_tank K) := by
  refine T.d_law_tank.cal sc_law_tank (fun vs H Q E h => ?_) (fun _ _ _ _ _ _ us hl => match us, hl with | [_, _], _ => rfl) (fun f cdv A outer s H vs Q E hr h => ⟨_, (pss_cons (ps_set (i := 2) sc_law_tank.nd rfl (Or.inl rfl) (pe_ifExp (pt_cmpR op_lt (pv 1) (pe_callB call_len_seq (by rfl) T.b_len (by decide +kernel) (pa_cons (pv 0) pa_nil)) (nomark _)) (pe_ix ix_list (pv 0) (pv 1) (fun _ _ => rfl)) pe_int))
      (pss_one (ps_ret (pe_lst (pa_cons (pe_callB (call_max2 rfl) (by rfl) T.b_max (by decide +kernel) (pa_cons pe_int (pa_cons (pe_op op_sub (pe_callB call_abs (by rfl) T.b_abs (by decide +kernel) (pa_cons (pv 2) pa_nil)) (pe_op op_powB pe_int pe_int)) pa_nil))) (pa_cons (pe_op op_add (pe_op op_mod (pe_callTy call_int1 (by rfl) T.b_int (by decide +kernel) (pa_cons (pv 2) pa_nil)) pe_int) (pe_op op_mul pe_int (pe_op op_add (pv 1) pe_int))) (pa_cons pe_int pa_nil))))))), ?_⟩)
  · obtain ⟨a, ns, i, rfl, _⟩ := h
    rfl
  · obtain ⟨a, ns, i, rfl, sq, hi, q⟩ := h
    refine seq_any (P := fun v => ∃ z : Int, v = .int z) (fun Q' k => ?_) ?_
    · refine ⟨_, rfl, _, rfl, a, _, rfl, .inl sq, _, _, rfl, rfl, _, rfl, ite2 (fun h => ?_) (fun _ => k _ ⟨0, rfl⟩)⟩
      have h1 : i < ns.length := by
        have h2 := of_decide_eq_true h
        rw [List.length_map] at h2
        omega
      have g : (ns.map V.int)[i]? = some (.int ns[i]) := by
        rw [List.getElem?_map, List.getElem?_eq_getElem h1]
        rfl
      exact ⟨_, rfl, _, rfl, a, _, _, _, rfl, rfl, sq, atI_nat g, k _ ⟨_, rfl⟩⟩
    rintro _ ⟨z, rfl⟩
    refine ⟨_, rfl, z, rfl, 10, 18, rfl, rfl, cpow10 18 (by decide) (by decide), _, _, rfl, rfl, _, _, rfl, ?_⟩
    refine ⟨_, rfl, .inl ⟨z, rfl, _, _, rfl, rfl, ?_, _, rfl, _, _, rfl, rfl, _, _, rfl, rfl, .inl ⟨by decide, by decide⟩, _, _, rfl, rfl, (by show 3 ≤ sizeLine; decide), fun l nl => ?_⟩⟩
    · show (0 : Int) < 1000000000000000003
      decide
    refine q l _ nl (Ex.new nl) ⟨_, _, _, upd_same, ?_, ?_, Int.le_refl _, Int.le_refl _⟩
    · omega
    · omega
def sp_tap : Sp := fun vs H Q _ => ∃ (a : Addr) (m : Int) (n : Nat), vs = [.ref a, .int m] ∧ Pool H a n ∧ n ≤ 1000000 ∧ 0 < m ∧ m < 2 ^ 200 ∧
  ∀ d H', 0 ≤ d → d < m → Pool H' a (n + 1) → Kp a H H' → Q (.int d) H'
theorem cal_tap (T : Tx K mg) : Cal P w K mg base CX0 1 "_law_tap" ["_law_tank_here", "_law_many"] sp_tap := by
  refine T.d_law_tap.cal sc_law_tap (fun vs H Q E h => ?_) (fun _ _ _ _ _ _ us hl => match us, hl with | [_, _], _ => rfl) (fun f cdv A outer s H vs Q E hr h => ⟨_, (pss_cons (ps_if (pt_cmpR op_gt (pe_ix ix_list (pv 0) pe_int (fun _ _ => rfl)) pe_int (nomark _)) (pss_cons (ps_set (i := 2) sc_law_tap.nd rfl (Or.inl rfl) (pe_op op_mod (pe_callTy call_int1 (by rfl) T.b_int (by decide +kernel) (pa_cons (pe_ix ix_list (pv 0) pe_int (fun _ _ => rfl)) pa_nil)) (pv 1)))
      (pss_cons (ps_asg (pe_op op_fdivW (pe_ix ix_list (pv 0) pe_int (fun _ _ => rfl)) (pv 1)) (pg_sub (pv 0) pe_int set_list))
      (pss_one (ps_ret (pv 2))))) pss_nil)
      (pss_cons (ps_asg (pe_op op_add (pe_ix ix_list (pv 0) pe_int (fun _ _ => rfl)) pe_int) (pg_sub (pv 0) pe_int set_list))
      (pss_cons (ps_set (i := 3) sc_law_tap.nd rfl (Or.inl rfl) (pe_op op_mod (pe_callTy call_int1 (by rfl) T.b_int (by decide +kernel) (pa_cons (pe_op op_powB (pe_op op_add (pe_ix ix_list (pv 0) pe_int (fun _ _ => rfl)) (pe_op op_mul pe_int (pe_ix ix_list (pv 0) pe_int (fun _ _ => rfl)))) pe_int) pa_nil)) pe_int))
      (pss_cons (ps_set (i := 3) sc_law_tap.nd rfl (Or.inl rfl) (pe_op op_mod (pe_callTy call_int1 (by rfl) T.b_int (by decide +kernel) (pa_cons (pe_op op_powB (pe_op op_add (pv 3) (pe_op op_mul pe_int (pe_ix ix_list (pv 0) pe_int (fun _ _ => rfl)))) pe_int) pa_nil)) (pe_op op_add (pe_op op_powB pe_int pe_int) pe_int)))
      (pss_one (ps_ret (pe_op op_mod (pe_callTy call_int1 (by rfl) T.b_int (by decide +kernel) (pa_cons (pe_op op_fdivW (pv 3) pe_int) pa_nil)) (pv 1)))))))), ?_⟩)
  · obtain ⟨a, m, n, rfl, _⟩ := h
    rfl
  · obtain ⟨a, m, n, rfl, ⟨l, sd, c, hH, s0, s1, c0, c1⟩, hn, m0, m1, q⟩ := h
    have sq := sq_of (K := K) hH
    have wd : CDivW 0 m := wide_div (b := 200) m0 (by
      have e : (2 : Int) ^ 200 = ((2 ^ 200 : Nat) : Int) := by norm_cast
      omega) (by decide) (by decide)
    refine ⟨_, rfl, a, _, 0, _, rfl, rfl, sq, rfl, l, 0, rfl, rfl, _, rfl, ite2 (fun h => ?_) (fun _ => ?_)⟩
    · refine ⟨_, rfl, a, _, 0, _, rfl, rfl, sq, rfl, .inl ⟨l, rfl, _, rfl, _, _, rfl, rfl, m0, ?_⟩⟩
      refine ⟨_, rfl, a, _, 0, _, rfl, rfl, sq, rfl, _, rfl, _, _, rfl, rfl, wd, _, rfl, a, _, 0, 0, rfl, rfl, hH, rfl, ?_⟩
      exact ⟨_, rfl, q _ _ (Int.emod_nonneg l (by omega)) (Int.emod_lt_of_pos l m0) ⟨_, sd, c, upd_same, s0, s1, c0, by omega⟩ Kp.upd⟩
    · refine ⟨_, rfl, a, _, 2, _, rfl, rfl, sq, rfl, c, 1, rfl, rfl, _, rfl, a, _, 2, 2, rfl, rfl, hH, rfl, ?_⟩
      have h1 : (upd H a (.lst ([V.int l, .int sd, .int c].set 2 (.int (c + 1))))) a = some (.lst [.int l, .int sd, .int (c + 1)]) := upd_same
      have kp : Kp a H (upd H a (.lst ([V.int l, .int sd, .int c].set 2 (.int (c + 1))))) := Kp.upd
      generalize upd H a (.lst ([V.int l, .int sd, .int c].set 2 (.int (c + 1)))) = H1 at h1 kp
      have sq1 := sq_of (K := K) h1
      have src1 : Pool H1 a (n + 1) := ⟨l, sd, c + 1, h1, s0, s1, by omega, by omega⟩
      have b1 : 0 ≤ sd + 350377 * (c + 1) ∧ sd + 350377 * (c + 1) < 2 ^ 250 := ⟨by omega, by omega⟩
      refine ⟨_, rfl, a, _, 1, _, rfl, rfl, sq1, rfl, _, rfl, a, _, 2, _, rfl, rfl, sq1, rfl, _, _, rfl, rfl, .inl ⟨by decide, by decide⟩, _, _, rfl, rfl, _, 3, rfl, rfl, cpow3 b1.1 b1.2, .inl ⟨_, rfl, _, _, rfl, rfl, ?_, ?_⟩⟩
      · show (0 : Int) < 170141183460469231731687303715884105727
        decide
      have b2 : 0 ≤ (sd + 350377 * (c + 1)) ^ (3 : Int).toNat % 170141183460469231731687303715884105727 + 27644437 * (c + 1) ∧ (sd + 350377 * (c + 1)) ^ (3 : Int).toNat % 170141183460469231731687303715884105727 + 27644437 * (c + 1) < 2 ^ 250 := by
        generalize (sd + 350377 * (c + 1)) ^ (3 : Int).toNat = u
        omega
      refine ⟨_, rfl, _, rfl, a, _, 2, _, rfl, rfl, sq1, rfl, _, _, rfl, rfl, .inl ⟨by decide, by decide⟩, _, _, rfl, rfl, _, 3, rfl, rfl, cpow3 b2.1 b2.2, .inl ⟨_, rfl, 10, 46, rfl, rfl, cpow10 46 (by decide) (by decide), _, _, rfl, rfl, _, _, rfl, rfl, ?_, ?_⟩⟩
      · show (0 : Int) < 10 ^ (46 : Int).toNat + 9
        decide
      refine ⟨_, rfl, _, _, rfl, rfl, wide_div (b := 20) (by decide) (by decide) (by decide) (by decide), .inl ⟨_, rfl, _, rfl, _, _, rfl, rfl, m0, ?_⟩⟩
      exact q _ _ (Int.emod_nonneg _ (by omega)) (Int.emod_lt_of_pos _ m0) src1 kp
def sp_lshape (K : PySem.W.Frag) : Sp := fun vs H Q _ => ∃ (a : Addr) (n : Nat) (m : Int), vs = [.ref a, .int m] ∧ Pool H a n ∧ n ≤ 900000 ∧ 1 ≤ m ∧ m ≤ 9 ∧
  ∀ t b p s H', H t = none → Kp a H H' → Pool H' a (n + 3) → IsSh K H' (.ref t) b p s → b ≤ m → Q (.ref t) H'
theorem pa_at (d : Int) (h0 : 0 ≤ d) (h1 : d < 3) : ∃ p : Pa, atI [V.str "none", .str "even", .str "odd"] d = some (.str p.s) := by
  have : d = 0 ∨ d = 1 ∨ d = 2 := by omega
  rcases this with rfl | rfl | rfl
  · exact ⟨.no, rfl⟩
  · exact ⟨.ev, rfl⟩
  · exact ⟨.od, rfl⟩
theorem cal_lshape (T : Tx K mg) : Cal P w K mg base CX0 2 "_law_shape" ["_law_tank_here", "_law_most"] (sp_lshape K) := by
  have c_law_tap := cal_tap (P := P) (w := w) (base := base) T
  refine T.d_law_shape.cal sc_law_shape (fun vs H Q E h => ?_) (fun _ _ _ _ _ _ us hl => match us, hl with | [_, _], _ => rfl) (fun f cdv A outer s H vs Q E hr h => ⟨_, (pss_cons (ps_set (i := 2) sc_law_shape.nd rfl (Or.inl rfl) (pe_op op_add pe_int (pe_cal c_law_tap (hr.mono (by decide)) pass0 (pa_cons (pv 0) (pa_cons (pv 1) pa_nil)))))
      (pss_one (ps_ret (pe_tup (pa_cons (pv 2) (pa_cons (pe_ix ix_list (pe_lst (pa_cons pe_str (pa_cons pe_str (pa_cons pe_str pa_nil)))) (pe_cal c_law_tap (hr.mono (by decide)) pass0 (pa_cons (pv 0) (pa_cons pe_int pa_nil))) (fun _ _ => rfl)) (pa_cons (pe_op op_add pe_int (pe_cal c_law_tap (hr.mono (by decide)) pass0 (pa_cons (pv 0) (pa_cons pe_int pa_nil)))) pa_nil))))))), ?_⟩)
  · obtain ⟨a, n, m, rfl, _⟩ := h
    rfl
  · obtain ⟨a, n, m, rfl, src, hn, m1, m9, q⟩ := h
    refine ⟨_, rfl, _, rfl, a, m, n, rfl, src, by omega, by omega, by omega, fun d2 H1 d20 d21 src1 k1 => ⟨_, _, rfl, rfl, ?_⟩⟩
    refine ⟨_, rfl, by decide, fun L nL => ?_⟩
    have L_a := src1.ne nL
    refine ⟨_, rfl, a, 3, n + 1, rfl, src1.ex (Ex.new nL), by omega, by decide, by decide, fun d H2 d0 d1 src2 k2 => ?_⟩
    obtain ⟨p, hp⟩ := pa_at d d0 d1
    refine ⟨L, _, d, _, rfl, rfl, sq_of (k2 L _ L_a upd_same), hp, _, rfl, a, 2, n + 2, rfl, src2, by omega, by decide, by decide, fun d3 H3 d30 d31 src3 k3 => ⟨_, _, rfl, rfl, (by show 3 ≤ sizeLine; decide), fun t nt => ?_⟩⟩
    have t_a := src3.ne nt
    obtain ⟨b, hb⟩ : ∃ b : Nat, 1 + d2 = (b : Int) := ⟨(1 + d2).toNat, by omega⟩
    obtain ⟨s, hs⟩ : ∃ s : Nat, 1 + d3 = (s : Int) := ⟨(1 + d3).toNat, by omega⟩
    have kk : Kp a H (upd H3 t (.tup [.int (1 + d2), .str p.s, .int (1 + d3)])) := ((k1.trans (Ex.kp (Ex.new nL))).trans (k2.trans k3)).trans (Ex.kp (Ex.new nt))
    have ft : H t = none := Kp.free ((k1.trans (Ex.kp (Ex.new nL))).trans (k2.trans k3)) nt t_a
    refine q t b p s _ ft kk (src3.ex (Ex.new nt)) ⟨t, rfl, st_of ?_, by omega, by omega, by omega, by omega⟩ (by omega)
    rw [← hb, ← hs]
    exact upd_same
def sp_lnumbers (K : PySem.W.Frag) : Sp := fun vs H Q _ => ∃ g b p s, vs = [g] ∧ IsSh K H g b p s ∧ Q (.int (2 ^ b)) H
theorem cal_lnumbers (T : Tx K mg) : Cal P w K mg base CX0 1 "_law_numbers" ["_law_make"] (sp_lnumbers K) := by
  refine T.d_law_numbers.cal sc_law_numbers (fun vs H Q E h => ?_) (fun _ _ _ _ _ _ us hl => match us, hl with | [_], _ => rfl) (fun f cdv A outer s H vs Q E hr h => ⟨_, (pss_cons (ps_set (i := 1) sc_law_numbers.nd rfl (Or.inl rfl) pe_int)
      (pss_cons (ps_for PassesOwn.never rfl (pi_range1 rfl T.b_range (pa_cons (pe_ix ix_tup (pv 0) pe_int (fun _ _ => rfl)) pa_nil)) (pg_name (i := 2) sc_law_numbers.nd rfl (Or.inl rfl)) (pss_one (ps_set (i := 1) sc_law_numbers.nd rfl (Or.inl rfl) (pe_op op_mul pe_int (pv 1)))))
      (pss_one (ps_ret (pv 1))))), ?_⟩)
  · obtain ⟨g, b, p, s, rfl, _⟩ := h
    rfl
  · obtain ⟨g, b, p, s, rfl, ⟨t, rfl, sq, h1, h2, h3, h4⟩, q⟩ := h
    refine ⟨_, rfl, t, _, 0, .int b, rfl, rfl, sq, rfl, b, rfl, by omega, by omega, ?_⟩
    refine for_range (lo := 0) (n := (b : Int).toNat) (fun i σ H1 => ∃ u, σ = [some (.ref t), some (.int (2 ^ i)), u] ∧ H1 = H)
      ⟨none, rfl, rfl⟩ ?_ ?_
    · rintro i σ H1 hi ⟨u, rfl, rfl⟩
      refine ⟨_, rfl, _, _, rfl, rfl, .inl ⟨by decide, by decide⟩, some (.int (0 + (i : Int))), ?_, rfl⟩
      show [some (V.ref t), some (.int (2 * 2 ^ i)), some (.int (0 + (i : Int)))] = _
      rw [Int.pow_succ, Int.mul_comm]
    rintro σ H1 ⟨u, rfl, rfl⟩
    rw [Int.toNat_natCast]
    exact ⟨_, rfl, q⟩
theorem sum0 (ns : List Int) : ((0 : Int) :: ns).sum = ns.sum := by rw [List.sum_cons, Int.zero_add]
theorem cal_lframe (T : Tx K mg) : Cal P w K mg base CX0 1 "_law_frame" ["_law_make", "_law_number"] (sp_frame K) := by
  refine T.d_law_frame.cal sc_law_frame (fun vs H Q E h => ?_) (fun _ _ _ _ _ _ us hl => match us, hl with | [_, _], _ => rfl) (fun f cdv A outer s H vs Q E hr h => ⟨_, (pss_cons (ps_par (i := 2) (j := 3) (by rfl) sc_law_frame.nd rfl rfl (by decide) rfl rfl (pa_cons (pe_lst (pa_cons pe_int pa_nil)) (pa_cons (pv 1) pa_nil)) (by rfl))
      (pss_cons (ps_for PassesOwn.never rfl (pi_range1 rfl T.b_range (pa_cons (pe_ix ix_tup (pv 0) pe_int (fun _ _ => rfl)) pa_nil)) (pg_name (i := 4) sc_law_frame.nd rfl (Or.inl rfl)) (pss_cons (ps_expr (pe_bm PySem.F.plainAttrs_list PySem.F.slot_list_append PySem.F.type_list_append mt_append (pv 2) (pa_cons (pe_op op_mod (pe_callTy call_int1 (by rfl) T.b_int (by decide +kernel) (pa_cons (pv 3) pa_nil)) pe_int) pa_nil)))
      (pss_one (ps_set (i := 3) sc_law_frame.nd rfl (Or.inl rfl) (pe_op op_fdivW (pv 3) pe_int)))))
      (Evl.pss_cut (ps_if (pt_cmpR op_ne (pe_ix ix_tup (pv 0) pe_int (fun _ _ => rfl)) pe_str (nomark _)) (pss_one (ps_expr (pe_bm PySem.F.plainAttrs_list PySem.F.slot_list_append PySem.F.type_list_append mt_append (pv 2) (pa_cons (pe_op op_mod (pe_callTy call_int1 (by rfl) T.b_int (by decide +kernel) (pa_cons (pe_op op_add (pe_callB (cr_sum rfl) (by rfl) T.b_sum (by decide +kernel) (pa_cons (pv 2) pa_nil)) (pe_callTy call_int1 (by rfl) T.b_int (by decide +kernel) (pa_cons (pe_cmpR op_eq (pe_ix ix_tup (pv 0) pe_int (fun _ _ => rfl)) pe_str (nomark _)) pa_nil))) pa_nil)) pe_int) pa_nil)))) pss_nil)
      (pss_one (ps_ret (pe_op op_cat (pv 2) (pe_op op_rep (pe_lst (pa_cons pe_int pa_nil)) (pe_ix ix_tup (pv 0) pe_int (fun _ _ => rfl))))))))), ?_⟩)
  · obtain ⟨g, b, p, s, x, rfl, _⟩ := h
    rfl
  · obtain ⟨g, b, p, s, x, rfl, ⟨t, rfl, sq, h1, h2, h3, h4⟩, hx, hx2, q⟩ := h
    refine ⟨(by show 1 ≤ sizeLine; decide), fun L nL => ⟨_, rfl, _, _, rfl, ?_⟩⟩
    refine ⟨_, rfl, t, _, 0, .int b, rfl, rfl, ex_t (Ex.new nL) sq, rfl, b, rfl, by omega, by omega, ?_⟩
    refine for_range (lo := 0) (n := (b : Int).toNat) (fun i σ H1 => ∃ u, σ = [some (.ref t), some (.int x), some (.ref L), some (.int (x / 2 ^ i)), u] ∧ Ex H H1 ∧ H1 L = some (.lst (((0 : Int) :: bits i x).map V.int)))
      ⟨none, by simp [L2.start], Ex.new nL, upd_same⟩ ?_ ?_
    · rintro i σ H1 hi ⟨u, rfl, ex, hL⟩
      refine ⟨_, rfl, .inl ⟨rfl, _, sq_of hL⟩, _, rfl, .inl ⟨_, rfl, _, _, rfl, rfl, (by show (0 : Int) < 2; decide), L, _, _, rfl, rfl, hL, ?_, ?_⟩⟩
      · rw [List.length_map, List.length_cons, bits_len]
        exact small1000 (by omega)
      refine ⟨_, rfl, _, _, rfl, rfl, wide_div (b := 3) (by decide) (by decide) (by decide) (by decide), ?_⟩
      refine ⟨some (.int (0 + (i : Int))), ?_, ex.mut nL, ?_⟩
      · rw [← div_step]
        rfl
      · rw [upd_same, bits_succ, ← List.cons_append, List.map_append]
        rfl
    · rintro σ H1 ⟨u, rfl, ex, hL⟩
      rw [Int.toNat_natCast] at hL
      have sq1 := ex_t ex sq
      refine ⟨fun σ' H' => ∃ y u, σ' = [some (.ref t), some (.int x), some (.ref L), y, u] ∧ Ex H H' ∧ H' L = some (.lst (((0 : Int) :: (bits b x ++ parL b p x)).map V.int)), ?_, ?_⟩
      · have sm : (((0 : Int) :: bits b x).map V.int).length < sizeLine := by
          rw [List.length_map, List.length_cons, bits_len]
          exact small1000 (by omega)
        refine ⟨_, rfl, t, _, 1, .str p.s, rfl, rfl, sq1, rfl, rfl, _, rfl, ?_⟩
        rw [no_is p]
        cases p with
        | no =>
          refine iteF ⟨_, _, rfl, ex, ?_⟩
          rw [hL]
          simp [parL]
        | ev =>
          refine iteT ⟨_, rfl, .inl ⟨rfl, _, sq_of hL⟩, _, rfl, L, _, rfl, sq_of hL, _, rfl, t, _, 1, .str Pa.ev.s, rfl, rfl, sq1, rfl, rfl, .inr ⟨_, rfl, ?_⟩⟩
          rw [od_is .ev]
          refine ⟨_, _, rfl, rfl, .inl ⟨_, rfl, _, _, rfl, rfl, (by show (0 : Int) < 2; decide), L, _, _, rfl, rfl, hL, sm, ?_⟩⟩
          refine ⟨_, _, rfl, ex.mut nL, ?_⟩
          rw [upd_same, sum0]
          show some (HO.lst (((0 : Int) :: bits b x).map V.int ++ [V.int (((bits b x).sum + 0) % 2)])) = _
          rw [Int.add_zero, ← List.cons_append, List.map_append]
          rfl
        | od =>
          refine iteT ⟨_, rfl, .inl ⟨rfl, _, sq_of hL⟩, _, rfl, L, _, rfl, sq_of hL, _, rfl, t, _, 1, .str Pa.od.s, rfl, rfl, sq1, rfl, rfl, .inr ⟨_, rfl, ?_⟩⟩
          rw [od_is .od]
          refine ⟨_, _, rfl, rfl, .inl ⟨_, rfl, _, _, rfl, rfl, (by show (0 : Int) < 2; decide), L, _, _, rfl, rfl, hL, sm, ?_⟩⟩
          refine ⟨_, _, rfl, ex.mut nL, ?_⟩
          rw [upd_same, sum0]
          show some (HO.lst (((0 : Int) :: bits b x).map V.int ++ [V.int (((bits b x).sum + 1) % 2)])) = _
          have e : ((bits b x).sum + 1) % 2 = 1 - (bits b x).sum % 2 := by omega
          rw [e, ← List.cons_append, List.map_append]
          rfl
      · rintro σ' H' ⟨y, u, rfl, ex', hL'⟩
        have pl := parL_len b p x
        have len1 : (((0 : Int) :: (bits b x ++ parL b p x)).map V.int).length ≤ 11 := by
          rw [List.length_map, List.length_cons, List.length_append, bits_len]
          omega
        refine ⟨_, rfl, (by show 1 ≤ sizeLine; decide), fun L1 nL1 => ?_⟩
        have e1 := ex'.trans (Ex.new nL1 (o := .lst [.int 1]))
        refine ⟨_, rfl, t, _, 2, .int s, rfl, rfl, ex_t e1 sq, rfl, L1, s, _, rfl, rfl, upd_same, by omega, by omega, ?_, fun L2 nL2 => ?_⟩
        · show 1 * (s : Int).toNat ≤ sizeLine
          rw [Int.toNat_natCast, sizeLine_eq]
          omega
        have e2 := (Ex.new nL1 (o := .lst [.int 1])).trans (Ex.new nL2 (o := .lst (List.replicate (s : Int).toNat [V.int 1]).flatten))
        refine ⟨L, L2, _, _, rfl, rfl, e2 _ _ hL', upd_same, ?_, fun R nR => ?_⟩
        · rw [rep_one, List.length_map (as := List.replicate s 1), List.length_replicate]
          exact sz_of (by omega)
        refine q R _ (fresh_back (ex'.trans e2) nR) ((ex'.trans e2).trans (Ex.new nR)) ?_
        rw [upd_same, rep_one, ← List.map_append]
        simp [frm]
def sp_lplace (K : PySem.W.Frag) : Sp := fun vs H Q _ => ∃ g b p s pl a ls, vs = [g, .int pl, .ref a] ∧ IsSh K H g b p s ∧ -1 ≤ pl ∧ pl < (sz b p s : Nat) ∧ SqL K H a (ls.map V.int) ∧ (∀ l ∈ ls, l = 0 ∨ l = 1) ∧ Q (.int (plc (sz b p s) s pl ls)) H
theorem cal_lplace (T : Tx K mg) : Cal P w K mg base CX0 1 "_law_place" ["_law_make", "_law_place_here", "_law_levels"] (sp_lplace K) := by
  refine T.d_law_place.cal sc_law_place (fun vs H Q E h => ?_) (fun _ _ _ _ _ _ us hl => match us, hl with | [_, _, _], _ => rfl) (fun f cdv A outer s H vs Q E hr h => ⟨_, (pss_cons (ps_set (i := 3) sc_law_place.nd rfl (Or.inl rfl) (pe_op op_add (pe_op op_add pe_int (pe_ix ix_tup (pv 0) pe_int (fun _ _ => rfl))) (pe_callTy call_int1 (by rfl) T.b_int (by decide +kernel) (pa_cons (pe_cmpR op_ne (pe_ix ix_tup (pv 0) pe_int (fun _ _ => rfl)) pe_str (nomark _)) pa_nil))))
      (pss_cons (ps_for PassesOwn.never rfl (pi_list (pv 2)) (pg_name (i := 4) sc_law_place.nd rfl (Or.inl rfl)) (pss_one (ps_if (pt_cmpR op_lt (pv 1) pe_int (nomark _)) (pss_one (ps_set (i := 1) sc_law_place.nd rfl (Or.inl rfl) (pe_op op_sub (pv 4) pe_int))) (pss_one (ps_if (pt_cmpR op_eq (pv 1) pe_int (nomark _)) (pss_one (ps_set (i := 1) sc_law_place.nd rfl (Or.inl rfl) (pe_op op_sub pe_int (pv 4)))) (pss_one (ps_if (PW.pt (pw_and (pt_cmpR op_ge (pv 1) (pv 3) (nomark _)) (pw_and1 (pt_cmpR op_eq (pv 4) pe_int (nomark _))))) (pss_one (ps_set (i := 1) sc_law_place.nd rfl (Or.inl rfl) (pe_un un_neg pe_int))) (pss_one (ps_set (i := 1) sc_law_place.nd rfl (Or.inl rfl) (pe_op op_mod (pe_callTy call_int1 (by rfl) T.b_int (by decide +kernel) (pa_cons (pe_op op_add (pv 1) pe_int) pa_nil)) (pe_op op_add (pv 3) (pe_ix ix_tup (pv 0) pe_int (fun _ _ => rfl)))))))))))))
      (pss_one (ps_ret (pv 1))))), ?_⟩)
  · obtain ⟨g, b, p, s, pl, a, ls, rfl, _⟩ := h
    rfl
  · obtain ⟨g, b, p, s, pl, a, ls, rfl, sh, p0, p1, sq, h01, q⟩ := h
    have z := sz_bd sh
    obtain ⟨t, rfl, sqt, h1, h2, h3, h4⟩ := id sh
    have hn : 2 ≤ sz b p s := by omega
    refine ⟨_, rfl, t, _, 0, .int b, rfl, rfl, sqt, rfl, _, _, rfl, rfl, _, rfl, t, _, 1, .str p.s, rfl, rfl, sqt, rfl, rfl, .inr ⟨_, rfl, ?_⟩⟩
    have hb : (if (!decide (V.str p.s = V.str "none")) = true then (1 : Int) else 0) = (plen p : Nat) := by
      rw [no_is p]
      cases p <;> rfl
    have e1 : 1 + (b : Int) + (if (!decide (V.str p.s = V.str "none")) = true then (1 : Int) else 0) = ((sz b p s : Nat) : Int) - s := by
      rw [hb]
      unfold sz
      omega
    refine ⟨_, _, rfl, rfl, ?_⟩
    dsimp only
    rw [e1]
    refine ⟨_, rfl, a, rfl, ⟨_, sq⟩, for_list (K := K) (a := a) (xs := ls.map V.int) (fun i σ H1 => ∃ u, σ = [some (.ref t), some (.int (plc (sz b p s) s pl (ls.take i))), some (.ref a), some (.int (((sz b p s : Nat) : Int) - s)), u] ∧ H1 = H) ⟨none, rfl, rfl⟩ (fun i σ H1 _ ⟨_, _, e⟩ => by rw [e]; exact sq) ?_ ?_⟩
    · rintro i y σ H1 hy ⟨u, rfl, rfl⟩
      obtain ⟨l, hl, rfl⟩ := ints_at hy
      have l01 := h01 l (List.mem_of_getElem? hl)
      have bd := plc_bd (s := s) (ls := ls.take i) hn p0 p1
      have suc := plc_succ (n := sz b p s) (s := s) (pl := pl) hl
      generalize plc (sz b p s) s pl (ls.take i) = x at bd suc
      refine ⟨_, rfl, _, _, rfl, rfl, _, rfl, ite2 (fun h => ?_) (fun h => ?_)⟩
      · have h : x < 0 := of_decide_eq_true h
        refine ⟨_, rfl, _, _, rfl, rfl, some (.int l), ?_, rfl⟩
        rw [suc]
        unfold stp
        rw [if_pos (by omega)]
        rcases l01 with rfl | rfl <;> rfl
      · have h : ¬ x < 0 := fun c => h (decide_eq_true c)
        refine ⟨_, rfl, rfl, _, rfl, ite2 (fun h2 => ?_) (fun h2 => ?_)⟩
        · have h2 : x = 0 := by
            have := of_decide_eq_true h2
            injection this
          refine ⟨_, rfl, _, _, rfl, rfl, some (.int l), ?_, rfl⟩
          rw [suc]
          unfold stp
          rw [if_neg (by omega), if_pos h2]
          rcases l01 with rfl | rfl <;> rfl
        · have h2 : ¬ x = 0 := fun c => h2 (decide_eq_true (by rw [c]))
          have go : ∀ y : Int, y = stp (sz b p s) s x l → ∃ u, (([some (V.ref t), some (.int x), some (.ref a), some (.int (((sz b p s : Nat) : Int) - s)), some (.int l)] : L2.St).set 1 (some (.int y))) = [some (V.ref t), some (.int (plc (sz b p s) s pl (ls.take (i + 1)))), some (.ref a), some (.int (((sz b p s : Nat) : Int) - s)), u] ∧ H1 = H1 := fun y e => ⟨some (.int l), by rw [suc, e]; rfl, rfl⟩
          have last : ¬ (l = 0 ∧ x ≥ ((sz b p s : Nat) : Int) - s) → (x + 1) % ((((sz b p s : Nat) : Int) - s) + s) = stp (sz b p s) s x l := fun hno => by
            unfold stp
            rw [if_neg (by omega), if_neg h2, if_neg hno]
            congr 1
            omega
          refine ⟨_, rfl, _, rfl, _, _, rfl, rfl, _, rfl, ite2 (fun h3 => ?_) (fun h3 => ?_)⟩
          · have h3 : x ≥ ((sz b p s : Nat) : Int) - s := of_decide_eq_true h3
            refine ⟨_, rfl, rfl, _, rfl, ite2 (fun h5 => ?_) (fun h5 => ?_)⟩
            · have h5 : l = 0 := by
                have := of_decide_eq_true h5
                injection this
              refine ⟨1, rfl, ?_⟩
              refine go (-1) ?_
              unfold stp
              rw [if_neg (by omega), if_neg h2, if_pos ⟨h5, h3⟩]
            · have h5 : ¬ l = 0 := fun c => h5 (decide_eq_true (by rw [c]))
              refine ⟨_, rfl, _, _, rfl, rfl, .inl ⟨_, rfl, _, rfl, _, rfl, t, _, 2, .int s, rfl, rfl, sqt, rfl, _, _, rfl, rfl, _, _, rfl, rfl, (by omega), ?_⟩⟩
              exact go _ (last fun c => h5 c.1)
          · have h3 : ¬ x ≥ ((sz b p s : Nat) : Int) - s := fun c => h3 (decide_eq_true c)
            refine ⟨_, rfl, _, _, rfl, rfl, .inl ⟨_, rfl, _, rfl, _, rfl, t, _, 2, .int s, rfl, rfl, sqt, rfl, _, _, rfl, rfl, _, _, rfl, rfl, (by omega), ?_⟩⟩
            exact go _ (last fun c => h3 c.2)
    · rintro σ H1 ⟨u, rfl, rfl⟩
      rw [List.length_map, List.take_length]
      exact ⟨_, rfl, q⟩
end
end LW
namespace LW
open PySem PySem.Spec PyProof.Rows L2 Evl SB
section
variable {P : Program} {w : World} {K : PySem.W.Frag} {mg : Str → Option Value} {base : Heap}
theorem sum_K {X : L2.Cx} {K0 : PySem.W.Frag} (h : X.K = K0) (hc : X.calm = true) : CallR X (.builtin "sum") (rSum K0) := h ▸ cr_sum hc
/-- what a dict of places holds for some numbers -/
def Mps (H : Hp) (M : Addr) (ns : List Int) : Prop := ∃ kvs : List (Key × V), H M = some (.dK kvs) ∧ kvs.length ≤ ns.length ∧ ∀ x ∈ ns, ∃ (L : Addr) (xs : List Int), valV kvs (Sum.inl x) = some (.ref L) ∧ H L = some (.lst (xs.map V.int)) ∧ xs.length ≤ 13 ∧ ∀ y ∈ xs, 0 ≤ y ∧ y < 13
def sp_lmaps (K : PySem.W.Frag) : Sp := fun vs H Q _ => ∃ g b p s a ns, vs = [g, .ref a] ∧ IsSh K H g b p s ∧ SqL K H a (ns.map V.int) ∧ ns.length ≤ 1000 ∧ InSh b ns ∧ ∀ M H', H M = none → Ex H H' → Mps H' M ns → Q (.ref M) H'
theorem cal_lmaps (T : Tx K mg) : Cal P w K mg base CX0 2 "_law_maps" ["_law_make", "_law_notes"] (sp_lmaps K) := by
  have c_law_place := cal_lplace (P := P) (w := w) (base := base) T
  have c_law_frame := cal_lframe (P := P) (w := w) (base := base) T
  refine T.d_law_maps.cal sc_law_maps (fun vs H Q E h => ?_) (fun _ _ _ _ _ _ us hl => match us, hl with | [_, _], _ => rfl) (fun f cdv A outer s H vs Q E hr h => ⟨_, (pss_cons (ps_par (i := 2) (j := 3) (by rfl) sc_law_maps.nd rfl rfl (by decide) rfl rfl (pa_cons pe_dnewK (pa_cons (pe_callB call_len_seq (by rfl) T.b_len (by decide +kernel) (pa_cons (pe_cal c_law_frame (hr.mono (by decide)) pass0 (pa_cons (pv 0) (pa_cons pe_int pa_nil))) pa_nil)) pa_nil)) (by rfl))
      (pss_cons (ps_for PassesOwn.never rfl (pi_list (pv 1)) (pg_name (i := 4) sc_law_maps.nd rfl (Or.inr rfl)) (pss_one (ps_dput (Nat.lt_of_le_of_lt (Nat.add_le_add_left (by decide) _) hr.units) (pv 2) (pv 4) (pe_lc rfl sc_law_maps.nd (pi_range1 rfl T.b_range (pa_cons (pv 3) pa_nil)) (blkOk_by (own := [("_law_place_here", 5)]) (N := ["_law_make", "_law_notes", "_law_found", "_law_size", "_law_number", "_law_place_here"]) (sc := defScope s_law_maps) (by decide +kernel)) (fun _ _ _ _ _ => (pg_name (i := 5) sc_law_maps.nd rfl (Or.inl rfl))) (fun _ _ _ _ _ => pts_nil) (fun _ _ _ _ _ => (pe_cal c_law_place (hr.mono (by decide)) pass0 (pa_cons (pv 0) (pa_cons (pv 5) (pa_cons (pe_cal c_law_frame (hr.mono (by decide)) pass0 (pa_cons (pv 0) (pa_cons (pv 4) pa_nil))) pa_nil)))))) rfl)))
      (pss_one (ps_ret (pv 2))))), ?_⟩)
  · obtain ⟨g, b, p, s, a, ns, rfl, _⟩ := h
    rfl
  · obtain ⟨g, b, p, s, a, ns, rfl, sh, sq, hl, hin, q⟩ := h
    obtain ⟨b1, b9, s1, s2, z1, z13⟩ := sz_bd sh
    refine fun M nM => ?_
    have z0 : (0 : Int) < 2 ^ b := Int.pow_pos (by decide)
    have eM := Ex.new nM (o := .dK [])
    have hM : (upd H M (.dK [])) M = some (.dK []) := upd_same
    generalize upd H M (.dK []) = H1 at eM hM
    refine ⟨_, rfl, g, b, p, s, 0, rfl, sh.ex eM, Int.le_refl _, z0, fun F H2 nF e2 hF => ?_⟩
    refine ⟨F, _, rfl, .inl (sq_of hF), ?_⟩
    rw [List.length_map, frm_sz]
    have hM2 := e2 _ _ hM
    have e12 := eM.trans e2
    refine ⟨_, _, rfl, ?_⟩
    refine ⟨_, rfl, a, rfl, ⟨_, ex_l e12 sq⟩, for_list (K := K) (a := a) (xs := ns.map V.int) (fun i σ H3 => ∃ u, σ = [some g, some (.ref a), some (.ref M), some (.int ((sz b p s : Nat) : Int)), u, none] ∧ Ex H H3 ∧ ∃ kvs : List (Key × V), H3 M = some (.dK kvs) ∧ kvs.length ≤ i ∧ ∀ x ∈ ns.take i, ∃ (L : Addr) (xs : List Int), valV kvs (Sum.inl x) = some (.ref L) ∧ H3 L = some (.lst (xs.map V.int)) ∧ xs.length ≤ 13 ∧ ∀ y ∈ xs, 0 ≤ y ∧ y < 13)
      ⟨none, rfl, e12, [], hM2, Nat.le_refl _, fun x hx => by cases hx⟩ (fun i σ H3 _ ⟨_, _, e, _⟩ => ex_l e sq) ?_ ?_⟩
    · rintro i y σ H3 hy ⟨u, rfl, e3, kvs, hk, kl, kall⟩
      obtain ⟨x, hx, rfl⟩ := ints_at hy
      have hi := (List.getElem?_eq_some_iff.mp hx).1
      have xin := hin x (List.mem_of_getElem? hx)
      have m2 : 2 ≤ sz b p s := by omega
      refine ⟨_, rfl, _, rfl, by omega, by omega, fun L nL => ?_⟩
      refine lcR RI.lasts nL (by omega) (fun j : Nat => some (plc (sz b p s) s (j : Int) (frm b p s x))) (fun j H4 hj e4 Kt Kf kt kf => ?_) (fun H4 xs e4 hx4 lr => ?_)
      · refine ⟨rfl, ?_⟩
        refine ⟨_, rfl, _, rfl, _, rfl, _, rfl, g, b, p, s, x, rfl, (sh.ex e3).ex e4, xin.1, xin.2, fun F2 H5 nF2 e5 hF2 => ?_⟩
        rw [Int.toNat_natCast] at hj
        refine ⟨g, b, p, s, _, F2, _, rfl, ((sh.ex e3).ex e4).ex e5, by omega, by omega, sq_of hF2, (fun l h => frm_01 h), ?_⟩
        rw [Int.zero_add]
        exact kt _ _ _ rfl e5 rfl
      obtain rfl := lr.ints
      rw [fm_some, Int.toNat_natCast] at hx4
      have hk4 := e4 _ _ hk
      have L_M : L ≠ M := fun c => by rw [← c, hx4] at hk4; cases hk4
      refine ⟨_, rfl, _, rfl, M, _, rfl, DPut.k (k := Sum.inl x) hk4 (Nat.lt_of_le_of_lt (show kvs.length ≤ 1000 by omega) (by decide)), some (.int x), rfl, (e3.trans e4).mut nM, _, upd_same, ?_, ?_⟩
      · have := length_putK kvs (Sum.inl x) (V.ref L)
        omega
      · intro y hy
        rw [valV_put]
        by_cases c : (Sum.inl y : Key) = Sum.inl x
        · rw [if_pos c]
          refine ⟨L, _, rfl, by rw [upd_ne L_M]; exact hx4, by simp; omega, ?_⟩
          intro w hw
          obtain ⟨j, hj, rfl⟩ := List.mem_map.mp hw
          have hj := List.mem_range.mp hj
          have := plc_frm_bd (b := b) (p := p) (x := x) s1 (show (0 : Int) ≤ (j : Int) by omega) (by omega)
          omega
        · rw [if_neg c]
          have hy2 : y ∈ ns.take i := by
            rw [List.take_add_one, hx] at hy
            rcases List.mem_append.mp hy with h | h
            · exact h
            · have : y = x := by simpa using h
              exact absurd (by rw [this]) c
          obtain ⟨L2, xs2, v1, v2, v3, v4⟩ := kall y hy2
          have v2' := e4 _ _ v2
          have n2 : L2 ≠ M := fun c => by rw [c, hk4] at v2'; cases v2'
          exact ⟨L2, xs2, v1, by rw [upd_ne n2]; exact v2', v3, v4⟩
    · rintro σ H3 ⟨u, rfl, e3, kvs, hk, kl, kall⟩
      rw [List.length_map] at kl kall
      rw [List.take_length] at kall
      exact ⟨_, rfl, q M H3 nM e3 ⟨kvs, hk, kl, kall⟩⟩
theorem DGet.k' {H : Hp} {a : Addr} {kvs : List (Key × V)} {k : Key} {v : V} (e : H a = some (.dK kvs)) (h : valV kvs k = some v) : DGet H a (kV k) (some v) := h ▸ DGet.k e
def sp_lallowed (K : PySem.W.Frag) : Sp := fun vs H Q _ => ∃ (S : Addr) (n : Nat) (g : V) (b : Nat) (p : Pa) (s : Nat) (m : Int), vs = [.ref S, g, .int m] ∧ Pool H S n ∧ n ≤ 900000 ∧ IsSh K H g b p s ∧ b ≤ 7 ∧ 1 ≤ m ∧ m ≤ 3 ∧
  ∀ D H' (xs : List Int), Kp S H H' → Pool H' S (n + 8) → H' D = some (.lst (xs.map V.int)) → InSh b xs → 1 ≤ xs.length → xs.length ≤ 3 → D ≠ S → Q (.ref D) H'
theorem cal_lallowed (T : Tx K mg) : Cal P w K mg base CX0 3 "_law_allowed" ["_law_tank_here", "_law_make", "_law_most"] (sp_lallowed K) := by
  have c_law_numbers := cal_lnumbers (P := P) (w := w) (base := base) T
  have c_law_maps := cal_lmaps (P := P) (w := w) (base := base) T
  have c_law_tap := cal_tap (P := P) (w := w) (base := base) T
  refine T.d_law_allowed.cal sc_law_allowed (fun vs H Q E h => ?_) (fun _ _ _ _ _ _ us hl => match us, hl with | [_, _, _], _ => rfl) (fun f cdv A outer s H vs Q E hr h => ⟨_, (pss_cons (ps_set (i := 3) sc_law_allowed.nd rfl (Or.inl rfl) (pe_listRg rfl (by rfl) T.b_list (prg_1 (by rfl) T.b_range (pe_cal c_law_numbers (hr.mono (by decide)) pass0 (pa_cons (pv 1) pa_nil)))))
      (pss_cons (ps_asg (pe_tup (pa_cons (pe_cal c_law_maps (hr.mono (by decide)) pass0 (pa_cons (pv 1) (pa_cons (pv 3) pa_nil))) (pa_cons (pe_lst pa_nil) pa_nil))) (pg_tup rfl (pgs_cons (pg_name (i := 4) sc_law_allowed.nd rfl (Or.inr rfl)) (pgs_cons (pg_name (i := 5) sc_law_allowed.nd rfl (Or.inr rfl)) pgs_nil))))
      (pss_cons (ps_setLc (i := 6) rfl sc_law_allowed.nd rfl rfl (sw_true rfl rfl rfl (by decide +kernel)) (pi_list (pv 3)) (blkOk_by (own := [("_law_number", 9)]) (N := ["_law_tank_here", "_law_make", "_law_most", "_law_every", "_law_maps_here", "_law_found", "_law_keep", "_law_turn", "_law_some", "_law_number"]) (sc := defScope s_law_allowed) (by decide +kernel)) (fun _ _ _ _ _ => (pg_name (i := 9) sc_law_allowed.nd rfl (Or.inl rfl))) (fun _ _ _ _ _ => (pts_one (pt_cmpR op_gt (pe_callB (sum_K (K0 := K) rfl rfl) (by rfl) T.b_sum (by decide +kernel) (pa_cons (pe_dget (Nat.lt_of_le_of_lt (Nat.add_le_add_left (by decide) _) hr.units) (pv 4) (pv 9) (fun _ _ => rfl)) pa_nil)) pe_int (nomark _)))) (fun _ _ _ _ _ => (pv 9)))
      (pss_cons (ps_for PassesOwn.never rfl (pi_range1 rfl T.b_range (pa_cons (pe_op op_add pe_int (pe_cal c_law_tap (hr.mono (by decide)) pass0 (pa_cons (pv 0) (pa_cons (pv 2) pa_nil)))) pa_nil)) (pg_name (i := 7) sc_law_allowed.nd rfl (Or.inl rfl)) (pss_cons (ps_set (i := 8) sc_law_allowed.nd rfl (Or.inl rfl) (pe_ix ix_list (pe_lst (pa_cons (pv 3) (pa_cons (pv 6) (pa_cons (pv 6) (pa_cons (pv 6) pa_nil))))) (pe_cal c_law_tap (hr.mono (by decide)) pass0 (pa_cons (pv 0) (pa_cons pe_int pa_nil))) (fun _ _ => rfl)))
      (pss_cons (ps_setLc (i := 8) rfl sc_law_allowed.nd rfl rfl (sw_true rfl rfl rfl (by decide +kernel)) (pi_list (pv 8)) (blkOk_by (own := [("_law_number", 9)]) (N := ["_law_tank_here", "_law_make", "_law_most", "_law_every", "_law_maps_here", "_law_found", "_law_keep", "_law_turn", "_law_some", "_law_number"]) (sc := defScope s_law_allowed) (by decide +kernel)) (fun _ _ _ _ _ => (pg_name (i := 9) sc_law_allowed.nd rfl (Or.inl rfl))) (fun _ _ _ _ _ => (pts_one (pt_cmpR (niS_K (K0 := K) rfl) (pv 9) (pv 5) (by rfl)))) (fun _ _ _ _ _ => (pv 9)))
      (pss_one (ps_if (pt_cmpR (op_neD hr.units) (pv 8) (pe_lst pa_nil) (nomark _)) (pss_one (ps_expr (pe_bm PySem.F.plainAttrs_list PySem.F.slot_list_append PySem.F.type_list_append mt_append (pv 5) (pa_cons (pe_ix ix_list (pv 8) (pe_cal c_law_tap (hr.mono (by decide)) pass0 (pa_cons (pv 0) (pa_cons (pe_callB call_len_seq (by rfl) T.b_len (by decide +kernel) (pa_cons (pv 8) pa_nil)) pa_nil))) (fun _ _ => rfl)) pa_nil)))) pss_nil)))))
      (pss_one (ps_ret (pe_ifExp (pt_cmpR (op_neD hr.units) (pv 5) (pe_lst pa_nil) (nomark _)) (pv 5) (pe_lst (pa_cons pe_int pa_nil))))))))), ?_⟩)
  · obtain ⟨S, n, g, b, p, s, m, rfl, _⟩ := h
    rfl
  · obtain ⟨S, n, g, b, p, s, m, rfl, src, hn, sh, b7, m1, m3, q⟩ := h
    obtain ⟨b1, b9, s1, s2, z1, z13⟩ := sz_bd sh
    have p128 : (2 : Int) ^ b ≤ 128 := by
      have e : (2 : Int) ^ b = ((2 ^ b : Nat) : Int) := by norm_cast
      have : (2 : Nat) ^ b ≤ 2 ^ 7 := Nat.pow_le_pow_right (by decide) b7
      omega
    have p0 : (0 : Int) < 2 ^ b := Int.pow_pos (by decide)
    -- every
    refine ⟨_, rfl, g, b, p, s, rfl, sh, _, rfl, RgOk.of_le (by omega) (by omega) (by omega) (by omega), fun V1 nV => ?_⟩
    obtain ⟨ev, eve, evin, evl⟩ : ∃ ev : List Int, rgV 0 (2 ^ b) = ev.map V.int ∧ InSh b ev ∧ ev.length ≤ 128 := by
      refine ⟨(List.range ((2 : Int) ^ b).toNat).map fun i : Nat => (i : Int), ?_, ?_, ?_⟩
      · unfold rgV
        rw [List.map_map, Int.sub_zero]
        refine List.map_congr_left fun k _ => ?_
        rw [Int.zero_add]
        rfl
      · intro y hy
        obtain ⟨j, hj, rfl⟩ := List.mem_map.mp hy
        have := List.mem_range.mp hj
        omega
      · simp
        omega
    rw [eve]
    have eV := Ex.new nV (o := .lst (ev.map V.int))
    have hV : (upd H V1 (.lst (ev.map V.int))) V1 = some (.lst (ev.map V.int)) := upd_same
    generalize upd H V1 (.lst (ev.map V.int)) = H1 at eV hV
    refine ⟨_, rfl, _, rfl, g, b, p, s, V1, ev, rfl, sh.ex eV, sq_of hV, by omega, evin, fun M H2 nM e2 mps => ?_⟩
    have hV2 := e2 _ _ hV
    have hmps := mps
    obtain ⟨kvs, hM, kl, kall⟩ := mps
    have cho : ∀ x : Int, ∃ t : Int, x ∈ ev → ∃ (L : Addr) (xs : List Int), valV kvs (Sum.inl x) = some (.ref L) ∧ H2 L = some (.lst (xs.map V.int)) ∧ xs.sum = t := fun x => by
      by_cases h : x ∈ ev
      · obtain ⟨L, xs, v1, v2, _⟩ := kall x h
        exact ⟨xs.sum, fun _ => ⟨L, xs, v1, v2, rfl⟩⟩
      · exact ⟨0, fun c => absurd c h⟩
    obtain ⟨tf, htf⟩ := Classical.axiomOfChoice cho
    refine ⟨Nat.zero_le _, fun D nD => ⟨(by show 2 ≤ sizeLine; decide), fun tt ntt => ?_⟩⟩
    have D_tt : D ≠ tt := fun c => by
      rw [← c, upd_same] at ntt
      cases ntt
    have eD := (Ex.new nD (o := .lst [])).trans (Ex.new ntt (o := .tup [.ref M, .ref D]))
    have htt : (upd (upd H2 D (.lst [])) tt (.tup [.ref M, .ref D])) tt = some (.tup [.ref M, .ref D]) := upd_same
    have hD : (upd (upd H2 D (.lst [])) tt (.tup [.ref M, .ref D])) D = some (.lst (([] : List Int).map V.int)) := by
      rw [upd_ne D_tt, upd_same]
      rfl
    generalize upd (upd H2 D (.lst [])) tt (.tup [.ref M, .ref D]) = H3 at eD htt hD
    have nD0 : H D = none := fresh_back (eV.trans e2) nD
    have V_D : V1 ≠ D := fun c => by rw [← c, hV2] at nD; cases nD
    have S_D : D ≠ S := src.ne nD0
    have hV3 := eD _ _ hV2
    have hM3 := eD _ _ hM
    refine ⟨tt, _, rfl, st_of htt, rfl, _, _, rfl, _, _, rfl, rfl, ?_⟩
    -- keep
    refine ⟨_, rfl, V1, rfl, ⟨_, sq_of hV3⟩, fun K1 nK => ?_⟩
    refine lcL RI.lasts RI.lasts nK (sq_of hV3) (LR.of_ints _) (by rw [List.length_map]; omega) (fun x => if tf x > 0 then some x else none) (fun k x c H5 hc e5 r0 Kt Kf kt kf => ?_) (fun H5 ys e5 hy5 lr => ?_)
    · cases (show x = .int c from r0)
      obtain ⟨L, xs, v1, v2, v3⟩ := htf c (List.mem_of_getElem? hc)
      refine ⟨rfl, ?_⟩
      refine ⟨_, rfl, _, rfl, M, _, rfl, DGet.k' (k := Sum.inl c) (e5 _ _ hM3) v1, L, xs, rfl, sq_of (e5 _ _ (eD _ _ v2)), ?_⟩
      refine ⟨_, _, rfl, rfl, _, rfl, ?_⟩
      rw [v3]
      refine ite2 (fun h => ?_) (fun h => ?_)
      · have h : tf c > 0 := of_decide_eq_true h
        exact ⟨_, rfl, kt _ _ _ (if_pos h) (Ex.refl _) rfl⟩
      · have h : ¬ tf c > 0 := fun z => h (decide_eq_true z)
        exact kf _ (if_neg h) (Ex.refl _)
    obtain rfl := lr.ints
    obtain ⟨kp, ekp⟩ : ∃ kp : List Int, ev.filterMap (fun x => if tf x > 0 then some x else none) = kp := ⟨_, rfl⟩
    have kpin : InSh b kp := by
      intro y hy
      rw [← ekp] at hy
      obtain ⟨z, hz, e⟩ := List.mem_filterMap.mp hy
      split at e
      · exact (Option.some.inj e) ▸ evin z hz
      · cases e
    have kpl : kp.length ≤ 128 := by
      rw [← ekp]
      exact Nat.le_trans (List.length_filterMap_le _ ev) evl
    rw [ekp] at hy5
    have hV5 := e5 _ _ hV3
    have hD5 := e5 _ _ hD
    have K_D : K1 ≠ D := fun c => by rw [c, hD] at nK; cases nK
    have e05 : Ex H H5 := ((eV.trans e2).trans eD).trans e5
    have src5 := src.ex e05
    have V_S : V1 ≠ S := src.ne nV
    have K_S : K1 ≠ S := (src.ex ((eV.trans e2).trans eD)).ne nK
    -- the turns
    refine ⟨_, rfl, _, rfl, S, m, n, rfl, src5, by omega, by omega, by omega, fun d H6 d0 d1 src6 k6 => ?_⟩
    refine ⟨_, _, rfl, rfl, _, rfl, by omega, by omega, ?_⟩
    refine for_range (lo := 0) (n := (1 + d).toNat) (fun j σ H7 => ∃ (xs : List Int) (u7 u8 : Option V), σ = [some (.ref S), some g, some (.int m), some (.ref V1), some (.ref M), some (.ref D), some (.ref K1), u7, u8, none] ∧ Kp S H H7 ∧ Pool H7 S (n + 1 + 2 * j) ∧ H7 V1 = some (.lst (ev.map V.int)) ∧ H7 K1 = some (.lst (kp.map V.int)) ∧ H7 D = some (.lst (xs.map V.int)) ∧ InSh b xs ∧ xs.length ≤ j)
      ⟨[], none, none, rfl, (Ex.kp e05).trans k6, src6, k6 _ _ V_S hV5, k6 _ _ K_S hy5, k6 _ _ S_D hD5, (fun y hy => by cases hy), Nat.le_refl _⟩ ?_ ?_
    · rintro j σ H7 hj ⟨xs, u7, u8, rfl, k7, src7, hV7, hK7, hD7, xin, xl⟩
      have hj3 : j < 3 := by omega
      refine ⟨_, rfl, _, rfl, _, rfl, _, rfl, (by show 4 ≤ sizeLine; decide), fun G nG => ?_⟩
      have G_S := src7.ne nG
      have eG := Ex.new nG (o := .lst [.ref V1, .ref K1, .ref K1, .ref K1])
      have hG : (upd H7 G (.lst [.ref V1, .ref K1, .ref K1, .ref K1])) G = some (.lst [.ref V1, .ref K1, .ref K1, .ref K1]) := upd_same
      generalize upd H7 G (.lst [.ref V1, .ref K1, .ref K1, .ref K1]) = H8 at eG hG
      refine ⟨_, rfl, S, 4, _, rfl, src7.ex eG, by omega, by decide, by decide, fun d2 H9 d20 d21 src9 k9 => ?_⟩
      have hG9 := k9 _ _ G_S hG
      have hV9 := k9 _ _ V_S (eG _ _ hV7)
      have hK9 := k9 _ _ K_S (eG _ _ hK7)
      have hD9 := k9 _ _ S_D (eG _ _ hD7)
      have k79 := (k7.trans (Ex.kp eG)).trans k9
      obtain ⟨A1, as, hat, hA, ain, al, A_S, A_D⟩ : ∃ (A1 : Addr) (as : List Int), atI [V.ref V1, .ref K1, .ref K1, .ref K1] d2 = some (.ref A1) ∧ H9 A1 = some (.lst (as.map V.int)) ∧ InSh b as ∧ as.length ≤ 128 ∧ A1 ≠ S ∧ A1 ≠ D := by
        have : d2 = 0 ∨ d2 = 1 ∨ d2 = 2 ∨ d2 = 3 := by omega
        rcases this with rfl | rfl | rfl | rfl
        · exact ⟨V1, ev, rfl, hV9, evin, evl, V_S, V_D⟩
        all_goals exact ⟨K1, kp, rfl, hK9, kpin, kpl, K_S, K_D⟩
      refine ⟨G, _, d2, _, rfl, rfl, sq_of hG9, hat, ?_⟩
      -- those that are not found yet
      refine ⟨_, rfl, A1, rfl, ⟨_, sq_of hA⟩, fun B1 nB => ?_⟩
      refine lcL RI.lasts RI.lasts nB (sq_of hA) (LR.of_ints _) (by rw [List.length_map]; omega) (fun x => if x ∈ xs then none else some x) (fun k x c H10 hc e10 r0 Kt Kf kt kf => ?_) (fun H10 ys e10 hy10 lr => ?_)
      · cases (show x = .int c from r0)
        refine ⟨rfl, ?_⟩
        refine ⟨_, rfl, _, rfl, D, _, rfl, .inl (sq_of (e10 _ _ hD9)), rfl, flat_ints _, _, rfl, ?_⟩
        rw [inV_ints]
        refine ite2 (fun h => ?_) (fun h => ?_)
        · have h : ¬ c ∈ xs := fun z => by
            have h2 : (!decide (c ∈ xs)) = true := h
            rw [decide_eq_true z] at h2
            cases h2
          exact ⟨_, rfl, kt _ _ _ (if_neg h) (Ex.refl _) rfl⟩
        · have h : c ∈ xs := Classical.byContradiction fun z => h (by
            show (!decide (c ∈ xs)) = true
            rw [decide_eq_false z]
            rfl)
          exact kf _ (if_pos h) (Ex.refl _)
      obtain rfl := lr.ints
      obtain ⟨bs, ebs⟩ : ∃ bs : List Int, as.filterMap (fun x => if x ∈ xs then none else some x) = bs := ⟨_, rfl⟩
      have bin : InSh b bs := by
        intro y hy
        rw [← ebs] at hy
        obtain ⟨z, hz, e⟩ := List.mem_filterMap.mp hy
        split at e
        · cases e
        · exact (Option.some.inj e) ▸ ain z hz
      have bl : bs.length ≤ 128 := by
        rw [← ebs]
        exact Nat.le_trans (List.length_filterMap_le _ as) al
      rw [ebs] at hy10
      have B_S := src9.ne nB
      have hV10 := e10 _ _ hV9
      have hK10 := e10 _ _ hK9
      have hD10 := e10 _ _ hD9
      refine ⟨_, rfl, Nat.zero_le _, fun E0 nE => ?_⟩
      have eE := Ex.new nE (o := .lst [])
      have hE : (upd H10 E0 (.lst [])) E0 = some (.lst []) := upd_same
      generalize upd H10 E0 (.lst []) = H11 at eE hE
      have hB11 := eE _ _ hy10
      have k711 := (k79.trans (Ex.kp e10)).trans (Ex.kp eE)
      have src11 := (src9.ex e10).ex eE
      refine ⟨_, .list [], .lst (sq_of hB11) (dp_ints _), .lst (sq_of hE) .nil, dI_shaped _, by decide +kernel, _, rfl, ?_⟩
      rw [eqv_nil]
      have hD11 := eE _ _ hD10
      have hV11 := eE _ _ hV10
      have hK11 := eE _ _ hK10
      cases bs with
      | nil =>
        refine (show (if (!true) = true then _ else _) from iteF ?_)
        exact ⟨xs, _, _, rfl, k711, src11.mono (by omega), hV11, hK11, hD11, xin, by omega⟩
      | cons b0 bs =>
        refine (show (if (!false) = true then _ else _) from iteT ?_)
        refine ⟨_, rfl, .inl ⟨rfl, _, sq_of hD11⟩, ?_⟩
        refine ⟨_, rfl, _, rfl, _, rfl, B1, _, rfl, .inl (sq_of hB11), S, _, _, rfl, src11, by omega, by rw [List.length_map]; simp, ?_, fun d3 H12 d30 d31 src12 k12 => ?_⟩
        · rw [List.length_map]
          have : (128 : Int) + 1 < 2 ^ 200 := by decide
          omega
        rw [List.length_map] at d31
        obtain ⟨q3, rfl⟩ : ∃ q3 : Nat, d3 = (q3 : Int) := ⟨d3.toNat, by omega⟩
        have hq3 : q3 < (b0 :: bs).length := by omega
        have hB12 := k12 _ _ B_S hB11
        have hD12 := k12 _ _ S_D hD11
        have ge : ((b0 :: bs).map V.int)[q3]? = some (.int (b0 :: bs)[q3]) := by
          rw [List.getElem?_map, List.getElem?_eq_getElem hq3]
          rfl
        refine ⟨B1, _, _, _, rfl, rfl, sq_of hB12, atI_nat ge, ?_⟩
        refine ⟨D, _, _, rfl, rfl, hD12, ?_, ?_⟩
        · rw [List.length_map]
          exact Nat.lt_of_le_of_lt (show xs.length ≤ 1000 by omega) (by decide)
        refine ⟨xs ++ [(b0 :: bs)[q3]], _, _, rfl, (k711.trans k12).mut nD0, (src12.upd S_D).mono (by omega), ?_, ?_, ?_, ?_, ?_⟩
        · rw [upd_ne V_D]
          exact k12 _ _ V_S hV11
        · rw [upd_ne K_D]
          exact k12 _ _ K_S hK11
        · rw [upd_same, List.map_append]
          rfl
        · intro y hy
          rcases List.mem_append.mp hy with h | h
          · exact xin y h
          · rw [List.mem_singleton.mp h]
            exact bin _ (List.getElem_mem hq3)
        · simp
          omega
    · rintro σ H7 ⟨xs, u7, u8, rfl, k7, src7, hV7, hK7, hD7, xin, xl⟩
      refine ⟨_, rfl, Nat.zero_le _, fun E0 nE => ?_⟩
      have eE := Ex.new nE (o := .lst [])
      have hE : (upd H7 E0 (.lst [])) E0 = some (.lst []) := upd_same
      generalize upd H7 E0 (.lst []) = H8 at eE hE
      have hD8 := eE _ _ hD7
      have k8 := k7.trans (Ex.kp eE)
      have src8 := src7.ex eE
      refine ⟨_, .list [], .lst (sq_of hD8) (dp_ints _), .lst (sq_of hE) .nil, dI_shaped _, by decide +kernel, _, rfl, ?_⟩
      rw [eqv_nil]
      have d3 : (1 + d).toNat ≤ 3 := by omega
      cases xs with
      | nil =>
        refine (show (if (!true) = true then _ else _) from iteF ?_)
        refine ⟨(by show 1 ≤ sizeLine; decide), fun Z nZ => ?_⟩
        refine q Z _ [0] (k8.trans (Ex.kp (Ex.new nZ))) ((src8.ex (Ex.new nZ)).mono (by omega)) upd_same (fun y hy => ?_) (by decide) (by decide) (src8.ne nZ)
        rw [List.mem_singleton.mp hy]
        omega
      | cons x0 xs =>
        refine (show (if (!false) = true then _ else _) from iteT ?_)
        exact ⟨_, rfl, q D _ (x0 :: xs) k8 (src8.mono (by omega)) hD8 xin (by simp) (by omega) S_D⟩
end
end LW
namespace LW
open PySem PySem.Spec PyProof.Rows L2 Evl SB
section
variable {P : Program} {w : World} {K : PySem.W.Frag} {mg : Str → Option Value} {base : Heap}
theorem fm_congr {α β : Type} {f g : α → Option β} : ∀ {l : List α}, (∀ x ∈ l, f x = g x) → l.filterMap f = l.filterMap g
  | [], _ => rfl
  | x :: l, h => by
    rw [List.filterMap_cons, List.filterMap_cons, h x (List.mem_cons_self ..), fm_congr fun y hy => h y (List.mem_cons_of_mem _ hy)]
theorem frms_take {b : Nat} {p : Pa} {s : Nat} {ns : List Int} {i : Nat} {x : Int} (h : ns[i]? = some x) : frms b p s (ns.take (i + 1)) = frms b p s (ns.take i) ++ frm b p s x := by
  rw [List.take_add_one, h]
  unfold frms
  simp
theorem lpl_due {b : Nat} {p : Pa} {s : Nat} (hs : 1 ≤ s) (ns : List Int) : ((List.range (sz b p s - 1)).filterMap fun i : Nat => if itp b p s ns (sz b p s + 1) (1 + (i : Int)) = 0 then none else some (1 + (i : Int))) = lpl b p s ns := by
  have e : sz b p s = (sz b p s - 1) + 1 := by
    unfold sz
    omega
  unfold lpl
  rw [show List.range (sz b p s) = List.range ((sz b p s - 1) + 1) by rw [← e], List.range_succ_eq_map, List.filterMap_cons]
  have e0 : itp b p s ns (sz b p s) ((0 : Nat) : Int) = 0 := itp_0 hs ns _
  rw [if_pos e0, List.filterMap_map]
  refine fm_congr fun i hi => ?_
  have hi := List.mem_range.mp hi
  have e1 : ((Nat.succ i : Nat) : Int) = 1 + (i : Int) := by omega
  show _ = if itp b p s ns (sz b p s) ((Nat.succ i : Nat) : Int) = 0 then none else some ((Nat.succ i : Nat) : Int)
  rw [e1]
  have iff : itp b p s ns (sz b p s + 1) (1 + (i : Int)) = 0 ↔ itp b p s ns (sz b p s) (1 + (i : Int)) = 0 := ⟨fun h => itp_end hs (by omega) (by omega) h, fun h => itp_stay hs h 1⟩
  by_cases h : itp b p s ns (sz b p s) (1 + (i : Int)) = 0
  · rw [if_pos h, if_pos (iff.mpr h)]
  · rw [if_neg h, if_neg fun c => h (iff.mp c)]
def sp_ldue (K : PySem.W.Frag) : Sp := fun vs H Q _ => ∃ g b p s a ns, vs = [g, .ref a] ∧ IsSh K H g b p s ∧ SqL K H a (ns.map V.int) ∧ ns.length ≤ 60 ∧ InSh b ns ∧ RetL ((lpl b p s ns).map V.int) H Q
theorem cal_ldue (T : Tx K mg) : Cal P w K mg base CX0 2 "_law_due" ["_law_make", "_law_notes"] (sp_ldue K) := by
  have c_law_place := cal_lplace (P := P) (w := w) (base := base) T
  have c_law_frame := cal_lframe (P := P) (w := w) (base := base) T
  refine T.d_law_due.cal sc_law_due (fun vs H Q E h => ?_) (fun _ _ _ _ _ _ us hl => match us, hl with | [_, _], _ => rfl) (fun f cdv A outer s H vs Q E hr h => ⟨_, (pss_cons (ps_par3 (i := 2) (j := 3) (l := 4) (by rfl) sc_law_due.nd rfl rfl rfl (by decide) (by decide) (by decide) rfl rfl rfl (pa_cons (pe_lst pa_nil) (pa_cons (pe_callB call_len_seq (by rfl) T.b_len (by decide +kernel) (pa_cons (pe_cal c_law_frame (hr.mono (by decide)) pass0 (pa_cons (pv 0) (pa_cons pe_int pa_nil))) pa_nil)) (pa_cons (pe_lst pa_nil) pa_nil))) (by rfl))
      (pss_cons (ps_for PassesOwn.never rfl (pi_list (pv 1)) (pg_name (i := 5) sc_law_due.nd rfl (Or.inl rfl)) (pss_one (ps_set (i := 4) sc_law_due.nd rfl (Or.inl rfl) (pe_op op_cat (pv 4) (pe_cal c_law_frame (hr.mono (by decide)) pass0 (pa_cons (pv 0) (pa_cons (pv 5) pa_nil)))))))
      (pss_cons (ps_for PassesOwn.never rfl (pi_range2 rfl T.b_range (pa_cons pe_int (pa_cons (pv 3) pa_nil))) (pg_name (i := 6) sc_law_due.nd rfl (Or.inl rfl)) (pss_cons (ps_set (i := 7) sc_law_due.nd rfl (Or.inl rfl) (pv 6))
      (pss_cons (ps_for PassesOwn.never rfl (pi_range1 rfl T.b_range (pa_cons (pe_op op_add (pv 3) pe_int) pa_nil)) (pg_name (i := 8) sc_law_due.nd rfl (Or.inl rfl)) (pss_one (ps_set (i := 7) sc_law_due.nd rfl (Or.inl rfl) (pe_cal c_law_place (hr.mono (by decide)) pass0 (pa_cons (pv 0) (pa_cons (pv 7) (pa_cons (pv 4) pa_nil)))))))
      (pss_one (ps_if (pt_cmpR op_ne (pv 7) pe_int (nomark _)) (pss_one (ps_expr (pe_bm PySem.F.plainAttrs_list PySem.F.slot_list_append PySem.F.type_list_append mt_append (pv 2) (pa_cons (pv 6) pa_nil)))) pss_nil)))))
      (pss_one (ps_ret (pv 2)))))), ?_⟩)
  · obtain ⟨g, b, p, s, a, ns, rfl, _⟩ := h
    rfl
  · obtain ⟨g, b, p, s, a, ns, rfl, sh, sq, hl, hin, q⟩ := h
    obtain ⟨b1, b9, s1, s2, z1, z13⟩ := sz_bd sh
    have z0 : (0 : Int) < 2 ^ b := Int.pow_pos (by decide)
    refine ⟨Nat.zero_le _, fun D nD => ?_⟩
    have eD := Ex.new nD (o := .lst [])
    have hD : (upd H D (.lst [])) D = some (.lst (([] : List Int).map V.int)) := upd_same
    generalize upd H D (.lst []) = H1 at eD hD
    refine ⟨_, rfl, g, b, p, s, 0, rfl, sh.ex eD, Int.le_refl _, z0, fun F H2 nF e2 hF => ?_⟩
    refine ⟨F, _, rfl, .inl (sq_of hF), ?_⟩
    rw [List.length_map, frm_sz]
    have hD2 := e2 _ _ hD
    refine ⟨Nat.zero_le _, fun L nL => ?_⟩
    have eL := Ex.new nL (o := .lst [])
    have hL : (upd H2 L (.lst [])) L = some (.lst (([] : List Int).map V.int)) := upd_same
    generalize upd H2 L (.lst []) = H3 at eL hL
    have hD3 := eL _ _ hD2
    have e03 := (eD.trans e2).trans eL
    refine ⟨_, _, _, rfl, ?_⟩
    refine ⟨_, rfl, a, rfl, ⟨_, ex_l e03 sq⟩, for_list (K := K) (a := a) (xs := ns.map V.int) (fun i σ H4 => ∃ (l : Addr) (u : Option V), σ = [some g, some (.ref a), some (.ref D), some (.int ((sz b p s : Nat) : Int)), some (.ref l), u, none, none, none] ∧ Ex H3 H4 ∧ H4 l = some (.lst ((frms b p s (ns.take i)).map V.int)) ∧ l ≠ D)
      ⟨L, none, rfl, Ex.refl _, hL, fun c => by rw [c, hD2] at nL; cases nL⟩ (fun i σ H4 _ ⟨_, _, _, e, _⟩ => ex_l (e03.trans e) sq) ?_ ?_⟩
    · rintro i y σ H4 hy ⟨l, u, rfl, e4, hl4, _⟩
      obtain ⟨x, hx, rfl⟩ := ints_at hy
      have xin := hin x (List.mem_of_getElem? hx)
      refine ⟨_, rfl, _, rfl, _, rfl, g, b, p, s, x, rfl, (sh.ex e03).ex e4, xin.1, xin.2, fun F2 H5 nF2 e5 hF2 => ?_⟩
      refine ⟨l, F2, _, _, rfl, rfl, e5 _ _ hl4, hF2, ?_, fun N nN => ?_⟩
      · have h1 := frms_le b p s (ns.take i)
        have h2 := frm_le b p s x
        have h4 : (ns.take i).length ≤ 60 := by
          rw [List.length_take]
          omega
        have h5 : (ns.take i).length * (2 + b + s) ≤ 60 * 13 := Nat.mul_le_mul h4 (by omega)
        rw [List.length_map, List.length_map, sizeLine_eq]
        omega
      refine ⟨N, _, rfl, (e4.trans e5).trans (Ex.new nN), ?_, fun c => by rw [c, e5 _ _ (e4 _ _ hD3)] at nN; cases nN⟩
      rw [upd_same, frms_take hx, List.map_append]
    · rintro σ H4 ⟨l, u, rfl, e4, hl4, l_D⟩
      rw [List.length_map, List.take_length] at hl4
      refine ⟨_, rfl, _, _, rfl, ⟨by omega, by omega, by omega, by omega⟩, ?_⟩
      refine for_range (lo := 1) (n := (((sz b p s : Nat) : Int) - 1).toNat) (fun i σ H5 => ∃ (u6 u7 u8 : Option V), σ = [some g, some (.ref a), some (.ref D), some (.int ((sz b p s : Nat) : Int)), some (.ref l), u, u6, u7, u8] ∧ Ex H H5 ∧ H5 l = some (.lst ((frms b p s ns).map V.int)) ∧ H5 D = some (.lst (((List.range i).filterMap fun k : Nat => if itp b p s ns (sz b p s + 1) (1 + (k : Int)) = 0 then none else some (1 + (k : Int))).map V.int)))
        ⟨none, none, none, rfl, e03.trans e4, hl4, e4 _ _ hD3⟩ ?_ ?_
      · rintro i σ H5 hi ⟨u6, u7, u8, rfl, e5, hl5, hD5⟩
        have i0 : (0 : Int) ≤ 1 + (i : Int) := by omega
        have i1 : 1 + (i : Int) < ((sz b p s : Nat) : Int) := by omega
        refine ⟨_, rfl, ?_⟩
        refine ⟨_, rfl, _, _, rfl, rfl, _, rfl, by omega, by omega, ?_⟩
        refine for_range (lo := 0) (n := (((sz b p s : Nat) : Int) + 1).toNat) (fun j σ H6 => ∃ (u8 : Option V), σ = [some g, some (.ref a), some (.ref D), some (.int ((sz b p s : Nat) : Int)), some (.ref l), u, some (.int (1 + (i : Int))), some (.int (itp b p s ns j (1 + (i : Int)))), u8] ∧ H6 = H5)
          ⟨u8, rfl, rfl⟩ ?_ ?_
        · rintro j σ H6 hj ⟨u8, rfl, rfl⟩
          have bd := itp_bd (b := b) (p := p) s1 (ns := ns) i0 i1 j
          refine ⟨_, rfl, _, rfl, _, rfl, g, b, p, s, _, l, _, rfl, sh.ex e5, by omega, bd.2, sq_of hl5, (fun l h => frms_01 h), ?_⟩
          rw [plc_frms]
          exact ⟨_, rfl, rfl⟩
        · rintro σ H6 ⟨u8, rfl, rfl⟩
          rw [show (((sz b p s : Nat) : Int) + 1).toNat = sz b p s + 1 by omega]
          refine ⟨_, rfl, rfl, _, rfl, ite2 (fun h => ?_) (fun h => ?_)⟩
          · have h : ¬ itp b p s ns (sz b p s + 1) (1 + (i : Int)) = 0 := fun c => by
              have h2 : (!decide (V.int (itp b p s ns (sz b p s + 1) (1 + (i : Int))) = V.int 0)) = true := h
              rw [c] at h2
              cases h2
            refine ⟨_, rfl, .inl ⟨rfl, _, sq_of hD5⟩, _, rfl, D, _, _, rfl, rfl, hD5, ?_, ?_⟩
            · have h1 := List.length_filterMap_le (fun k : Nat => if itp b p s ns (sz b p s + 1) (1 + (k : Int)) = 0 then none else some (1 + (k : Int))) (List.range i)
              rw [List.length_range] at h1
              rw [List.length_map]
              exact Nat.lt_of_le_of_lt (show _ ≤ 1000 by omega) (by decide)
            refine ⟨_, _, _, rfl, e5.mut nD, ?_, ?_⟩
            · rw [upd_ne l_D]
              exact hl5
            · rw [upd_same, List.range_succ, List.filterMap_append, List.map_append, List.filterMap_cons, if_neg h]
              rfl
          · have h : itp b p s ns (sz b p s + 1) (1 + (i : Int)) = 0 := Classical.byContradiction fun c => h (by
              show (!decide (V.int (itp b p s ns (sz b p s + 1) (1 + (i : Int))) = V.int 0)) = true
              rw [decide_eq_false (fun e => c (by injection e))]
              rfl)
            refine ⟨_, _, _, rfl, e5, hl5, ?_⟩
            rw [hD5, List.range_succ, List.filterMap_append, List.map_append, List.filterMap_cons, if_pos h]
            simp
      · rintro σ H5 ⟨u6, u7, u8, rfl, e5, hl5, hD5⟩
        refine ⟨_, rfl, ?_⟩
        rw [show (((sz b p s : Nat) : Int) - 1).toNat = sz b p s - 1 by omega, lpl_due s1] at hD5
        exact q D H5 nD e5 hD5
end
end LW
namespace LW
open PySem PySem.Spec PyProof.Rows L2 Evl SB
section
variable {P : Program} {w : World} {K : PySem.W.Frag} {mg : Str → Option Value} {base : Heap}
theorem sm_lpl {b : Nat} {p : Pa} {s : Nat} {ns : List Int} (h : sz b p s ≤ 13) : (∀ y ∈ lpl b p s ns, y.natAbs < 2 ^ 200) ∧ (lpl b p s ns).length ≤ 13 := by
  unfold lpl
  constructor
  · intro y hy
    obtain ⟨i, hi, e⟩ := List.mem_filterMap.mp hy
    have hi := List.mem_range.mp hi
    split at e
    · cases e
    · obtain rfl := Option.some.inj e
      omega
  · have h1 := List.length_filterMap_le (fun i : Nat => if itp b p s ns (sz b p s) (i : Int) = 0 then none else some (i : Int)) (List.range (sz b p s))
    rw [List.length_range] at h1
    omega
def sp_lright (K : PySem.W.Frag) : Sp := fun vs H Q _ => ∃ (S : Addr) (n : Nat) (g : V) (b : Nat) (p : Pa) (s : Nat) (a : Addr) (ns : List Int), vs = [.ref S, g, .ref a] ∧ Pool H S n ∧ n ≤ 900000 ∧ IsSh K H g b p s ∧ H a = some (.lst (ns.map V.int)) ∧ a ≠ S ∧ 1 ≤ ns.length ∧ ns.length ≤ 8 ∧ InSh b ns ∧
  ∀ H', Kp S H H' → Pool H' S (n + 1) → Q (.bl true) H'
theorem cal_lright (T : Tx K mg) : CalG P w K mg base CX0 10 "_law_right" ["_law_tank_here", "_law_make", "_law_notes"] (sp_lright K) := by
  have c_law_tap := cal_tap (P := P) (w := w) (base := base) T
  have c_law_due := cal_ldue (P := P) (w := w) (base := base) T
  have c_lasting_places := cal_last (P := P) (w := w) (base := base) T
  have c_lasting_places_numbers_shape := cal_lastK (P := P) (w := w) (base := base) T
  refine T.d_law_right.calG sc_law_right (fun vs H Q E h => ?_) (fun _ _ _ _ _ _ us hl => match us, hl with | [_, _, _], _ => rfl) (fun f cdv A outer s H vs Q E hr hgd h => ⟨_, (pss_cons (ps_par (i := 3) (j := 4) (by rfl) sc_law_right.nd rfl rfl (by decide) rfl rfl (pa_cons (pe_callTy call_list_of (by rfl) T.b_list (by decide +kernel) (pa_cons (pv 2) pa_nil)) (pa_cons (pe_cal c_law_due (hr.mono (by decide)) pass0 (pa_cons (pv 1) (pa_cons (pv 2) pa_nil))) pa_nil)) (by rfl))
      (pss_cons (ps_set (i := 5) sc_law_right.nd rfl (Or.inl rfl) (pe_calK c_lasting_places_numbers_shape (hr.mono (by decide)) pass0 (pk_cons (pv 2) (pk_cons (pv 1) pk_nil))))
      (pss_cons (ps_if (PW.pt (pw_or (pt_cmpR op_ne (pe_callB (call_rp hgd hr.units) (by rfl) T.b_repr (by decide +kernel) (pa_cons (pv 5) pa_nil)) (pe_callB (call_rp hgd hr.units) (by rfl) T.b_repr (by decide +kernel) (pa_cons (pv 4) pa_nil)) (nomark _)) (pw_or1 (pt_cmpR (op_neD hr.units) (pv 2) (pv 3) (nomark _))))) (pss_one (ps_ret pe_bl)) pss_nil)
      (pss_cons (ps_expr (pe_bm PySem.F.plainAttrs_list PySem.F.slot_list_append PySem.F.type_list_append mt_append (pv 5) (pa_cons pe_non pa_nil)))
      (pss_cons (ps_if (pt_cmpR (op_neD hr.units) (pe_cal c_lasting_places (hr.mono (by decide)) pass0 (pa_cons (pv 1) (pa_cons (pv 2) pa_nil))) (pv 4) (nomark _)) (pss_one (ps_ret pe_bl)) pss_nil)
      (pss_cons (ps_set (i := 6) sc_law_right.nd rfl (Or.inl rfl) (pe_cal c_law_tap (hr.mono (by decide)) pass0 (pa_cons (pv 0) (pa_cons (pe_callB call_len_seq (by rfl) T.b_len (by decide +kernel) (pa_cons (pv 2) pa_nil)) pa_nil))))
      (pss_cons (ps_set (i := 7) sc_law_right.nd rfl (Or.inl rfl) (pe_op op_cat (pe_slice sl_list (pv 2) (po_some (pv 6)) po_none) (pe_slice sl_list (pv 2) po_none (po_some (pv 6)))))
      (pss_cons (ps_if (pt_cmpR op_ne (pe_cmpR (op_eqD hr.units) (pe_cal c_lasting_places (hr.mono (by decide)) pass0 (pa_cons (pv 1) (pa_cons (pv 7) pa_nil))) (pe_lst pa_nil) (nomark _)) (pe_cmpR (op_eqD hr.units) (pv 4) (pe_lst pa_nil) (nomark _)) (nomark _)) (pss_one (ps_ret pe_bl)) pss_nil)
      (pss_one (ps_ret (pe_and (pe_cmpR (op_eqD hr.units) (pe_cal c_lasting_places (hr.mono (by decide)) pass0 (pa_cons (pv 1) (pa_cons (pe_op op_cat (pv 2) (pe_slice sl_list (pv 2) po_none (po_some pe_int))) pa_nil))) (pv 4) (nomark _)) (pe_one (pe_cmpR (op_eqD hr.units) (pv 2) (pv 3) (nomark _)))))))))))))), ?_⟩)
  · obtain ⟨S, n, g, b, p, s, a, ns, rfl, _⟩ := h
    rfl
  · obtain ⟨S, n, g, b, p, s, a, ns, rfl, src, hn, sh, ha, a_S, h1, hl, hin, q⟩ := h
    obtain ⟨b1, b9, s1, s2, z1, z13⟩ := sz_bd sh
    obtain ⟨sml, len⟩ := sm_lpl (b := b) (p := p) (s := s) (ns := ns) z13
    obtain ⟨w1, w2, w3, w4⟩ := show_list sml (show _ ≤ 10000 by omega)
    -- kept, due
    refine ⟨_, rfl, a, _, rfl, .inl (sq_of ha), fun C nC => ?_⟩
    have eC := Ex.new nC (o := .lst (ns.map V.int))
    have hC : (upd H C (.lst (ns.map V.int))) C = some (.lst (ns.map V.int)) := upd_same
    generalize upd H C (.lst (ns.map V.int)) = H1 at eC hC
    have C_S : C ≠ S := src.ne nC
    refine ⟨_, rfl, _, rfl, g, b, p, s, a, ns, rfl, sh.ex eC, sq_of (eC _ _ ha), by omega, hin, fun D H2 nD e2 hD => ?_⟩
    have e02 := eC.trans e2
    have D_S : D ≠ S := (src.ex eC).ne nD
    refine ⟨_, _, rfl, ?_⟩
    refine ⟨_, rfl, _, rfl, g, b, p, s, a, ns, rfl, sh.ex e02, sq_of (e02 _ _ ha), h1, hl, hin, fun L H3 nL e3 hL => ?_⟩
    have e03 := e02.trans e3
    have hD3 := e3 _ _ hD
    have hC3 := (e2.trans e3) _ _ hC
    have L_D : D ≠ L := fun c => by rw [← c, hD] at nL; cases nL
    have nL0 : H L = none := fresh_back e02 nL
    have L_C : C ≠ L := fun c => by rw [← c, e2 _ _ hC] at nL; cases nL
    refine ⟨_, rfl, _, _, rfl, .lst (sq_of hL) (dp_ints _), w1, w2, w3, w4, _, rfl, _, _, rfl, .lst (sq_of hD3) (dp_ints _), w1, w2, w3, w4, rfl, _, rfl, iteNS rfl ?_⟩
    refine ⟨_, rfl, _, rfl, _, _, .lst (sq_of (e03 _ _ ha)) (dp_ints _), .lst (sq_of hC3) (dp_ints _), dI_shaped _, dI_shaped _, _, rfl, ?_⟩
    rw [eqv_sh (dI_shaped _)]
    refine iteF ?_
    -- told.append(None)
    refine ⟨_, rfl, .inl ⟨rfl, _, sq_of hL⟩, L, _, _, rfl, rfl, hL, ?_, ?_⟩
    · rw [List.length_map]
      exact Nat.lt_of_le_of_lt (show _ ≤ 1000 by omega) (by decide)
    have e4 : Ex H (upd H3 L (.lst ((lpl b p s ns).map V.int ++ [.non]))) := e03.mut nL0
    have hD4 : (upd H3 L (.lst ((lpl b p s ns).map V.int ++ [.non]))) D = some (.lst ((lpl b p s ns).map V.int)) := by
      rw [upd_ne L_D]
      exact hD3
    have hC4 : (upd H3 L (.lst ((lpl b p s ns).map V.int ++ [.non]))) C = some (.lst (ns.map V.int)) := by
      rw [upd_ne L_C]
      exact hC3
    generalize upd H3 L (.lst ((lpl b p s ns).map V.int ++ [.non])) = H4 at e4 hD4 hC4
    refine ⟨_, rfl, _, rfl, g, b, p, s, a, ns, rfl, sh.ex e4, sq_of (e4 _ _ ha), h1, hl, hin, fun L2 H5 nL2 e5 hL2 => ?_⟩
    have e05 := e4.trans e5
    refine ⟨_, rfl, _, _, .lst (sq_of hL2) (dp_ints _), .lst (sq_of (e5 _ _ hD4)) (dp_ints _), dI_shaped _, dI_shaped _, _, rfl, ?_⟩
    rw [eqv_sh (dI_shaped _)]
    refine iteF ?_
    -- cut
    refine ⟨_, rfl, _, rfl, a, _, rfl, .inl (sq_of (e05 _ _ ha)), S, _, n, rfl, src.ex e05, by omega, by rw [List.length_map]; omega, ?_, fun d H6 d0 d1 src6 k6 => ?_⟩
    · rw [List.length_map]
      have : (60 : Int) + 1 < 2 ^ 200 := by decide
      omega
    rw [List.length_map] at d1
    obtain ⟨j, rfl⟩ : ∃ j : Nat, d = (j : Int) := ⟨d.toNat, by omega⟩
    have ha6 := k6 _ _ a_S (e05 _ _ ha)
    have hD6 := k6 _ _ D_S (e5 _ _ hD4)
    have hC6 := k6 _ _ C_S (e5 _ _ hC4)
    have k06 : Kp S H H6 := (Ex.kp e05).trans k6
    obtain ⟨y0, hy0⟩ := src.at
    have sh6 := sh.kp k06 hy0
    -- other
    have cutE : cutV (ns.map V.int) none (some (j : Int)) = (ns.take j).map V.int := by
      unfold cutV
      rw [show HT.sIx (ns.map V.int).length (ns.map V.int).length (some (j : Int)) = min j (ns.map V.int).length from HT.sIx_nat _ _ j, HT.sIx_none, Nat.min_eq_left (by rw [List.length_map]; omega), Nat.sub_zero, List.drop_zero, List.map_take]
    have cutE2 : cutV (ns.map V.int) (some (j : Int)) none = (ns.drop j).map V.int := by
      unfold cutV
      rw [show HT.sIx (ns.map V.int).length 0 (some (j : Int)) = min j (ns.map V.int).length from HT.sIx_nat _ _ j, HT.sIx_none, Nat.min_eq_left (by rw [List.length_map]; omega), List.take_of_length_le (by rw [List.length_drop]; omega), List.map_drop]
    refine ⟨_, rfl, _, rfl, _, rfl, a, _, rfl, sq_of ha6, fun U nU => ?_⟩
    rw [cutE2]
    have eU := Ex.new nU (o := .lst ((ns.drop j).map V.int))
    have hU : (upd H6 U (.lst ((ns.drop j).map V.int))) U = some (.lst ((ns.drop j).map V.int)) := upd_same
    generalize upd H6 U (.lst ((ns.drop j).map V.int)) = H7 at eU hU
    refine ⟨_, rfl, _, rfl, _, rfl, a, _, rfl, sq_of (eU _ _ ha6), fun W nW => ?_⟩
    rw [cutE]
    have eW := Ex.new nW (o := .lst ((ns.take j).map V.int))
    have hW : (upd H7 W (.lst ((ns.take j).map V.int))) W = some (.lst ((ns.take j).map V.int)) := upd_same
    generalize upd H7 W (.lst ((ns.take j).map V.int)) = H8 at eW hW
    refine ⟨U, W, _, _, rfl, rfl, eW _ _ hU, hW, ?_, fun O nO => ?_⟩
    · rw [List.length_map, List.length_map, List.length_drop, List.length_take, sizeLine_eq]
      omega
    rw [← List.map_append]
    have eO := Ex.new nO (o := .lst ((ns.drop j ++ ns.take j).map V.int))
    have hO : (upd H8 O (.lst ((ns.drop j ++ ns.take j).map V.int))) O = some (.lst ((ns.drop j ++ ns.take j).map V.int)) := upd_same
    generalize upd H8 O (.lst ((ns.drop j ++ ns.take j).map V.int)) = H9 at eO hO
    have e69 := (eU.trans eW).trans eO
    have inO : InSh b (ns.drop j ++ ns.take j) := fun y hy => by
      rcases List.mem_append.mp hy with h | h
      · exact hin y (List.mem_of_mem_drop h)
      · exact hin y (List.mem_of_mem_take h)
    have lO : (ns.drop j ++ ns.take j).length = ns.length := by
      rw [List.length_append, List.length_drop, List.length_take]
      omega
    refine ⟨_, rfl, _, rfl, g, b, p, s, O, _, rfl, sh6.ex e69, sq_of hO, by omega, by omega, inO, fun L3 H10 nL3 e10 hL3 => ?_⟩
    refine ⟨Nat.zero_le _, fun E0 nE => ?_⟩
    have eE := Ex.new nE (o := .lst [])
    have hE : (upd H10 E0 (.lst [])) E0 = some (.lst []) := upd_same
    generalize upd H10 E0 (.lst []) = H11 at eE hE
    refine ⟨_, .list [], .lst (sq_of (eE _ _ hL3)) (dp_ints _), .lst (sq_of hE) .nil, dI_shaped _, by decide +kernel, ?_⟩
    rw [eqv_nil]
    have e611 := (e69.trans e10).trans eE
    have hD11 := e611 _ _ hD6
    refine ⟨_, rfl, Nat.zero_le _, fun E1 nE1 => ?_⟩
    have eE1 := Ex.new nE1 (o := .lst [])
    have hE1 : (upd H11 E1 (.lst [])) E1 = some (.lst []) := upd_same
    generalize upd H11 E1 (.lst []) = H12 at eE1 hE1
    refine ⟨_, .list [], .lst (sq_of (eE1 _ _ hD11)) (dp_ints _), .lst (sq_of hE1) .nil, dI_shaped _, by decide +kernel, ?_⟩
    rw [eqv_nil]
    have same : (lpl b p s (ns.drop j ++ ns.take j)).isEmpty = (lpl b p s ns).isEmpty := by
      have t := lpl_turn_iff (b := b) (p := p) s1 (ns.drop j) (ns.take j)
      rw [List.take_append_drop] at t
      rw [Bool.eq_iff_iff, List.isEmpty_iff, List.isEmpty_iff]
      exact t
    rw [same]
    refine ⟨rfl, _, rfl, ?_⟩
    rw [decide_eq_true rfl]
    refine (show (if (!true) = true then _ else _) from iteF ?_)
    have e612 := e611.trans eE1
    have k012 := k06.trans (Ex.kp e612)
    have ha12 := e612 _ _ ha6
    have hD12 := e612 _ _ hD6
    have hC12 := e612 _ _ hC6
    refine ⟨_, rfl, _, rfl, _, rfl, _, rfl, a, _, rfl, sq_of ha12, fun U2 nU2 => ?_⟩
    have cutE3 : cutV (ns.map V.int) none (some (0 : Int)) = ([] : List Int).map V.int := by
      unfold cutV
      rw [show HT.sIx (ns.map V.int).length (ns.map V.int).length (some (0 : Int)) = min 0 (ns.map V.int).length from HT.sIx_nat _ _ 0, HT.sIx_none]
      simp
    rw [cutE3]
    have eU2 := Ex.new nU2 (o := .lst (([] : List Int).map V.int))
    have hU2 : (upd H12 U2 (.lst (([] : List Int).map V.int))) U2 = some (.lst (([] : List Int).map V.int)) := upd_same
    generalize upd H12 U2 (.lst (([] : List Int).map V.int)) = H13 at eU2 hU2
    refine ⟨a, U2, _, _, rfl, rfl, eU2 _ _ ha12, hU2, ?_, fun O2 nO2 => ?_⟩
    · rw [List.length_map, List.length_map, sizeLine_eq]
      simp
      omega
    rw [← List.map_append, List.append_nil]
    have eO2 := Ex.new nO2 (o := .lst (ns.map V.int))
    have hO2 : (upd H13 O2 (.lst (ns.map V.int))) O2 = some (.lst (ns.map V.int)) := upd_same
    generalize upd H13 O2 (.lst (ns.map V.int)) = H14 at eO2 hO2
    have e614 := (e612.trans eU2).trans eO2
    refine ⟨g, b, p, s, O2, ns, rfl, sh6.ex e614, sq_of hO2, h1, hl, hin, fun L4 H15 nL4 e15 hL4 => ?_⟩
    have e615 := e614.trans e15
    refine ⟨_, rfl, _, _, .lst (sq_of hL4) (dp_ints _), .lst (sq_of (e615 _ _ hD6)) (dp_ints _), dI_shaped _, dI_shaped _, _, rfl, ?_⟩
    rw [eqv_sh (dI_shaped _)]
    refine ⟨_, rfl, _, rfl, _, _, .lst (sq_of (e615 _ _ ha6)) (dp_ints _), .lst (sq_of (e615 _ _ hC6)) (dp_ints _), dI_shaped _, dI_shaped _, ?_⟩
    rw [eqv_sh (dI_shaped _)]
    exact q H15 (k06.trans (Ex.kp e615)) (src6.ex e615)
end
end LW
namespace LW
open PySem PySem.Spec PyProof.Rows L2 Evl SB
section
variable {P : Program} {w : World} {K : PySem.W.Frag} {mg : Str → Option Value} {base : Heap}
theorem len_K {X : L2.Cx} {K0 : PySem.W.Frag} (h : X.K = K0) : CallR X (.builtin "len") (fun xs H Q => ∃ p ys, xs = [V.ref p] ∧ (SqL K0 H p ys ∨ SqT K0 H p ys) ∧ Q (V.int (ys.length : Nat)) H) := h ▸ call_len_seq
def sp_law (K : PySem.W.Frag) : Sp := fun vs H Q _ => ∃ (a : Addr) (ns : List Int), vs = [.ref a] ∧ SqL K H a (ns.map V.int) ∧ ns.length ≤ 63 ∧ ∀ H', Q (.bl true) H'
theorem law_ok {fd : FuncData} (T : Tx K mg) (F : FunD K "law" "law" (defArgs s_law) (defBody s_law) (defScope s_law) [] [] (He.fAd K ("law", none)) fd) : FnG P w K mg base CX0 11 (He.fAd K ("law", none)) fd ["_law_script"] (sp_law K) := by
  have c_law_tank := cal_tank (P := P) (w := w) (base := base) T
  have c_law_tap := cal_tap (P := P) (w := w) (base := base) T
  have c_law_shape := cal_lshape (P := P) (w := w) (base := base) T
  have c_law_numbers := cal_lnumbers (P := P) (w := w) (base := base) T
  have c_law_allowed := cal_lallowed (P := P) (w := w) (base := base) T
  have c_law_right := cal_lright (P := P) (w := w) (base := base) T
  have c_lasting_places := cal_last (P := P) (w := w) (base := base) T
  refine FnG.body F sc_law (fun vs H Q E h => ?_) (fun cdv A outer s H vs Q E hr hgd h => ⟨_, PSs.nox ((pss_cons (ps_for PassesOwn.never rfl (pi_range1 rfl T.b_range (pa_cons (pe_callB (call_max2 rfl) (by rfl) T.b_max (by decide +kernel) (pa_cons pe_int (pa_cons (pe_callB (call_min2 rfl) (by rfl) T.b_min (by decide +kernel) (pa_cons pe_int (pa_cons (pe_callB call_len_seq (by rfl) T.b_len (by decide +kernel) (pa_cons (pv 0) pa_nil)) pa_nil))) pa_nil))) pa_nil)) (pg_name (i := 1) sc_law.nd rfl (Or.inl rfl)) (pss_cons (ps_set (i := 2) sc_law.nd rfl (Or.inr rfl) (pe_cal c_law_tank (hr.mono (by decide)) pass0 (pa_cons (pv 0) (pa_cons (pv 1) pa_nil))))
      (pss_one (ps_for PassesOwn.never rfl (pi_range1 rfl T.b_range (pa_cons pe_int pa_nil)) (pg_name (i := 3) sc_law.nd rfl (Or.inl rfl)) (pss_cons (ps_set (i := 4) sc_law.nd rfl (Or.inr rfl) (pe_cal c_law_shape (hr.mono (by decide)) pass0 (pa_cons (pv 2) (pa_cons (pe_ix ix_list (pe_lst (pa_cons pe_int (pa_cons pe_int (pa_cons pe_int (pa_cons pe_int (pa_cons pe_int pa_nil)))))) (pv 3) (fun _ _ => rfl)) pa_nil))))
      (pss_cons (ps_set (i := 5) sc_law.nd rfl (Or.inr rfl) (pe_ifExp (pt_cmpR op_lt (pe_ix ix_tup (pv 4) pe_int (fun _ _ => rfl)) pe_int (nomark _)) (pe_cal c_law_allowed (hr.mono (by decide)) pass0 (pa_cons (pv 2) (pa_cons (pv 4) (pa_cons pe_int pa_nil)))) (pe_slice sl_list (pe_lst (pa_cons pe_int (pa_cons pe_int (pa_cons pe_int (pa_cons pe_int (pa_cons pe_int pa_nil)))))) po_none (po_some (pe_op op_add pe_int (pe_cal c_law_tap (hr.mono (by decide)) pass0 (pa_cons (pv 2) (pa_cons pe_int pa_nil))))))))
      (pss_cons (ps_set (i := 5) sc_law.nd rfl (Or.inr rfl) (pe_lc rfl sc_law.nd (pi_list (pv 5)) (blkOk_by (own := [("_law_number", 8)]) (N := ["_law_script", "_law_at", "_law_tank_here", "_law_turn", "_law_make", "_law_some", "_law_notes", "_law_plain", "_law_number", "_law_lap"]) (sc := defScope s_law) (by decide +kernel)) (fun _ _ _ _ _ => (pg_name (i := 8) sc_law.nd rfl (Or.inl rfl))) (fun _ _ _ _ _ => pts_nil) (fun _ _ _ _ _ => (pe_op op_mod (pe_callTy call_int1 (by rfl) T.b_int (by decide +kernel) (pa_cons (pv 8) pa_nil)) (pe_cal c_law_numbers (hr.mono (by decide)) pass0 (pa_cons (pv 4) pa_nil))))))
      (pss_cons (ps_setLc (i := 6) rfl sc_law.nd rfl rfl (sw_true rfl rfl rfl (by decide +kernel)) (pi_range1 rfl T.b_range (pa_cons (pe_op op_add pe_int (pe_cal c_law_tap (hr.mono (by decide)) pass0 (pa_cons (pv 2) (pa_cons pe_int pa_nil)))) pa_nil)) (blkOk_by (own := [("_law_lap", 9)]) (N := ["_law_script", "_law_at", "_law_tank_here", "_law_turn", "_law_make", "_law_some", "_law_notes", "_law_plain", "_law_number", "_law_lap"]) (sc := defScope s_law) (by decide +kernel)) (fun _ _ _ _ _ => (pg_name (i := 9) sc_law.nd rfl (Or.inl rfl))) (fun _ _ _ _ _ => pts_nil) (fun _ _ _ _ _ => (pe_ix (ixL_K (K0 := K) rfl) (pv 5) (pe_cal c_law_tap (hr.mono (by decide)) pass0 (pa_cons (pv 2) (pa_cons (pe_callB (len_K (K0 := K) rfl) (by rfl) T.b_len (by decide +kernel) (pa_cons (pv 5) pa_nil)) pa_nil))) (fun _ _ => rfl))))
      (pss_one (ps_if (pt_not (pt_val (pe_calG c_law_right (hr.mono (by decide)) hgd pass0 (pa_cons (pv 2) (pa_cons (pv 4) (pa_cons (pv 6) pa_nil)))))) (pss_one (ps_ret pe_bl)) pss_nil))))))))))
      (pss_cons (ps_set (i := 7) sc_law.nd rfl (Or.inl rfl) (pe_tup (pa_cons pe_int (pa_cons pe_str (pa_cons pe_int pa_nil)))))
      (pss_cons (ps_if (pt_cmpR (op_neD hr.units) (pe_lst (pa_cons (pe_cal c_lasting_places (hr.mono (by decide)) pass0 (pa_cons (pv 7) (pa_cons (pe_lst (pa_cons pe_int pa_nil)) pa_nil))) (pa_cons (pe_cal c_lasting_places (hr.mono (by decide)) pass0 (pa_cons (pv 7) (pa_cons (pe_lst (pa_cons pe_int (pa_cons pe_int pa_nil))) pa_nil))) pa_nil))) (pe_lst (pa_cons (pe_lst (pa_cons pe_int (pa_cons pe_int (pa_cons pe_int (pa_cons pe_int (pa_cons pe_int (pa_cons pe_int (pa_cons pe_int (pa_cons pe_int pa_nil))))))))) (pa_cons (pe_lst pa_nil) pa_nil))) (nomark _)) (pss_one (ps_ret pe_bl)) pss_nil)
      (pss_one (ps_ret (pe_and (pe_cmpR (op_eqD hr.units) (pe_cal c_lasting_places (hr.mono (by decide)) pass0 (pa_cons (pe_tup (pa_cons pe_int (pa_cons pe_str (pa_cons pe_int pa_nil)))) (pa_cons (pe_op op_rep (pe_lst (pa_cons pe_int pa_nil)) pe_int) pa_nil))) (pe_lst (pa_cons pe_int (pa_cons pe_int pa_nil))) (nomark _)) (pe_one (pe_cmpR (op_eqD hr.units) (pe_cal c_lasting_places (hr.mono (by decide)) pass0 (pa_cons (pe_tup (pa_cons pe_int (pa_cons pe_str (pa_cons pe_int pa_nil)))) (pa_cons (pe_lst (pa_cons pe_int pa_nil)) pa_nil))) (pe_lst pa_nil) (nomark _)))))))))), ?_⟩)
  · obtain ⟨a, ns, rfl, _⟩ := h
    rfl
  · obtain ⟨a, ns, rfl, sq, hl, q⟩ := h
    refine ⟨_, rfl, a, _, rfl, .inl sq, _, _, rfl, _, _, rfl, _, rfl, ?_, ?_, ?_⟩
    · split <;> split <;> omega
    · split <;> split <;> omega
    have small : ∀ i : Nat, i < (if (if ((ns.map V.int).length : Int) < 3 then ((ns.map V.int).length : Int) else 3) > 1 then (if ((ns.map V.int).length : Int) < 3 then ((ns.map V.int).length : Int) else 3) else 1 : Int).toNat → i ≤ 8 := by
      intro i hi
      split at hi <;> (try split at hi) <;> omega
    refine for_range (lo := 0) (fun i σ H1 => ∃ u1 u2 u3 u4 u5 u6, σ = [some (.ref a), u1, u2, u3, u4, u5, u6, none, none, none] ∧ Ex H H1) ⟨none, none, none, none, none, none, rfl, Ex.refl H⟩ ?_ ?_
    · rintro i σ H1 hi ⟨u1, u2, u3, u4, u5, u6, rfl, ex⟩
      have i8 := small i hi
      refine ⟨_, rfl, _, rfl, a, ns, i, by simp, ex_l ex sq, by omega, fun S H2 nS e2 src0 => ?_⟩
      have fS : H S = none := fresh_back ex nS
      refine ⟨5, rfl, by decide, by decide, ?_⟩
      refine for_range (lo := 0) (n := (5 : Int).toNat) (fun j σ H3 => ∃ v3 v4 v5 v6, σ = [some (.ref a), some (.int (0 + (i : Int))), some (.ref S), v3, v4, v5, v6, none, none, none] ∧ Kp S H2 H3 ∧ Pool H3 S (100 * j)) ⟨u3, u4, u5, u6, rfl, Kp.refl, src0⟩ ?_ ?_
      · rintro j σ H3 hj ⟨v3, v4, v5, v6, rfl, k3, src3⟩
        have hj5 : j < 5 := hj
        -- make
        refine ⟨_, rfl, (by show 5 ≤ sizeLine; decide), fun M nM => ⟨_, rfl, ?_⟩⟩
        have M_S := src3.ne nM
        obtain ⟨mm, hm, mm1, mm9⟩ : ∃ y : Int, atI [V.int 3, .int 5, .int 7, .int 7, .int 9] (0 + (j : Int)) = some (.int y) ∧ 1 ≤ y ∧ y ≤ 9 := by
          have : j = 0 ∨ j = 1 ∨ j = 2 ∨ j = 3 ∨ j = 4 := by omega
          rcases this with rfl | rfl | rfl | rfl | rfl
          · exact ⟨3, rfl, by decide, by decide⟩
          · exact ⟨5, rfl, by decide, by decide⟩
          · exact ⟨7, rfl, by decide, by decide⟩
          · exact ⟨7, rfl, by decide, by decide⟩
          · exact ⟨9, rfl, by decide, by decide⟩
        have src4 := src3.ex (Ex.new nM (o := .lst [.int 3, .int 5, .int 7, .int 7, .int 9]))
        refine ⟨M, _, _, _, rfl, rfl, sq_of upd_same, hm, S, _, mm, rfl, src4, by omega, mm1, mm9, fun t b p s H5 nt k5 src5 sh bm => ?_⟩
        have k35 := (k3.trans (Ex.kp (Ex.new nM (o := .lst [.int 3, .int 5, .int 7, .int 7, .int 9])))).trans k5
        obtain ⟨b1, b9, s1, s2, z1, z13⟩ := sz_bd sh
        have p0 : (0 : Int) < 2 ^ b := Int.pow_pos (by decide)
        -- some
        dsimp only [gName]
        refine seq_any' (i := 5) (P := fun v H' => ∃ (A1 : Addr) (as : List Int), v = .ref A1 ∧ H' A1 = some (.lst (as.map V.int)) ∧ 1 ≤ as.length ∧ as.length ≤ 5 ∧ A1 ≠ S ∧ Kp S H5 H' ∧ Pool H' S (100 * j + 3 + 8)) (fun Q' kq => ?_) ?_
        · obtain ⟨t', et, sqt, h1', h2', h3', h4'⟩ := id sh
          obtain rfl : t = t' := by injection et
          refine ⟨_, rfl, t, _, 0, .int b, rfl, rfl, sqt, rfl, _, _, rfl, rfl, _, rfl, ite2 (fun h => ?_) (fun h => ?_)⟩
          · have h : (b : Int) < 8 := of_decide_eq_true h
            refine ⟨_, rfl, _, rfl, S, _, _, b, p, s, 3, rfl, src5, by omega, sh, by omega, by decide, by decide, fun D H6 xs k6 src6 hx xin x1 x3 D_S => ?_⟩
            exact kq _ _ ⟨D, xs, rfl, hx, x1, by omega, D_S, k6, src6⟩
          · refine ⟨(by show 5 ≤ sizeLine; decide), fun G nG => ?_⟩
            have G_S := src5.ne nG
            have eG := Ex.new nG (o := .lst [.int 85, .int 170, .int 341, .int 51, .int 0])
            have hG : (upd H5 G (.lst [.int 85, .int 170, .int 341, .int 51, .int 0])) G = some (.lst (([85, 170, 341, 51, 0] : List Int).map V.int)) := upd_same
            generalize upd H5 G (.lst [.int 85, .int 170, .int 341, .int 51, .int 0]) = H6 at eG hG
            refine ⟨_, rfl, S, 5, _, rfl, src5.ex eG, by omega, by decide, by decide, fun d H7 d0 d1 src7 k7 => ?_⟩
            obtain ⟨k, hk⟩ : ∃ k : Nat, 1 + d = (k : Int) := ⟨(1 + d).toNat, by omega⟩
            have hG7 := k7 _ _ G_S hG
            refine ⟨_, _, rfl, rfl, _, rfl, G, _, rfl, sq_of hG7, fun U nU => ?_⟩
            rw [hk]
            have cutE : cutV (([85, 170, 341, 51, 0] : List Int).map V.int) none (some (k : Int)) = (([85, 170, 341, 51, 0] : List Int).take k).map V.int := by
              unfold cutV
              rw [show HT.sIx (([85, 170, 341, 51, 0] : List Int).map V.int).length (([85, 170, 341, 51, 0] : List Int).map V.int).length (some (k : Int)) = min k (([85, 170, 341, 51, 0] : List Int).map V.int).length from HT.sIx_nat _ _ k, HT.sIx_none, Nat.min_eq_left (by rw [List.length_map]; simp; omega), Nat.sub_zero, List.drop_zero, List.map_take]
            rw [cutE]
            refine kq _ _ ⟨U, _, rfl, upd_same, ?_, ?_, src7.ne nU, ((Ex.kp eG).trans k7).trans (Ex.kp (Ex.new nU)), (src7.ex (Ex.new nU)).mono (by omega)⟩
            · rw [List.length_take]
              simp
              omega
            · rw [List.length_take]
              omega
        rintro _ H6 ⟨A1, as, rfl, hA, a1, a5, A_S, k6, src6⟩
        obtain ⟨y5, hy5⟩ := src5.at
        have sh6 := sh.kp k6 hy5
        -- some of the shape
        refine ⟨_, rfl, A1, rfl, ⟨_, sq_of hA⟩, fun D nD => ?_⟩
        refine lcL RI.lasts RI.lasts nD (sq_of hA) (LR.of_ints _) (by rw [List.length_map]; omega) (fun x => some (x % 2 ^ b)) (fun k x c H7 hc e7 r0 Kt Kf kt kf => ?_) (fun H7 ys e7 hy7 lr => ?_)
        · cases (show x = .int c from r0)
          refine ⟨rfl, ?_⟩
          refine ⟨_, rfl, .inl ⟨_, rfl, _, rfl, .ref t, b, p, s, rfl, sh6.ex e7, _, _, rfl, rfl, p0, kt _ _ _ rfl (Ex.refl _) rfl⟩⟩
        obtain rfl := lr.ints
        rw [fm_some] at hy7
        have D_S := src6.ne nD
        have src7 := src6.ex e7
        have sh7 := sh6.ex e7
        have k67 := k6.trans (Ex.kp e7)
        -- notes
        refine ⟨_, rfl, S, 8, _, rfl, src7, by omega, by decide, by decide, fun d8 H8 d80 d81 src8 k8 => ?_⟩
        have hD8 := k8 _ _ D_S hy7
        obtain ⟨y7, hy7'⟩ := src7.at
        have sh8 := sh7.kp k8 hy7'
        refine ⟨_, _, rfl, rfl, _, rfl, by omega, by omega, fun N nN => ?_⟩
        have N_S := src8.ne nN
        refine lcD (S := S) (c := 1) (fun x => 0 ≤ x ∧ x < 2 ^ b) nN src8 (by omega) (by decide) (fun k H9 hk k9 src9 Kt kt => ?_) (fun H9 xs k9 src9 xl xin hx => ?_)
        · have hD9 := k9 _ _ D_S hD8
          refine ⟨_, rfl, _, rfl, _, rfl, D, _, rfl, .inl (sq_of hD9), S, _, _, rfl, src9, by omega, by simp; omega, ?_, fun d9 H10 d90 d91 src10 k10 => ?_⟩
          · have : (5 : Int) < 2 ^ 200 := by decide
            simp
            omega
          simp only [List.length_map] at d91
          obtain ⟨q3, rfl⟩ : ∃ q3 : Nat, d9 = (q3 : Int) := ⟨d9.toNat, by omega⟩
          have hq3 : q3 < as.length := by omega
          have ge : ((as.map fun x => x % 2 ^ b).map V.int)[q3]? = some (.int (as[q3] % 2 ^ b)) := by
            rw [List.getElem?_map, List.getElem?_map, List.getElem?_eq_getElem hq3]
            rfl
          refine ⟨D, _, _, _, rfl, rfl, sq_of (k10 _ _ D_S hD9), atI_nat ge, ?_⟩
          exact kt _ _ ⟨Int.emod_nonneg _ (by omega), Int.emod_lt_of_pos _ p0⟩ k10 (src10.mono (by omega))
        obtain ⟨y8, hy8⟩ := src8.at
        refine ⟨_, rfl, _, rfl, _, rfl, S, _, _, b, p, s, N, xs, rfl, src9, by omega, sh8.kp k9 hy8, hx, N_S, by omega, by omega, xin, fun H10 k10 src10 => ⟨_, rfl, iteF ?_⟩⟩
        exact ⟨_, _, _, _, rfl, (((k35.trans k67).trans k8).trans k9).trans k10, src10.mono (by omega)⟩
      · rintro σ H3 ⟨v3, v4, v5, v6, rfl, k3, src3⟩
        exact ⟨_, _, _, _, _, _, rfl, Kp.new (ex.trans e2) k3 fS⟩
    · rintro σ H1 ⟨u1, u2, u3, u4, u5, u6, rfl, ex⟩
      refine ⟨by decide, fun t1 nt1 => ?_⟩
      have ht : (upd H1 t1 (.tup [.int 8, .str "none", .int 1])) t1 = some (.tup [.int 8, .str "none", .int 1]) := upd_same
      refine (show _ from ?_)
      generalize upd H1 t1 (.tup [.int 8, .str "none", .int 1]) = H2 at ht
      have sh : IsSh K H2 (.ref t1) 8 .no 1 := ⟨t1, rfl, st_of ht, by decide, by decide, by decide, by decide⟩
      refine ⟨_, rfl, (by show 1 ≤ sizeLine; decide), fun L nL => ?_⟩
      have eL := Ex.new nL (o := .lst [.int 85])
      have hL : (upd H2 L (.lst [.int 85])) L = some (.lst (([85] : List Int).map V.int)) := upd_same
      generalize upd H2 L (.lst [.int 85]) = H3 at eL hL
      refine ⟨.ref t1, 8, .no, 1, L, [85], rfl, sh.ex eL, sq_of hL, by decide, by decide, (by intro y hy; rw [List.mem_singleton.mp hy]; decide), fun A1 H4 nA1 e4 hA1 => ?_⟩
      rw [show lpl 8 .no 1 [85] = [2, 3, 4, 5, 6, 7, 8, 9] by decide +kernel] at hA1
      refine ⟨_, rfl, (by show 2 ≤ sizeLine; decide), fun L2 nL2 => ?_⟩
      have eL2 := Ex.new nL2 (o := .lst [.int 85, .int 0])
      have hL2 : (upd H4 L2 (.lst [.int 85, .int 0])) L2 = some (.lst (([85, 0] : List Int).map V.int)) := upd_same
      generalize upd H4 L2 (.lst [.int 85, .int 0]) = H5 at eL2 hL2
      refine ⟨.ref t1, 8, .no, 1, L2, [85, 0], rfl, ((sh.ex eL).ex e4).ex eL2, sq_of hL2, by decide, by decide, (by intro y hy; have : y = 85 ∨ y = 0 := (by simpa using hy); rcases this with rfl | rfl <;> decide), fun A2 H6 nA2 e6 hA2 => ?_⟩
      rw [show lpl 8 .no 1 [85, 0] = [] by decide +kernel] at hA2
      refine ⟨(by show 2 ≤ sizeLine; decide), fun O nO => ?_⟩
      have eO := Ex.new nO (o := .lst [.ref A1, .ref A2])
      have hO : (upd H6 O (.lst [.ref A1, .ref A2])) O = some (.lst [.ref A1, .ref A2]) := upd_same
      generalize upd H6 O (.lst [.ref A1, .ref A2]) = H7 at eO hO
      refine ⟨(by show 8 ≤ sizeLine; decide), fun R1 nR1 => ?_⟩
      have eR1 := Ex.new nR1 (o := .lst [.int 2, .int 3, .int 4, .int 5, .int 6, .int 7, .int 8, .int 9])
      have hR1 : (upd H7 R1 (.lst [.int 2, .int 3, .int 4, .int 5, .int 6, .int 7, .int 8, .int 9])) R1 = some (.lst (([2, 3, 4, 5, 6, 7, 8, 9] : List Int).map V.int)) := upd_same
      generalize upd H7 R1 (.lst [.int 2, .int 3, .int 4, .int 5, .int 6, .int 7, .int 8, .int 9]) = H8 at eR1 hR1
      refine ⟨Nat.zero_le _, fun R2 nR2 => ?_⟩
      have eR2 := Ex.new nR2 (o := .lst [])
      have hR2 : (upd H8 R2 (.lst [])) R2 = some (.lst (([] : List Int).map V.int)) := upd_same
      generalize upd H8 R2 (.lst []) = H9 at eR2 hR2
      refine ⟨(by show 2 ≤ sizeLine; decide), fun R nR => ?_⟩
      have eR := Ex.new nR (o := .lst [.ref R1, .ref R2])
      have hR : (upd H9 R (.lst [.ref R1, .ref R2])) R = some (.lst [.ref R1, .ref R2]) := upd_same
      generalize upd H9 R (.lst [.ref R1, .ref R2]) = H10 at eR hR
      have e7 := (eR1.trans eR2).trans eR
      refine ⟨_, _, .lst (sq_of (e7 _ _ hO)) (.cons (.lst (sq_of (e7 _ _ (eO _ _ (e6 _ _ (eL2 _ _ hA1))))) (dp_ints _)) (.cons (.lst (sq_of (e7 _ _ (eO _ _ hA2))) (dp_ints _)) .nil)), .lst (sq_of hR) (.cons (.lst (sq_of ((eR2.trans eR) _ _ hR1)) (dp_ints _)) (.cons (.lst (sq_of (eR _ _ hR2)) (dp_ints _)) .nil)), by decide +kernel, by decide +kernel, _, rfl, ?_⟩
      rw [eqv_sh (by decide +kernel)]
      refine iteF ?_
      -- the last two
      refine ⟨by decide, fun t2 nt2 => ?_⟩
      have ht2 : (upd H10 t2 (.tup [.int 2, .str "none", .int 1])) t2 = some (.tup [.int 2, .str "none", .int 1]) := upd_same
      generalize upd H10 t2 (.tup [.int 2, .str "none", .int 1]) = H11 at ht2
      have sh2 : IsSh K H11 (.ref t2) 2 .no 1 := ⟨t2, rfl, st_of ht2, by decide, by decide, by decide, by decide⟩
      refine ⟨(by show 1 ≤ sizeLine; decide), fun B1 nB1 => ?_⟩
      have eB1 := Ex.new nB1 (o := .lst [.int 1])
      have hB1 : (upd H11 B1 (.lst [.int 1])) B1 = some (.lst [.int 1]) := upd_same
      generalize upd H11 B1 (.lst [.int 1]) = H12 at eB1 hB1
      refine ⟨B1, _, _, rfl, rfl, hB1, by decide, by decide, by decide, fun B2 nB2 => ?_⟩
      have eB2 := Ex.new nB2 (o := .lst (List.replicate (8 : Int).toNat [V.int 1]).flatten)
      have hB2 : (upd H12 B2 (.lst (List.replicate (8 : Int).toNat [V.int 1]).flatten)) B2 = some (.lst (([1, 1, 1, 1, 1, 1, 1, 1] : List Int).map V.int)) := upd_same
      generalize upd H12 B2 (.lst (List.replicate (8 : Int).toNat [V.int 1]).flatten) = H13 at eB2 hB2
      refine ⟨.ref t2, 2, .no, 1, B2, [1, 1, 1, 1, 1, 1, 1, 1], rfl, (sh2.ex eB1).ex eB2, sq_of hB2, by decide, by decide, (by intro y hy; have : y = 1 := (by simpa using hy); rw [this]; decide), fun A3 H14 nA3 e14 hA3 => ?_⟩
      rw [show lpl 2 .no 1 [1, 1, 1, 1, 1, 1, 1, 1] = [2, 3] by decide +kernel] at hA3
      refine ⟨(by show 2 ≤ sizeLine; decide), fun R3 nR3 => ?_⟩
      have eR3 := Ex.new nR3 (o := .lst [.int 2, .int 3])
      have hR3 : (upd H14 R3 (.lst [.int 2, .int 3])) R3 = some (.lst (([2, 3] : List Int).map V.int)) := upd_same
      generalize upd H14 R3 (.lst [.int 2, .int 3]) = H15 at eR3 hR3
      refine ⟨_, _, .lst (sq_of (eR3 _ _ hA3)) (dp_ints _), .lst (sq_of hR3) (dp_ints _), dI_shaped _, dI_shaped _, _, rfl, ?_⟩
      rw [eqv_sh (dI_shaped _)]
      refine ⟨by decide, fun t3 nt3 => ?_⟩
      have ht3 : (upd H15 t3 (.tup [.int 1, .str "none", .int 1])) t3 = some (.tup [.int 1, .str "none", .int 1]) := upd_same
      generalize upd H15 t3 (.tup [.int 1, .str "none", .int 1]) = H16 at ht3
      have sh3 : IsSh K H16 (.ref t3) 1 .no 1 := ⟨t3, rfl, st_of ht3, by decide, by decide, by decide, by decide⟩
      refine ⟨(by show 1 ≤ sizeLine; decide), fun B3 nB3 => ?_⟩
      have eB3 := Ex.new nB3 (o := .lst [.int 0])
      have hB3 : (upd H16 B3 (.lst [.int 0])) B3 = some (.lst (([0] : List Int).map V.int)) := upd_same
      generalize upd H16 B3 (.lst [.int 0]) = H17 at eB3 hB3
      refine ⟨.ref t3, 1, .no, 1, B3, [0], rfl, sh3.ex eB3, sq_of hB3, by decide, by decide, (by intro y hy; have : y = 0 := (by simpa using hy); rw [this]; decide), fun A4 H18 nA4 e18 hA4 => ?_⟩
      rw [show lpl 1 .no 1 [0] = [] by decide +kernel] at hA4
      refine ⟨Nat.zero_le _, fun R4 nR4 => ?_⟩
      have eR4 := Ex.new nR4 (o := .lst [])
      have hR4 : (upd H18 R4 (.lst [])) R4 = some (.lst (([] : List Int).map V.int)) := upd_same
      generalize upd H18 R4 (.lst []) = H19 at eR4 hR4
      refine ⟨_, _, .lst (sq_of (eR4 _ _ hA4)) (dp_ints _), .lst (sq_of hR4) (dp_ints _), dI_shaped _, dI_shaped _, ?_⟩
      rw [eqv_sh (dI_shaped _)]
      exact q _
end
end LW
namespace LW
open PySem PySem.Spec PyProof.Rows L2 Evl SB
section
variable {P : Program} {w : World} {K : PySem.W.Frag} {mg : Str → Option Value} {base : Heap}
theorem law_facts {h : Heap} {fa : Addr} (X : K.In h) (hfa : mg ("law" : Str) = some (.ref fa)) (T : Tx K mg) :
    ∃ (K' : PySem.W.Frag) (fd : FuncData) (sp : Sp), K'.In h ∧ (∀ (s : Shared) (u : Value), BindsTo s fd ⟨[u], []⟩ [(("_law_script" : Str), u)]) ∧
        (∀ (H : Hp) (a : Addr) (ns : List Int), ns.length ≤ 63 → Only H → SqL K' H a (ns.map V.int) → sp [.ref a] H (fun v _ => v = .bl true) fun _ _ _ => False) ∧
        ∀ base : Heap, K'.In base → base.Ns mainGlobals mg → FnG P w K' mg base L2.CX0 11 fa fd ["_law_script"] sp := by
  obtain ⟨e, fd, F⟩ := T.d_law
  have e2 := hfa.symm.trans e
  cases e2
  exact ⟨K, fd, sp_law K, X, fun s u => FunD.bindsA (ps := ["_law_script"]) F (fun _ _ _ _ _ _ us hl => match us, hl with | [_], _ => rfl) s [u] rfl,
    fun H a ns hl _ hS => ⟨a, ns, rfl, hS, hl, fun _ => rfl⟩, fun base _ _ => law_ok T F⟩
end
def fnL : List He.DefD := [⟨("is_int", none), "is_int", "is_int", defArgs s_is_int, defBody s_is_int, defScope s_is_int, [], []⟩,
  ⟨("is_int_between", none), "is_int_between", "is_int_between", defArgs s_is_int_between, defBody s_is_int_between, defScope s_is_int_between, [], []⟩,
  ⟨("is_parity", none), "is_parity", "is_parity", defArgs s_is_parity, defBody s_is_parity, defScope s_is_parity, [], []⟩,
  ⟨("fits", none), "fits", "fits", defArgs s_fits, defBody s_fits, defScope s_fits, [], []⟩,
  ⟨("is_list_up_to", none), "is_list_up_to", "is_list_up_to", defArgs s_is_list_up_to, defBody s_is_list_up_to, defScope s_is_list_up_to, [], []⟩,
  ⟨("check_shape", none), "check_shape", "check_shape", defArgs s_check_shape, defBody s_check_shape, defScope s_check_shape, [], []⟩,
  ⟨("check_number", none), "check_number", "check_number", defArgs s_check_number, defBody s_check_number, defScope s_check_number, [], []⟩,
  ⟨("check_text", none), "check_text", "check_text", defArgs s_check_text, defBody s_check_text, defScope s_check_text, [], []⟩,
  ⟨("check_text_between", none), "check_text_between", "check_text_between", defArgs s_check_text_between, defBody s_check_text_between, defScope s_check_text_between, [], []⟩,
  ⟨("size_of", none), "size_of", "size_of", defArgs s_size_of, defBody s_size_of, defScope s_size_of, [], []⟩,
  ⟨("parity_of", none), "parity_of", "parity_of", defArgs s_parity_of, defBody s_parity_of, defScope s_parity_of, [], []⟩,
  ⟨("frame_of", none), "frame_of", "frame_of", defArgs s_frame_of, defBody s_frame_of, defScope s_frame_of, [], []⟩,
  ⟨("levels_of", none), "levels_of", "levels_of", defArgs s_levels_of, defBody s_levels_of, defScope s_levels_of, [], []⟩,
  ⟨("_bits_of", none), "_bits_of", "_bits_of", defArgs s_bits_of, defBody s_bits_of, defScope s_bits_of, [], []⟩,
  ⟨("place_after", none), "place_after", "place_after", defArgs s_place_after, defBody s_place_after, defScope s_place_after, [], []⟩,
  ⟨("place_after_all", none), "place_after_all", "place_after_all", defArgs s_place_after_all, defBody s_place_after_all, defScope s_place_after_all, [], []⟩,
  ⟨("lasting_places", none), "lasting_places", "lasting_places", defArgs s_lasting_places, defBody s_lasting_places, defScope s_lasting_places, [], []⟩,
  ⟨("_places_behind", none), "_places_behind", "_places_behind", defArgs s_places_behind, defBody s_places_behind, defScope s_places_behind, [], []⟩,
  ⟨("_law_tank", none), "_law_tank", "_law_tank", defArgs s_law_tank, defBody s_law_tank, defScope s_law_tank, [], []⟩,
  ⟨("_law_tap", none), "_law_tap", "_law_tap", defArgs s_law_tap, defBody s_law_tap, defScope s_law_tap, [], []⟩,
  ⟨("_law_shape", none), "_law_shape", "_law_shape", defArgs s_law_shape, defBody s_law_shape, defScope s_law_shape, [], []⟩,
  ⟨("_law_numbers", none), "_law_numbers", "_law_numbers", defArgs s_law_numbers, defBody s_law_numbers, defScope s_law_numbers, [], []⟩,
  ⟨("_law_frame", none), "_law_frame", "_law_frame", defArgs s_law_frame, defBody s_law_frame, defScope s_law_frame, [], []⟩,
  ⟨("_law_place", none), "_law_place", "_law_place", defArgs s_law_place, defBody s_law_place, defScope s_law_place, [], []⟩,
  ⟨("_law_maps", none), "_law_maps", "_law_maps", defArgs s_law_maps, defBody s_law_maps, defScope s_law_maps, [], []⟩,
  ⟨("_law_allowed", none), "_law_allowed", "_law_allowed", defArgs s_law_allowed, defBody s_law_allowed, defScope s_law_allowed, [], []⟩,
  ⟨("_law_due", none), "_law_due", "_law_due", defArgs s_law_due, defBody s_law_due, defScope s_law_due, [], []⟩,
  ⟨("_law_right", none), "_law_right", "_law_right", defArgs s_law_right, defBody s_law_right, defScope s_law_right, [], []⟩,
  ⟨("law", none), "law", "law", defArgs s_law, defBody s_law, defScope s_law, [], []⟩]
def faL : List He.Fa := [.free "abs", .free "bool", .free "enumerate", .free "int", .free "isinstance", .free "len", .free "list", .free "max", .free "min", .free "range", .free "repr", .free "str", .free "sum", .free "tuple", .glo "PARITIES", .int "MOST_BITS" (9), .int "MOST_STOPS" (2), .int "MOST_NUMBERS" (60), .int "WAITING" (-1), .int "MOST_REPEATED" (8), .glo "is_int", .glo "is_int_between", .glo "is_parity", .glo "fits", .glo "is_list_up_to", .glo "check_shape", .glo "check_number", .glo "check_text", .glo "check_text_between", .glo "size_of", .glo "parity_of", .glo "frame_of", .glo "levels_of", .glo "_bits_of", .glo "place_after", .glo "place_after_all", .glo "lasting_places", .glo "_places_behind", .glo "_law_tank", .glo "_law_tap", .glo "_law_shape", .glo "_law_numbers", .glo "_law_frame", .glo "_law_place", .glo "_law_maps", .glo "_law_allowed", .glo "_law_due", .glo "_law_right", .glo "law"]
def exL (K : PySem.W.Frag) : Bool := He.tupB K "PARITIES" [.str "none", .str "even", .str "odd"]
theorem tx_of {w : World} {K : PySem.W.Frag} {h : Heap} {mg : Str → Option Value} (X : K.In h) (G : h.Ns mainGlobals mg) (c : He.SaysX faL fnL [] [] exL w h K) : Tx K mg := by
  have D := c.t.d
  have M := c.more
  exact {
    b_abs := He.free_ok X G (D.fact 0 (f := .free "abs") rfl),
    b_bool := He.free_ok X G (D.fact 1 (f := .free "bool") rfl),
    b_enumerate := He.free_ok X G (D.fact 2 (f := .free "enumerate") rfl),
    b_int := He.free_ok X G (D.fact 3 (f := .free "int") rfl),
    b_isinstance := He.free_ok X G (D.fact 4 (f := .free "isinstance") rfl),
    b_len := He.free_ok X G (D.fact 5 (f := .free "len") rfl),
    b_list := He.free_ok X G (D.fact 6 (f := .free "list") rfl),
    b_max := He.free_ok X G (D.fact 7 (f := .free "max") rfl),
    b_min := He.free_ok X G (D.fact 8 (f := .free "min") rfl),
    b_range := He.free_ok X G (D.fact 9 (f := .free "range") rfl),
    b_repr := He.free_ok X G (D.fact 10 (f := .free "repr") rfl),
    b_str := He.free_ok X G (D.fact 11 (f := .free "str") rfl),
    b_sum := He.free_ok X G (D.fact 12 (f := .free "sum") rfl),
    b_tuple := He.free_ok X G (D.fact 13 (f := .free "tuple") rfl),
    t_PARITIES := He.glo_ok X G (D.fact 14 (f := .glo "PARITIES") rfl),
    v_PARITIES := fun H => He.tupB_ok M H,
    i_MOST_BITS := He.int_ok X G (D.fact 15 (f := .int "MOST_BITS" (9)) rfl),
    i_MOST_STOPS := He.int_ok X G (D.fact 16 (f := .int "MOST_STOPS" (2)) rfl),
    i_MOST_NUMBERS := He.int_ok X G (D.fact 17 (f := .int "MOST_NUMBERS" (60)) rfl),
    i_WAITING := He.int_ok X G (D.fact 18 (f := .int "WAITING" (-1)) rfl),
    i_MOST_REPEATED := He.int_ok X G (D.fact 19 (f := .int "MOST_REPEATED" (8)) rfl),
    d_is_int := ⟨He.glo_ok X G (D.fact 20 (f := .glo "is_int") rfl), D.def_ 0 rfl⟩,
    d_is_int_between := ⟨He.glo_ok X G (D.fact 21 (f := .glo "is_int_between") rfl), D.def_ 1 rfl⟩,
    d_is_parity := ⟨He.glo_ok X G (D.fact 22 (f := .glo "is_parity") rfl), D.def_ 2 rfl⟩,
    d_fits := ⟨He.glo_ok X G (D.fact 23 (f := .glo "fits") rfl), D.def_ 3 rfl⟩,
    d_is_list_up_to := ⟨He.glo_ok X G (D.fact 24 (f := .glo "is_list_up_to") rfl), D.def_ 4 rfl⟩,
    d_check_shape := ⟨He.glo_ok X G (D.fact 25 (f := .glo "check_shape") rfl), D.def_ 5 rfl⟩,
    d_check_number := ⟨He.glo_ok X G (D.fact 26 (f := .glo "check_number") rfl), D.def_ 6 rfl⟩,
    d_check_text := ⟨He.glo_ok X G (D.fact 27 (f := .glo "check_text") rfl), D.def_ 7 rfl⟩,
    d_check_text_between := ⟨He.glo_ok X G (D.fact 28 (f := .glo "check_text_between") rfl), D.def_ 8 rfl⟩,
    d_size_of := ⟨He.glo_ok X G (D.fact 29 (f := .glo "size_of") rfl), D.def_ 9 rfl⟩,
    d_parity_of := ⟨He.glo_ok X G (D.fact 30 (f := .glo "parity_of") rfl), D.def_ 10 rfl⟩,
    d_frame_of := ⟨He.glo_ok X G (D.fact 31 (f := .glo "frame_of") rfl), D.def_ 11 rfl⟩,
    d_levels_of := ⟨He.glo_ok X G (D.fact 32 (f := .glo "levels_of") rfl), D.def_ 12 rfl⟩,
    d_bits_of := ⟨He.glo_ok X G (D.fact 33 (f := .glo "_bits_of") rfl), D.def_ 13 rfl⟩,
    d_place_after := ⟨He.glo_ok X G (D.fact 34 (f := .glo "place_after") rfl), D.def_ 14 rfl⟩,
    d_place_after_all := ⟨He.glo_ok X G (D.fact 35 (f := .glo "place_after_all") rfl), D.def_ 15 rfl⟩,
    d_lasting_places := ⟨He.glo_ok X G (D.fact 36 (f := .glo "lasting_places") rfl), D.def_ 16 rfl⟩,
    d_places_behind := ⟨He.glo_ok X G (D.fact 37 (f := .glo "_places_behind") rfl), D.def_ 17 rfl⟩,
    d_law_tank := ⟨He.glo_ok X G (D.fact 38 (f := .glo "_law_tank") rfl), D.def_ 18 rfl⟩,
    d_law_tap := ⟨He.glo_ok X G (D.fact 39 (f := .glo "_law_tap") rfl), D.def_ 19 rfl⟩,
    d_law_shape := ⟨He.glo_ok X G (D.fact 40 (f := .glo "_law_shape") rfl), D.def_ 20 rfl⟩,
    d_law_numbers := ⟨He.glo_ok X G (D.fact 41 (f := .glo "_law_numbers") rfl), D.def_ 21 rfl⟩,
    d_law_frame := ⟨He.glo_ok X G (D.fact 42 (f := .glo "_law_frame") rfl), D.def_ 22 rfl⟩,
    d_law_place := ⟨He.glo_ok X G (D.fact 43 (f := .glo "_law_place") rfl), D.def_ 23 rfl⟩,
    d_law_maps := ⟨He.glo_ok X G (D.fact 44 (f := .glo "_law_maps") rfl), D.def_ 24 rfl⟩,
    d_law_allowed := ⟨He.glo_ok X G (D.fact 45 (f := .glo "_law_allowed") rfl), D.def_ 25 rfl⟩,
    d_law_due := ⟨He.glo_ok X G (D.fact 46 (f := .glo "_law_due") rfl), D.def_ 26 rfl⟩,
    d_law_right := ⟨He.glo_ok X G (D.fact 47 (f := .glo "_law_right") rfl), D.def_ 27 rfl⟩,
    d_law := ⟨He.glo_ok X G (D.fact 48 (f := .glo "law") rfl), D.def_ 28 rfl⟩ }
def looseL : List Str := (["LineError", "InvalidNumber", "InvalidShape", "InvalidText", "PARITIES", "MOST_BITS", "MOST_STOPS", "MOST_NUMBERS", "WAITING", "MOST_REPEATED", "is_int", "is_int_between", "is_parity", "fits", "is_list_up_to", "check_shape", "check_number", "check_text", "check_text_between", "size_of", "parity_of", "frame_of", "levels_of", "_bits_of", "place_after", "place_after_all", "lasting_places", "_places_behind", "_law_tank", "_law_tap"] : List Str) ++ (["_law_shape", "_law_numbers", "_law_frame", "_law_place", "_law_maps", "_law_allowed", "_law_due", "_law_right"] : List Str)
abbrev RW : PySem.W.OpenRow := PySem.W.OpenLaw.row PySem.Challenge.rw_startbits_k40_places_that_last
abbrev hk : PySem.W.Hook := He.hookX 5 faL fnL [] [] exL
def obL (s : PySem.W.SharedT) : He.AlX := He.obsX 5 faL fnL [] [] exL (HandSHeadRun.getT s)
theorem obL_eq (s : PySem.W.SharedT) : obL s = hk.obs s.abs := He.obsX_eq (HandSHeadRun.getT_eq s)
theorem runL (w : World) : HandSHeadRun.RunEq RW (PySem.W.view RW.prog [44]) hk obL 6000 looseL w := by
  intro os
  kernel_rfl
end LW
open PySem PySem.W PySem.Calls PyProof.Rows
set_option maxHeartbeats 0 in
theorem PySem.Challenge.cw_startbits_k40_places_that_last_holds : PySem.Challenge.rw_startbits_k40_places_that_last.Holds := by
  w_on; o_law
  refine HandSHeadRun.head_any (r := OpenLaw.row PySem.Challenge.rw_startbits_k40_places_that_last) (q := view (OpenLaw.row PySem.Challenge.rw_startbits_k40_places_that_last).prog [44]) (H := LW.hk) (ob := LW.obL) (M := 6000) (loose := LW.looseL) (d := HandSHeadRun.topDef (OpenLaw.row PySem.Challenge.rw_startbits_k40_places_that_last).prog 44) (kwd := []) LW.obL_eq
    (by kernel_rfl) (fun s => by kernel_rfl) LW.runL (by kernel_rfl) (by kernel_rfl) (by kernel_rfl) (by rfl) (by first | assumption | decide +kernel) (by decide +kernel) ⟨rfl, rfl, rfl, rfl, rfl, by decide +kernel⟩ ?hw ?hc
  case hw => w_witness2
  case hc =>
    refine SB.walkG (l := PySem.Challenge.rw_startbits_k40_places_that_last) (n := 63) (k := 11) (x := "_law_script") (CX := L2.CX0) rfl (by decide) (by kernel_rfl) ⟨rfl, by decide, by decide⟩ ?F (fun _ _ _ _ z => z)
    intro w mg fa h Y G hmg0
    obtain ⟨K, KX, c⟩ := Y
    have hmg : mg ("law" : PySem.Str) = some (.ref fa) := by
      have e : (HandSHeadRun.topDef (OpenLaw.row PySem.Challenge.rw_startbits_k40_places_that_last).prog 44).name = ("law" : PySem.Str) := by kernel_rfl
      rw [← e]
      exact hmg0
    exact LW.law_facts KX hmg (LW.tx_of KX G c)
