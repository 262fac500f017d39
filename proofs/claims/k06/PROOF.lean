import PyProof.Rows.All
import Wide.All
import OpenK.AllK
import Wide.FinOn
import PySem.Challenge.RW_startbits_k06_signals_of_sendings
import HandS.ForMost
import HandS.Wide
import HandS.IsInst
import HandS.Defaults
import HandS.HeadHook2
import HandS.HeadHook4
import HandS.HeadEnd
import HandS.Head0
import HandS.Head1
import HandS.Head2
import PyProof.ReprRoads
import PyProof.ReprLen
import HandS.Evl
import HandS.Text
import HandS.Zip
import HandS.Style
import HandS.Conv
set_option Elab.async false
set_option linter.all false
set_option maxRecDepth 100000
set_option maxHeartbeats 4000000
namespace SB
open PySem PySem.Spec PyProof.Rows L2
/-! powers of wide ints -/
def CPowB (i j : Int) : Prop := 0 ≤ j ∧ ((i.natAbs.log2 : Int) + 1) * j ≤ 134217728
theorem bits_le (i : Int) : (Builtin.Int.intBits i : Int) ≤ (i.natAbs.log2 : Int) + 1 := by
  unfold Builtin.Int.intBits
  split <;> omega
theorem op_powB {X : Cx} : OpR X (binaryOp .Pow) (rI CPowB fun i j => .int (i ^ j.toNat)) :=
  opI fun i j _ _ _ _ _ hc q => by
    refine pow_int hc.1 ?_ q
    have h2 := hc.2
    have h3 := Int.mul_le_mul_of_nonneg_right (bits_le i) hc.1
    have e : (2 : Int) ^ 27 = 134217728 := by decide
    omega
/-! repr of data -/
def rRp (K : PySem.W.Frag) : List V → Hp → VK → Prop := fun xs H Q => ∃ v d, xs = [v] ∧ Dp K H v d ∧ d.showable = true ∧ d.hasDict = false ∧ d.depth ≤ 60 ∧ d.shown.length ≤ sizeLine ∧ Q (.str d.shown) H
theorem call_rp {X : Cx} (hg : X.A.guards = some []) (hu : X.A.units + 64 < cLine) : CallR X (.builtin "repr") (rRp X.K) := by
  intro pins s σ H xs us Q I r h
  obtain ⟨v, d, rfl, hd, h1, h2, h3, h4, q⟩ := h
  obtain ⟨u, rfl, ru⟩ := vals1 r
  cases hd with
  | non =>
    obtain rfl : u = Value.none := ru
    exact PySem.P.repr_of_none ⟨.str "None", H, I.tok _, ⟨_, rfl⟩, q⟩
  | bl b =>
    obtain rfl : u = Value.bool b := ru
    cases b with
    | true => exact PySem.P.repr_of_bool ⟨.str "True", H, I.tok _, ⟨_, rfl⟩, q⟩
    | false => exact PySem.P.repr_of_bool ⟨.str "False", H, I.tok _, ⟨_, rfl⟩, q⟩
  | int i =>
    obtain ⟨t, rfl⟩ := ru
    exact PySem.P.repr_of_int (of_decide_eq_true h1) ⟨.str (toString i), H, I.tok _, ⟨_, rfl⟩, q⟩
  | str x =>
    obtain ⟨t, rfl⟩ := ru
    exact PySem.P.repr_of_str ⟨.str (reprText x), H, I.tok _, ⟨_, rfl⟩, q⟩ h4
  | lst hs ha =>
    obtain ⟨as, rd⟩ := Dp.reads I _ _ u (.lst hs ha) ru
    cases (show u = Value.ref _ from ru)
    exact PySem.repr_of_reads' rd h1 (PyData.noDict_hsm h2) hg (by omega) (fun _ _ e => e) (fun h' u tk hk => ⟨.str _, H, I.kept hk, ⟨_, rfl⟩, q⟩) h4
  | tup hs ha =>
    obtain ⟨as, rd⟩ := Dp.reads I _ _ u (.tup hs ha) ru
    cases (show u = Value.ref _ from ru)
    exact PySem.repr_of_reads' rd h1 (PyData.noDict_hsm h2) hg (by omega) (fun _ _ e => e) (fun h' u tk hk => ⟨.str _, H, I.kept hk, ⟨_, rfl⟩, q⟩) h4
/-! defs that are run where no repr is under way: the promise holds for such surroundings alone -/
structure FnG (P : Program) (w : World) (K : PySem.W.Frag) (mg : Str → Option Value) (base : Heap) (CX : CXT) (k : Nat)
    (f : Addr) (fd : FuncData) (ps : List Str) (sp : Sp) : Prop where
  len : ∀ vs H Q E, sp vs H Q E → vs.length = ps.length
  go : ∀ (A : Around) (out : List Env) (s : Shared) (H : Hp) (ar : Args) (us : List Value) (vs : List V) (Q : VK) (E : XK),
    Room k A → A.guards = some [] → Env0 P w K mg base A out s H → BindsTo s fd ar (ps.zip us) → Vals vs us → sp vs H Q E →
    codeAny (model P w) A (.call (.ref f) ar) (CR CX out P w H s Q E) s
section
variable {P : Program} {w : World} {K : PySem.W.Frag} {mg : Str → Option Value} {base : Heap} {CX : CXT} {k : Nat}
  {f : Addr} {fd : FuncData} {ps : List Str} {sp : Sp}
theorem FnG.of (F : FnOk P w K mg base CX k f fd ps sp) : FnG P w K mg base CX k f fd ps sp :=
  ⟨F.len, fun A out s H ar us vs Q E r _ e b v h => F.run A out s H ar us vs Q E r e b v h⟩
theorem FnG.mono {j : Nat} (F : FnG P w K mg base CX j f fd ps sp) (h : j ≤ k) : FnG P w K mg base CX k f fd ps sp :=
  ⟨F.len, fun A out s H ar us vs Q E r g e b v z => F.go A out s H ar us vs Q E (r.mono h) g e b v z⟩
theorem FnG.body {x qual : Str} {params : Arguments} {bd : List Stmt} {scope : Scope} {dvs : List V} {kws : List (Str × V)} {N : List Str}
    (F : FunD K x qual params bd scope dvs kws f fd) (S : FnScope N ps scope) (len : ∀ vs H Q E, sp vs H Q E → vs.length = ps.length)
    (hb : ∀ (cdv : Value) (A : Around) (out : List Env) (s : Shared) (H : Hp) (vs : List V) (Q : VK) (E : XK),
      Room k (A.deeper (envOfC qual scope s.heap.objs.size f cdv)) → A.guards = some [] → sp vs H Q E →
      ∃ t, PSs (cxOf CX P w K mg base N qual scope f cdv A out s H E) bd t ∧ t { nx := fun _ H' => Q .non H', rt := Q } (start N vs) H) :
    FnG P w K mg base CX (k + 1) f fd ps sp := by
  obtain ⟨oc, od, dV, kV, doc, pm, an, cdv, ct, osl, rfl, lk, hcd, _, _⟩ := F.ex
  refine ⟨len, ?_⟩
  intro A out s H ar us vs Q E room gd e0 bnd vls pr
  have inS : K.In s.heap := e0.mod.kin.keeps fun b o z => (e0.bs b o z).1
  have nl : s.heap.NoLimit := e0.mod.nolimit.keeps fun b o z => (e0.bs b o z).1
  refine codeAny_call_function room.depth (inS _ _ lk) rfl S.co S.gen rfl (PySem.W.codeRec_of inS hcd) (bnd _ _ _ _ ?_)
  refine wpAny_newFunctionEnv_cells S.kind ?_ ?_
  · intro ⟨n, v⟩ hy
    cases S.par n (List.of_mem_zip hy).1 with
    | inl q => exact .inl q
    | inr q => exact .inr ⟨q, PySem.W.cellsFrom_some _ _ _ (.inl q)⟩
  intro env he s1 x
  subst he
  refine ⟨nl.keeps x.toInCall.keep, codeAny_func ?_⟩
  obtain ⟨t, der, rd⟩ := hb cdv A out s H vs Q E (room.deeper _) gd pr
  have I0 := inv_start (CX := CX) (P := P) (w := w) (K := K) (mg := mg) (base := base) (cd := cdv) (f := f) (E := E)
    (qual := qual) S room.hd e0 (len _ _ _ _ pr) vls x
  refine wpAny_mono (der.run [] s1 (start N vs) H _ I0 rd) ?_ (fun _ _ z => z)
  intro fl s' z
  cases fl with
  | ret u =>
    obtain ⟨v, σ', H', J, rv, q⟩ := z
    exact ⟨v, H', J.os, J.bare, J.base, J.hok, rv, q⟩
  | next =>
    obtain ⟨σ', H', J, q⟩ := z
    exact ⟨V.non, H', J.os, J.bare, J.base, J.hok, rfl, q⟩
  | brk =>
    obtain ⟨_, _, _, q⟩ := z
    exact q.elim
  | cont =>
    obtain ⟨_, _, _, q⟩ := z
    exact q.elim
end
section
variable {X : Cx} {CX : CXT} {k : Nat} {f : Addr} {fd : FuncData} {ps : List Str} {sp : Sp} {dvs : List V} {ds : List Value} {E : XK}
  {x : Str} {p pos : Pos} {e : Expr} {es : List Expr} {t : TA}
theorem runG {pins : List (Addr × Obj)} {σ : L2.St} {H : Hp} {s : Shared} {Q : VK} {us : List Value} {vs : List V}
    (F : FnG X.prog X.w X.K X.mg X.base CX k f fd ps sp) (hr : Room k X.A) (hg : X.A.guards = some []) (hb : Binds X.K fd ps ds) (hd : Vals dvs ds) (hx : Passes CX X E)
    (I : Inv X pins σ H s) (r : Vals vs us) (h : sp (vs ++ dvs) H Q E) : wpAny (model X.prog X.w) X.A (call (.ref f) us) (EP X pins σ Q) X.xe s := by
  have rr : Vals (vs ++ dvs) (us ++ ds) := r.append hd
  have ll : (us ++ ds).length = ps.length := rr.length.symm.trans (F.len _ _ _ _ h)
  have go := F.go X.A X.stack s H ⟨us, []⟩ (us ++ ds) (vs ++ dvs) Q E hr hg I.env0 (hb s us I.kIn ll) rr h
  refine wpAny_call (codeAny_mono go ?_)
  intro r s' z
  match r, z with
  | .error e, z => exact hx pins σ H s e s' I z
  | .ok (.ret u), z => exact I.after z
  | .ok .next, z => exact False.elim z
  | .ok .brk, z => exact False.elim z
  | .ok .cont, z => exact False.elim z
theorem pe_callG (F : FnG X.prog X.w X.K X.mg X.base CX k f fd ps sp) (hr : Room k X.A) (gd : X.A.guards = some []) (hg : Gl X x) (hm : X.mg x = some (.ref f))
    (hk : PySem.W.keepIn X.K (.ref f) = true) (hb : Binds X.K fd ps ds) (hd : Vals dvs ds) (hx : Passes CX X E)
    (ha : PA X (e :: es) t) (hdb : (x == ("__debug__" : Str)) = false := by decide)
    (he : starEach (e :: es) X.env = (false, eval e X.env) :: starEach es X.env := by rfl) (hpl : (backTo pos (starEach es X.env)).any (·.1) = false := by rfl) :
    PE X (.Call (.Name x p) (e :: es) [] pos) (tCall sp dvs E t) := by
  constructor
  intro pins s σ H Q I h
  refine wpAny_Call_Name_kw (ld_glob I hg hm ?_ hdb)
  refine PySem.W.callWith_K (h₀ := X.base) I.ok.mod.kin hk (thn (ha.run pos pins s σ H _ I h) ?_) he hpl
  intro us s1 ⟨vs, H1, I1, r, q⟩
  exact ⟨I1.kIn, runG F hr gd hb hd hx I1 r q⟩
end
/-! the end of a law over such a def -/
theorem callG {P : Program} {w : World} {K : PySem.W.Frag} {mg mb : Str → Option Value} {CX : CXT} {k : Nat} {fa a : Addr} {fd : FuncData} {x : Str} {sp : Sp} {s₁ : Shared}
    {vs : List Value} {ns : List Int}
    (KX : K.In s₁.heap) (hns : s₁.heap.Ns mainGlobals mg) (hb : s₁.heap.Ns builtinsNs mb) (hbb : ∀ x : Str, x ≠ "__name__" → mb x = bootBuiltins x) (hlim : s₁.heap.NoLimit) (hg : s₁.gens = #[])
    (ha : s₁.heap.get? a = some { cls := .type "list", data := .seq vs.toArray }) (hi : IntsAre vs ns) (hl : ns.length ≤ sizeLine) (hr : Room k callerA)
    (F : ∀ base : Heap, K.In base → base.Ns mainGlobals mg → FnG P w K mg base CX k fa fd [x] sp)
    (hbind : ∀ (s : Shared) (u : Value), BindsTo s fd ⟨[u], []⟩ [(x, u)])
    (hsp : ∀ H : Hp, Only H → SqL K H a (ns.map V.int) → sp [.ref a] H (fun v _ => v = .bl true) fun _ _ _ => False)
    (hCX : ∀ H e s', CX [] H s₁ (fun _ _ _ => False) e s' → False) :
    codeAny (model P w) callerA (.call (.ref fa) ⟨[.ref a], []⟩) (fun r s' => r = .ok (.ret (.bool true)) ∧ OldK s₁.heap s'.heap ∧ s'.os = s₁.os ∧ AllBare s'.gens) s₁ := by
  -- whatever is tracked at the entry is the script alone
  have main : ∀ T : Hp, Only T → SqL K T a (ns.map V.int) → HOk P w T s₁.heap → (∀ b, T b ≠ none → b = a ∧ K.lookup a = none) →
      codeAny (model P w) callerA (.call (.ref fa) ⟨[.ref a], []⟩) (fun r s' => r = .ok (.ret (.bool true)) ∧ OldK s₁.heap s'.heap ∧ s'.os = s₁.os ∧ AllBare s'.gens) s₁ := by
    intro T only sq hok alone
    have B : ∀ {b : Addr} {o : Obj}, s₁.heap.get? b = some o → T b = none → (hidT s₁.heap T).get? b = some o := fun e n => hidT_get e n
    have notD : ∀ {b : Addr} {o : Obj} {es : Array DictEntry} {n : Nat}, s₁.heap.get? b = some o → o.data = .dict es n → T b = none := by
      intro b o es n e d
      by_cases q : T b = none
      · exact q
      · have z := (alone b q).1
        subst z
        rw [ha] at e
        cases e
        cases (show Data.seq vs.toArray _ = Data.dict es n from d)
    have nsB : ∀ {b : Addr} {m : Str → Option Value}, s₁.heap.Ns b m → (hidT s₁.heap T).Ns b m :=
      fun ⟨o, es, n, e, d, r⟩ => ⟨o, es, n, B e (notD e d), d, r⟩
    have inB : K.In (hidT s₁.heap T) := by
      intro b o e
      refine B (KX b o e) ?_
      by_cases q : T b = none
      · exact q
      · obtain ⟨z1, z2⟩ := alone b q
        subst z1
        rw [z2] at e
        cases e
    have modB : Mod K mg (hidT s₁.heap T) := by
      obtain ⟨mc, l1, l2⟩ := hlim
      exact ⟨inB, nsB hns, ⟨mb, nsB hb, hbb⟩, mc, nsB l1, l2⟩
    have e0 : Env0 P w K mg (hidT s₁.heap T) callerA [] s₁ T := by
      refine ⟨rfl, modB, fun b o z => of_hidT z, Nat.le_of_eq (hidT_size _ _), trivial, ?_, hok, .of_eq hg⟩
      intro b z
      exact absurd (show b ∈ ([] : List Addr) from z) (by simp)
    have run := (F _ inB (nsB hns)).go callerA [] s₁ T ⟨[.ref a], []⟩ [.ref a] [.ref a] _ _ hr rfl e0 (hbind s₁ (.ref a)) (.cons rfl .nil) (hsp T only sq)
    refine codeAny_mono run ?_
    intro r s' z
    match r, z with
    | .error e, z => exact (hCX T e s' z).elim
    | .ok .next, z => exact False.elim z
    | .ok .brk, z => exact False.elim z
    | .ok .cont, z => exact False.elim z
    | .ok (.ret u), ⟨v, T', os, bare, un, hok', rel, q⟩ =>
      cases (show v = .bl true from q)
      cases (show u = Value.bool true from rel)
      refine ⟨rfl, OldK.of_keep ?_, os, bare⟩
      intro b o e
      cases q : T b with
      | none =>
        refine un.keep b o e q ?_ (by simp)
        intro z
        exact absurd (show b ∈ ([] : List Addr) from z) (by simp)
      | some u =>
        rcases only b with z | ⟨ob, ys, z⟩
        · rw [q] at z
          cases z
        · obtain ⟨e1, _⟩ := hok b _ z
          obtain ⟨e2, _⟩ := hok' b _ (un.frzs b ob _ z)
          rw [e] at e1
          cases e1
          exact e2
  cases hk : K.lookup a with
  | some o =>
    have e := KX a o hk
    rw [ha] at e
    cases e
    refine main (fun _ => none) (fun _ => .inl rfl) ?_ (fun b u z => nomatch (show (none : Option HO) = some u from z)) (fun b z => absurd rfl z)
    exact .inr ⟨_, vs.toArray, _, hk, rfl, rfl, rfl, by rw [List.size_toArray, hi.length]; exact hl, by simpa using vals_ints hi⟩
  | none =>
    obtain ⟨T, yes, no⟩ : ∃ T : Hp, (∀ b : Addr, b = a → T b = some (.frz { cls := .type "list", data := .seq vs.toArray } (.lst (ns.map V.int)))) ∧ (∀ b : Addr, b ≠ a → T b = none) :=
      ⟨fun c => if c = a then some (.frz { cls := .type "list", data := .seq vs.toArray } (.lst (ns.map V.int))) else none, fun b h => if_pos h, fun b h => if_neg h⟩
    refine main T ?_ (.inl (.inr ⟨_, yes a rfl⟩)) ?_ ?_
    · intro b
      by_cases h : b = a
      · exact .inr ⟨_, _, yes b h⟩
      · exact .inl (no b h)
    · intro b u z
      by_cases h : b = a
      · have z' := (yes b h).symm.trans z
        cases z'
        subst h
        exact ⟨ha, by rw [List.length_map]; exact hl, vs, _, vals_ints hi, ha⟩
      · have z' := (no b h).symm.trans z
        cases z'
    · intro b z
      by_cases h : b = a
      · exact ⟨h, hk⟩
      · exact absurd (no b h) z
theorem walkG {l : PySem.W.OpenLaw} {n k : Nat} {q : Program} {loose : List Str} {XP : (Str → Option Value) → Heap → Prop} {YP : World → Heap → Prop} {d : DefRec} {CX : CXT} {x : Str}
    (hn : l.most = some n) (hn2 : n ≤ sizeLine) (hdf : d.params.defaults = []) (hr : Room k callerA)
    (F : ∀ (w : World) (mg : Str → Option Value) (fa : Addr) (h : Heap), YP w h → h.Ns mainGlobals mg → mg d.name = some (.ref fa) →
      ∃ (K : PySem.W.Frag) (fd : FuncData) (sp : Sp), K.In h ∧ (∀ (s : Shared) (u : Value), BindsTo s fd ⟨[u], []⟩ [(x, u)]) ∧
        (∀ (H : Hp) (a : Addr) (ns : List Int), ns.length ≤ n → Only H → SqL K H a (ns.map V.int) → sp [.ref a] H (fun v _ => v = .bl true) fun _ _ _ => False) ∧
        ∀ base : Heap, K.In base → base.Ns mainGlobals mg → FnG l.prog w K mg base CX k fa fd [x] sp)
    (hCX : ∀ (H : Hp) (s : Shared) (e : Value) (s' : Shared), CX [] H s (fun _ _ _ => False) e s' → False) :
    PySem.W.WalkO q loose XP YP l.row.toRowW d [] (fun f vs => PySem.call f vs) := by
  apply Att.attach_call hn hdf
  intro w s₀ s₁ mg mb fa o pm cd doc a vs ns G Y ho hd hcd hmg hobj hints hlen hg
  obtain ⟨K, fd, sp, KX, bnd, say, prom⟩ := F w mg fa _ Y G.T.g hmg
  exact callG KX G.T.g G.T.b G.T.builtins G.T.nolimit hg hobj hints (Nat.le_trans hlen hn2) hr prom bnd (fun H hO hS => say H a ns hlen hO hS) (fun H e s' => hCX H s₁ e s')
end SB
namespace SB
open PySem PySem.Spec PyProof.Rows L2
/-! a def of the text, where it stands; what a caller has of it -/
def GInt (mg : Str → Option Value) (x : Str) (i : Int) : Prop := ∃ t, mg x = some (.int i t)
def Df (K : PySem.W.Frag) (mg : Str → Option Value) (x : Str) (st : Stmt) : Prop :=
  mg x = some (.ref (He.ga K x)) ∧ ∃ fd, FunD K x x (defArgs st) (defBody st) (defScope st) [] [] (He.fAd K (x, none)) fd
theorem pe_gi {X : Cx} {x : Str} {i : Int} {pos : Pos} (h : GInt X.mg x i) (hg : Gl X x := by rfl) (hdb : (x == ("__debug__" : Str)) = false := by decide) : PE X (.Name x pos) (tC (.int i)) := by
  obtain ⟨t, e⟩ := h
  exact pe_glob hg e ⟨_, rfl⟩ hdb
structure Cal (P : Program) (w : World) (K : PySem.W.Frag) (mg : Str → Option Value) (base : Heap) (CX : CXT) (k : Nat) (x : Str) (ps : List Str) (sp : Sp) : Prop where
  ex : ∃ f fd, mg x = some (.ref f) ∧ PySem.W.keepIn K (.ref f) = true ∧ Binds K fd ps [] ∧ FnOk P w K mg base CX k f fd ps sp
structure CalG (P : Program) (w : World) (K : PySem.W.Frag) (mg : Str → Option Value) (base : Heap) (CX : CXT) (k : Nat) (x : Str) (ps : List Str) (sp : Sp) : Prop where
  ex : ∃ f fd, mg x = some (.ref f) ∧ PySem.W.keepIn K (.ref f) = true ∧ Binds K fd ps [] ∧ FnG P w K mg base CX k f fd ps sp
/-- called by keywords alone -/
structure CalK (P : Program) (w : World) (K : PySem.W.Frag) (mg : Str → Option Value) (base : Heap) (CX : CXT) (k : Nat) (x : Str) (ks ps : List Str) (gV : List V → List V → List V) (sp : Sp) : Prop where
  ex : ∃ f fd g, mg x = some (.ref f) ∧ PySem.W.keepIn K (.ref f) = true ∧ KBinds K fd ps ks g gV ∧ FnOk P w K mg base CX k f fd ps sp
section
variable {X : Cx} {CX : CXT} {k j : Nat} {ps ks : List Str} {sp : Sp} {E : XK} {x : Str} {p pos : Pos} {e : Expr} {es : List Expr} {kws : List Keyword} {t tk : TA} {gV : List V → List V → List V}
theorem pe_cal (F : Cal X.prog X.w X.K X.mg X.base CX k x ps sp) (hr : Room k X.A) (hx : Passes CX X E) (ha : PA X (e :: es) t) (hg : Gl X x := by rfl) (hdb : (x == ("__debug__" : Str)) = false := by decide)
    (he : starEach (e :: es) X.env = (false, eval e X.env) :: starEach es X.env := by rfl) (hpl : (backTo pos (starEach es X.env)).any (·.1) = false := by rfl) :
    PE X (.Call (.Name x p) (e :: es) [] pos) (tCall sp [] E t) := by
  obtain ⟨f, fd, e1, e2, e3, e4⟩ := F.ex
  exact pe_call e4 hr hg e1 e2 e3 .nil hx ha hdb he hpl
theorem pe_cal0 (F : Cal X.prog X.w X.K X.mg X.base CX k x ps sp) (hr : Room k X.A) (hx : Passes CX X E) (hg : Gl X x := by rfl) (hdb : (x == ("__debug__" : Str)) = false := by decide) :
    PE X (.Call (.Name x p) [] [] pos) (tCall sp [] E tNil) := by
  obtain ⟨f, fd, e1, e2, e3, e4⟩ := F.ex
  exact pe_call0 e4 hr hg e1 e2 e3 .nil hx hdb
theorem pe_calG (F : CalG X.prog X.w X.K X.mg X.base CX k x ps sp) (hr : Room k X.A) (gd : X.A.guards = some []) (hx : Passes CX X E) (ha : PA X (e :: es) t) (hg : Gl X x := by rfl) (hdb : (x == ("__debug__" : Str)) = false := by decide)
    (he : starEach (e :: es) X.env = (false, eval e X.env) :: starEach es X.env := by rfl) (hpl : (backTo pos (starEach es X.env)).any (·.1) = false := by rfl) :
    PE X (.Call (.Name x p) (e :: es) [] pos) (tCall sp [] E t) := by
  obtain ⟨f, fd, e1, e2, e3, e4⟩ := F.ex
  exact pe_callG e4 hr gd hg e1 e2 e3 .nil hx ha hdb he hpl
theorem pe_calK (F : CalK X.prog X.w X.K X.mg X.base CX k x ks ps gV sp) (hr : Room k X.A) (hx : Passes CX X E) (hkw : PK X kws tk) (hg : Gl X x := by rfl)
    (hall : (backToKw pos (keywordEach kws X.env)).all (·.1.isSome) = true := by rfl) (hks : (backToKw pos (keywordEach kws X.env)).filterMap (·.1) = ks := by rfl)
    (hdb : (x == ("__debug__" : Str)) = false := by decide)
    (hpl : ((backTo pos (starEach [] X.env)).any (·.1) || (backToKw pos (keywordEach kws X.env)).any (·.1.isNone)) = false := by rfl) :
    PE X (.Call (.Name x p) [] kws pos) (tCallK sp gV E tNil tk) := by
  obtain ⟨f, fd, g, e1, e2, e3, e4⟩ := F.ex
  constructor
  intro pins s σ H Q I h
  refine wpAny_Call_Name_kw (ld_glob I hg e1 ?_ hdb)
  refine PySem.W.callWith_KW0 (h₀ := X.base) I.ok.mod.kin e2 hall (thn (hkw.run pos pins s σ H _ I h) ?_) hpl
  intro ws s2 ⟨zs, H2, I2, rz, q2⟩
  refine ⟨I2.kIn, ?_⟩
  rw [hks]
  exact run_fnk (us := []) (vs := []) e4 hr e3 hx I2 .nil rz q2
end
section
variable {P : Program} {w : World} {K : PySem.W.Frag} {mg : Str → Option Value} {base : Heap}
theorem Df.cal {CX : CXT} {k : Nat} {x : Str} {st : Stmt} {N ps : List Str} {sp : Sp} (D : Df K mg x st) (S : FnScope N ps (defScope st)) (len : ∀ vs H Q E, sp vs H Q E → vs.length = ps.length)
    (hb : ∀ (kV doc pm : Value) (an : Option Addr) (cdv ct : Value) (us : List Value), us.length = ps.length → bindArgs (PySem.W.fnOf x x (defArgs st) (defBody st) (defScope st) .none kV doc pm an cdv ct) ⟨us, []⟩ = pure (ps.zip us))
    (body : ∀ (f : Addr) (cdv : Value) (A : Around) (outer : List Env) (s : Shared) (H : Hp) (vs : List V) (Q : VK) (E : XK), Room k (A.deeper (envOfC x (defScope st) s.heap.objs.size f cdv)) → sp vs H Q E →
      ∃ t, PSs (cxOf CX P w K mg base N x (defScope st) f cdv A outer s H E).nox (defBody st) t ∧ t { nx := fun _ H' => Q .non H', rt := Q } (start N vs) H) :
    Cal P w K mg base CX (k + 1) x ps sp := by
  obtain ⟨e, fd, F⟩ := D
  exact ⟨_, fd, e, F.kp, FunD.bindsN F hb, FunD.ok F S len (fun cdv A outer s H vs Q E hr h => let ⟨t, a, b⟩ := body _ cdv A outer s H vs Q E hr h; ⟨t, a.nox, b⟩)⟩
theorem Df.calG {CX : CXT} {k : Nat} {x : Str} {st : Stmt} {N ps : List Str} {sp : Sp} (D : Df K mg x st) (S : FnScope N ps (defScope st)) (len : ∀ vs H Q E, sp vs H Q E → vs.length = ps.length)
    (hb : ∀ (kV doc pm : Value) (an : Option Addr) (cdv ct : Value) (us : List Value), us.length = ps.length → bindArgs (PySem.W.fnOf x x (defArgs st) (defBody st) (defScope st) .none kV doc pm an cdv ct) ⟨us, []⟩ = pure (ps.zip us))
    (body : ∀ (f : Addr) (cdv : Value) (A : Around) (outer : List Env) (s : Shared) (H : Hp) (vs : List V) (Q : VK) (E : XK), Room k (A.deeper (envOfC x (defScope st) s.heap.objs.size f cdv)) → A.guards = some [] → sp vs H Q E →
      ∃ t, PSs (cxOf CX P w K mg base N x (defScope st) f cdv A outer s H E).nox (defBody st) t ∧ t { nx := fun _ H' => Q .non H', rt := Q } (start N vs) H) :
    CalG P w K mg base CX (k + 1) x ps sp := by
  obtain ⟨e, fd, F⟩ := D
  exact ⟨_, fd, e, F.kp, FunD.bindsN F hb, FnG.body F S len (fun cdv A outer s H vs Q E hr g h => let ⟨t, a, b⟩ := body _ cdv A outer s H vs Q E hr g h; ⟨t, a.nox, b⟩)⟩
/-- a def with the promise that its positional callers have, called by keywords -/
theorem Df.calK {CX : CXT} {k : Nat} {x : Str} {st : Stmt} {N ks ps : List Str} {sp : Sp} {gV : List V → List V → List V} (D : Df K mg x st)
    (g : List Value → List Value → List Value)
    (hb : ∀ (kV doc pm : Value) (an : Option Addr) (cdv ct : Value) (us ws : List Value), (g us ws).length = ps.length → bindArgs (PySem.W.fnOf x x (defArgs st) (defBody st) (defScope st) .none kV doc pm an cdv ct) ⟨us, ks.zip ws⟩ = pure (ps.zip (g us ws)))
    (rel : ∀ {vs : List V} {us : List Value} {zs : List V} {ws : List Value}, Vals vs us → Vals zs ws → Vals (gV vs zs) (g us ws))
    (S : FnScope N ps (defScope st)) (len : ∀ vs H Q E, sp vs H Q E → vs.length = ps.length)
    (body : ∀ (f : Addr) (cdv : Value) (A : Around) (outer : List Env) (s : Shared) (H : Hp) (vs : List V) (Q : VK) (E : XK), Room k (A.deeper (envOfC x (defScope st) s.heap.objs.size f cdv)) → sp vs H Q E →
      ∃ t, PSs (cxOf CX P w K mg base N x (defScope st) f cdv A outer s H E).nox (defBody st) t ∧ t { nx := fun _ H' => Q .non H', rt := Q } (start N vs) H) :
    CalK P w K mg base CX (k + 1) x ks ps gV sp := by
  obtain ⟨e, fd, F⟩ := D
  have F2 := F
  obtain ⟨oc, od, dV, kV, doc, pm, an, cdv, ct, osl, rfl, lk, hcd, hD, hK⟩ := F2.ex
  refine ⟨_, _, g, e, F.kp, ⟨fun s us ws _ l => ?_, rel⟩, FunD.ok F S len (fun cdv A outer s H vs Q E hr h => let ⟨t, a, b⟩ := body _ cdv A outer s H vs Q E hr h; ⟨t, a.nox, b⟩)⟩
  rcases hD with ⟨_, rfl⟩ | ⟨z, _⟩
  · exact .of_eq (hb kV doc pm an cdv ct us ws l)
  · exact absurd rfl z
end
/-! values by their types -/
inductive TyN (K : PySem.W.Frag) (H : Hp) : V → String → Prop where
  | non : TyN K H .non "NoneType"
  | bl (b : Bool) : TyN K H (.bl b) "bool"
  | int (i : Int) : TyN K H (.int i) "int"
  | str (x : Str) : TyN K H (.str x) "str"
  | lst {a : Addr} {xs : List V} (h : SqL K H a xs) : TyN K H (.ref a) "list"
  | tup {a : Addr} {xs : List V} (h : SqT K H a xs) : TyN K H (.ref a) "tuple"
  | dct {a : Addr} {kvs : List (Key × V)} (h : H a = some (.dK kvs)) : TyN K H (.ref a) "dict"
theorem TyN.x {K : PySem.W.Frag} {H : Hp} {v : V} {n : String} (h : TyN K H v n) : TyX K H v (.type n) := by
  cases h with
  | non => exact .base .non
  | bl b => exact .base (.bl b)
  | int i => exact .base (.int i)
  | str x => exact .base (.str x)
  | lst h =>
    rcases h with (h | ⟨o, h⟩) | ⟨o, its, n, h, c, _⟩
    · exact .base (.lst h)
    · exact .base (.frz h)
    · exact .kList h c
  | tup h =>
    rcases h with (h | ⟨o, h⟩) | ⟨o, its, n, h, c, _⟩
    · exact .base (.tup h)
    · exact .fTuple h
    · exact .kTuple h c
  | dct h => exact .base (.dK h)
theorem TyN.kit {K : PySem.W.Frag} {H : Hp} {v : V} {n m : String} (h : TyN K H v n) (hm : m = "int" ∨ m = "bool" ∨ m = "str" ∨ m = "list" ∨ m = "tuple") :
    PySem.W.kitOne K (.type n) (.type m) = some (decide (n = m ∨ n = "bool" ∧ m = "int")) := by
  cases h <;> (rcases hm with rfl | rfl | rfl | rfl | rfl) <;> exact kit_ty (by decide +kernel)
theorem same_upd {H : Hp} {p : Addr} {o : HO} (h : H p = none) : Same H (upd H p o) := fun b x e => by
  rw [upd_ne (ne_of_none e h)]
  exact e
end SB
namespace SB
open PySem PySem.Spec PyProof.Rows L2 Evl
/-! shapes, frames: the mathematics -/
inductive Pa where
  | no | ev | od
def Pa.s : Pa → Str
  | .no => "none"
  | .ev => "even"
  | .od => "odd"
def bits (b : Nat) (x : Int) : List Int := (List.range b).map fun i => x / 2 ^ i % 2
def parL (b : Nat) (p : Pa) (x : Int) : List Int := match p with
  | .no => []
  | .ev => [(bits b x).sum % 2]
  | .od => [1 - (bits b x).sum % 2]
def frm (b : Nat) (p : Pa) (s : Nat) (x : Int) : List Int := 0 :: (bits b x ++ (parL b p x ++ List.replicate s 1))
def frms (b : Nat) (p : Pa) (s : Nat) (ns : List Int) : List Int := (ns.map (frm b p s)).flatten
theorem bits_len (b : Nat) (x : Int) : (bits b x).length = b := by simp [bits]
theorem bits_succ (b : Nat) (x : Int) : bits (b + 1) x = bits b x ++ [x / 2 ^ b % 2] := by
  simp [bits, List.range_succ]
theorem parL_len (b : Nat) (p : Pa) (x : Int) : (parL b p x).length ≤ 1 := by cases p <;> simp [parL]
theorem frm_len (b : Nat) (p : Pa) (s : Nat) (x : Int) : (frm b p s x).length = 1 + b + (parL b p x).length + s := by
  simp [frm, bits_len]; omega
theorem frm_le (b : Nat) (p : Pa) (s : Nat) (x : Int) : (frm b p s x).length ≤ 2 + b + s := by
  have := frm_len b p s x
  have := parL_len b p x
  omega
theorem bits_01 {b : Nat} {x y : Int} (h : y ∈ bits b x) : y = 0 ∨ y = 1 := by
  unfold bits at h
  obtain ⟨i, _, rfl⟩ := List.mem_map.mp h
  omega
theorem frm_01 {b : Nat} {p : Pa} {s : Nat} {x y : Int} (h : y ∈ frm b p s x) : y = 0 ∨ y = 1 := by
  unfold frm at h
  rcases List.mem_cons.mp h with h | h
  · exact .inl h
  rcases List.mem_append.mp h with h | h
  · exact bits_01 h
  rcases List.mem_append.mp h with h | h
  · cases p with
    | no => cases h
    | ev =>
      have := List.mem_singleton.mp h
      omega
    | od =>
      have := List.mem_singleton.mp h
      omega
  · exact .inr (List.eq_of_mem_replicate h)
theorem frms_01 {b : Nat} {p : Pa} {s : Nat} {ns : List Int} {y : Int} (h : y ∈ frms b p s ns) : y = 0 ∨ y = 1 := by
  unfold frms at h
  obtain ⟨l, hl, hy⟩ := List.mem_flatten.mp h
  obtain ⟨x, _, rfl⟩ := List.mem_map.mp hl
  exact frm_01 hy
theorem frms_snoc (b : Nat) (p : Pa) (s : Nat) (ns : List Int) (n : Int) : frms b p s (ns ++ [n]) = frms b p s ns ++ frm b p s n := by simp [frms]
theorem frms_le (b : Nat) (p : Pa) (s : Nat) : ∀ ns : List Int, (frms b p s ns).length ≤ ns.length * (2 + b + s)
  | [] => by simp [frms]
  | n :: ns => by
    have h := frms_le b p s ns
    have h2 := frm_le b p s n
    have e : frms b p s (n :: ns) = frm b p s n ++ frms b p s ns := by simp [frms]
    rw [e, List.length_append, List.length_cons, Nat.add_mul]
    omega
theorem div_step (x : Int) (i : Nat) : x / 2 ^ i / 2 = x / 2 ^ (i + 1) := by
  rw [Int.pow_succ, Int.ediv_ediv_of_nonneg (Int.pow_nonneg (by decide))]
/-! data -/
def dI (ns : List Int) : List PyData := ns.map PyData.int
theorem dp_ints {K : PySem.W.Frag} {H : Hp} : ∀ ns : List Int, DpAll K H (ns.map V.int) (dI ns)
  | [] => .nil
  | n :: ns => .cons (.int n) (dp_ints ns)
theorem int_log {i : Int} {k : Nat} (hk : 0 < k) (h : i.natAbs < 2 ^ k) : i.natAbs.log2 < k := PySem.Flt.log2_lt_of hk h
/-- a list of small ints can be shown -/
theorem show_ints (ns : List Int) (h : ∀ n ∈ ns, n.natAbs < 2 ^ 200) : PyData.showableAll (dI ns) = true ∧ PyData.hasDictAll (dI ns) = false ∧ PyData.depthAll (dI ns) = 0 ∧
    ((PyData.shownAll (dI ns)).map (·.length)).sum ≤ 201 * ns.length ∧ (PyData.shownAll (dI ns)).length = ns.length := by
  induction ns with
  | nil => simp [dI, PyData.showableAll, PyData.hasDictAll, PyData.depthAll, PyData.shownAll]
  | cons n ns ih =>
    obtain ⟨h1, h2, h3, h4, h5⟩ := ih fun m hm => h m (List.mem_cons_of_mem _ hm)
    have hn := h n (List.mem_cons_self ..)
    have hl : n.natAbs.log2 < 200 := int_log (by decide) hn
    have ht : (Str.ofString (toString n)).length ≤ 201 := by
      rw [PySem.ofString_length]
      exact int_text_length_le (k := 200) (by decide) hl
    have e : dI (n :: ns) = PyData.int n :: dI ns := rfl
    rw [e]
    refine ⟨?_, ?_, ?_, ?_, ?_⟩
    · simp only [PyData.showableAll, PyData.showable, h1, Bool.and_true, decide_eq_true_eq]
      omega
    · simp only [PyData.hasDictAll, PyData.hasDict, h2, Bool.false_or]
    · simp only [PyData.depthAll, PyData.depth, h3]
      rfl
    · simp only [PyData.shownAll, PyData.shown, List.map_cons, List.sum_cons, List.length_cons]
      omega
    · simp only [PyData.shownAll, List.length_cons, h5]
theorem show_list {ns : List Int} (h : ∀ n ∈ ns, n.natAbs < 2 ^ 200) (hl : ns.length ≤ 10000) :
    (PyData.list (dI ns)).showable = true ∧ (PyData.list (dI ns)).hasDict = false ∧ (PyData.list (dI ns)).depth ≤ 60 ∧ (PyData.list (dI ns)).shown.length ≤ sizeLine := by
  obtain ⟨h1, h2, h3, h4, h5⟩ := show_ints ns h
  refine ⟨?_, ?_, ?_, ?_⟩
  · simp only [PyData.showable, h1]
  · simp only [PyData.hasDict, h2]
  · simp only [PyData.depth, h3]
    omega
  · simp only [PyData.shown]
    have := listText_len_le (PyData.shownAll (dI ns))
    rw [sizeLine_eq]
    omega
/-- the reading of repr(xs), xs a list of ints -/
theorem rp_list {K : PySem.W.Frag} {H : Hp} {a : Addr} {ns : List Int} {Q : VK} (hs : SqL K H a (ns.map V.int)) (h : ∀ n ∈ ns, n.natAbs < 2 ^ 200) (hl : ns.length ≤ 10000)
    (q : Q (.str (PyData.list (dI ns)).shown) H) : rRp K [.ref a] H Q := by
  obtain ⟨h1, h2, h3, h4⟩ := show_list h hl
  exact ⟨_, _, rfl, .lst hs (dp_ints ns), h1, h2, h3, h4, q⟩
/-! heaps -/
def Kp (a : Addr) (H H' : Hp) : Prop := ∀ b o, b ≠ a → H b = some o → H' b = some o
theorem Ex.kp {a : Addr} {H H' : Hp} (e : Ex H H') : Kp a H H' := fun b o _ h => e b o h
theorem Kp.trans {a : Addr} {H H1 H2 : Hp} (x : Kp a H H1) (y : Kp a H1 H2) : Kp a H H2 := fun b o n h => y b o n (x b o n h)
theorem Kp.refl {a : Addr} {H : Hp} : Kp a H H := fun _ _ _ h => h
theorem Kp.upd {a : Addr} {H : Hp} {o : HO} : Kp a H (upd H a o) := fun b u n h => by
  rw [upd_ne n]
  exact h
theorem Kp.tup {K : PySem.W.Frag} {a t : Addr} {H H' : Hp} {xs ys : List V} (k : Kp a H H') (ha : H a = some (.lst ys)) (h : SqT K H t xs) : SqT K H' t xs := by
  rcases h with (h | ⟨o, h⟩) | h
  · exact .inl (.inl (k t _ (fun e => by rw [e, ha] at h; cases h) h))
  · exact .inl (.inr ⟨o, k t _ (fun e => by rw [e, ha] at h; cases h) h⟩)
  · exact .inr h
theorem Kp.free {a p : Addr} {H H' : Hp} (k : Kp a H H') (hp : H' p = none) (ha : p ≠ a) : H p = none := by
  cases h : H p with
  | none => rfl
  | some o =>
    rw [k p o ha h] at hp
    cases hp
/-! shapes as values -/
def IsSh (K : PySem.W.Frag) (H : Hp) (v : V) (b : Nat) (p : Pa) (s : Nat) : Prop :=
  ∃ t, v = .ref t ∧ SqT K H t [.int b, .str p.s, .int s] ∧ 1 ≤ b ∧ b ≤ 9 ∧ 1 ≤ s ∧ s ≤ 2
theorem IsSh.ex {K : PySem.W.Frag} {H H' : Hp} {v : V} {b : Nat} {p : Pa} {s : Nat} (e : Ex H H') (h : IsSh K H v b p s) : IsSh K H' v b p s := by
  obtain ⟨t, e1, e2, r⟩ := h
  exact ⟨t, e1, ex_t e e2, r⟩
theorem IsSh.kp {K : PySem.W.Frag} {H H' : Hp} {v : V} {b : Nat} {p : Pa} {s : Nat} {a : Addr} {ys : List V} (e : Kp a H H') (ha : H a = some (.lst ys)) (h : IsSh K H v b p s) : IsSh K H' v b p s := by
  obtain ⟨t, e1, e2, r⟩ := h
  exact ⟨t, e1, e.tup ha e2, r⟩
theorem no_is (p : Pa) : decide (V.str p.s = V.str "none") = match p with | .no => true | _ => false := by cases p <;> decide +kernel
theorem ev_is' (p : Pa) : decide (V.str p.s = V.str "even") = match p with | .ev => true | _ => false := by cases p <;> decide +kernel
theorem od_is (p : Pa) : decide (V.str p.s = V.str "odd") = match p with | .od => true | _ => false := by cases p <;> decide +kernel
theorem pa_in (p : Pa) : inV (.str p.s) [.str "none", .str "even", .str "odd"] = true := by cases p <;> decide +kernel
theorem atI_i {xs : List V} {v : V} (i : Int) (j : Nat) (e : i = (j : Int)) (h : xs[j]? = some v) : atI xs i = some v := by
  rw [e]
  exact atI_nat h
/-! isinstance of the kinds -/
section
variable {K : PySem.W.Frag}
theorem ki {n m : String} {b : Bool} (h : kitB n m = some b := by decide +kernel) : PySem.W.kitOne K (.type n) (.type m) = some b := kit_ty h
end
/-! a draw's source -/
def Src (H : Hp) (a : Addr) (n : Nat) : Prop := ∃ l sd c : Int, H a = some (.lst [.int l, .int sd, .int c]) ∧ 0 ≤ sd ∧ sd < 4611686018427387904 ∧ 0 ≤ c ∧ c ≤ n
theorem Src.mono {H : Hp} {a : Addr} {n m : Nat} (h : Src H a n) (e : n ≤ m) : Src H a m := by
  obtain ⟨l, sd, c, h1, h2, h3, h4, h5⟩ := h
  exact ⟨l, sd, c, h1, h2, h3, h4, by omega⟩
theorem Src.ex {H H' : Hp} {a : Addr} {n : Nat} (h : Src H a n) (e : Ex H H') : Src H' a n := by
  obtain ⟨l, sd, c, h1, h2⟩ := h
  exact ⟨l, sd, c, e _ _ h1, h2⟩
theorem cpow3 {i : Int} (h0 : 0 ≤ i) (h : i < 2 ^ 250) : CPowB i 3 := by
  have h1 : i.natAbs < 2 ^ 250 := by
    have e : (2 : Int) ^ 250 = ((2 ^ 250 : Nat) : Int) := by norm_cast
    omega
  have h2 := int_log (by decide) h1
  exact ⟨by decide, by omega⟩
theorem cpow10 (k : Int) (h0 : 0 ≤ k) (h : k ≤ 1000) : CPowB 10 k := by
  refine ⟨h0, ?_⟩
  have e : ((10 : Int).natAbs.log2 : Int) + 1 = 4 := by decide
  rw [e]
  omega
end SB
namespace SB
open PySem PySem.Spec PyProof.Rows L2 Evl
/-! lists that are made of lists -/
def EvX (te : TE) (σ : L2.St) (H : Hp) (xs : List V) : Prop := ∀ H1, Ex H H1 → ∀ Q : VK, (∀ p H2, Ex H1 H2 → H2 p = some (.lst xs) → Q (.ref p) H2) → te σ H1 Q
section
variable {σ : L2.St} {H : Hp} {ta tb te : TE} {xs ys : List V} {K : PySem.W.Frag}
theorem evx_var {i : Nat} {a : Addr} (h : σ[i]? = some (some (.ref a))) (ha : H a = some (.lst xs)) : EvX (tVar i) σ H xs := fun H1 e Q q => ⟨_, h, q a H1 (Ex.refl H1) (e a _ ha)⟩
theorem evx_new (h : EvL te σ H xs) : EvX te σ H xs := fun H1 e Q q => h H1 e Q fun p H2 _ e2 h2 => q p H2 e2 h2
theorem el_cat (ha : EvX ta σ H xs) (hb : EvX tb σ H ys) (hl : xs.length + ys.length ≤ 100000) : EvL (tOp rCat ta tb) σ H (xs ++ ys) := fun H1 e Q q =>
  ha H1 e _ fun p H2 e2 h2 => hb H2 (e.trans e2) _ fun r H3 e3 h3 => ⟨p, r, xs, ys, rfl, rfl, e3 _ _ h2, h3, sz_of hl, fun l nl =>
    q l _ (fresh_back (e2.trans e3) nl) ((e2.trans e3).trans (Ex.new nl)) upd_same⟩
theorem el_rep {k : Int} (ha : EvX ta σ H xs) (hb : Ev tb σ H (.int k)) (h0 : -(2 ^ 63) ≤ k) (h1 : k < 2 ^ 63) (hl : xs.length * k.toNat ≤ 100000) : EvL (tOp rRep ta tb) σ H (List.replicate k.toNat xs).flatten := fun H1 e Q q =>
  ha H1 e _ fun p H2 e2 h2 => hb H2 (e.trans e2) _ fun H3 e3 => ⟨p, k, xs, rfl, rfl, e3 _ _ h2, h0, h1, sz_of hl, fun l nl =>
    q l _ (fresh_back (e2.trans e3) nl) ((e2.trans e3).trans (Ex.new nl)) upd_same⟩
theorem el_call {sp : Sp} {E : XK} {t : TA} {vs : List V} (ha : EvA t σ H vs) (h : ∀ H1, Ex H H1 → ∀ Q : VK, RetL xs H1 Q → sp (vs ++ []) H1 Q E) : EvL (tCall sp [] E t) σ H xs := fun H1 e Q q =>
  ha H1 e _ fun H2 e2 => h H2 (e.trans e2) Q fun p H3 n e3 h3 => q p H3 (fresh_back e2 n) (e2.trans e3) h3
theorem ev_call {sp : Sp} {E : XK} {t : TA} {vs : List V} {v : V} (ha : EvA t σ H vs) (h : ∀ H1, Ex H H1 → ∀ Q : VK, RetV v H1 Q → sp (vs ++ []) H1 Q E) : Ev (tCall sp [] E t) σ H v := fun H1 e Q q =>
  ha H1 e _ fun H2 e2 => h H2 (e.trans e2) Q fun H3 e3 => q H3 (e2.trans e3)
theorem ev_ixT {t : Addr} {i : Int} {v : V} (ha : Ev ta σ H (.ref t)) (hb : Ev tb σ H (.int i)) (h : SqT K H t xs) (hi : atI xs i = some v) : Ev (tOp (rIxT K) ta tb) σ H v := ev_op ha hb (rv_ixT h hi)
end
theorem rep_one (k : Nat) (i : Int) : (List.replicate (k : Int).toNat [V.int i]).flatten = (List.replicate k i).map V.int := by
  rw [Int.toNat_natCast, List.map_replicate]
  simp
theorem ints_at {ns : List Int} {i : Nat} {y : V} (hi : (ns.map V.int)[i]? = some y) : ∃ z, ns[i]? = some z ∧ y = V.int z := by
  rw [List.getElem?_map] at hi
  cases e : ns[i]? with
  | none =>
    rw [e] at hi
    cases hi
  | some z =>
    rw [e] at hi
    exact ⟨z, rfl, (Option.some.inj hi).symm⟩
theorem Kp.new {a : Addr} {H H1 H2 : Hp} (e : Ex H H1) (k : Kp a H1 H2) (h : H a = none) : Ex H H2 := fun b o hb =>
  k b o (ne_of_none hb h) (e b o hb)
theorem Src.at {H : Hp} {a : Addr} {n : Nat} (h : Src H a n) : ∃ ys, H a = some (.lst ys) := by
  obtain ⟨l, sd, c, e, _⟩ := h
  exact ⟨_, e⟩
theorem Src.ne {H : Hp} {a p : Addr} {n : Nat} (h : Src H a n) (hp : H p = none) : p ≠ a := by
  obtain ⟨ys, e⟩ := h.at
  exact fun z => by rw [z, e] at hp; cases hp
end SB
namespace SB
open PySem PySem.Spec PyProof.Rows L2 Evl
theorem seq_any {te : TE} {i : Nat} {u : TS} {D : L2.Ends} {σ : L2.St} {H : Hp} {P : V → Prop} (h : ∀ Q' : VK, (∀ v, P v → Q' v H) → te σ H Q') (k : ∀ v, P v → u D (σ.set i (some v)) H) :
    tSeq (tAsg te (gName i)) u D σ H := h _ k
end SB
namespace SB
open PySem PySem.Spec PyProof.Rows L2 Evl
theorem Kp.mut {a p : Addr} {H H' : Hp} {o : HO} (k : Kp a H H') (h : H p = none) : Kp a H (L2.upd H' p o) := fun b u n hb => by
  rw [upd_ne (ne_of_none hb h)]
  exact k b u n hb
theorem Src.upd {H : Hp} {a p : Addr} {n : Nat} {o : HO} (h : Src H a n) (ne : p ≠ a) : Src (L2.upd H p o) a n := by
  obtain ⟨l, sd, c, e, r⟩ := h
  refine ⟨l, sd, c, ?_, r⟩
  rw [upd_ne (Ne.symm ne)]
  exact e
end SB
namespace SB
open PySem PySem.Spec PyProof.Rows L2 Evl
/-- a loop over enumerate of a list -/
theorem for_enum {K : PySem.W.Frag} {a : Addr} {xs : List V} {g : TG} {tb : TS} {D : L2.Ends} {σ : L2.St} {H : Hp} (Pv : Nat → L2.St → Hp → Prop) (h0 : Pv 0 σ H)
    (hq : ∀ i σ H, i ≤ xs.length → Pv i σ H → SqL K H a xs)
    (hs : ∀ (i : Nat) (x : V) (T : Addr) (σ : L2.St) (H : Hp), xs[i]? = some x → Pv i σ H → H T = none →
      g (.ref T) σ (L2.upd H T (.tup [.int (i : Nat), x])) fun σ2 H2 => tb { D with nx := Pv (i + 1), ct := Pv (i + 1), bk := D.nx } σ2 H2)
    (hd : ∀ σ H, Pv xs.length σ H → D.nx σ H) :
    ∃ W : Nat → Nat → L2.St → Hp → Prop, (∃ m, W 0 m σ H) ∧ ∀ i m σ H, W i m σ H →
      ((Ite K a).stop i H ∧ D.nx σ H) ∨ ((Ite K a).go i H ∧ ∃ N : L2.St → Hp → Prop, (∀ σ' H', N σ' H' → ∃ m', m' < m ∧ W (i + 1) m' σ' H') ∧
        ∀ v H', (Ite K a).yld i H v H' → g v σ H' fun σ2 H2 => tb { D with nx := N, ct := N, bk := D.nx } σ2 H2) := by
  refine ⟨fun i m σ H => m + i = xs.length ∧ Pv i σ H, ⟨xs.length, by omega, h0⟩, ?_⟩
  rintro i m σ H ⟨e, pv⟩
  have sq := hq i σ H (by omega) pv
  by_cases lt : i < xs.length
  · have hx : xs[i]? = some xs[i] := List.getElem?_eq_getElem lt
    refine .inr ⟨⟨xs, xs[i], sq, hx⟩, Pv (i + 1), fun σ' H' p' => ⟨m - 1, by omega, by omega, p'⟩, ?_⟩
    intro v H' y
    obtain ⟨T, x, rfl, nT, rfl, fx⟩ := y
    exact hs i x T σ H (fx xs sq) pv nT
  · obtain rfl : i = xs.length := by omega
    exact .inl ⟨⟨xs, sq, Nat.le_refl _⟩, hd σ H pv⟩
/-! keyword calls: the values in the parameters' order -/
def gPm {α : Type} (perm : List Nat) (us ws : List α) : List α := if us.length = 0 ∧ ws.length = perm.length then perm.filterMap fun i => ws[i]? else []
theorem rel_pick {zs : List V} {ws : List Value} (r : Vals zs ws) : ∀ perm : List Nat, Vals (perm.filterMap fun i => zs[i]?) (perm.filterMap fun i => ws[i]?)
  | [] => .nil
  | i :: perm => by
    have ih := rel_pick r perm
    have hl := r.length
    rw [List.filterMap_cons, List.filterMap_cons]
    cases e : zs[i]? with
    | none =>
      have e2 : ws[i]? = none := by
        rw [List.getElem?_eq_none_iff] at e ⊢
        omega
      rw [e2]
      exact ih
    | some v =>
      obtain ⟨u, hu, rv⟩ := r.get e
      rw [hu]
      exact .cons rv ih
theorem rel_gPm (perm : List Nat) {vs : List V} {us : List Value} {zs : List V} {ws : List Value} (r : Vals vs us) (rz : Vals zs ws) : Vals (gPm perm vs zs) (gPm perm us ws) := by
  unfold gPm
  rw [r.length, rz.length]
  split
  · exact rel_pick rz perm
  · exact .nil
/-! where a line of levels changes: the level ahead of all is 1, the i-th level begins at T i -/
def pvl (ls : List Int) : Nat → Int
  | 0 => 1
  | i + 1 => ls.getD i 1
def ch (ls : List Int) (T : Nat → Int) : Nat → List Int
  | 0 => []
  | i + 1 => ch ls T i ++ (if ls.getD i 1 = pvl ls i then [] else [T i])
theorem ch_len (ls : List Int) (T : Nat → Int) : ∀ n, (ch ls T n).length ≤ n
  | 0 => Nat.le_refl _
  | n + 1 => by
    have := ch_len ls T n
    unfold ch
    rw [List.length_append]
    split
    · simp
      omega
    · simp
      omega
theorem ch_congr {ls : List Int} {T U : Nat → Int} : ∀ {n : Nat}, (∀ i, i < n → T i = U i) → ch ls T n = ch ls U n
  | 0, _ => rfl
  | n + 1, h => by
    unfold ch
    rw [ch_congr fun i hi => h i (by omega), h n (by omega)]
theorem ch_mem {ls : List Int} {T : Nat → Int} {y : Int} : ∀ {n : Nat}, y ∈ ch ls T n → ∃ i, i < n ∧ y = T i
  | 0, h => by cases h
  | n + 1, h => by
    unfold ch at h
    rcases List.mem_append.mp h with h | h
    · obtain ⟨i, hi, e⟩ := ch_mem h
      exact ⟨i, by omega, e⟩
    · split at h
      · cases h
      · exact ⟨n, by omega, List.mem_singleton.mp h⟩
/-- a line behind another one that ends at 1 -/
theorem ch_app {A B : List Int} {T : Nat → Int} (h1 : pvl A A.length = 1) : ∀ k, k ≤ B.length → ch (A ++ B) T (A.length + k) = ch A T A.length ++ ch B (fun i => T (A.length + i)) k
  | 0, _ => by
    have : ∀ n, n ≤ A.length → ch (A ++ B) T n = ch A T n := by
      intro n
      induction n with
      | zero => intro _; rfl
      | succ n ih =>
        intro hn
        unfold ch
        rw [ih (by omega)]
        have e1 : (A ++ B).getD n 1 = A.getD n 1 := by
          rw [List.getD_eq_getElem?_getD, List.getD_eq_getElem?_getD, List.getElem?_append_left (by omega)]
        have e2 : pvl (A ++ B) n = pvl A n := by
          cases n with
          | zero => rfl
          | succ m =>
            show (A ++ B).getD m 1 = A.getD m 1
            rw [List.getD_eq_getElem?_getD, List.getD_eq_getElem?_getD, List.getElem?_append_left (by omega)]
        rw [e1, e2]
    rw [Nat.add_zero, this A.length (Nat.le_refl _)]
    simp [ch]
  | k + 1, hk => by
    have ih := ch_app (A := A) (B := B) (T := T) h1 k (by omega)
    have e1 : (A ++ B).getD (A.length + k) 1 = B.getD k 1 := by
      rw [List.getD_eq_getElem?_getD, List.getD_eq_getElem?_getD, List.getElem?_append_right (by omega), Nat.add_sub_cancel_left]
    have e2 : pvl (A ++ B) (A.length + k) = pvl B k := by
      cases k with
      | zero =>
        rw [Nat.add_zero]
        show _ = 1
        rw [← h1]
        generalize hA : A.length = n
        cases n with
        | zero => rfl
        | succ m =>
          show (A ++ B).getD m 1 = A.getD m 1
          have hm : m < A.length := by omega
          rw [List.getD_eq_getElem?_getD, List.getD_eq_getElem?_getD, List.getElem?_append_left hm]
      | succ m =>
        show (A ++ B).getD (A.length + m) 1 = B.getD m 1
        rw [List.getD_eq_getElem?_getD, List.getD_eq_getElem?_getD, List.getElem?_append_right (by omega), Nat.add_sub_cancel_left]
    show ch (A ++ B) T (A.length + k) ++ (if (A ++ B).getD (A.length + k) 1 = pvl (A ++ B) (A.length + k) then [] else [T (A.length + k)]) = _
    rw [ih, e1, e2, List.append_assoc]
    rfl
def plen : Pa → Nat
  | .no => 0
  | _ => 1
def sz (b : Nat) (p : Pa) (s : Nat) : Nat := 1 + b + plen p + s
theorem frm_sz (b : Nat) (p : Pa) (s : Nat) (x : Int) : (frm b p s x).length = sz b p s := by
  rw [frm_len]
  cases p <;> rfl
/-- a frame ends at 1 -/
theorem frm_end {b : Nat} {p : Pa} {s : Nat} (x : Int) (hs : 1 ≤ s) : pvl (frm b p s x) (frm b p s x).length = 1 := by
  have hl := frm_len b p s x
  generalize hn : (frm b p s x).length = n at hl
  cases n with
  | zero => omega
  | succ m =>
    show (frm b p s x).getD m 1 = 1
    rw [List.getD_eq_getElem?_getD]
    unfold frm
    have hp : (parL b p x).length ≤ 1 := parL_len b p x
    rw [show m = ((bits b x).length + (parL b p x).length + (s - 1)) + 1 by rw [bits_len]; omega, List.getElem?_cons_succ, ← List.append_assoc, List.getElem?_append_right (by rw [List.length_append]; omega), List.length_append, Nat.add_sub_cancel_left,
      List.getElem?_replicate]
    rw [if_pos (by omega)]
    rfl
/-- a text's levels are sent from the ticks of its sending -/
def sig (b : Nat) (p : Pa) (s : Nat) (ln : Int) (snd : List (Int × Int)) : List Int := (snd.map fun q => ch (frm b p s q.2) (fun i => q.1 + (i : Int) * ln) (sz b p s)).flatten
def tks (n : Nat) (ln : Int) (snd : List (Int × Int)) : List Int := (snd.map fun q => (List.range n).map fun i : Nat => q.1 + (i : Int) * ln).flatten
theorem tks_len (n : Nat) (ln : Int) : ∀ snd : List (Int × Int), (tks n ln snd).length = snd.length * n
  | [] => by simp [tks]
  | q :: r => by
    have ih := tks_len n ln r
    have e : tks n ln (q :: r) = ((List.range n).map fun i : Nat => q.1 + (i : Int) * ln) ++ tks n ln r := by simp [tks]
    rw [e, List.length_append, ih, List.length_map, List.length_range, List.length_cons, Nat.add_mul]
    omega
theorem frms_sz (b : Nat) (p : Pa) (s : Nat) : ∀ ns : List Int, (frms b p s ns).length = ns.length * sz b p s
  | [] => by simp [frms]
  | n :: ns => by
    have ih := frms_sz b p s ns
    have e : frms b p s (n :: ns) = frm b p s n ++ frms b p s ns := by simp [frms]
    rw [e, List.length_append, ih, frm_sz, List.length_cons, Nat.add_mul]
    omega
theorem ch_sig {b : Nat} {p : Pa} {s : Nat} {ln : Int} (hs : 1 ≤ s) : ∀ snd : List (Int × Int), ch (frms b p s (snd.map (·.2))) (fun i => (tks (sz b p s) ln snd).getD i 0) (frms b p s (snd.map (·.2))).length = sig b p s ln snd
  | [] => rfl
  | q :: r => by
    have ih := ch_sig (b := b) (p := p) (s := s) (ln := ln) hs r
    have e1 : frms b p s ((q :: r).map (·.2)) = frm b p s q.2 ++ frms b p s (r.map (·.2)) := by simp [frms]
    have e2 : tks (sz b p s) ln (q :: r) = ((List.range (sz b p s)).map fun i : Nat => q.1 + (i : Int) * ln) ++ tks (sz b p s) ln r := by simp [tks]
    have e3 : sig b p s ln (q :: r) = ch (frm b p s q.2) (fun i => q.1 + (i : Int) * ln) (sz b p s) ++ sig b p s ln r := by simp [sig]
    rw [e1, List.length_append, ch_app (frm_end q.2 hs) _ (Nat.le_refl _), e3, ← ih, frm_sz]
    congr 1
    · refine ch_congr fun i hi => ?_
      show (tks (sz b p s) ln (q :: r)).getD i 0 = _
      rw [e2, List.getD_eq_getElem?_getD, List.getElem?_append_left (by simpa using hi), List.getElem?_map, List.getElem?_range hi]
      rfl
    · refine ch_congr fun i hi => ?_
      show (tks (sz b p s) ln (q :: r)).getD (sz b p s + i) 0 = _
      rw [e2, List.getD_eq_getElem?_getD, List.getElem?_append_right (by simp), List.length_map, List.length_range, Nat.add_sub_cancel_left, ← List.getD_eq_getElem?_getD]
/-! lists of pairs -/
def Snd (K : PySem.W.Frag) (H : Hp) (xs : List V) (snd : List (Int × Int)) : Prop := xs.length = snd.length ∧ ∀ (k : Nat) (x : V) (q : Int × Int), xs[k]? = some x → snd[k]? = some q → ∃ t, x = .ref t ∧ SqT K H t [.int q.1, .int q.2]
theorem Snd.ex {K : PySem.W.Frag} {H H' : Hp} {xs : List V} {snd : List (Int × Int)} (e : Ex H H') (h : Snd K H xs snd) : Snd K H' xs snd :=
  ⟨h.1, fun k x q h1 h2 => let ⟨t, a, b⟩ := h.2 k x q h1 h2; ⟨t, a, ex_t e b⟩⟩
theorem Snd.kp {K : PySem.W.Frag} {H H' : Hp} {a : Addr} {ys : List V} {xs : List V} {snd : List (Int × Int)} (e : Kp a H H') (ha : H a = some (.lst ys)) (h : Snd K H xs snd) : Snd K H' xs snd :=
  ⟨h.1, fun k x q h1 h2 => let ⟨t, u, b⟩ := h.2 k x q h1 h2; ⟨t, u, e.tup ha b⟩⟩
theorem Snd.nil {K : PySem.W.Frag} {H : Hp} : Snd K H [] [] := ⟨rfl, fun k x q h _ => by simp at h⟩
theorem Snd.snoc {K : PySem.W.Frag} {H : Hp} {xs : List V} {snd : List (Int × Int)} {t : Addr} {q : Int × Int} (h : Snd K H xs snd) (ht : SqT K H t [.int q.1, .int q.2]) : Snd K H (xs ++ [.ref t]) (snd ++ [q]) := by
  refine ⟨by rw [List.length_append, List.length_append, h.1]; rfl, fun k x q' h1 h2 => ?_⟩
  by_cases hk : k < xs.length
  · rw [List.getElem?_append_left hk] at h1
    rw [List.getElem?_append_left (by rw [← h.1]; exact hk)] at h2
    exact h.2 k x q' h1 h2
  · have hk2 : k = xs.length := by
      have := (List.getElem?_eq_some_iff.mp h1).1
      rw [List.length_append] at this
      simp at this
      omega
    subst hk2
    rw [List.getElem?_append_right (Nat.le_refl _), Nat.sub_self] at h1
    rw [h.1, List.getElem?_append_right (Nat.le_refl _), Nat.sub_self] at h2
    obtain rfl : V.ref t = x := Option.some.inj h1
    obtain rfl : q = q' := Option.some.inj h2
    exact ⟨t, rfl, ht⟩
def dP (snd : List (Int × Int)) : List PyData := snd.map fun q => PyData.tuple [.int q.1, .int q.2]
theorem Snd.dp {K : PySem.W.Frag} {H : Hp} : ∀ {xs : List V} {snd : List (Int × Int)}, Snd K H xs snd → DpAll K H xs (dP snd)
  | [], [], _ => .nil
  | [], q :: r, h => by have := h.1; simp at this
  | x :: xs, [], h => by have := h.1; simp at this
  | x :: xs, q :: r, h => by
    obtain ⟨t, rfl, ht⟩ := h.2 0 x q rfl rfl
    exact .cons (.tup ht (.cons (.int _) (.cons (.int _) .nil))) (Snd.dp ⟨by have := h.1; simpa using this, fun k y q' h1 h2 => h.2 (k + 1) y q' h1 h2⟩)
theorem dP_ok : ∀ snd : List (Int × Int), PyData.canLayAll0 (dP snd) = true ∧ PyData.depthAll (dP snd) ≤ 1
  | [] => ⟨rfl, Nat.zero_le _⟩
  | q :: r => by
    obtain ⟨h1, h2⟩ := dP_ok r
    have e : dP (q :: r) = PyData.tuple [.int q.1, .int q.2] :: dP r := rfl
    rw [e]
    refine ⟨?_, ?_⟩
    · simp only [PyData.canLayAll0, PyData.canLay0, h1, Bool.and_true]
    · simp only [PyData.depthAll, PyData.depth]
      omega
theorem dP_shaped (snd : List (Int × Int)) : SeqAt.shaped (.list (dP snd)) = true := by
  obtain ⟨h1, h2⟩ := dP_ok snd
  unfold SeqAt.shaped
  rw [Bool.and_eq_true]
  refine ⟨?_, decide_eq_true ?_⟩
  · simp only [PyData.canLay0, h1]
  · simp only [PyData.depth]
    omega
theorem dI_ok : ∀ ns : List Int, PyData.canLayAll0 (dI ns) = true ∧ PyData.depthAll (dI ns) ≤ 1
  | [] => ⟨rfl, Nat.zero_le _⟩
  | q :: r => by
    obtain ⟨h1, h2⟩ := dI_ok r
    have e : dI (q :: r) = PyData.int q :: dI r := rfl
    rw [e]
    refine ⟨?_, ?_⟩
    · simp only [PyData.canLayAll0, PyData.canLay0, h1, Bool.and_true]
    · simp only [PyData.depthAll, PyData.depth]
      omega
theorem dI_shaped (ns : List Int) : SeqAt.shaped (.list (dI ns)) = true := by
  obtain ⟨h1, h2⟩ := dI_ok ns
  unfold SeqAt.shaped
  rw [Bool.and_eq_true]
  refine ⟨?_, decide_eq_true ?_⟩
  · simp only [PyData.canLay0, h1]
  · simp only [PyData.depth]
    omega
theorem eqv_sh {d : PyData} (h : SeqAt.shaped d = true) : PyData.eqv d d = true := SeqAt.eqv_refl d (SeqAt.canLay_of_shaped h)
end SB
namespace SB
open PySem PySem.Spec PyProof.Rows L2 Evl
def Kp2 (a b : Addr) (H H' : Hp) : Prop := ∀ c o, c ≠ a → c ≠ b → H c = some o → H' c = some o
theorem Kp2.refl {a b : Addr} {H : Hp} : Kp2 a b H H := fun _ _ _ _ h => h
theorem Kp2.ex {a b : Addr} {H H1 H2 : Hp} (k : Kp2 a b H H1) (e : Ex H1 H2) : Kp2 a b H H2 := fun c o n1 n2 h => e c o (k c o n1 n2 h)
theorem Kp2.updA {a b : Addr} {H H1 : Hp} {o : HO} (k : Kp2 a b H H1) : Kp2 a b H (L2.upd H1 a o) := fun c u n1 n2 h => by
  rw [upd_ne n1]
  exact k c u n1 n2 h
theorem Kp2.updB {a b : Addr} {H H1 : Hp} {o : HO} (k : Kp2 a b H H1) : Kp2 a b H (L2.upd H1 b o) := fun c u n1 n2 h => by
  rw [upd_ne n2]
  exact k c u n1 n2 h
theorem Kp2.tup {K : PySem.W.Frag} {a b t : Addr} {H H' : Hp} {xs ys zs : List V} (k : Kp2 a b H H') (ha : H a = some (.lst ys)) (hb : H b = some (.lst zs)) (h : SqT K H t xs) : SqT K H' t xs := by
  rcases h with (h | ⟨o, h⟩) | h
  · exact .inl (.inl (k t _ (fun e => by rw [e, ha] at h; cases h) (fun e => by rw [e, hb] at h; cases h) h))
  · exact .inl (.inr ⟨o, k t _ (fun e => by rw [e, ha] at h; cases h) (fun e => by rw [e, hb] at h; cases h) h⟩)
  · exact .inr h
theorem Snd.kp2 {K : PySem.W.Frag} {H H' : Hp} {a b : Addr} {ys zs : List V} {xs : List V} {snd : List (Int × Int)} (e : Kp2 a b H H') (ha : H a = some (.lst ys)) (hb : H b = some (.lst zs)) (h : Snd K H xs snd) : Snd K H' xs snd :=
  ⟨h.1, fun k x q h1 h2 => let ⟨t, u, c⟩ := h.2 k x q h1 h2; ⟨t, u, e.tup ha hb c⟩⟩
theorem Kp2.kp {a b S : Addr} {H0 H H' : Hp} (k : Kp2 a b H H') (k0 : Kp S H0 H) (ha : H0 a = none) (hb : H0 b = none) : Kp S H0 H' := fun c o n h =>
  k c o (ne_of_none h ha) (ne_of_none h hb) (k0 c o n h)
theorem Src.kp2 {a b S : Addr} {n : Nat} {H H' : Hp} (h : Src H S n) (k : Kp2 a b H H') (ha : S ≠ a) (hb : S ≠ b) : Src H' S n := by
  obtain ⟨l, sd, c, e, r⟩ := h
  exact ⟨l, sd, c, k _ _ ha hb e, r⟩
theorem tks_snoc (n : Nat) (ln : Int) (snd : List (Int × Int)) (q : Int × Int) : tks n ln (snd ++ [q]) = tks n ln snd ++ (List.range n).map fun i : Nat => q.1 + (i : Int) * ln := by simp [tks]
end SB
namespace SB
open PySem PySem.Spec PyProof.Rows L2 Evl
/-- a target of several names in a list comprehension: its reading speaks of nothing that the block has of its own -/
theorem pg_tupK {X : Cx} {K0 : PySem.W.Frag} {n0 k : Nat} {elts : List Expr} {pos : Pos} {gs : TGs} (hK : X.K = K0) (hc : X.calm = true) (hn : (assignEach elts X.env).length = n0) (h : PGs X elts gs)
    (hst : List.findIdx? (fun x => x.fst) (assignEach elts X.env) = none := by rfl) : PG X (.Tuple elts k pos) (gTup K0 n0 gs) := by
  subst hK
  subst hn
  exact pg_tup hc h rfl hst
end SB
namespace SB
open PySem PySem.Spec PyProof.Rows L2 Evl
/-! a draw's source with a wider seed -/
def Pool (H : Hp) (a : Addr) (n : Nat) : Prop := ∃ l sd c : Int, H a = some (.lst [.int l, .int sd, .int c]) ∧ 0 ≤ sd ∧ sd < 1208925819614629174706176 ∧ 0 ≤ c ∧ c ≤ n
theorem Pool.mono {H : Hp} {a : Addr} {n m : Nat} (h : Pool H a n) (e : n ≤ m) : Pool H a m := by
  obtain ⟨l, sd, c, h1, h2, h3, h4, h5⟩ := h
  exact ⟨l, sd, c, h1, h2, h3, h4, by omega⟩
theorem Pool.ex {H H' : Hp} {a : Addr} {n : Nat} (h : Pool H a n) (e : Ex H H') : Pool H' a n := by
  obtain ⟨l, sd, c, h1, h2⟩ := h
  exact ⟨l, sd, c, e _ _ h1, h2⟩
theorem Pool.at {H : Hp} {a : Addr} {n : Nat} (h : Pool H a n) : ∃ ys, H a = some (.lst ys) := by
  obtain ⟨l, sd, c, e, _⟩ := h
  exact ⟨_, e⟩
theorem Pool.ne {H : Hp} {a p : Addr} {n : Nat} (h : Pool H a n) (hp : H p = none) : p ≠ a := by
  obtain ⟨ys, e⟩ := h.at
  exact fun z => by rw [z, e] at hp; cases hp
theorem Pool.upd {H : Hp} {a p : Addr} {n : Nat} {o : HO} (h : Pool H a n) (ne : p ≠ a) : Pool (L2.upd H p o) a n := by
  obtain ⟨l, sd, c, e, r⟩ := h
  refine ⟨l, sd, c, ?_, r⟩
  rw [upd_ne (Ne.symm ne)]
  exact e
/-! lists of related things -/
def LR {α : Type} (R : V → α → Prop) (xs : List V) (as : List α) : Prop := xs.length = as.length ∧ ∀ (k : Nat) (x : V) (a : α), xs[k]? = some x → as[k]? = some a → R x a
section
variable {α β : Type} {R S : V → α → Prop} {xs ys : List V} {as bs : List α}
theorem LR.nil : LR R [] [] := ⟨rfl, fun k x a h _ => by simp at h⟩
theorem LR.imp (h : LR R xs as) (f : ∀ x a, R x a → S x a) : LR S xs as := ⟨h.1, fun k x a h1 h2 => f x a (h.2 k x a h1 h2)⟩
theorem LR.snoc {y : V} {b : α} (h : LR R xs as) (hy : R y b) : LR R (xs ++ [y]) (as ++ [b]) := by
  refine ⟨by rw [List.length_append, List.length_append, h.1]; rfl, fun k x a h1 h2 => ?_⟩
  by_cases hk : k < xs.length
  · rw [List.getElem?_append_left hk] at h1
    rw [List.getElem?_append_left (by rw [← h.1]; exact hk)] at h2
    exact h.2 k x a h1 h2
  · have hk2 : k = xs.length := by
      have := (List.getElem?_eq_some_iff.mp h1).1
      rw [List.length_append] at this
      simp at this
      omega
    subst hk2
    rw [List.getElem?_append_right (Nat.le_refl _), Nat.sub_self] at h1
    rw [h.1, List.getElem?_append_right (Nat.le_refl _), Nat.sub_self] at h2
    obtain rfl : y = x := Option.some.inj h1
    obtain rfl : b = a := Option.some.inj h2
    exact hy
theorem LR.append (h : LR R xs as) (h' : LR R ys bs) : LR R (xs ++ ys) (as ++ bs) := by
  refine ⟨by rw [List.length_append, List.length_append, h.1, h'.1], fun k x a h1 h2 => ?_⟩
  by_cases hk : k < xs.length
  · rw [List.getElem?_append_left hk] at h1
    rw [List.getElem?_append_left (by rw [← h.1]; exact hk)] at h2
    exact h.2 k x a h1 h2
  · rw [List.getElem?_append_right (by omega)] at h1
    rw [List.getElem?_append_right (by rw [← h.1]; omega), ← h.1] at h2
    exact h'.2 _ x a h1 h2
theorem LR.get (h : LR R xs as) {k : Nat} {x : V} (hx : xs[k]? = some x) : ∃ a, as[k]? = some a ∧ R x a := by
  have hk := (List.getElem?_eq_some_iff.mp hx).1
  have e : as[k]? = some (as[k]'(by rw [← h.1]; exact hk)) := List.getElem?_eq_getElem _
  exact ⟨_, e, h.2 k x _ hx e⟩
theorem LR.get' (h : LR R xs as) {k : Nat} {a : α} (ha : as[k]? = some a) : ∃ x, xs[k]? = some x ∧ R x a := by
  have hk := (List.getElem?_eq_some_iff.mp ha).1
  have e : xs[k]? = some (xs[k]'(by rw [h.1]; exact hk)) := List.getElem?_eq_getElem _
  exact ⟨_, e, h.2 k _ a e ha⟩
end
def isI : V → Int → Prop := fun v i => v = .int i
theorem LR.ints : ∀ {xs : List V} {ns : List Int}, LR isI xs ns → xs = ns.map V.int
  | [], [], _ => rfl
  | [], _ :: _, h => by have := h.1; simp at this
  | _ :: _, [], h => by have := h.1; simp at this
  | x :: xs, n :: ns, h => by
    have h1 : x = .int n := h.2 0 x n rfl rfl
    have h2 : LR isI xs ns := ⟨by have := h.1; simpa using this, fun k y m a b => h.2 (k + 1) y m a b⟩
    rw [h1, h2.ints]
    rfl
theorem LR.of_ints (ns : List Int) : LR isI (ns.map V.int) ns := by
  refine ⟨List.length_map _, fun k x a h1 h2 => ?_⟩
  rw [List.getElem?_map, h2] at h1
  exact (Option.some.inj h1).symm
/-- what lasts while new things come and while a list is written -/
structure Lasts {α : Type} (R : Hp → V → α → Prop) : Prop where
  ex : ∀ {H H' : Hp} {v : V} {x : α}, Ex H H' → R H v x → R H' v x
  kp : ∀ {a : Addr} {H H' : Hp} {ys : List V} {v : V} {x : α}, Kp a H H' → H a = some (.lst ys) → R H v x → R H' v x
def RI : Hp → V → Int → Prop := fun _ => isI
theorem RI.lasts : Lasts RI := ⟨fun _ h => h, fun _ _ h => h⟩
/-- a tuple of whole numbers -/
def RT (K : PySem.W.Frag) : Hp → V → List Int → Prop := fun H v r => ∃ t, v = .ref t ∧ SqT K H t (r.map V.int)
theorem RT.lasts {K : PySem.W.Frag} : Lasts (RT K) := ⟨fun e ⟨t, h1, h2⟩ => ⟨t, h1, ex_t e h2⟩, fun k ha ⟨t, h1, h2⟩ => ⟨t, h1, k.tup ha h2⟩⟩
/-! comprehensions -/
theorem fm_congr {α β : Type} {f g : α → Option β} : ∀ {l : List α}, (∀ x ∈ l, f x = g x) → l.filterMap f = l.filterMap g
  | [], _ => rfl
  | x :: l, h => by
    rw [List.filterMap_cons, List.filterMap_cons, h x (List.mem_cons_self ..), fm_congr (l := l) fun y hy => h y (List.mem_cons_of_mem _ hy)]
theorem range_fm_succ {β : Type} (f : Nat → Option β) (i : Nat) : (List.range (i + 1)).filterMap f = (List.range i).filterMap f ++ (match f i with | none => [] | some b => [b]) := by
  rw [List.range_succ, List.filterMap_append]
  cases h : f i <;> simp [h]
theorem take_fm_succ {α β : Type} (f : α → Option β) {as : List α} {i : Nat} {a : α} (h : as[i]? = some a) : (as.take (i + 1)).filterMap f = (as.take i).filterMap f ++ (match f a with | none => [] | some b => [b]) := by
  rw [List.take_add_one, h, List.filterMap_append]
  cases h : f a <;> simp [h]
theorem lcR {β : Type} {R : Hp → V → β → Prop} (la : Lasts R) {lo : Int} {n : Nat} {g : TG} {tt : TT} {te : TE} {vs : List Nat} {σ : L2.St} {H : Hp} {D : Addr} {Qd : Hp → Prop} (hD : H D = none) (hn : n ≤ 100000) (f : Nat → Option β)
    (hs : ∀ (i : Nat) (H' : Hp), i < n → Ex H H' → ∀ (Kt : VK) (Kf : Hp → Prop), (∀ b y H4, f i = some b → Ex H' H4 → R H4 y b → Kt y H4) → (∀ H3, f i = none → Ex H' H3 → Kf H3) →
      g (.int (lo + i)) (wipe σ vs) H' fun σ2 H2 => wipe σ2 vs = wipe σ vs ∧ tt σ2 H2 fun b H3 => if b = true then te σ2 H3 Kt else Kf H3)
    (hd : ∀ H' xs, Ex H H' → H' D = some (.lst xs) → LR (R H') xs ((List.range n).filterMap f) → Qd H') :
    ∃ W : Nat → Nat → Hp → Prop, (∃ m, W 0 m (L2.upd H D (.lst []))) ∧ ∀ i m H, W i m H →
      ((Itr lo n).stop i H ∧ Qd H) ∨ ((Itr lo n).go i H ∧ ∃ Nx : Hp → Prop, (∀ H', Nx H' → ∃ m', m' < m ∧ W (i + 1) m' H') ∧ ∀ x H', (Itr lo n).yld i H x H' → g x (wipe σ vs) H' fun σ2 H2 => wipe σ2 vs = wipe σ vs ∧ tt σ2 H2 fun b H3 =>
        if b = true then te σ2 H3 fun y H4 => ∃ acc, H4 D = some (.lst acc) ∧ acc.length < sizeLine ∧ Nx (L2.upd H4 D (.lst (acc ++ [y]))) else Nx H3) := by
  refine lc_range (fun i H' => ∃ xs, Ex H H' ∧ H' D = some (.lst xs) ∧ LR (R H') xs ((List.range i).filterMap f)) ⟨[], Ex.new hD, upd_same, LR.nil⟩ (fun i H' hi ⟨xs, e, hL, lr⟩ => hs i H' hi e _ _ (fun b y H4 fb e4 r => ?_) fun H3 fb e3 => ?_) fun H' ⟨xs, e, h, lr⟩ => hd H' xs e h lr
  · have hL4 := e4 _ _ hL
    have hlen : xs.length ≤ i := by
      rw [lr.1]
      have := List.length_filterMap_le f (List.range i)
      rw [List.length_range] at this
      exact this
    refine ⟨xs, hL4, Nat.lt_of_le_of_lt (show xs.length ≤ 100000 by omega) (by decide), xs ++ [y], (e.trans e4).mut hD, upd_same, ?_⟩
    rw [range_fm_succ, fb]
    exact LR.snoc (lr.imp fun x a h => la.kp (a := D) Kp.upd hL4 (la.ex e4 h)) (la.kp (a := D) Kp.upd hL4 r)
  · refine ⟨xs, e.trans e3, e3 _ _ hL, ?_⟩
    rw [range_fm_succ, fb, List.append_nil]
    exact lr.imp fun x a h => la.ex e3 h
theorem lcL {α β : Type} {R0 : Hp → V → α → Prop} {R : Hp → V → β → Prop} (la0 : Lasts R0) (la : Lasts R) {K : PySem.W.Frag} {A : Addr} {xs : List V} {as : List α} {g : TG} {tt : TT} {te : TE} {vs : List Nat} {σ : L2.St} {H : Hp} {D : Addr} {Qd : Hp → Prop} (hD : H D = none)
    (sq : SqL K H A xs) (lr0 : LR (R0 H) xs as) (hn : xs.length ≤ 100000) (f : α → Option β)
    (hs : ∀ (i : Nat) (x : V) (a : α) (H' : Hp), as[i]? = some a → Ex H H' → R0 H' x a → ∀ (Kt : VK) (Kf : Hp → Prop), (∀ b y H4, f a = some b → Ex H' H4 → R H4 y b → Kt y H4) → (∀ H3, f a = none → Ex H' H3 → Kf H3) →
      g x (wipe σ vs) H' fun σ2 H2 => wipe σ2 vs = wipe σ vs ∧ tt σ2 H2 fun b H3 => if b = true then te σ2 H3 Kt else Kf H3)
    (hd : ∀ H' ys, Ex H H' → H' D = some (.lst ys) → LR (R H') ys (as.filterMap f) → Qd H') :
    ∃ W : Nat → Nat → Hp → Prop, (∃ m, W 0 m (L2.upd H D (.lst []))) ∧ ∀ i m H, W i m H →
      ((Itl K A).stop i H ∧ Qd H) ∨ ((Itl K A).go i H ∧ ∃ Nx : Hp → Prop, (∀ H', Nx H' → ∃ m', m' < m ∧ W (i + 1) m' H') ∧ ∀ x H', (Itl K A).yld i H x H' → g x (wipe σ vs) H' fun σ2 H2 => wipe σ2 vs = wipe σ vs ∧ tt σ2 H2 fun b H3 =>
        if b = true then te σ2 H3 fun y H4 => ∃ acc, H4 D = some (.lst acc) ∧ acc.length < sizeLine ∧ Nx (L2.upd H4 D (.lst (acc ++ [y]))) else Nx H3) := by
  refine lc_list (xs := xs) (fun i H' => ∃ ys, Ex H H' ∧ H' D = some (.lst ys) ∧ LR (R H') ys ((as.take i).filterMap f)) ⟨[], Ex.new hD, upd_same, LR.nil⟩ (fun i H' _ ⟨_, e, _⟩ => ex_l e sq) (fun i x H' hx ⟨ys, e, hL, lr⟩ => ?_) fun H' ⟨ys, e, h, lr⟩ => hd H' ys e h (by rw [lr0.1, List.take_length] at lr; exact lr)
  obtain ⟨a, ha, r0⟩ := lr0.get hx
  refine hs i x a H' ha e (la0.ex e r0) _ _ (fun b y H4 fb e4 r => ?_) fun H3 fb e3 => ?_
  · have hL4 := e4 _ _ hL
    have hlen : ys.length ≤ xs.length := by
      rw [lr.1, lr0.1]
      have h1 := List.length_filterMap_le f (as.take i)
      rw [List.length_take] at h1
      omega
    refine ⟨ys, hL4, Nat.lt_of_le_of_lt (show ys.length ≤ 100000 by omega) (by decide), ys ++ [y], (e.trans e4).mut hD, upd_same, ?_⟩
    rw [take_fm_succ f ha, fb]
    exact LR.snoc (lr.imp fun x a h => la.kp (a := D) Kp.upd hL4 (la.ex e4 h)) (la.kp (a := D) Kp.upd hL4 r)
  · refine ⟨ys, e.trans e3, e3 _ _ hL, ?_⟩
    rw [take_fm_succ f ha, fb, List.append_nil]
    exact lr.imp fun x a h => la.ex e3 h
/-- a list of related things, new -/
def RetR {α : Type} (R : Hp → V → α → Prop) (as : List α) (H : Hp) (Q : VK) : Prop := ∀ p H2 xs, H p = none → Ex H H2 → H2 p = some (.lst xs) → LR (R H2) xs as → Q (.ref p) H2
def RetU (xs : List V) (H : Hp) (Q : VK) : Prop := ∀ p H2, H p = none → Ex H H2 → H2 p = some (.tup xs) → Q (.ref p) H2
/-! greatest and least -/
def Mx (L : List Int) (m : Int) : Prop := m ∈ L ∧ ∀ y ∈ L, y ≤ m
def Mi (L : List Int) (m : Int) : Prop := m ∈ L ∧ ∀ y ∈ L, m ≤ y
theorem Mx.uniq {L : List Int} {m n : Int} (h : Mx L m) (h' : Mx L n) : m = n := Int.le_antisymm (h'.2 m h.1) (h.2 n h'.1)
theorem Mi.uniq {L : List Int} {m n : Int} (h : Mi L m) (h' : Mi L n) : m = n := Int.le_antisymm (h.2 n h'.1) (h'.2 m h.1)
theorem Mx.exists : ∀ {L : List Int}, L ≠ [] → ∃ m, Mx L m
  | [x], _ => ⟨x, List.mem_cons_self .., fun y hy => by rw [List.mem_singleton.mp hy]; exact Int.le_refl _⟩
  | x :: y :: r, _ => by
    obtain ⟨m, h1, h2⟩ := Mx.exists (L := y :: r) (by simp)
    by_cases h : m ≤ x
    · refine ⟨x, List.mem_cons_self .., fun z hz => ?_⟩
      rcases List.mem_cons.mp hz with rfl | hz
      · exact Int.le_refl _
      · exact Int.le_trans (h2 z hz) h
    · refine ⟨m, List.mem_cons_of_mem _ h1, fun z hz => ?_⟩
      rcases List.mem_cons.mp hz with rfl | hz
      · omega
      · exact h2 z hz
theorem Mi.exists : ∀ {L : List Int}, L ≠ [] → ∃ m, Mi L m
  | [x], _ => ⟨x, List.mem_cons_self .., fun y hy => by rw [List.mem_singleton.mp hy]; exact Int.le_refl _⟩
  | x :: y :: r, _ => by
    obtain ⟨m, h1, h2⟩ := Mi.exists (L := y :: r) (by simp)
    by_cases h : x ≤ m
    · refine ⟨x, List.mem_cons_self .., fun z hz => ?_⟩
      rcases List.mem_cons.mp hz with rfl | hz
      · exact Int.le_refl _
      · exact Int.le_trans h (h2 z hz)
    · refine ⟨m, List.mem_cons_of_mem _ h1, fun z hz => ?_⟩
      rcases List.mem_cons.mp hz with rfl | hz
      · omega
      · exact h2 z hz
/-! more data that can be shown -/
theorem rp_bl {K : PySem.W.Frag} {H : Hp} {b : Bool} {Q : VK} (q : Q (.str (PyData.bool b).shown) H) : rRp K [.bl b] H Q := by
  refine ⟨_, .bool b, rfl, .bl b, rfl, rfl, Nat.zero_le _, ?_, q⟩
  cases b <;> decide +kernel
theorem rp_non {K : PySem.W.Frag} {H : Hp} {Q : VK} (q : Q (.str PyData.none.shown) H) : rRp K [.non] H Q :=
  ⟨_, .none, rfl, .non, rfl, rfl, Nat.zero_le _, by decide +kernel, q⟩
theorem show_tup {ns : List Int} (h : ∀ n ∈ ns, n.natAbs < 2 ^ 200) (hl : ns.length ≤ 10000) :
    (PyData.tuple (dI ns)).showable = true ∧ (PyData.tuple (dI ns)).hasDict = false ∧ (PyData.tuple (dI ns)).depth ≤ 60 ∧ (PyData.tuple (dI ns)).shown.length ≤ sizeLine := by
  obtain ⟨h1, h2, h3, h4, h5⟩ := show_ints ns h
  refine ⟨?_, ?_, ?_, ?_⟩
  · simp only [PyData.showable, h1]
  · simp only [PyData.hasDict, h2]
  · simp only [PyData.depth, h3]
    omega
  · simp only [PyData.shown]
    have := tupleText_len_le (PyData.shownAll (dI ns))
    rw [sizeLine_eq]
    omega
theorem rp_tup {K : PySem.W.Frag} {H : Hp} {a : Addr} {ns : List Int} {Q : VK} (hs : SqT K H a (ns.map V.int)) (h : ∀ n ∈ ns, n.natAbs < 2 ^ 200) (hl : ns.length ≤ 10000)
    (q : Q (.str (PyData.tuple (dI ns)).shown) H) : rRp K [.ref a] H Q := by
  obtain ⟨h1, h2, h3, h4⟩ := show_tup h hl
  exact ⟨_, _, rfl, .tup hs (dp_ints ns), h1, h2, h3, h4, q⟩
end SB
namespace SB
open PySem PySem.Spec PyProof.Rows L2 Evl
/-! receivers, windows -/
def IsRc (K : PySem.W.Frag) (H : Hp) (v : V) (gr w s : Int) : Prop :=
  ∃ t, v = .ref t ∧ SqT K H t [.int gr, .int w, .int s] ∧ 1 ≤ gr ∧ 0 ≤ w ∧ 1 ≤ s ∧ gr < 1237940039285380274899124224 ∧ w < 1237940039285380274899124224 ∧ s < 1237940039285380274899124224
theorem IsRc.ex {K : PySem.W.Frag} {H H' : Hp} {v : V} {gr w s : Int} (e : Ex H H') (h : IsRc K H v gr w s) : IsRc K H' v gr w s := by
  obtain ⟨t, e1, e2, r⟩ := h
  exact ⟨t, e1, ex_t e e2, r⟩
theorem IsRc.kp {K : PySem.W.Frag} {H H' : Hp} {v : V} {gr w s : Int} {a : Addr} {ys : List V} (e : Kp a H H') (ha : H a = some (.lst ys)) (h : IsRc K H v gr w s) : IsRc K H' v gr w s := by
  obtain ⟨t, e1, e2, r⟩ := h
  exact ⟨t, e1, e.tup ha e2, r⟩
theorem sz_bd {K : PySem.W.Frag} {H : Hp} {g : V} {b : Nat} {p : Pa} {s : Nat} (h : IsSh K H g b p s) : 1 ≤ b ∧ b ≤ 9 ∧ 1 ≤ s ∧ s ≤ 2 ∧ s + 2 ≤ sz b p s ∧ sz b p s ≤ 13 := by
  obtain ⟨t, _, _, h1, h2, h3, h4⟩ := h
  have hp : plen p ≤ 1 := by cases p <;> simp [plen]
  unfold sz
  omega
/-- the windows of a shape whose frames have n places, the last s of them stops -/
def win (n s : Nat) : List (List Int) := (List.range (n - s)).map (fun i : Nat => [(i : Int), (i : Int), (i : Int) + 1]) ++ (List.range s).map fun i : Nat => [((n - s + i : Nat) : Int), ((n - s : Nat) : Int), (n : Int)]
theorem win_eq {n s : Nat} (h : s + 2 ≤ n ∧ n ≤ 13) : win n s = (List.range ((n : Int) - s).toNat).filterMap (fun i : Nat => some [(0 : Int) + (i : Nat), (0 : Int) + (i : Nat), (0 : Int) + (i : Nat) + 1]) ++
    (List.range ((n : Int) - ((n : Int) - s)).toNat).filterMap (fun i : Nat => some [(n : Int) - s + (i : Nat), (n : Int) - s, (n : Int)]) := by
  unfold win
  have e1 : ((n : Int) - s).toNat = n - s := by omega
  have e2 : ((n : Int) - ((n : Int) - s)).toNat = s := by omega
  rw [e1, e2, List.filterMap_eq_map', List.filterMap_eq_map']
  congr 1
  · refine List.map_congr_left fun i _ => ?_
    rw [Int.zero_add]
  · refine List.map_congr_left fun i hi => ?_
    have e3 : ((n - s + i : Nat) : Int) = (n : Int) - s + (i : Nat) := by omega
    have e4 : ((n - s : Nat) : Int) = (n : Int) - s := by omega
    rw [e3, e4]
theorem win_len {n s : Nat} (h : s ≤ n) : (win n s).length = n := by
  unfold win
  simp
  omega
theorem win_mem {n s : Nat} (h : s + 2 ≤ n) {r : List Int} : r ∈ win n s ↔ ∃ p f l : Nat, r = [(p : Int), (f : Int), (l : Int)] ∧ p < n ∧ ((p < n - s ∧ f = p ∧ l = p + 1) ∨ (n - s ≤ p ∧ f = n - s ∧ l = n)) := by
  unfold win
  rw [List.mem_append, List.mem_map, List.mem_map]
  constructor
  · rintro (⟨i, hi, rfl⟩ | ⟨i, hi, rfl⟩)
    · have := List.mem_range.mp hi
      exact ⟨i, i, i + 1, by simp, by omega, .inl ⟨by omega, rfl, rfl⟩⟩
    · have := List.mem_range.mp hi
      exact ⟨n - s + i, n - s, n, rfl, by omega, .inr ⟨by omega, rfl, rfl⟩⟩
  · rintro ⟨p, f, l, rfl, hp, ⟨h1, rfl, rfl⟩ | ⟨h1, h2, h3⟩⟩
    · exact .inl ⟨f, List.mem_range.mpr h1, by simp⟩
    · refine .inr ⟨p - (n - s), List.mem_range.mpr (by omega), ?_⟩
      have : n - s + (p - (n - s)) = p := by omega
      rw [this, h2, h3]
end SB
namespace SB
open PySem PySem.Spec PyProof.Rows L2 Evl
theorem set_comm_none {σ : L2.St} {i v : Nat} {x : Option V} (h : i ≠ v) : (σ.set i x).set v none = (σ.set v none).set i x := List.set_comm x none h
theorem wipe_set {σ : L2.St} {i : Nat} {x : Option V} : ∀ {vs : List Nat}, i ∈ vs → wipe (σ.set i x) vs = wipe σ vs
  | v :: vs, h => by
    show (wipe (σ.set i x) vs).set v none = (wipe σ vs).set v none
    by_cases e : i ∈ vs
    · rw [wipe_set e]
    · have ev : i = v := by
        rcases List.mem_cons.mp h with h | h
        · exact h
        · exact absurd h e
      subst ev
      have out : ∀ {vs : List Nat}, ¬ i ∈ vs → wipe (σ.set i x) vs = (wipe σ vs).set i x := by
        intro vs
        induction vs with
        | nil => intro _; rfl
        | cons u us ih =>
          intro hu
          show (wipe (σ.set i x) us).set u none = ((wipe σ us).set u none).set i x
          rw [ih fun z => hu (List.mem_cons_of_mem _ z), set_comm_none fun z => hu (by rw [z]; exact List.mem_cons_self ..)]
      rw [out e, List.set_set]
theorem wipe_wipe {σ : L2.St} (vs : List Nat) : wipe (wipe σ vs) vs = wipe σ vs := by
  have key : ∀ (us : List Nat), (∀ u ∈ us, u ∈ vs) → wipe (wipe σ us) vs = wipe σ vs := by
    intro us
    induction us with
    | nil => intro _; rfl
    | cons u us ih =>
      intro h
      show wipe ((wipe σ us).set u none) vs = wipe σ vs
      rw [wipe_set (h u (List.mem_cons_self ..)), ih fun z hz => h z (List.mem_cons_of_mem _ hz)]
  exact key vs fun _ h => h
/-- a comprehension over a list of tuples of three whole numbers -/
theorem lcL3 {β : Type} {R : Hp → V → β → Prop} (la : Lasts R) {K : PySem.W.Frag} {A : Addr} {xs : List V} {as : List (List Int)} {i j k : Nat} {tt : TT} {te : TE} {vs : List Nat} {σ : L2.St} {H : Hp} {D : Addr} {Qd : Hp → Prop} (hD : H D = none)
    (sq : SqL K H A xs) (lr0 : LR (RT K H) xs as) (hn : xs.length ≤ 100000) (f : List Int → Option β) (h3 : ∀ r ∈ as, ∃ x y z, r = [x, y, z]) (hi : i ∈ vs) (hj : j ∈ vs) (hk : k ∈ vs)
    (hs : ∀ (x y z : Int) (H' : Hp), [x, y, z] ∈ as → Ex H H' → ∀ (Kt : VK) (Kf : Hp → Prop), (∀ b v H4, f [x, y, z] = some b → Ex H' H4 → R H4 v b → Kt v H4) → (∀ H3, f [x, y, z] = none → Ex H' H3 → Kf H3) →
      tt ((((wipe σ vs).set i (some (.int x))).set j (some (.int y))).set k (some (.int z))) H' fun b H3 => if b = true then te ((((wipe σ vs).set i (some (.int x))).set j (some (.int y))).set k (some (.int z))) H3 Kt else Kf H3)
    (hd : ∀ H' ys, Ex H H' → H' D = some (.lst ys) → LR (R H') ys (as.filterMap f) → Qd H') :
    ∃ W : Nat → Nat → Hp → Prop, (∃ m, W 0 m (L2.upd H D (.lst []))) ∧ ∀ i1 m H, W i1 m H →
      ((Itl K A).stop i1 H ∧ Qd H) ∨ ((Itl K A).go i1 H ∧ ∃ Nx : Hp → Prop, (∀ H', Nx H' → ∃ m', m' < m ∧ W (i1 + 1) m' H') ∧ ∀ x H', (Itl K A).yld i1 H x H' → gTup K 3 (gCons (gName i) (gCons (gName j) (gCons (gName k) gNil))) x (wipe σ vs) H' fun σ2 H2 => wipe σ2 vs = wipe σ vs ∧ tt σ2 H2 fun b H3 =>
        if b = true then te σ2 H3 fun y H4 => ∃ acc, H4 D = some (.lst acc) ∧ acc.length < sizeLine ∧ Nx (L2.upd H4 D (.lst (acc ++ [y]))) else Nx H3) := by
  refine lcL (RT.lasts (K := K)) la hD sq lr0 hn f (fun n v r H' hr e r0 Kt Kf kt kf => ?_) hd
  obtain ⟨x, y, z, rfl⟩ := h3 r (List.mem_of_getElem? hr)
  obtain ⟨t, rfl, st⟩ := r0
  refine ⟨t, _, rfl, st, rfl, _, _, rfl, _, _, rfl, _, _, rfl, rfl, ?_, hs x y z H' (List.mem_of_getElem? hr) e Kt Kf kt kf⟩
  rw [wipe_set hk, wipe_set hj, wipe_set hi, wipe_wipe]
end SB
namespace SB
open PySem PySem.Spec PyProof.Rows L2 Evl
theorem sh_bl (b : Bool) : (PyData.bool b).shown.length ≤ sizeLine := by cases b <;> decide +kernel
end SB
namespace SB
open PySem PySem.Spec PyProof.Rows L2 Evl
/-! safe lengths: the mathematics -/
def r3 {α : Type} (k : Int → Int → Int → α) (d : α) : List Int → α
  | [a, b, c] => k a b c
  | _ => d
theorem r3_mk {α : Type} (k : Int → Int → Int → α) (d : α) (a b c : Int) : r3 k d [a, b, c] = k a b c := rfl
def ceilI (x l : Int) : Int := -((-x) / l)
theorem ceil_le {x l y : Int} (h : 0 < l) : ceilI x l ≤ y ↔ x ≤ y * l := by
  unfold ceilI
  have h1 := Int.le_ediv_iff_mul_le (a := -y) (b := -x) h
  rw [Int.neg_mul] at h1
  omega
theorem le_ceil {x l y : Int} (h : 0 < l) : y ≤ ceilI x l ↔ (y - 1) * l < x := by
  have := ceil_le (x := x) (y := y - 1) h
  omega
theorem ceil_bd {x l : Int} (h : 0 < l) (hx : 0 ≤ x) : 0 ≤ ceilI x l ∧ ceilI x l ≤ x := by
  constructor
  · refine (le_ceil h).mpr ?_
    omega
  · refine (ceil_le h).mpr ?_
    have := Int.mul_le_mul_of_nonneg_left (show 1 ≤ l by omega) hx
    omega
def lookI (gr w st p : Int) : Int := gr * (w + st * p)
def loL (n s : Nat) (gr w st : Int) : List Int := (win n s).map (r3 (fun p _ l => ceilI (gr * (w + st * p + 1)) l) 0)
def hiL (n s : Nat) (gr w st : Int) : List Int := (win n s).filterMap (r3 (fun p f _ => if 0 < f then some (lookI gr w st p / f) else none) none)
theorem loL_mem {n s : Nat} {gr w st y : Int} (h : s + 2 ≤ n) : y ∈ loL n s gr w st ↔ ∃ p f l : Nat, p < n ∧ ((p < n - s ∧ f = p ∧ l = p + 1) ∨ (n - s ≤ p ∧ f = n - s ∧ l = n)) ∧ y = ceilI (gr * (w + st * p + 1)) l := by
  unfold loL
  rw [List.mem_map]
  constructor
  · rintro ⟨r, hr, rfl⟩
    obtain ⟨p, f, l, rfl, h1, h2⟩ := (win_mem h).mp hr
    exact ⟨p, f, l, h1, h2, rfl⟩
  · rintro ⟨p, f, l, h1, h2, rfl⟩
    exact ⟨_, (win_mem h).mpr ⟨p, f, l, rfl, h1, h2⟩, rfl⟩
theorem hiL_mem {n s : Nat} {gr w st y : Int} (h : s + 2 ≤ n) : y ∈ hiL n s gr w st ↔ ∃ p f l : Nat, p < n ∧ ((p < n - s ∧ f = p ∧ l = p + 1) ∨ (n - s ≤ p ∧ f = n - s ∧ l = n)) ∧ 0 < f ∧ y = lookI gr w st p / (f : Int) := by
  unfold hiL
  rw [List.mem_filterMap]
  constructor
  · rintro ⟨r, hr, e⟩
    obtain ⟨p, f, l, rfl, h1, h2⟩ := (win_mem h).mp hr
    rw [r3_mk] at e
    split at e
    · rename_i hf
      exact ⟨p, f, l, h1, h2, by omega, (Option.some.inj e).symm⟩
    · cases e
  · rintro ⟨p, f, l, h1, h2, hf, rfl⟩
    refine ⟨_, (win_mem h).mpr ⟨p, f, l, rfl, h1, h2⟩, ?_⟩
    rw [r3_mk, if_pos (by omega)]
structure Clk (gr w st : Int) : Prop where
  g1 : 1 ≤ gr
  w0 : 0 ≤ w
  s1 : 1 ≤ st
theorem Clk.look0 {gr w st : Int} (c : Clk gr w st) (p : Nat) : 0 ≤ lookI gr w st p := by
  have h1 := c.g1
  have h2 := c.w0
  have h3 : 0 ≤ st * (p : Int) := Int.mul_nonneg (by have := c.s1; omega) (by omega)
  exact Int.mul_nonneg (by omega) (by omega)
theorem Clk.lookp {gr w st : Int} (c : Clk gr w st) (p : Nat) : (p : Int) ≤ lookI gr w st p := by
  have h1 := c.g1
  have h2 := c.w0
  have h3 : 1 * (p : Int) ≤ st * (p : Int) := Int.mul_le_mul_of_nonneg_right c.s1 (by omega)
  have h4 : 1 * (w + st * (p : Int)) ≤ gr * (w + st * (p : Int)) := Int.mul_le_mul_of_nonneg_right h1 (by omega)
  unfold lookI
  omega
theorem look_next (gr w st p : Int) : gr * (w + st * p + 1) = lookI gr w st p + gr := by
  unfold lookI
  rw [Int.mul_add, Int.mul_one]
/-- what the bounds say of a length -/
def Fits (n s : Nat) (gr w st x : Int) (p f l : Nat) : Prop := p < n ∧ ((p < n - s ∧ f = p ∧ l = p + 1) ∨ (n - s ≤ p ∧ f = n - s ∧ l = n))
theorem lo_iff {n s : Nat} {gr w st lo x : Int} (h : s + 2 ≤ n) (hs : 1 ≤ s) (m : Mx (loL n s gr w st) lo) : lo ≤ x ↔ ∀ p f l : Nat, p < n → ((p < n - s ∧ f = p ∧ l = p + 1) ∨ (n - s ≤ p ∧ f = n - s ∧ l = n)) → lookI gr w st p + gr ≤ x * l := by
  constructor
  · intro hx p f l h1 h2
    have h3 := m.2 _ ((loL_mem h).mpr ⟨p, f, l, h1, h2, rfl⟩)
    have hl : (0 : Int) < l := by omega
    have := (ceil_le hl).mp (Int.le_trans h3 hx)
    rw [look_next] at this
    exact this
  · intro hx
    obtain ⟨p, f, l, h1, h2, e⟩ := (loL_mem h).mp m.1
    have hl : (0 : Int) < l := by omega
    rw [e]
    refine (ceil_le hl).mpr ?_
    rw [look_next]
    exact hx p f l h1 h2
theorem hi_iff {n s : Nat} {gr w st hi x : Int} (h : s + 2 ≤ n) (c : Clk gr w st) (m : Mi (hiL n s gr w st) hi) : x ≤ hi ↔ ∀ p f l : Nat, p < n → ((p < n - s ∧ f = p ∧ l = p + 1) ∨ (n - s ≤ p ∧ f = n - s ∧ l = n)) → x * f ≤ lookI gr w st p := by
  constructor
  · intro hx p f l h1 h2
    by_cases hf : 0 < f
    · have h3 := m.2 _ ((hiL_mem h).mpr ⟨p, f, l, h1, h2, hf, rfl⟩)
      exact (Int.le_ediv_iff_mul_le (show (0 : Int) < f by omega)).mp (Int.le_trans hx h3)
    · obtain rfl : f = 0 := by omega
      have := c.look0 p
      rw [show ((0 : Nat) : Int) = 0 from rfl, Int.mul_zero]
      exact this
  · intro hx
    obtain ⟨p, f, l, h1, h2, hf, e⟩ := (hiL_mem h).mp m.1
    rw [e]
    exact (Int.le_ediv_iff_mul_le (show (0 : Int) < f by omega)).mpr (hx p f l h1 h2)
theorem lo_ge {n s : Nat} {gr w st lo : Int} (h : s + 2 ≤ n) (c : Clk gr w st) (m : Mx (loL n s gr w st) lo) : 1 ≤ lo := by
  have h1 := m.2 _ ((loL_mem h).mpr ⟨0, 0, 1, by omega, .inl ⟨by omega, rfl, rfl⟩, rfl⟩)
  refine Int.le_trans ((le_ceil (by decide)).mpr ?_) h1
  rw [look_next]
  have := c.look0 0
  have := c.g1
  omega
theorem hi_ge {n s : Nat} {gr w st hi : Int} (h : s + 2 ≤ n) (c : Clk gr w st) (m : Mi (hiL n s gr w st) hi) : 1 ≤ hi := by
  obtain ⟨p, f, l, h1, h2, hf, e⟩ := (hiL_mem h).mp m.1
  rw [e]
  refine (Int.le_ediv_iff_mul_le (show (0 : Int) < f by omega)).mpr ?_
  have := c.lookp p
  omega
theorem lo_ex {n s : Nat} (gr w st : Int) (h : s + 2 ≤ n) : ∃ lo, Mx (loL n s gr w st) lo := by
  refine Mx.exists fun z => ?_
  have h1 : ceilI (gr * (w + st * (0 : Nat) + 1)) (1 : Nat) ∈ loL n s gr w st := (loL_mem h).mpr ⟨0, 0, 1, by omega, .inl ⟨by omega, rfl, rfl⟩, rfl⟩
  rw [z] at h1
  cases h1
theorem hi_ex {n s : Nat} (gr w st : Int) (h : s + 2 ≤ n) : ∃ hi, Mi (hiL n s gr w st) hi := by
  refine Mi.exists fun z => ?_
  have h1 : lookI gr w st (1 : Nat) / ((1 : Nat) : Int) ∈ hiL n s gr w st := (hiL_mem h).mpr ⟨1, 1, 2, by omega, .inl ⟨by omega, rfl, rfl⟩, by omega, rfl⟩
  rw [z] at h1
  cases h1
/-- sizes -/
structure Clb (gr w st : Int) : Prop extends Clk gr w st where
  gb : gr < 1237940039285380274899124224
  wb : w < 1237940039285380274899124224
  sb : st < 1237940039285380274899124224
theorem IsRc.clb {K : PySem.W.Frag} {H : Hp} {v : V} {gr w s : Int} (h : IsRc K H v gr w s) : Clb gr w s := by
  obtain ⟨t, _, _, h1, h2, h3, h4, h5, h6⟩ := h
  exact ⟨⟨h1, h2, h3⟩, h4, h5, h6⟩
theorem Clb.sp {gr w st : Int} (c : Clb gr w st) {p : Nat} (hp : p ≤ 13) : 0 ≤ st * (p : Int) ∧ st * (p : Int) ≤ 13 * 1237940039285380274899124224 := by
  have h1 := c.s1
  have h2 := c.sb
  refine ⟨Int.mul_nonneg (by omega) (by omega), ?_⟩
  have h3 : st * (p : Int) ≤ st * 13 := Int.mul_le_mul_of_nonneg_left (by omega) (by omega)
  omega
theorem Clb.mul {gr w st x : Int} (c : Clb gr w st) (h0 : 0 ≤ x) (hx : x ≤ 20 * 1237940039285380274899124224) : 0 ≤ gr * x ∧ gr * x < 2 ^ 185 := by
  have h1 := c.g1
  have h2 := c.gb
  refine ⟨Int.mul_nonneg (by omega) (by omega), ?_⟩
  have h3 : gr * x ≤ 1237940039285380274899124224 * x := Int.mul_le_mul_of_nonneg_right (by omega) h0
  have h4 : (1237940039285380274899124224 : Int) * x ≤ 1237940039285380274899124224 * (20 * 1237940039285380274899124224) := Int.mul_le_mul_of_nonneg_left hx (by decide)
  have h5 : (1237940039285380274899124224 : Int) * (20 * 1237940039285380274899124224) < 2 ^ 185 := by decide
  omega
theorem Clb.look {gr w st : Int} (c : Clb gr w st) {p : Nat} (hp : p ≤ 13) : 0 ≤ lookI gr w st p ∧ lookI gr w st p < 2 ^ 185 := by
  have h1 := c.sp hp
  have h2 := c.w0
  have h3 := c.wb
  exact c.mul (by omega) (by omega)
theorem lo_lt {n s : Nat} {gr w st lo : Int} (h : s + 2 ≤ n ∧ n ≤ 13) (c : Clb gr w st) (m : Mx (loL n s gr w st) lo) : lo < 2 ^ 186 := by
  obtain ⟨p, f, l, h1, h2, e⟩ := (loL_mem h.1).mp m.1
  rw [e, look_next]
  have h3 := c.look (p := p) (by omega)
  have h4 := c.g1
  have h5 := c.gb
  have h6 := (ceil_bd (x := lookI gr w st p + gr) (show (0 : Int) < l by omega) (by omega)).2
  have h7 : (2 : Int) ^ 186 = 2 ^ 185 + 2 ^ 185 := by decide
  have h8 : (1237940039285380274899124224 : Int) < 2 ^ 185 := by decide
  omega
theorem hi_lt {n s : Nat} {gr w st hi : Int} (h : s + 2 ≤ n ∧ n ≤ 13) (c : Clb gr w st) (m : Mi (hiL n s gr w st) hi) : hi < 2 ^ 185 := by
  obtain ⟨p, f, l, h1, h2, hf, e⟩ := (hiL_mem h.1).mp m.1
  rw [e]
  have h3 := c.look (p := p) (by omega)
  have h4 : lookI gr w st p / (f : Int) ≤ lookI gr w st p := Int.ediv_le_self _ h3.1
  omega
/-- an offset's looks lie in their windows -/
def goodB (rs : List (List Int)) (gr w st x off : Int) : Bool := rs.all (r3 (fun p f l => decide (x * f ≤ off + gr * (w + st * p)) && decide (off + gr * (w + st * p) < x * l)) true)
theorem good_iff {n s : Nat} {gr w st x off : Int} (h : s + 2 ≤ n) : goodB (win n s) gr w st x off = true ↔ ∀ p f l : Nat, p < n → ((p < n - s ∧ f = p ∧ l = p + 1) ∨ (n - s ≤ p ∧ f = n - s ∧ l = n)) → x * f ≤ off + lookI gr w st p ∧ off + lookI gr w st p < x * l := by
  unfold goodB
  rw [List.all_eq_true]
  constructor
  · intro hx p f l h1 h2
    have := hx _ ((win_mem h).mpr ⟨p, f, l, rfl, h1, h2⟩)
    rw [r3_mk, Bool.and_eq_true, decide_eq_true_eq, decide_eq_true_eq] at this
    exact this
  · intro hx r hr
    obtain ⟨p, f, l, rfl, h1, h2⟩ := (win_mem h).mp hr
    rw [r3_mk, Bool.and_eq_true, decide_eq_true_eq, decide_eq_true_eq]
    exact hx p f l h1 h2
/-- all offsets are good just for the lengths between the bounds -/
theorem fine_iff {n s : Nat} {gr w st lo hi x : Int} (h : s + 2 ≤ n) (hs : 1 ≤ s) (c : Clk gr w st) (m : Mx (loL n s gr w st) lo) (m' : Mi (hiL n s gr w st) hi) :
    (∀ i : Nat, (i : Int) < gr → goodB (win n s) gr w st x (i : Int) = true) ↔ lo ≤ x ∧ x ≤ hi := by
  rw [lo_iff h hs m, hi_iff h c m']
  have g1 := c.g1
  constructor
  · intro hx
    constructor
    · intro p f l h1 h2
      have := ((good_iff h).mp (hx (gr - 1).toNat (by omega)) p f l h1 h2).2
      omega
    · intro p f l h1 h2
      have := ((good_iff h).mp (hx 0 (by omega)) p f l h1 h2).1
      omega
  · intro ⟨ha, hb⟩ i hi
    refine (good_iff h).mpr fun p f l h1 h2 => ?_
    have := ha p f l h1 h2
    have := hb p f l h1 h2
    omega
/-! the numbers of a stretch among those from 1 on -/
theorem given_between (lo hi : Int) : ∀ m : Nat, 1 ≤ lo → (List.range m).filterMap (fun i : Nat => if lo ≤ 1 + (i : Int) ∧ 1 + (i : Int) ≤ hi then some (1 + (i : Int)) else none) = (List.range (min (m : Int) hi - lo + 1).toNat).map fun i : Nat => lo + (i : Int)
  | 0, h => by
    have : (min ((0 : Nat) : Int) hi - lo + 1).toNat = 0 := by omega
    rw [this]
    rfl
  | m + 1, h => by
    rw [range_fm_succ, given_between lo hi m h]
    by_cases h1 : lo ≤ 1 + (m : Int) ∧ 1 + (m : Int) ≤ hi
    · rw [if_pos h1]
      have e : (min ((m + 1 : Nat) : Int) hi - lo + 1).toNat = (min (m : Int) hi - lo + 1).toNat + 1 := by omega
      rw [e, List.range_succ, List.map_append]
      congr 1
      show [1 + (m : Int)] = [lo + _]
      congr 1
      omega
    · rw [if_neg h1]
      have e : (min ((m + 1 : Nat) : Int) hi - lo + 1).toNat = (min (m : Int) hi - lo + 1).toNat := by omega
      rw [e, List.append_nil]
theorem str_ne_iff (x y : Str) : (!decide (V.str x = V.str y)) = !decide (x = y) := by
  congr 1
  exact decide_eq_decide.mpr ⟨fun h => by injection h, fun h => by rw [h]⟩
end SB
namespace SB
theorem win_three {n s : Nat} {r : List Int} (h : r ∈ win n s) : ∃ p f l : Int, r = [p, f, l] := by
  unfold win at h
  rw [List.mem_append, List.mem_map, List.mem_map] at h
  rcases h with ⟨i, hi, rfl⟩ | ⟨i, hi, rfl⟩
  · exact ⟨_, _, _, rfl⟩
  · exact ⟨_, _, _, rfl⟩
end SB
namespace SB
open PySem PySem.Spec PyProof.Rows L2 Evl
theorem inV_ints (x : Int) (ns : List Int) : inV (.int x) (ns.map V.int) = decide (x ∈ ns) := by
  unfold inV
  rw [List.any_map]
  induction ns with
  | nil => rfl
  | cons n ns ih =>
    rw [List.any_cons, ih]
    have e : ((fun y => eqV y (.int x)) ∘ V.int) n = decide (n = x) := rfl
    rw [e]
    by_cases h : n = x
    · subst h
      simp
    · have h' : ¬ x = n := fun z => h z.symm
      simp [h, h', List.mem_cons]
theorem flat_ints (ns : List Int) : (ns.map V.int).all flatV = true := by
  rw [List.all_map, List.all_eq_true]
  intro x _
  rfl
theorem eqv_nil (ns : List Int) : PyData.eqv (.list (dI ns)) (.list []) = ns.isEmpty := by
  cases ns with
  | nil => decide +kernel
  | cons n ns => rfl
/-! None, or a tuple of whole numbers -/
def optT (lo hi : Int) : Option (List Int) := if lo ≤ hi then some [lo, hi] else none
def IsO (K : PySem.W.Frag) (H : Hp) (v : V) : Option (List Int) → Prop
  | none => v = .non
  | some r => RT K H v r
theorem IsO.ex {K : PySem.W.Frag} {H H' : Hp} {v : V} {o : Option (List Int)} (e : Ex H H') (h : IsO K H v o) : IsO K H' v o := by
  cases o with
  | none => exact h
  | some r => exact RT.lasts.ex e h
theorem IsO.kp {K : PySem.W.Frag} {H H' : Hp} {v : V} {o : Option (List Int)} {a : Addr} {ys : List V} (e : Kp a H H') (ha : H a = some (.lst ys)) (h : IsO K H v o) : IsO K H' v o := by
  cases o with
  | none => exact h
  | some r => exact RT.lasts.kp e ha h
def optD : Option (List Int) → PyData
  | none => .none
  | some r => .tuple (dI r)
theorem IsO.dp {K : PySem.W.Frag} {H : Hp} {v : V} {o : Option (List Int)} (h : IsO K H v o) : Dp K H v (optD o) := by
  cases o with
  | none =>
    cases (show v = .non from h)
    exact .non
  | some r =>
    obtain ⟨t, rfl, ht⟩ := h
    exact .tup ht (dp_ints r)
def Ok200 (o : Option (List Int)) : Prop := ∀ r, o = some r → r.length ≤ 10 ∧ ∀ y ∈ r, y.natAbs < 2 ^ 200
theorem show_opt {o : Option (List Int)} (h : Ok200 o) : (optD o).showable = true ∧ (optD o).hasDict = false ∧ (optD o).depth ≤ 60 ∧ (optD o).shown.length ≤ sizeLine := by
  cases o with
  | none => exact ⟨rfl, rfl, Nat.zero_le _, by decide +kernel⟩
  | some r =>
    obtain ⟨h1, h2⟩ := h r rfl
    exact show_tup h2 (by omega)
theorem rp_opt {K : PySem.W.Frag} {H : Hp} {v : V} {o : Option (List Int)} {Q : VK} (h : IsO K H v o) (k : Ok200 o) (q : Q (.str (optD o).shown) H) : rRp K [v] H Q := by
  obtain ⟨h1, h2, h3, h4⟩ := show_opt k
  exact ⟨_, _, rfl, h.dp, h1, h2, h3, h4, q⟩
theorem ok_optT {lo hi : Int} (h1 : lo.natAbs < 2 ^ 200) (h2 : hi.natAbs < 2 ^ 200) : Ok200 (optT lo hi) := by
  intro r hr
  unfold optT at hr
  split at hr
  · cases hr
    refine ⟨by show 2 ≤ 10; omega, fun y hy => ?_⟩
    rcases List.mem_cons.mp hy with rfl | hy
    · exact h1
    · rw [List.mem_singleton.mp hy]
      exact h2
  · cases hr
theorem stretch_at {lo hi : Int} (h : lo ≤ hi) : ((List.range (hi - lo + 1).toNat).map fun i : Nat => lo + (i : Int)) = lo :: ((List.range (hi - lo).toNat).map fun i : Nat => lo + 1 + (i : Int)) := by
  have e : (hi - lo + 1).toNat = (hi - lo).toNat + 1 := by omega
  rw [e, List.range_succ_eq_map, List.map_cons, List.map_map]
  congr 1
  · simp
  · refine List.map_congr_left fun i _ => ?_
    show lo + ((i + 1 : Nat) : Int) = lo + 1 + (i : Int)
    omega
theorem stretch_end {lo hi : Int} (h : lo ≤ hi) : ((List.range (hi - lo + 1).toNat).map fun i : Nat => lo + (i : Int)) = ((List.range (hi - lo).toNat).map fun i : Nat => lo + (i : Int)) ++ [hi] := by
  have e : (hi - lo + 1).toNat = (hi - lo).toNat + 1 := by omega
  rw [e, List.range_succ, List.map_append]
  congr 1
  show [lo + (((hi - lo).toNat : Nat) : Int)] = [hi]
  congr 1
  omega
theorem stretch_mem {lo hi x : Int} : x ∈ ((List.range (hi - lo + 1).toNat).map fun i : Nat => lo + (i : Int)) ↔ lo ≤ x ∧ x ≤ hi := by
  rw [List.mem_map]
  constructor
  · rintro ⟨i, hi, rfl⟩
    have := List.mem_range.mp hi
    omega
  · intro h
    exact ⟨(x - lo).toNat, List.mem_range.mpr (by omega), by omega⟩
theorem stretch_nil {lo hi : Int} (h : ¬ lo ≤ hi) : ((List.range (hi - lo + 1).toNat).map fun i : Nat => lo + (i : Int)) = [] := by
  have e : (hi - lo + 1).toNat = 0 := by omega
  rw [e]
  rfl
end SB
namespace SB
open PySem PySem.Spec PyProof.Rows L2 Evl
/-! good offsets -/
def gdL (n s : Nat) (gr w st x : Int) : List Int := (win n s).map (r3 (fun p f _ => f * x - gr * (w + st * p)) 0)
def gdH (n s : Nat) (gr w st x : Int) : List Int := (win n s).map (r3 (fun p _ l => l * x - 1 - gr * (w + st * p)) 0)
theorem gdL_pos {n s : Nat} {gr w st x : Int} (h : s + 2 ≤ n) : 0 < (gdL n s gr w st x).length := by
  unfold gdL
  rw [List.length_map, win_len (by omega)]
  omega
theorem gdH_pos {n s : Nat} {gr w st x : Int} (h : s + 2 ≤ n) : 0 < (gdH n s gr w st x).length := by
  unfold gdH
  rw [List.length_map, win_len (by omega)]
  omega
theorem Mx.cons {a m k : Int} {L : List Int} (h : Mx (a :: L) k) (h' : Mx L m) : k = if a > m then a else m := by
  refine h.uniq ?_
  by_cases c : a > m
  · rw [if_pos c]
    refine ⟨List.mem_cons_self .., fun y hy => ?_⟩
    rcases List.mem_cons.mp hy with rfl | hy
    · exact Int.le_refl _
    · have := h'.2 y hy
      omega
  · rw [if_neg c]
    refine ⟨List.mem_cons_of_mem _ h'.1, fun y hy => ?_⟩
    rcases List.mem_cons.mp hy with rfl | hy
    · omega
    · exact h'.2 y hy
theorem Mi.cons {a m k : Int} {L : List Int} (h : Mi (a :: L) k) (h' : Mi L m) : k = if a < m then a else m := by
  refine h.uniq ?_
  by_cases c : a < m
  · rw [if_pos c]
    refine ⟨List.mem_cons_self .., fun y hy => ?_⟩
    rcases List.mem_cons.mp hy with rfl | hy
    · exact Int.le_refl _
    · have := h'.2 y hy
      omega
  · rw [if_neg c]
    refine ⟨List.mem_cons_of_mem _ h'.1, fun y hy => ?_⟩
    rcases List.mem_cons.mp hy with rfl | hy
    · omega
    · exact h'.2 y hy
/-- an offset is good just between the bounds -/
theorem gd_iff {n s : Nat} {gr w st x lo hi off : Int} (m1 : Mx (0 :: gdL n s gr w st x) lo) (m2 : Mi ((gr - 1) :: gdH n s gr w st x) hi) (h0 : 0 ≤ off) (h1 : off < gr) : goodB (win n s) gr w st x off = true ↔ lo ≤ off ∧ off ≤ hi := by
  unfold goodB
  rw [List.all_eq_true]
  constructor
  · intro hx
    constructor
    · rcases List.mem_cons.mp m1.1 with h | h
      · omega
      · unfold gdL at h
        obtain ⟨r, hr, e⟩ := List.mem_map.mp h
        obtain ⟨p, f, l, rfl⟩ := win_three hr
        have := hx _ hr
        rw [r3_mk, Bool.and_eq_true, decide_eq_true_eq, decide_eq_true_eq] at this
        rw [r3_mk, Int.mul_comm f x] at e
        omega
    · rcases List.mem_cons.mp m2.1 with h | h
      · omega
      · unfold gdH at h
        obtain ⟨r, hr, e⟩ := List.mem_map.mp h
        obtain ⟨p, f, l, rfl⟩ := win_three hr
        have := hx _ hr
        rw [r3_mk, Bool.and_eq_true, decide_eq_true_eq, decide_eq_true_eq] at this
        rw [r3_mk, Int.mul_comm l x] at e
        omega
  · intro ⟨ha, hb⟩ r hr
    obtain ⟨p, f, l, rfl⟩ := win_three hr
    have a1 := m1.2 _ (List.mem_cons_of_mem _ (List.mem_map.mpr ⟨_, hr, rfl⟩))
    have a2 := m2.2 _ (List.mem_cons_of_mem _ (List.mem_map.mpr ⟨_, hr, rfl⟩))
    rw [r3_mk, Int.mul_comm f x] at a1
    rw [r3_mk, Int.mul_comm l x] at a2
    rw [r3_mk, Bool.and_eq_true, decide_eq_true_eq, decide_eq_true_eq]
    omega
end SB
namespace SB
open PySem PySem.Spec PyProof.Rows L2 Evl
theorem sh_int {i : Int} (h : i.natAbs < 2 ^ 200) : (PyData.int i).showable = true ∧ (PyData.int i).shown.length ≤ sizeLine := by
  have hl : i.natAbs.log2 < 200 := int_log (by decide) h
  have ht : (Str.ofString (toString i)).length ≤ 201 := by
    rw [PySem.ofString_length]
    exact int_text_length_le (k := 200) (by decide) hl
  refine ⟨?_, ?_⟩
  · simp only [PyData.showable, decide_eq_true_eq]
    omega
  · show (Str.ofString (toString i)).length ≤ sizeLine
    rw [sizeLine_eq]
    omega
theorem nat_abs_lt {x : Int} {k : Nat} (h0 : 0 ≤ x) (h1 : x < 2 ^ k) : x.natAbs < 2 ^ k := by
  have e : (2 : Int) ^ k = ((2 ^ k : Nat) : Int) := by norm_cast
  omega
theorem emod_small {i g : Int} (h : 1 ≤ g) (hg : g < 1237940039285380274899124224) : (i % g).natAbs < 2 ^ 200 := by
  have h1 := Int.emod_nonneg i (show g ≠ 0 by omega)
  have h2 := Int.emod_lt_of_pos i (show 0 < g by omega)
  omega
end SB
namespace SB
open PySem PySem.Spec PyProof.Rows L2 Evl
theorem given_from (c lo hi : Int) : ∀ m : Nat, c ≤ lo → (List.range m).filterMap (fun i : Nat => if lo ≤ c + (i : Int) ∧ c + (i : Int) ≤ hi then some (c + (i : Int)) else none) = (List.range (min (c + (m : Int) - 1) hi - lo + 1).toNat).map fun i : Nat => lo + (i : Int)
  | 0, h => by
    have : (min (c + ((0 : Nat) : Int) - 1) hi - lo + 1).toNat = 0 := by omega
    rw [this]
    rfl
  | m + 1, h => by
    rw [range_fm_succ, given_from c lo hi m h]
    by_cases h1 : lo ≤ c + (m : Int) ∧ c + (m : Int) ≤ hi
    · rw [if_pos h1]
      have e : (min (c + ((m + 1 : Nat) : Int) - 1) hi - lo + 1).toNat = (min (c + (m : Int) - 1) hi - lo + 1).toNat + 1 := by omega
      rw [e, List.range_succ, List.map_append]
      congr 1
      show [c + (m : Int)] = [lo + _]
      congr 1
      omega
    · rw [if_neg h1]
      have e : (min (c + ((m + 1 : Nat) : Int) - 1) hi - lo + 1).toNat = (min (c + (m : Int) - 1) hi - lo + 1).toNat := by omega
      rw [e, List.append_nil]
theorem rgV_stretch (lo hi : Int) : rgV lo (hi + 1) = ((List.range (hi - lo + 1).toNat).map fun i : Nat => lo + (i : Int)).map V.int := by
  unfold rgV
  rw [List.map_map, show hi + 1 - lo = hi - lo + 1 by omega]
  rfl
theorem gd_ex {n s : Nat} (gr w st x : Int) : (∃ lo, Mx (0 :: gdL n s gr w st x) lo) ∧ ∃ hi, Mi ((gr - 1) :: gdH n s gr w st x) hi :=
  ⟨Mx.exists (by simp), Mi.exists (by simp)⟩
theorem gd_bd {n s : Nat} {gr w st x lo hi : Int} (h : s + 2 ≤ n ∧ n ≤ 13) (c : Clb gr w st) (x1 : 1 ≤ x) (x2 : x < 2 ^ 190) (m1 : Mx (0 :: gdL n s gr w st x) lo) (m2 : Mi ((gr - 1) :: gdH n s gr w st x) hi) :
    0 ≤ lo ∧ hi ≤ gr - 1 ∧ lo.natAbs < 2 ^ 200 ∧ hi.natAbs < 2 ^ 200 := by
  have l0 := m1.2 0 (List.mem_cons_self ..)
  have h0 := m2.2 (gr - 1) (List.mem_cons_self ..)
  have g1 := c.g1
  have gb := c.gb
  have p1 : (2 : Int) ^ 200 = ((2 ^ 200 : Nat) : Int) := by norm_cast
  have p2 : (13 : Int) * 2 ^ 190 + 2 ^ 185 < 2 ^ 200 := by decide
  have p3 : (1237940039285380274899124224 : Int) < 2 ^ 185 := by decide
  refine ⟨l0, h0, ?_, ?_⟩
  · rcases List.mem_cons.mp m1.1 with e | e
    · rw [e]
      decide
    · obtain ⟨r, hr, e⟩ := List.mem_map.mp e
      obtain ⟨p, f, l, rfl, h1, h2⟩ := (win_mem h.1).mp hr
      rw [r3_mk] at e
      have lk := c.look (p := p) (by omega)
      have e2 : lookI gr w st p = gr * (w + st * (p : Int)) := rfl
      have fx : (f : Int) * x ≤ 13 * x := Int.mul_le_mul_of_nonneg_right (by omega) (by omega)
      omega
  · rcases List.mem_cons.mp m2.1 with e | e
    · omega
    · obtain ⟨r, hr, e⟩ := List.mem_map.mp e
      obtain ⟨p, f, l, rfl, h1, h2⟩ := (win_mem h.1).mp hr
      rw [r3_mk] at e
      have lk := c.look (p := p) (by omega)
      have e2 : lookI gr w st p = gr * (w + st * (p : Int)) := rfl
      have fx : 0 ≤ (l : Int) * x := Int.mul_nonneg (by omega) (by omega)
      omega
end SB
namespace LW
open PySem PySem.Spec PyProof.Rows L2 Evl SB
def topS (i : Nat) : Stmt := PySem.Challenge.pw_startbits_k06_signals_of_sendings.main.body.getD i (.Pass ⟨0, 0, 0, 0⟩)
abbrev s_is_int : Stmt := topS 14
abbrev s_is_int_from : Stmt := topS 15
abbrev s_is_int_between : Stmt := topS 16
abbrev s_is_parity : Stmt := topS 17
abbrev s_fits : Stmt := topS 18
abbrev s_is_list_up_to : Stmt := topS 19
abbrev s_check_shape : Stmt := topS 20
abbrev s_check_number : Stmt := topS 21
abbrev s_check_text : Stmt := topS 22
abbrev s_check_text_between : Stmt := topS 23
abbrev s_check_length : Stmt := topS 24
abbrev s_check_tick : Stmt := topS 25
abbrev s_size_of : Stmt := topS 27
abbrev s_parity_of : Stmt := topS 28
abbrev s_frame_of : Stmt := topS 29
abbrev s_levels_of : Stmt := topS 30
abbrev s_bits_of : Stmt := topS 31
abbrev s_sent : Stmt := topS 33
abbrev s_sent_text : Stmt := topS 34
abbrev s_sent_unevenly : Stmt := topS 35
abbrev s_changes_of : Stmt := topS 36
abbrev s_check_sending : Stmt := topS 37
abbrev s_is_begin : Stmt := topS 38
abbrev s_check_lasts : Stmt := topS 39
abbrev s_law_source : Stmt := topS 41
abbrev s_law_draw : Stmt := topS 42
abbrev s_law_shape : Stmt := topS 43
abbrev s_law_frame : Stmt := topS 44
abbrev s_law_text : Stmt := topS 45
abbrev s_law_length : Stmt := topS 46
abbrev s_law_changes : Stmt := topS 47
abbrev s_law_is_right : Stmt := topS 48
abbrev s_law_sending_right : Stmt := topS 49
abbrev s_law_text_right : Stmt := topS 50
abbrev s_law : Stmt := topS 51
theorem sc_is_int : FnScope ["value"] ["value"] (defScope s_is_int) := ⟨rfl, rfl, rfl, by decide +kernel, rfl, by decide +kernel, by decide +kernel⟩
theorem sc_is_int_from : FnScope ["least", "value"] ["least", "value"] (defScope s_is_int_from) := ⟨rfl, rfl, rfl, by decide +kernel, rfl, by decide +kernel, by decide +kernel⟩
theorem sc_is_int_between : FnScope ["least", "most", "value"] ["least", "most", "value"] (defScope s_is_int_between) := ⟨rfl, rfl, rfl, by decide +kernel, rfl, by decide +kernel, by decide +kernel⟩
theorem sc_is_parity : FnScope ["value"] ["value"] (defScope s_is_parity) := ⟨rfl, rfl, rfl, by decide +kernel, rfl, by decide +kernel, by decide +kernel⟩
theorem sc_fits : FnScope ["shape", "value"] ["shape", "value"] (defScope s_fits) := ⟨rfl, rfl, rfl, by decide +kernel, rfl, by decide +kernel, by decide +kernel⟩
theorem sc_is_list_up_to : FnScope ["most", "value"] ["most", "value"] (defScope s_is_list_up_to) := ⟨rfl, rfl, rfl, by decide +kernel, rfl, by decide +kernel, by decide +kernel⟩
theorem sc_check_shape : FnScope ["shape", "bits", "parity", "stops"] ["shape"] (defScope s_check_shape) := ⟨rfl, rfl, rfl, by decide +kernel, rfl, by decide +kernel, by decide +kernel⟩
theorem sc_check_number : FnScope ["shape", "number"] ["shape", "number"] (defScope s_check_number) := ⟨rfl, rfl, rfl, by decide +kernel, rfl, by decide +kernel, by decide +kernel⟩
theorem sc_check_text : FnScope ["shape", "numbers"] ["shape", "numbers"] (defScope s_check_text) := ⟨rfl, rfl, rfl, by decide +kernel, rfl, by decide +kernel, by decide +kernel⟩
theorem sc_check_text_between : FnScope ["least", "most", "shape", "numbers", "index", "number"] ["least", "most", "shape", "numbers"] (defScope s_check_text_between) := ⟨rfl, rfl, rfl, by decide +kernel, rfl, by decide +kernel, by decide +kernel⟩
theorem sc_check_length : FnScope ["length"] ["length"] (defScope s_check_length) := ⟨rfl, rfl, rfl, by decide +kernel, rfl, by decide +kernel, by decide +kernel⟩
theorem sc_check_tick : FnScope ["tick"] ["tick"] (defScope s_check_tick) := ⟨rfl, rfl, rfl, by decide +kernel, rfl, by decide +kernel, by decide +kernel⟩
theorem sc_size_of : FnScope ["shape", "bits", "parity", "stops", "parity_bits"] ["shape"] (defScope s_size_of) := ⟨rfl, rfl, rfl, by decide +kernel, rfl, by decide +kernel, by decide +kernel⟩
theorem sc_parity_of : FnScope ["shape", "number", "parity", "odd_ones"] ["shape", "number"] (defScope s_parity_of) := ⟨rfl, rfl, rfl, by decide +kernel, rfl, by decide +kernel, by decide +kernel⟩
theorem sc_frame_of : FnScope ["shape", "number", "parity_bit", "parity_bits", "stop_bits"] ["shape", "number"] (defScope s_frame_of) := ⟨rfl, rfl, rfl, by decide +kernel, rfl, by decide +kernel, by decide +kernel⟩
theorem sc_levels_of : FnScope ["shape", "numbers", "levels", "number"] ["shape", "numbers"] (defScope s_levels_of) := ⟨rfl, rfl, rfl, by decide +kernel, rfl, by decide +kernel, by decide +kernel⟩
theorem sc_bits_of : FnScope ["shape", "number", "at"] ["shape", "number"] (defScope s_bits_of) := ⟨rfl, rfl, rfl, by decide +kernel, rfl, by decide +kernel, by decide +kernel⟩
theorem sc_sent : FnScope ["shape", "length", "sending", "lasts", "signal", "tick", "number"] ["shape", "length", "sending"] (defScope s_sent) := ⟨rfl, rfl, rfl, by decide +kernel, rfl, by decide +kernel, by decide +kernel⟩
theorem sc_sent_text : FnScope ["shape", "length", "numbers", "begin", "levels"] ["shape", "length", "numbers", "begin"] (defScope s_sent_text) := ⟨rfl, rfl, rfl, by decide +kernel, rfl, by decide +kernel, by decide +kernel⟩
theorem sc_sent_unevenly : FnScope ["shape", "numbers", "begin", "lasts", "levels"] ["shape", "numbers", "begin", "lasts"] (defScope s_sent_unevenly) := ⟨rfl, rfl, rfl, by decide +kernel, rfl, by decide +kernel, by decide +kernel⟩
theorem sc_changes_of : FnScope ["levels", "begin", "lasts", "changes", "before", "tick", "level", "ticks"] ["levels", "begin", "lasts"] (defScope s_changes_of) := ⟨rfl, rfl, rfl, by decide +kernel, rfl, by decide +kernel, by decide +kernel⟩
theorem sc_check_sending : FnScope ["shape", "length", "sending", "frame_ticks", "index", "item"] ["shape", "length", "sending"] (defScope s_check_sending) := ⟨rfl, rfl, rfl, by decide +kernel, rfl, by decide +kernel, by decide +kernel⟩
theorem sc_is_begin : FnScope ["shape", "item", "tick", "number"] ["shape", "item"] (defScope s_is_begin) := ⟨rfl, rfl, rfl, by decide +kernel, rfl, by decide +kernel, by decide +kernel⟩
theorem sc_check_lasts : FnScope ["many", "lasts", "index", "ticks"] ["many", "lasts"] (defScope s_check_lasts) := ⟨rfl, rfl, rfl, by decide +kernel, rfl, by decide +kernel, by decide +kernel⟩
theorem sc_law_source : FnScope ["_law_script", "_law_at", "_law_cell", "_law_left"] ["_law_script", "_law_at"] (defScope s_law_source) := ⟨rfl, rfl, rfl, by decide +kernel, rfl, by decide +kernel, by decide +kernel⟩
theorem sc_law_draw : FnScope ["_law_source_here", "_law_many", "_law_drawn", "_law_mixed"] ["_law_source_here", "_law_many"] (defScope s_law_draw) := ⟨rfl, rfl, rfl, by decide +kernel, rfl, by decide +kernel, by decide +kernel⟩
theorem sc_law_shape : FnScope ["_law_source_here", "_law_parity"] ["_law_source_here"] (defScope s_law_shape) := ⟨rfl, rfl, rfl, by decide +kernel, rfl, by decide +kernel, by decide +kernel⟩
theorem sc_law_frame : FnScope ["_law_form", "_law_number", "_law_levels", "_law_rest", "_law_turn"] ["_law_form", "_law_number"] (defScope s_law_frame) := ⟨rfl, rfl, rfl, by decide +kernel, rfl, by decide +kernel, by decide +kernel⟩
theorem sc_law_text : FnScope ["_law_source_here", "_law_form", "_law_many", "_law_most", "_law_turn", "_law_found"] ["_law_source_here", "_law_form", "_law_many"] (defScope s_law_text) := ⟨rfl, rfl, rfl, by decide +kernel, rfl, by decide +kernel, by decide +kernel⟩
theorem sc_law_length : FnScope ["_law_source_here", "_law_wide"] ["_law_source_here"] (defScope s_law_length) := ⟨rfl, rfl, rfl, by decide +kernel, rfl, by decide +kernel, by decide +kernel⟩
theorem sc_law_changes : FnScope ["_law_levels", "_law_ticks", "_law_found", "_law_former", "_law_level", "_law_tick"] ["_law_levels", "_law_ticks"] (defScope s_law_changes) := ⟨rfl, rfl, rfl, by decide +kernel, rfl, by decide +kernel, by decide +kernel⟩
theorem sc_law_is_right : FnScope ["_law_told", "_law_due", "_law_again"] ["_law_told", "_law_due", "_law_again"] (defScope s_law_is_right) := ⟨rfl, rfl, rfl, by decide +kernel, rfl, by decide +kernel, by decide +kernel⟩
theorem sc_law_sending_right : FnScope ["_law_source_here", "_law_form", "_law_many", "_law_bit", "_law_tick", "_law_frames", "_law_levels", "_law_ticks", "_law_number", "_law_place", "_law_level", "_law_gap", "_law_passed", "_law_due", "_law_found", "_law_told"] ["_law_source_here", "_law_form", "_law_many"] (defScope s_law_sending_right) := ⟨rfl, rfl, rfl, by decide +kernel, rfl, by decide +kernel, by decide +kernel⟩
theorem sc_law_text_right : FnScope ["_law_source_here", "_law_form", "_law_many", "_law_bit", "_law_origin", "_law_codes", "_law_levels", "_law_number", "_law_passed", "_law_ticks", "_law_found", "_law_told", "_law_again", "_law_spans", "_law_tick", "_law_level", "_law_handed", "_law_index"] ["_law_source_here", "_law_form", "_law_many"] (defScope s_law_text_right) := ⟨rfl, rfl, rfl, by decide +kernel, rfl, by decide +kernel, by decide +kernel⟩
theorem sc_law : FnScope ["_law_script", "_law_at", "_law_source_here", "_law_form", "_law_many", "_law_fast", "_law_turn"] ["_law_script"] (defScope s_law) := ⟨rfl, rfl, rfl, by decide +kernel, rfl, by decide +kernel, by decide +kernel⟩
structure Tx (K : PySem.W.Frag) (mg : Str → Option Value) : Prop where
  b_abs : mg "abs" = none
  b_bool : mg "bool" = none
  b_enumerate : mg "enumerate" = none
  b_int : mg "int" = none
  b_isinstance : mg "isinstance" = none
  b_len : mg "len" = none
  b_list : mg "list" = none
  b_max : mg "max" = none
  b_min : mg "min" = none
  b_range : mg "range" = none
  b_repr : mg "repr" = none
  b_str : mg "str" = none
  b_sum : mg "sum" = none
  b_tuple : mg "tuple" = none
  b_zip : mg "zip" = none
  t_PARITIES : mg "PARITIES" = some (.ref (He.ga K "PARITIES"))
  v_PARITIES : ∀ H, SqT K H (He.ga K "PARITIES") [.str "none", .str "even", .str "odd"]
  i_MOST_BITS : GInt mg "MOST_BITS" (9)
  i_MOST_STOPS : GInt mg "MOST_STOPS" (2)
  i_MOST_NUMBERS : GInt mg "MOST_NUMBERS" (60)
  d_is_int : Df K mg "is_int" s_is_int
  d_is_int_from : Df K mg "is_int_from" s_is_int_from
  d_is_int_between : Df K mg "is_int_between" s_is_int_between
  d_is_parity : Df K mg "is_parity" s_is_parity
  d_fits : Df K mg "fits" s_fits
  d_is_list_up_to : Df K mg "is_list_up_to" s_is_list_up_to
  d_check_shape : Df K mg "check_shape" s_check_shape
  d_check_number : Df K mg "check_number" s_check_number
  d_check_text : Df K mg "check_text" s_check_text
  d_check_text_between : Df K mg "check_text_between" s_check_text_between
  d_check_length : Df K mg "check_length" s_check_length
  d_check_tick : Df K mg "check_tick" s_check_tick
  d_size_of : Df K mg "size_of" s_size_of
  d_parity_of : Df K mg "parity_of" s_parity_of
  d_frame_of : Df K mg "frame_of" s_frame_of
  d_levels_of : Df K mg "levels_of" s_levels_of
  d_bits_of : Df K mg "_bits_of" s_bits_of
  d_sent : Df K mg "sent" s_sent
  d_sent_text : Df K mg "sent_text" s_sent_text
  d_sent_unevenly : Df K mg "sent_unevenly" s_sent_unevenly
  d_changes_of : Df K mg "changes_of" s_changes_of
  d_check_sending : Df K mg "_check_sending" s_check_sending
  d_is_begin : Df K mg "_is_begin" s_is_begin
  d_check_lasts : Df K mg "_check_lasts" s_check_lasts
  d_law_source : Df K mg "_law_source" s_law_source
  d_law_draw : Df K mg "_law_draw" s_law_draw
  d_law_shape : Df K mg "_law_shape" s_law_shape
  d_law_frame : Df K mg "_law_frame" s_law_frame
  d_law_text : Df K mg "_law_text" s_law_text
  d_law_length : Df K mg "_law_length" s_law_length
  d_law_changes : Df K mg "_law_changes" s_law_changes
  d_law_is_right : Df K mg "_law_is_right" s_law_is_right
  d_law_sending_right : Df K mg "_law_sending_right" s_law_sending_right
  d_law_text_right : Df K mg "_law_text_right" s_law_text_right
  d_law : Df K mg "law" s_law
section
variable {P : Program} {w : World} {K : PySem.W.Frag} {mg : Str → Option Value} {base : Heap}
def sp_is_int (K : PySem.W.Frag) : Sp := fun vs H Q _ => ∃ v n, vs = [v] ∧ TyN K H v n ∧ Q (.bl (decide (n = "int"))) H
theorem cal_is_int (T : Tx K mg) : Cal P w K mg base CX0 1 "is_int" ["value"] (sp_is_int K) := by
  refine T.d_is_int.cal sc_is_int (fun vs H Q E h => ?_) (fun _ _ _ _ _ _ us hl => match us, hl with | [_], _ => rfl) (fun f cdv A outer s H vs Q E hr h => ⟨_, (pss_one (ps_ret (pe_and (pe_callB call_isi (by rfl) T.b_isinstance (by decide +kernel) (pa_cons (pv 0) (pa_cons (pe_bltn (v := .ty "int") (by rfl) T.b_int (by decide +kernel) rfl) pa_nil))) (pe_one (pe_not (pe_callB call_isi (by rfl) T.b_isinstance (by decide +kernel) (pa_cons (pv 0) (pa_cons (pe_bltn (v := .ty "bool") (by rfl) T.b_bool (by decide +kernel) rfl) pa_nil)))))))), ?_⟩)
  · obtain ⟨v, n, rfl, _⟩ := h
    rfl
  · obtain ⟨v, n, rfl, ty, q⟩ := h
    refine ⟨v, rfl, v, .ty "int", _, _, _, rfl, .ty _, ty.x, ty.kit (.inl rfl), _, rfl, ?_⟩
    cases ty with
    | int i => exact ⟨_, rfl, _, .ty "bool", _, _, _, rfl, .ty _, (TyN.int i : TyN K H _ _).x, (TyN.int i : TyN K H _ _).kit (.inr (.inl rfl)), _, rfl, q⟩
    | bl b => exact ⟨_, rfl, _, .ty "bool", _, _, _, rfl, .ty _, (TyN.bl b : TyN K H _ _).x, (TyN.bl b : TyN K H _ _).kit (.inr (.inl rfl)), _, rfl, q⟩
    | _ => exact q
def sp_between (K : PySem.W.Frag) : Sp := fun vs H Q _ => ∃ lo hi v n, vs = [.int lo, .int hi, v] ∧ TyN K H v n ∧
  ∀ b : Bool, (∀ i, v = .int i → b = decide (lo ≤ i ∧ i ≤ hi)) → (n ≠ "int" → b = false) → Q (.bl b) H
theorem cal_between (T : Tx K mg) : Cal P w K mg base CX0 2 "is_int_between" ["least", "most", "value"] (sp_between K) := by
  have c_is_int := cal_is_int (P := P) (w := w) (base := base) T
  refine T.d_is_int_between.cal sc_is_int_between (fun vs H Q E h => ?_) (fun _ _ _ _ _ _ us hl => match us, hl with | [_, _, _], _ => rfl) (fun f cdv A outer s H vs Q E hr h => ⟨_, (pss_one (ps_ret (pe_and (pe_cal c_is_int (hr.mono (by decide)) pass0 (pa_cons (pv 2) pa_nil)) (pe_one (pe_chain op_le op_le (pv 0) (pv 2) (pv 1)))))), ?_⟩)
  · obtain ⟨lo, hi, v, n, rfl, _⟩ := h
    rfl
  · obtain ⟨lo, hi, v, n, rfl, ty, q⟩ := h
    refine ⟨v, rfl, v, n, rfl, ty, _, rfl, ?_⟩
    cases ty with
    | int i =>
      refine ⟨_, rfl, _, rfl, lo, i, rfl, rfl, _, rfl, ?_⟩
      by_cases h1 : lo ≤ i
      · rw [if_pos (decide_eq_true h1)]
        refine ⟨_, rfl, i, hi, rfl, rfl, q _ (fun j e => ?_) (fun z => absurd rfl z)⟩
        cases e
        simp [h1]
      · rw [if_neg (by simpa using h1)]
        refine q _ (fun j e => ?_) (fun z => absurd rfl z)
        cases e
        simp [h1]
    | _ => exact q false (fun j e => nomatch e) (fun _ => rfl)
def sp_is_parity : Sp := fun vs H Q _ => ∃ p : Pa, vs = [.str p.s] ∧ Q (.bl true) H
theorem cal_is_parity (T : Tx K mg) : Cal P w K mg base CX0 1 "is_parity" ["value"] sp_is_parity := by
  refine T.d_is_parity.cal sc_is_parity (fun vs H Q E h => ?_) (fun _ _ _ _ _ _ us hl => match us, hl with | [_], _ => rfl) (fun f cdv A outer s H vs Q E hr h => ⟨_, (pss_one (ps_ret (pe_and (pe_callB call_isi (by rfl) T.b_isinstance (by decide +kernel) (pa_cons (pv 0) (pa_cons (pe_bltn (v := .ty "str") (by rfl) T.b_str (by decide +kernel) rfl) pa_nil))) (pe_one (pe_cmpR op_in_seq (pv 0) (pe_glob (v := .ref (He.ga K "PARITIES")) rfl T.t_PARITIES rfl) (by rfl)))))), ?_⟩)
  · obtain ⟨p, rfl, _⟩ := h
    rfl
  · obtain ⟨p, rfl, q⟩ := h
    refine ⟨_, rfl, _, .ty "str", _, _, true, rfl, .ty _, (TyN.str _).x, ki, true, rfl, iteT ?_⟩
    refine ⟨_, rfl, _, _, rfl, .inr (T.v_PARITIES _), rfl, rfl, ?_⟩
    rw [pa_in]
    exact q
def sp_fits (K : PySem.W.Frag) : Sp := fun vs H Q _ => ∃ g b p s v n, vs = [g, v] ∧ IsSh K H g b p s ∧ TyN K H v n ∧
  ∀ r : Bool, (∀ i, v = .int i → r = decide (0 ≤ i ∧ i < 2 ^ b)) → (n ≠ "int" → r = false) → Q (.bl r) H
theorem cal_fits (T : Tx K mg) : Cal P w K mg base CX0 3 "fits" ["shape", "value"] (sp_fits K) := by
  have c_is_int_between := cal_between (P := P) (w := w) (base := base) T
  refine T.d_fits.cal sc_fits (fun vs H Q E h => ?_) (fun _ _ _ _ _ _ us hl => match us, hl with | [_, _], _ => rfl) (fun f cdv A outer s H vs Q E hr h => ⟨_, (pss_one (ps_ret (pe_cal c_is_int_between (hr.mono (by decide)) pass0 (pa_cons pe_int (pa_cons (pe_op op_sub (pe_op op_shl pe_int (pe_ix ix_tup (pv 0) pe_int (fun _ _ => rfl))) pe_int) (pa_cons (pv 1) pa_nil)))))), ?_⟩)
  · obtain ⟨g, b, p, s, v, n, rfl, _⟩ := h
    rfl
  · obtain ⟨g, b, p, s, v, n, rfl, ⟨t, rfl, sq, h1, h2, _⟩, ty, q⟩ := h
    refine ⟨_, rfl, t, _, 0, .int b, rfl, rfl, sq, rfl, 1, b, rfl, rfl, ⟨by omega, by omega, by decide⟩, _, _, rfl, rfl, v, rfl, 0, _, v, n, rfl, ty, fun r r1 r2 => q r (fun i e => ?_) r2⟩
    rw [r1 i e, Int.one_mul, Int.toNat_natCast]
    exact decide_eq_decide.mpr (by omega)
def sp_list_up_to (K : PySem.W.Frag) : Sp := fun vs H Q _ => ∃ m a xs, vs = [.int m, .ref a] ∧ SqL K H a xs ∧ Q (.bl (decide ((xs.length : Int) ≤ m))) H
theorem cal_list_up_to (T : Tx K mg) : Cal P w K mg base CX0 1 "is_list_up_to" ["most", "value"] (sp_list_up_to K) := by
  refine T.d_is_list_up_to.cal sc_is_list_up_to (fun vs H Q E h => ?_) (fun _ _ _ _ _ _ us hl => match us, hl with | [_, _], _ => rfl) (fun f cdv A outer s H vs Q E hr h => ⟨_, (pss_one (ps_ret (pe_and (pe_callB call_isi (by rfl) T.b_isinstance (by decide +kernel) (pa_cons (pv 1) (pa_cons (pe_bltn (v := .ty "list") (by rfl) T.b_list (by decide +kernel) rfl) pa_nil))) (pe_one (pe_cmpR op_le (pe_callB call_len_seq (by rfl) T.b_len (by decide +kernel) (pa_cons (pv 1) pa_nil)) (pv 0) (nomark _)))))), ?_⟩)
  · obtain ⟨m, a, xs, rfl, _⟩ := h
    rfl
  · obtain ⟨m, a, xs, rfl, sq, q⟩ := h
    refine ⟨_, rfl, _, .ty "list", _, _, true, rfl, .ty _, (TyN.lst sq).x, ki, true, rfl, iteT ?_⟩
    exact ⟨_, rfl, a, xs, rfl, .inl sq, _, rfl, _, _, rfl, rfl, q⟩
def sp_check_shape (K : PySem.W.Frag) : Sp := fun vs H Q _ => ∃ g b p s, vs = [g] ∧ IsSh K H g b p s ∧ Q .non H
theorem cal_check_shape (T : Tx K mg) : Cal P w K mg base CX0 3 "check_shape" ["shape"] (sp_check_shape K) := by
  have c_is_int_between := cal_between (P := P) (w := w) (base := base) T
  have c_is_parity := cal_is_parity (P := P) (w := w) (base := base) T
  refine T.d_check_shape.cal sc_check_shape (fun vs H Q E h => ?_) (fun _ _ _ _ _ _ us hl => match us, hl with | [_], _ => rfl) (fun f cdv A outer s H vs Q E hr h => ⟨_, (pss_cons (ps_if (PW.pt (pw_or (pt_not (pt_val (pe_callB call_isi (by rfl) T.b_isinstance (by decide +kernel) (pa_cons (pv 0) (pa_cons (pe_bltn (v := .ty "tuple") (by rfl) T.b_tuple (by decide +kernel) rfl) pa_nil))))) (pw_or1 (pt_cmpR op_ne (pe_callB call_len_seq (by rfl) T.b_len (by decide +kernel) (pa_cons (pv 0) pa_nil)) pe_int (nomark _))))) (pss_one ps_never) pss_nil)
      (pss_cons (ps_asg (pv 0) (pg_tup rfl (pgs_cons (pg_name (i := 1) sc_check_shape.nd rfl (Or.inl rfl)) (pgs_cons (pg_name (i := 2) sc_check_shape.nd rfl (Or.inl rfl)) (pgs_cons (pg_name (i := 3) sc_check_shape.nd rfl (Or.inl rfl)) pgs_nil)))))
      (pss_cons (ps_if (pt_not (pt_val (pe_cal c_is_int_between (hr.mono (by decide)) pass0 (pa_cons pe_int (pa_cons (pe_gi T.i_MOST_BITS) (pa_cons (pv 1) pa_nil)))))) (pss_one ps_never) pss_nil)
      (pss_cons (ps_if (pt_not (pt_val (pe_cal c_is_parity (hr.mono (by decide)) pass0 (pa_cons (pv 2) pa_nil)))) (pss_one ps_never) pss_nil)
      (pss_one (ps_if (pt_not (pt_val (pe_cal c_is_int_between (hr.mono (by decide)) pass0 (pa_cons pe_int (pa_cons (pe_gi T.i_MOST_STOPS) (pa_cons (pv 3) pa_nil)))))) (pss_one ps_never) pss_nil)))))), ?_⟩)
  · obtain ⟨g, b, p, s, rfl, _⟩ := h
    rfl
  · obtain ⟨g, b, p, s, rfl, ⟨t, rfl, sq, h1, h2, h3, h4⟩, q⟩ := h
    refine ⟨_, rfl, _, .ty "tuple", _, _, true, rfl, .ty _, (TyN.tup sq).x, ki, true, rfl, iteF ?_⟩
    refine ⟨_, rfl, t, _, rfl, .inr sq, rfl, _, rfl, iteNS rfl ?_⟩
    refine ⟨_, rfl, t, _, rfl, sq, rfl, _, _, rfl, _, _, rfl, _, _, rfl, rfl, ?_⟩
    refine ⟨_, rfl, 1, 9, _, "int", rfl, .int _, fun r r1 r2 => ⟨r, rfl, ?_⟩⟩
    have e1 : r = true := by
      rw [r1 _ rfl]
      exact decide_eq_true ⟨by omega, by omega⟩
    subst e1
    refine iteF ⟨_, rfl, p, rfl, true, rfl, iteF ?_⟩
    refine ⟨_, rfl, 1, 2, _, "int", rfl, .int _, fun r r1 r2 => ⟨r, rfl, ?_⟩⟩
    have e2 : r = true := by
      rw [r1 _ rfl]
      exact decide_eq_true ⟨by omega, by omega⟩
    subst e2
    exact iteF q
def sp_check_number (K : PySem.W.Frag) : Sp := fun vs H Q _ => ∃ g b p s i, vs = [g, .int i] ∧ IsSh K H g b p s ∧ 0 ≤ i ∧ i < 2 ^ b ∧ Q .non H
theorem cal_check_number (T : Tx K mg) : Cal P w K mg base CX0 4 "check_number" ["shape", "number"] (sp_check_number K) := by
  have c_fits := cal_fits (P := P) (w := w) (base := base) T
  refine T.d_check_number.cal sc_check_number (fun vs H Q E h => ?_) (fun _ _ _ _ _ _ us hl => match us, hl with | [_, _], _ => rfl) (fun f cdv A outer s H vs Q E hr h => ⟨_, (pss_one (ps_if (pt_not (pt_val (pe_cal c_fits (hr.mono (by decide)) pass0 (pa_cons (pv 0) (pa_cons (pv 1) pa_nil))))) (pss_one ps_never) pss_nil)), ?_⟩)
  · obtain ⟨g, b, p, s, i, rfl, _⟩ := h
    rfl
  · obtain ⟨g, b, p, s, i, rfl, sh, h1, h2, q⟩ := h
    refine ⟨_, rfl, _, rfl, g, b, p, s, _, "int", rfl, sh, .int i, fun r r1 r2 => ⟨r, rfl, ?_⟩⟩
    have e : r = true := by
      rw [r1 _ rfl]
      exact decide_eq_true ⟨h1, h2⟩
    subst e
    exact iteF q
def InSh (b : Nat) (ns : List Int) : Prop := ∀ n ∈ ns, 0 ≤ n ∧ n < 2 ^ b
def sp_check_tb (K : PySem.W.Frag) : Sp := fun vs H Q _ => ∃ lo hi g b p s a ns, vs = [.int lo, .int hi, g, .ref a] ∧ IsSh K H g b p s ∧ SqL K H a (ns.map V.int) ∧ lo ≤ (ns.length : Int) ∧ (ns.length : Int) ≤ hi ∧ InSh b ns ∧ ∀ H', Ex H H' → Q .non H'
theorem cal_check_tb (T : Tx K mg) : Cal P w K mg base CX0 4 "check_text_between" ["least", "most", "shape", "numbers"] (sp_check_tb K) := by
  have c_fits := cal_fits (P := P) (w := w) (base := base) T
  have c_is_list_up_to := cal_list_up_to (P := P) (w := w) (base := base) T
  refine T.d_check_text_between.cal sc_check_text_between (fun vs H Q E h => ?_) (fun _ _ _ _ _ _ us hl => match us, hl with | [_, _, _, _], _ => rfl) (fun f cdv A outer s H vs Q E hr h => ⟨_, (pss_cons (ps_if (PW.pt (pw_or (pt_not (pt_val (pe_cal c_is_list_up_to (hr.mono (by decide)) pass0 (pa_cons (pv 1) (pa_cons (pv 3) pa_nil))))) (pw_or1 (pt_cmpR op_lt (pe_callB call_len_seq (by rfl) T.b_len (by decide +kernel) (pa_cons (pv 3) pa_nil)) (pv 0) (nomark _))))) (pss_one ps_never) pss_nil)
      (pss_one (ps_for PassesOwn.never rfl (pi_enum (by rfl) T.b_enumerate (pa_cons (pv 3) pa_nil)) (pg_tup rfl (pgs_cons (pg_name (i := 4) sc_check_text_between.nd rfl (Or.inl rfl)) (pgs_cons (pg_name (i := 5) sc_check_text_between.nd rfl (Or.inl rfl)) pgs_nil))) (pss_one (ps_if (pt_not (pt_val (pe_cal c_fits (hr.mono (by decide)) pass0 (pa_cons (pv 2) (pa_cons (pv 5) pa_nil))))) (pss_one ps_never) pss_nil))))), ?_⟩)
  · obtain ⟨lo, hi, g, b, p, s, a, ns, rfl, _⟩ := h
    rfl
  · obtain ⟨lo, hi, g, b, p, s, a, ns, rfl, sh, sq, hl, hl2, hin, q⟩ := h
    refine ⟨_, rfl, _, rfl, hi, a, _, rfl, sq, _, rfl, ?_⟩
    have e : decide (((ns.map V.int).length : Int) ≤ hi) = true := by
      rw [List.length_map]
      exact decide_eq_true hl2
    rw [e]
    refine iteF ⟨_, rfl, a, _, rfl, .inl sq, _, rfl, _, _, rfl, rfl, _, rfl, ?_⟩
    have e2 : decide (((ns.map V.int).length : Int) < lo) = false := by
      rw [List.length_map]
      exact decide_eq_false (by omega)
    rw [e2]
    refine iteF ⟨_, rfl, a, _, rfl, sq, ?_⟩
    refine ⟨fun i m σ H1 => ∃ u v, σ = [some (.int lo), some (.int hi), some g, some (.ref a), u, v] ∧ i + m = ns.length ∧ Ex H H1, ⟨ns.length, none, none, rfl, by omega, Ex.refl H⟩, ?_⟩
    rintro i m σ H1 ⟨u, v, rfl, em, ex⟩
    have sq1 := ex_l ex sq
    by_cases hlt : i < ns.length
    · have gi : (ns.map V.int)[i]? = some (.int ns[i]) := by
        rw [List.getElem?_map, List.getElem?_eq_getElem hlt]
        rfl
      refine .inr ⟨⟨_, _, sq1, gi⟩, fun σ' H' => ∃ u v, σ' = [some (.int lo), some (.int hi), some g, some (.ref a), u, v] ∧ i + 1 + (m - 1) = ns.length ∧ Ex H H', fun σ' H' hN => ?_, fun x H' hy => ?_⟩
      · obtain ⟨u, v, e1, e2, e3⟩ := hN
        exact ⟨m - 1, by omega, u, v, e1, e2, e3⟩
      · obtain ⟨T1, y, rfl, nT, rfl, fy⟩ := hy
        obtain rfl : y = .int ns[i] := Option.some.inj ((fy _ sq1).symm.trans gi)
        have ex2 : Ex H (upd H1 T1 (.tup [.int (i : Nat), .int ns[i]])) := ex.trans (Ex.new nT)
        refine ⟨T1, _, rfl, .inl (.inl upd_same), rfl, _, _, rfl, _, _, rfl, rfl, ?_⟩
        refine ⟨_, rfl, _, rfl, g, b, p, s, _, "int", rfl, sh.ex ex2, .int _, fun r r1 r2 => ⟨r, rfl, ?_⟩⟩
        have e : r = true := by
          rw [r1 _ rfl]
          exact decide_eq_true (hin _ (List.getElem_mem hlt))
        subst e
        exact iteF ⟨_, _, rfl, by omega, ex2⟩
    · exact .inl ⟨⟨_, sq1, by rw [List.length_map]; omega⟩, q H1 ex⟩
def sp_check_text (K : PySem.W.Frag) : Sp := fun vs H Q _ => ∃ g b p s a ns, vs = [g, .ref a] ∧ IsSh K H g b p s ∧ SqL K H a (ns.map V.int) ∧ ns.length ≤ 60 ∧ InSh b ns ∧ ∀ H', Ex H H' → Q .non H'
theorem cal_check_text (T : Tx K mg) : Cal P w K mg base CX0 5 "check_text" ["shape", "numbers"] (sp_check_text K) := by
  have c_check_text_between := cal_check_tb (P := P) (w := w) (base := base) T
  refine T.d_check_text.cal sc_check_text (fun vs H Q E h => ?_) (fun _ _ _ _ _ _ us hl => match us, hl with | [_, _], _ => rfl) (fun f cdv A outer s H vs Q E hr h => ⟨_, (pss_one (ps_expr (pe_cal c_check_text_between (hr.mono (by decide)) pass0 (pa_cons pe_int (pa_cons (pe_gi T.i_MOST_NUMBERS) (pa_cons (pv 0) (pa_cons (pv 1) pa_nil))))))), ?_⟩)
  · obtain ⟨g, b, p, s, a, ns, rfl, _⟩ := h
    rfl
  · obtain ⟨g, b, p, s, a, ns, rfl, sh, sq, hl, hin, q⟩ := h
    exact ⟨_, rfl, _, rfl, 0, 60, g, b, p, s, a, ns, rfl, sh, sq, by omega, by omega, hin, q⟩
def sp_bits (K : PySem.W.Frag) : Sp := fun vs H Q _ => ∃ g b p s x, vs = [g, .int x] ∧ IsSh K H g b p s ∧ 0 ≤ x ∧ RetL ((bits b x).map V.int) H Q
theorem cal_bits (T : Tx K mg) : Cal P w K mg base CX0 1 "_bits_of" ["shape", "number"] (sp_bits K) := by
  refine T.d_bits_of.cal sc_bits_of (fun vs H Q E h => ?_) (fun _ _ _ _ _ _ us hl => match us, hl with | [_, _], _ => rfl) (fun f cdv A outer s H vs Q E hr h => ⟨_, (pss_one (ps_ret (pe_lc rfl sc_bits_of.nd (pi_range1 rfl T.b_range (pa_cons (pe_ix ix_tup (pv 0) pe_int (fun _ _ => rfl)) pa_nil)) (blkOk_by (own := [("at", 2)]) (N := ["shape", "number", "at"]) (sc := defScope s_bits_of) (by decide +kernel)) (fun _ _ _ _ _ => (pg_name (i := 2) sc_bits_of.nd rfl (Or.inl rfl))) (fun _ _ _ _ _ => pts_nil) (fun _ _ _ _ _ => (pe_op op_and (pe_op op_shr (pv 1) (pv 2)) pe_int))))), ?_⟩)
  · obtain ⟨g, b, p, s, x, rfl, _⟩ := h
    rfl
  · obtain ⟨g, b, p, s, x, rfl, ⟨t, rfl, sq, h1, h2, _⟩, hx, q⟩ := h
    refine ⟨_, rfl, t, _, 0, .int b, rfl, rfl, sq, rfl, b, rfl, by omega, by omega, fun D hD => ?_⟩
    refine lc_range (lo := 0) (n := (b : Int).toNat) (fun i H' => Ex H H' ∧ H' D = some (.lst ((bits i x).map V.int))) ⟨Ex.new hD, upd_same⟩ (fun i H' hi ⟨e1, e2⟩ => ?_) (fun H' ⟨e1, e2⟩ => ?_)
    · refine ⟨rfl, ?_⟩
      refine ⟨_, rfl, _, rfl, x, _, rfl, rfl, by omega, _, 1, rfl, rfl, _, e2, ?_, e1.mut hD, ?_⟩
      · rw [List.length_map, bits_len]
        exact small1000 (by omega)
      · rw [upd_same, bits_succ, List.map_append]
        have e3 : ((0 : Int) + (i : Int)).toNat = i := by omega
        have e4 : Builtin.bitAnd (x / 2 ^ ((0 : Int) + (i : Int)).toNat) 1 = x / 2 ^ i % 2 := by
          rw [e3, ← Int.fdiv_eq_ediv_of_nonneg x (Int.pow_nonneg (by decide)), Bits.bit_at, Int.fdiv_eq_ediv_of_nonneg x (Int.pow_nonneg (by decide))]
        exact congrArg (fun z => some (HO.lst (List.map V.int (bits i x) ++ [V.int z]))) e4
    · rw [Int.toNat_natCast] at e2
      exact q D H' hD e1 e2
def parV (b : Nat) (p : Pa) (x : Int) : V := match p with
  | .no => .non
  | .ev => .int ((bits b x).sum % 2)
  | .od => .int (1 - (bits b x).sum % 2)
def sp_parity (K : PySem.W.Frag) : Sp := fun vs H Q _ => ∃ g b p s x, vs = [g, .int x] ∧ IsSh K H g b p s ∧ 0 ≤ x ∧ x < 2 ^ b ∧ RetV (parV b p x) H Q
theorem cal_parity (T : Tx K mg) : Cal P w K mg base CX0 5 "parity_of" ["shape", "number"] (sp_parity K) := by
  have c_check_shape := cal_check_shape (P := P) (w := w) (base := base) T
  have c_check_number := cal_check_number (P := P) (w := w) (base := base) T
  have c_bits_of := cal_bits (P := P) (w := w) (base := base) T
  refine T.d_parity_of.cal sc_parity_of (fun vs H Q E h => ?_) (fun _ _ _ _ _ _ us hl => match us, hl with | [_, _], _ => rfl) (fun f cdv A outer s H vs Q E hr h => ⟨_, (pss_cons (ps_expr (pe_cal c_check_shape (hr.mono (by decide)) pass0 (pa_cons (pv 0) pa_nil)))
      (pss_cons (ps_expr (pe_cal c_check_number (hr.mono (by decide)) pass0 (pa_cons (pv 0) (pa_cons (pv 1) pa_nil))))
      (pss_cons (ps_set (i := 2) sc_parity_of.nd rfl (Or.inl rfl) (pe_ix ix_tup (pv 0) pe_int (fun _ _ => rfl)))
      (pss_cons (ps_if (pt_cmpR op_eq (pv 2) pe_str (nomark _)) (pss_one (ps_ret pe_non)) pss_nil)
      (pss_cons (ps_set (i := 3) sc_parity_of.nd rfl (Or.inl rfl) (pe_op op_mod (pe_callB (cr_sum rfl) (by rfl) T.b_sum (by decide +kernel) (pa_cons (pe_cal c_bits_of (hr.mono (by decide)) pass0 (pa_cons (pv 0) (pa_cons (pv 1) pa_nil))) pa_nil)) pe_int))
      (pss_one (ps_ret (pe_ifExp (pt_cmpR op_eq (pv 2) pe_str (nomark _)) (pv 3) (pe_op op_sub pe_int (pv 3)))))))))), ?_⟩)
  · obtain ⟨g, b, p, s, x, rfl, _⟩ := h
    rfl
  · obtain ⟨g, b, p, s, x, rfl, sh, hx, hx2, q⟩ := h
    refine ⟨_, rfl, g, b, p, s, rfl, sh, _, rfl, _, rfl, g, b, p, s, x, rfl, sh, hx, hx2, ?_⟩
    obtain ⟨t, rfl, sq, h1, h2, h3, h4⟩ := id sh
    refine ⟨_, rfl, t, _, 1, .str p.s, rfl, rfl, sq, rfl, _, rfl, rfl, _, rfl, ?_⟩
    rw [no_is p]
    cases p with
    | no => exact iteT (q H (Ex.refl H))
    | ev =>
      refine iteF ⟨_, rfl, _, rfl, _, b, .ev, s, x, rfl, sh, hx, fun l H1 _ e1 hl => ?_⟩
      refine ⟨l, _, rfl, sq_of hl, _, _, rfl, rfl, (by show (0 : Int) < 2; decide), _, rfl, rfl, _, rfl, ?_⟩
      have e2 := ev_is' .ev
      refine (show (if decide (V.str Pa.ev.s = V.str "even") = true then _ else _) from ?_)
      rw [e2]
      exact iteT ⟨_, rfl, q H1 e1⟩
    | od =>
      refine iteF ⟨_, rfl, _, rfl, _, b, .od, s, x, rfl, sh, hx, fun l H1 _ e1 hl => ?_⟩
      refine ⟨l, _, rfl, sq_of hl, _, _, rfl, rfl, (by show (0 : Int) < 2; decide), _, rfl, rfl, _, rfl, ?_⟩
      have e2 := ev_is' .od
      refine (show (if decide (V.str Pa.od.s = V.str "even") = true then _ else _) from ?_)
      rw [e2]
      exact iteF ⟨_, rfl, _, _, rfl, rfl, q H1 e1⟩
theorem ref_non (a : Addr) : decide (V.ref a = V.non) = false := decide_eq_false (fun h => nomatch h)
def sp_frame (K : PySem.W.Frag) : Sp := fun vs H Q _ => ∃ g b p s x, vs = [g, .int x] ∧ IsSh K H g b p s ∧ 0 ≤ x ∧ x < 2 ^ b ∧ RetL ((frm b p s x).map V.int) H Q
theorem cal_frame (T : Tx K mg) : Cal P w K mg base CX0 6 "frame_of" ["shape", "number"] (sp_frame K) := by
  have c_parity_of := cal_parity (P := P) (w := w) (base := base) T
  have c_bits_of := cal_bits (P := P) (w := w) (base := base) T
  refine T.d_frame_of.cal sc_frame_of (fun vs H Q E h => ?_) (fun _ _ _ _ _ _ us hl => match us, hl with | [_, _], _ => rfl) (fun f cdv A outer s H vs Q E hr h => ⟨_, (pss_cons (ps_set (i := 2) sc_frame_of.nd rfl (Or.inl rfl) (pe_cal c_parity_of (hr.mono (by decide)) pass0 (pa_cons (pv 0) (pa_cons (pv 1) pa_nil))))
      (pss_cons (ps_set (i := 3) sc_frame_of.nd rfl (Or.inl rfl) (pe_ifExp (pt_cmpR op_isN (pv 2) pe_non (nomark _)) (pe_lst pa_nil) (pe_lst (pa_cons (pv 2) pa_nil))))
      (pss_cons (ps_set (i := 4) sc_frame_of.nd rfl (Or.inl rfl) (pe_op op_rep (pe_lst (pa_cons pe_int pa_nil)) (pe_ix ix_tup (pv 0) pe_int (fun _ _ => rfl))))
      (pss_one (ps_ret (pe_op op_cat (pe_op op_cat (pe_op op_cat (pe_lst (pa_cons pe_int pa_nil)) (pe_cal c_bits_of (hr.mono (by decide)) pass0 (pa_cons (pv 0) (pa_cons (pv 1) pa_nil)))) (pv 3)) (pv 4))))))), ?_⟩)
  · obtain ⟨g, b, p, s, x, rfl, _⟩ := h
    rfl
  · obtain ⟨g, b, p, s, x, rfl, sh, hx, hx2, q⟩ := h
    refine ⟨_, rfl, _, rfl, g, b, p, s, x, rfl, sh, hx, hx2, fun H1 e1 => ?_⟩
    obtain ⟨t, rfl, sq, h1, h2, h3, h4⟩ := id sh
    -- parity_bits
    have rest : ∀ (H2 : Hp) (l : Addr), Ex H H2 → H2 l = some (.lst ((parL b p x).map V.int)) →
        (tSeq (tAsg (tOp rRep (tLst (tCons (tC (.int 1)) tNil)) (tOp (rIxT K) (tVar 0) (tC (.int 2)))) (gName 4))
          (tRet (tOp rCat (tOp rCat (tOp rCat (tLst (tCons (tC (.int 0)) tNil)) (tCall (sp_bits K) [] E0 (tCons (tVar 0) (tCons (tVar 1) tNil)))) (tVar 3)) (tVar 4))))
          { nx := fun _ H' => Q .non H', rt := Q } [some (.ref t), some (.int x), some (parV b p x), some (.ref l), none] H2 := by
      intro H2 l e2 hl
      refine ⟨by decide, fun a1 n1 => ⟨_, rfl, t, _, 2, .int s, rfl, rfl, ex_t (e2.trans (Ex.new n1)) sq, rfl, a1, s, _, rfl, rfl, upd_same, by omega, by omega, ?_, fun a2 n2 => ?_⟩⟩
      · show 1 * (s : Int).toNat ≤ sizeLine
        rw [Int.toNat_natCast, sizeLine_eq]
        omega
      have e3 := (e2.trans (Ex.new n1 (o := .lst [.int 1]))).trans (Ex.new n2 (o := .lst (List.replicate (s : Int).toNat [V.int 1]).flatten))
      refine ⟨by decide, fun a3 n3 => ?_⟩
      have e4 := e3.trans (Ex.new n3 (o := .lst [.int 0]))
      refine ⟨_, rfl, _, rfl, _, b, p, s, x, rfl, sh.ex e4, hx, fun a4 H5 n4 e5 h5 => ?_⟩
      have e6 := e4.trans e5
      refine ⟨a3, a4, _, _, rfl, rfl, e5 _ _ upd_same, h5, ?_, fun a5 n5 => ?_⟩
      · rw [List.length_map, bits_len, sizeLine_eq]
        show 1 + b ≤ _
        omega
      have hl2 : (upd H2 a1 (.lst [.int 1])) l = some (.lst ((parL b p x).map V.int)) := Ex.new n1 _ _ hl
      have hl3 := Ex.new n2 (o := .lst (List.replicate (s : Int).toNat [V.int 1]).flatten) _ _ hl2
      have hl4 := Ex.new n3 (o := .lst [.int 0]) _ _ hl3
      have hl5 := e5 _ _ hl4
      refine ⟨_, rfl, a5, l, _, _, rfl, rfl, upd_same, Ex.new n5 _ _ hl5, ?_, fun a6 n6 => ?_⟩
      · have := parL_len b p x
        rw [List.length_append, List.length_map, List.length_map, bits_len, sizeLine_eq]
        show 1 + b + _ ≤ _
        omega
      have hs2 : (upd (upd H2 a1 (.lst [.int 1])) a2 (.lst (List.replicate (s : Int).toNat [V.int 1]).flatten)) a2 = some (.lst (List.replicate (s : Int).toNat [V.int 1]).flatten) := upd_same
      have hs4 := Ex.new n3 (o := .lst [.int 0]) _ _ hs2
      have hs5 := e5 _ _ hs4
      have hs6 := Ex.new n5 (o := .lst ([V.int 0] ++ (bits b x).map V.int)) _ _ hs5
      have er : (List.replicate (s : Int).toNat [V.int 1]).flatten = (List.replicate s (1 : Int)).map V.int := by
        rw [Int.toNat_natCast, List.map_replicate]
        simp
      refine ⟨_, rfl, a6, a2, _, _, rfl, rfl, upd_same, Ex.new n6 _ _ hs6, ?_, fun a7 n7 => ?_⟩
      · have := parL_len b p x
        rw [er, List.length_append, List.length_append, List.length_map, List.length_map, List.length_map, bits_len, List.length_replicate, sizeLine_eq]
        show 1 + b + _ + s ≤ _
        omega
      have e7 := ((e6.trans (Ex.new n5 (o := .lst ([V.int 0] ++ (bits b x).map V.int)))).trans (Ex.new n6 (o := .lst ([V.int 0] ++ (bits b x).map V.int ++ (parL b p x).map V.int)))).trans
        (Ex.new n7 (o := .lst ([V.int 0] ++ (bits b x).map V.int ++ (parL b p x).map V.int ++ (List.replicate (s : Int).toNat [V.int 1]).flatten)))
      refine q a7 _ ?_ e7 ?_
      · exact fresh_back (((e6.trans (Ex.new n5 (o := .lst ([V.int 0] ++ (bits b x).map V.int)))).trans (Ex.new n6 (o := .lst ([V.int 0] ++ (bits b x).map V.int ++ (parL b p x).map V.int))))) n7
      · refine (upd_same).trans ?_
        rw [er]
        simp [frm, List.map_append]
    cases p with
    | no => exact ⟨_, rfl, rfl, _, rfl, Nat.zero_le _, fun l n => rest _ l (e1.trans (Ex.new n)) upd_same⟩
    | ev => exact ⟨_, rfl, rfl, _, rfl, _, rfl, (by decide : 1 ≤ sizeLine), fun l n => rest _ l (e1.trans (Ex.new n)) upd_same⟩
    | od => exact ⟨_, rfl, rfl, _, rfl, _, rfl, (by decide : 1 ≤ sizeLine), fun l n => rest _ l (e1.trans (Ex.new n)) upd_same⟩
def sp_levels (K : PySem.W.Frag) : Sp := fun vs H Q _ => ∃ g b p s a ns, vs = [g, .ref a] ∧ IsSh K H g b p s ∧ SqL K H a (ns.map V.int) ∧ ns.length ≤ 60 ∧ InSh b ns ∧ RetL ((frms b p s ns).map V.int) H Q
theorem body_levels (T : Tx K mg) : ∀ (f : Addr) (cdv : Value) (A : Around) (outer : List Env) (s : Shared) (H : Hp) (vs : List V) (Q : VK) (E : XK), Room 6 (A.deeper (envOfC "levels_of" (defScope s_levels_of) s.heap.objs.size f cdv)) → sp_levels K vs H Q E →
      ∃ t, PSs (cxOf CX0 P w K mg base ["shape", "numbers", "levels", "number"] "levels_of" (defScope s_levels_of) f cdv A outer s H E).nox (defBody s_levels_of) t ∧ t { nx := fun _ H' => Q .non H', rt := Q } (start ["shape", "numbers", "levels", "number"] vs) H := by
  have c_check_shape := cal_check_shape (P := P) (w := w) (base := base) T
  have c_check_text := cal_check_text (P := P) (w := w) (base := base) T
  have c_frame_of := cal_frame (P := P) (w := w) (base := base) T
  refine fun f cdv A outer s H vs Q E hr h => ⟨_, (pss_cons (ps_expr (pe_cal c_check_shape (hr.mono (by decide)) pass0 (pa_cons (pv 0) pa_nil)))
      (pss_cons (ps_expr (pe_cal c_check_text (hr.mono (by decide)) pass0 (pa_cons (pv 0) (pa_cons (pv 1) pa_nil))))
      (pss_cons (ps_set (i := 2) sc_levels_of.nd rfl (Or.inl rfl) (pe_lst pa_nil))
      (pss_cons (ps_for PassesOwn.never rfl (pi_list (pv 1)) (pg_name (i := 3) sc_levels_of.nd rfl (Or.inl rfl)) (pss_one (ps_expr (pe_bm PySem.F.plainAttrs_list PySem.F.slot_list_extend PySem.F.type_list_extend mt_extend (pv 2) (pa_cons (pe_cal c_frame_of (hr.mono (by decide)) pass0 (pa_cons (pv 0) (pa_cons (pv 3) pa_nil))) pa_nil)))))
      (pss_one (ps_ret (pv 2))))))), ?_⟩
  obtain ⟨g, b, p, s, a, ns, rfl, sh, sq, hl, hin, q⟩ := h
  refine ⟨_, rfl, g, b, p, s, rfl, sh, _, rfl, _, rfl, g, b, p, s, a, ns, rfl, sh, sq, hl, hin, fun H1 e1 => ?_⟩
  refine ⟨Nat.zero_le _, fun L nL => ?_⟩
  have e2 : Ex H (upd H1 L (.lst [])) := e1.trans (Ex.new nL)
  have fL : H L = none := fresh_back e1 nL
  refine ⟨_, rfl, a, rfl, ⟨_, ex_l e2 sq⟩, for_list (K := K) (a := a) (xs := ns.map V.int) (fun i σ H2 => ∃ u, σ = [some g, some (.ref a), some (.ref L), u] ∧ Ex H H2 ∧ H2 L = some (.lst ((frms b p s (ns.take i)).map V.int)))
    ⟨none, rfl, e2, upd_same⟩ (fun i σ H2 _ ⟨_, _, e, _⟩ => ex_l e sq) ?_ ?_⟩
  · rintro i y σ H2 hi ⟨u, rfl, ex, hL⟩
    obtain ⟨z, hz, rfl⟩ : ∃ z, ns[i]? = some z ∧ y = V.int z := by
      rw [List.getElem?_map] at hi
      cases e : ns[i]? with
      | none =>
        rw [e] at hi
        cases hi
      | some z =>
        rw [e] at hi
        exact ⟨z, rfl, (Option.some.inj hi).symm⟩
    have hil := (List.getElem?_eq_some_iff.mp hz).1
    have hm : z ∈ ns := List.mem_of_getElem? hz
    refine ⟨_, rfl, .inl ⟨rfl, _, sq_of hL⟩, ?_⟩
    refine ⟨_, rfl, _, rfl, g, b, p, s, z, rfl, sh.ex ex, (hin z hm).1, (hin z hm).2, fun l H3 nl e3 h3 => ?_⟩
    refine ⟨L, l, _, _, rfl, rfl, e3 _ _ hL, h3, ?_, ?_⟩
    · have h1 := frms_le b p s (ns.take i)
      have h2 := frm_le b p s z
      have h4 : (ns.take i).length ≤ 60 := by
        rw [List.length_take]
        omega
      obtain ⟨_, _, _, _, hb, _, hs⟩ := sh
      have h5 : (ns.take i).length * (2 + b + s) ≤ 60 * 13 := Nat.mul_le_mul h4 (by omega)
      rw [List.length_map, List.length_map, sizeLine_eq]
      omega
    · refine ⟨_, rfl, ?_, ?_⟩
      · exact (ex.trans e3).mut fL
      · rw [upd_same, ← List.map_append, ← frms_snoc]
        rw [List.take_add_one, hz]
        rfl
  · rintro σ H2 ⟨u, rfl, ex, hL⟩
    rw [List.length_map, List.take_length] at hL
    exact ⟨_, rfl, q L H2 fL ex hL⟩
theorem len_levels {vs H Q} {E : XK} (h : sp_levels K vs H Q E) : vs.length = (["shape", "numbers"] : List Str).length := by
  obtain ⟨g, b, p, s, a, ns, rfl, _⟩ := h
  rfl
theorem cal_levels (T : Tx K mg) : Cal P w K mg base CX0 7 "levels_of" ["shape", "numbers"] (sp_levels K) :=
  T.d_levels_of.cal sc_levels_of (fun vs H Q E h => len_levels h) (fun _ _ _ _ _ _ us hl => match us, hl with | [_, _], _ => rfl) (body_levels T)
def gK2 {α : Type} (us ws : List α) : List α := match us, ws with
  | [], [a, b] => [b, a]
  | _, _ => []
theorem rel_gK2 {vs : List V} {us : List Value} {zs : List V} {ws : List Value} (r : Vals vs us) (rz : Vals zs ws) : Vals (gK2 vs zs) (gK2 us ws) := by
  cases r with
  | cons _ _ => exact .nil
  | nil =>
    cases rz with
    | nil => exact .nil
    | cons a r1 =>
      cases r1 with
      | nil => exact .nil
      | cons b r2 =>
        cases r2 with
        | nil => exact .cons b (.cons a .nil)
        | cons _ _ => exact .nil
theorem cal_levelsK (T : Tx K mg) : CalK P w K mg base CX0 7 "levels_of" ["numbers", "shape"] ["shape", "numbers"] gK2 (sp_levels K) := by
  refine T.d_levels_of.calK gK2 (fun kV doc pm an cdv ct us ws hl => ?_) rel_gK2 sc_levels_of (fun vs H Q E h => len_levels h) (body_levels T)
  match us, ws, hl with
  | [], [a, b], _ => rfl
end
end LW
namespace LW
open PySem PySem.Spec PyProof.Rows L2 Evl SB
section
variable {P : Program} {w : World} {K : PySem.W.Frag} {mg : Str → Option Value} {base : Heap}
/-! ### the law's draws -/
def sp_source (K : PySem.W.Frag) : Sp := fun vs H Q _ => ∃ (a : Addr) (ns : List Int) (i : Nat), vs = [.ref a, .int (i : Nat)] ∧ SqL K H a (ns.map V.int) ∧ i ≤ 1000 ∧ ∀ l H', H l = none → Ex H H' → Src H' l 0 → Q (.ref l) H'
theorem cal_source (T : Tx K mg) : Cal P w K mg base CX0 1 "_law_source" ["_law_script", "_law_at"] (sp_source K) := by
  refine T.d_law_source.cal sc_law_source (fun vs H Q E h => ?_) (fun _ _ _ _ _ _ us hl => match us, hl with | [_, _], _ => rfl) (fun f cdv A outer s H vs Q E hr h => ⟨_, (pss_cons (ps_set (i := 2) sc_law_source.nd rfl (Or.inl rfl) (pe_ifExp (pt_cmpR op_lt (pv 1) (pe_callB call_len_seq (by rfl) T.b_len (by decide +kernel) (pa_cons (pv 0) pa_nil)) (nomark _)) (pe_ix ix_list (pv 0) (pv 1) (fun _ _ => rfl)) pe_int))
      (pss_cons (ps_set (i := 3) sc_law_source.nd rfl (Or.inl rfl) (pe_ifExp (pt_cmpR op_ge (pe_callB call_abs (by rfl) T.b_abs (by decide +kernel) (pa_cons (pv 2) pa_nil)) (pe_op op_powB pe_int pe_int) (nomark _)) (pe_op op_sub (pe_callB call_abs (by rfl) T.b_abs (by decide +kernel) (pa_cons (pv 2) pa_nil)) (pe_op op_powB pe_int pe_int)) pe_int))
      (pss_one (ps_ret (pe_lst (pa_cons (pv 3) (pa_cons (pe_op op_add (pe_op op_mod (pe_callTy call_int1 (by rfl) T.b_int (by decide +kernel) (pa_cons (pv 2) pa_nil)) pe_int) (pe_op op_mul pe_int (pv 1))) (pa_cons pe_int pa_nil)))))))), ?_⟩)
  · obtain ⟨a, ns, i, rfl, _⟩ := h
    rfl
  · obtain ⟨a, ns, i, rfl, sq, hi, q⟩ := h
    refine seq_any (P := fun v => ∃ z : Int, v = .int z) (fun Q' k => ?_) ?_
    · refine ⟨_, rfl, _, rfl, a, _, rfl, .inl sq, _, _, rfl, rfl, _, rfl, ite2 (fun h => ?_) (fun _ => k _ ⟨0, rfl⟩)⟩
      have h1 : i < ns.length := by
        have h2 := of_decide_eq_true h
        rw [List.length_map] at h2
        omega
      have g : (ns.map V.int)[i]? = some (.int ns[i]) := by
        rw [List.getElem?_map, List.getElem?_eq_getElem h1]
        rfl
      exact ⟨_, rfl, _, rfl, a, _, _, _, rfl, rfl, sq, atI_nat g, k _ ⟨_, rfl⟩⟩
    rintro _ ⟨z, rfl⟩
    refine seq_any (P := fun v => ∃ z : Int, v = .int z) (fun Q' k => ?_) ?_
    · refine ⟨_, rfl, z, rfl, 10, 18, rfl, rfl, cpow10 18 (by decide) (by decide), _, _, rfl, rfl, _, rfl, ite2 (fun h => ?_) (fun _ => k _ ⟨0, rfl⟩)⟩
      exact ⟨_, rfl, z, rfl, 10, 18, rfl, rfl, cpow10 18 (by decide) (by decide), _, _, rfl, rfl, k _ ⟨_, rfl⟩⟩
    rintro _ ⟨y, rfl⟩
    refine ⟨_, rfl, _, rfl, .inl ⟨z, rfl, _, _, rfl, rfl, (by show (0 : Int) < 2305843009213693951; decide), _, rfl, _, _, rfl, rfl, .inl ⟨by decide, by decide⟩, _, _, rfl, rfl, (by show 3 ≤ sizeLine; decide), fun l nl => ?_⟩⟩
    refine q l _ nl (Ex.new nl) ⟨_, _, _, upd_same, ?_, ?_, Int.le_refl _, Int.le_refl _⟩
    · have h1 := Int.emod_nonneg z (show (2305843009213693951 : Int) ≠ 0 by decide)
      show 0 ≤ z % 2305843009213693951 + 1000003 * (i : Int)
      omega
    · have h1 := Int.emod_lt_of_pos z (show (0 : Int) < 2305843009213693951 by decide)
      show z % 2305843009213693951 + 1000003 * (i : Int) < 4611686018427387904
      omega
def sp_draw : Sp := fun vs H Q _ => ∃ (a : Addr) (m : Int) (n : Nat), vs = [.ref a, .int m] ∧ Src H a n ∧ n ≤ 1000000 ∧ 0 < m ∧ m < 2 ^ 200 ∧
  ∀ d H', 0 ≤ d → d < m → Src H' a (n + 1) → Kp a H H' → Q (.int d) H'
theorem cal_draw (T : Tx K mg) : Cal P w K mg base CX0 1 "_law_draw" ["_law_source_here", "_law_many"] sp_draw := by
  refine T.d_law_draw.cal sc_law_draw (fun vs H Q E h => ?_) (fun _ _ _ _ _ _ us hl => match us, hl with | [_, _], _ => rfl) (fun f cdv A outer s H vs Q E hr h => ⟨_, (pss_cons (ps_if (pt_cmpR op_gt (pe_ix ix_list (pv 0) pe_int (fun _ _ => rfl)) pe_int (nomark _)) (pss_cons (ps_set (i := 2) sc_law_draw.nd rfl (Or.inl rfl) (pe_op op_mod (pe_callTy call_int1 (by rfl) T.b_int (by decide +kernel) (pa_cons (pe_ix ix_list (pv 0) pe_int (fun _ _ => rfl)) pa_nil)) (pv 1)))
      (pss_cons (ps_asg (pe_op op_fdivW (pe_ix ix_list (pv 0) pe_int (fun _ _ => rfl)) (pv 1)) (pg_sub (pv 0) pe_int set_list))
      (pss_one (ps_ret (pv 2))))) pss_nil)
      (pss_cons (ps_asg (pe_op op_add (pe_ix ix_list (pv 0) pe_int (fun _ _ => rfl)) pe_int) (pg_sub (pv 0) pe_int set_list))
      (pss_cons (ps_set (i := 3) sc_law_draw.nd rfl (Or.inl rfl) (pe_op op_add (pe_ix ix_list (pv 0) pe_int (fun _ _ => rfl)) (pe_op op_mul pe_int (pe_ix ix_list (pv 0) pe_int (fun _ _ => rfl)))))
      (pss_cons (ps_set (i := 3) sc_law_draw.nd rfl (Or.inl rfl) (pe_op op_add (pe_op op_mod (pe_callTy call_int1 (by rfl) T.b_int (by decide +kernel) (pa_cons (pe_op op_powB (pv 3) pe_int) pa_nil)) (pe_op op_add (pe_op op_powB pe_int pe_int) pe_int)) (pe_op op_mul pe_int (pe_ix ix_list (pv 0) pe_int (fun _ _ => rfl)))))
      (pss_cons (ps_set (i := 3) sc_law_draw.nd rfl (Or.inl rfl) (pe_op op_mod (pe_callTy call_int1 (by rfl) T.b_int (by decide +kernel) (pa_cons (pe_op op_powB (pv 3) pe_int) pa_nil)) (pe_op op_add (pe_op op_powB pe_int pe_int) pe_int)))
      (pss_one (ps_ret (pe_op op_mod (pe_callTy call_int1 (by rfl) T.b_int (by decide +kernel) (pa_cons (pe_op op_fdivW (pv 3) pe_int) pa_nil)) (pv 1))))))))), ?_⟩)
  · obtain ⟨a, m, n, rfl, _⟩ := h
    rfl
  · obtain ⟨a, m, n, rfl, ⟨l, sd, c, hH, s0, s1, c0, c1⟩, hn, m0, m1, q⟩ := h
    have sq := sq_of (K := K) hH
    have wd : CDivW 0 m := wide_div (b := 200) m0 (by
      have e : (2 : Int) ^ 200 = ((2 ^ 200 : Nat) : Int) := by norm_cast
      omega) (by decide) (by decide)
    refine ⟨_, rfl, a, _, 0, _, rfl, rfl, sq, rfl, l, 0, rfl, rfl, _, rfl, ite2 (fun h => ?_) (fun _ => ?_)⟩
    · refine ⟨_, rfl, a, _, 0, _, rfl, rfl, sq, rfl, .inl ⟨l, rfl, _, rfl, _, _, rfl, rfl, m0, ?_⟩⟩
      refine ⟨_, rfl, a, _, 0, _, rfl, rfl, sq, rfl, _, rfl, _, _, rfl, rfl, wd, _, rfl, a, _, 0, 0, rfl, rfl, hH, rfl, ?_⟩
      exact ⟨_, rfl, q _ _ (Int.emod_nonneg l (by omega)) (Int.emod_lt_of_pos l m0) ⟨_, sd, c, upd_same, s0, s1, c0, by omega⟩ Kp.upd⟩
    · refine ⟨_, rfl, a, _, 2, _, rfl, rfl, sq, rfl, c, 1, rfl, rfl, _, rfl, a, _, 2, 2, rfl, rfl, hH, rfl, ?_⟩
      have h1 : (upd H a (.lst ([V.int l, .int sd, .int c].set 2 (.int (c + 1))))) a = some (.lst [.int l, .int sd, .int (c + 1)]) := upd_same
      have kp : Kp a H (upd H a (.lst ([V.int l, .int sd, .int c].set 2 (.int (c + 1))))) := Kp.upd
      generalize upd H a (.lst ([V.int l, .int sd, .int c].set 2 (.int (c + 1)))) = H1 at h1 kp
      have sq1 := sq_of (K := K) h1
      have src1 : Src H1 a (n + 1) := ⟨l, sd, c + 1, h1, s0, s1, by omega, by omega⟩
      refine ⟨_, rfl, a, _, 1, _, rfl, rfl, sq1, rfl, _, rfl, a, _, 2, _, rfl, rfl, sq1, rfl, _, _, rfl, rfl, .inl ⟨by decide, by decide⟩, _, _, rfl, rfl, ?_⟩
      have b1 : 0 ≤ sd + 2750159 * (c + 1) ∧ sd + 2750159 * (c + 1) < 2 ^ 250 := ⟨by omega, by omega⟩
      refine ⟨_, rfl, _, 3, rfl, rfl, cpow3 b1.1 b1.2, .inl ⟨_, rfl, 10, 38, rfl, rfl, cpow10 38 (by decide) (by decide), _, _, rfl, rfl, _, _, rfl, rfl, ?_, _, rfl, a, _, 2, _, rfl, rfl, sq1, rfl, _, _, rfl, rfl, .inl ⟨by decide, by decide⟩, _, _, rfl, rfl, ?_⟩⟩
      · show (0 : Int) < 10 ^ (38 : Int).toNat + 133
        decide
      have b2 : 0 ≤ (sd + 2750159 * (c + 1)) ^ (3 : Int).toNat % (10 ^ (38 : Int).toNat + 133) + 7368787 * (c + 1) ∧ (sd + 2750159 * (c + 1)) ^ (3 : Int).toNat % (10 ^ (38 : Int).toNat + 133) + 7368787 * (c + 1) < 2 ^ 250 := by
        have e : (10 : Int) ^ (38 : Int).toNat + 133 = 100000000000000000000000000000000000133 := by decide
        rw [e]
        generalize (sd + 2750159 * (c + 1)) ^ (3 : Int).toNat = u
        omega
      refine ⟨_, rfl, _, 3, rfl, rfl, cpow3 b2.1 b2.2, .inl ⟨_, rfl, 10, 41, rfl, rfl, cpow10 41 (by decide) (by decide), _, _, rfl, rfl, _, _, rfl, rfl, ?_, ?_⟩⟩
      · show (0 : Int) < 10 ^ (41 : Int).toNat + 217
        decide
      refine ⟨_, rfl, _, _, rfl, rfl, wide_div (b := 20) (by decide) (by decide) (by decide) (by decide), .inl ⟨_, rfl, _, rfl, _, _, rfl, rfl, m0, ?_⟩⟩
      exact q _ _ (Int.emod_nonneg _ (by omega)) (Int.emod_lt_of_pos _ m0) src1 kp
def sp_shape (K : PySem.W.Frag) : Sp := fun vs H Q _ => ∃ (a : Addr) (n : Nat), vs = [.ref a] ∧ Src H a n ∧ n ≤ 900000 ∧
  ∀ t b p s H', H t = none → Kp a H H' → Src H' a (n + 3) → H' t = some (.tup [.int (b : Nat), .str (Pa.s p), .int (s : Nat)]) → 1 ≤ b → b ≤ 9 → 1 ≤ s → s ≤ 2 → Q (.ref t) H'
theorem pa_at (d : Int) (h0 : 0 ≤ d) (h1 : d < 3) : ∃ p : Pa, atI [V.str "none", .str "even", .str "odd"] d = some (.str p.s) := by
  have : d = 0 ∨ d = 1 ∨ d = 2 := by omega
  rcases this with rfl | rfl | rfl
  · exact ⟨.no, rfl⟩
  · exact ⟨.ev, rfl⟩
  · exact ⟨.od, rfl⟩
theorem cal_shape (T : Tx K mg) : Cal P w K mg base CX0 2 "_law_shape" ["_law_source_here"] (sp_shape K) := by
  have c_law_draw := cal_draw (P := P) (w := w) (base := base) T
  refine T.d_law_shape.cal sc_law_shape (fun vs H Q E h => ?_) (fun _ _ _ _ _ _ us hl => match us, hl with | [_], _ => rfl) (fun f cdv A outer s H vs Q E hr h => ⟨_, (pss_cons (ps_set (i := 1) sc_law_shape.nd rfl (Or.inl rfl) (pe_ix ix_list (pe_lst (pa_cons pe_str (pa_cons pe_str (pa_cons pe_str pa_nil)))) (pe_cal c_law_draw (hr.mono (by decide)) pass0 (pa_cons (pv 0) (pa_cons pe_int pa_nil))) (fun _ _ => rfl)))
      (pss_one (ps_ret (pe_tup (pa_cons (pe_op op_add pe_int (pe_cal c_law_draw (hr.mono (by decide)) pass0 (pa_cons (pv 0) (pa_cons pe_int pa_nil)))) (pa_cons (pv 1) (pa_cons (pe_op op_add pe_int (pe_cal c_law_draw (hr.mono (by decide)) pass0 (pa_cons (pv 0) (pa_cons pe_int pa_nil)))) pa_nil))))))), ?_⟩)
  · obtain ⟨a, n, rfl, _⟩ := h
    rfl
  · obtain ⟨a, n, rfl, src, hn, q⟩ := h
    refine ⟨by decide, fun L nL => ?_⟩
    have L_a := src.ne nL
    refine ⟨_, rfl, a, 3, n, rfl, src.ex (Ex.new nL), by omega, by decide, by decide, fun d H1 d0 d1 src1 k1 => ?_⟩
    obtain ⟨p, hp⟩ := pa_at d d0 d1
    refine ⟨L, _, d, _, rfl, rfl, sq_of (k1 L _ L_a upd_same), hp, ?_⟩
    refine ⟨_, rfl, a, 9, n + 1, rfl, src1, by omega, by decide, by decide, fun d2 H2 d20 d21 src2 k2 => ⟨_, _, rfl, rfl, _, rfl, _, rfl, a, 2, n + 2, rfl, src2, by omega, by decide, by decide, fun d3 H3 d30 d31 src3 k3 => ⟨_, _, rfl, rfl, (by show 3 ≤ sizeLine; decide), fun t nt => ?_⟩⟩⟩
    have t_a := src3.ne nt
    obtain ⟨b, hb⟩ : ∃ b : Nat, 1 + d2 = (b : Int) := ⟨(1 + d2).toNat, by omega⟩
    obtain ⟨s, hs⟩ : ∃ s : Nat, 1 + d3 = (s : Int) := ⟨(1 + d3).toNat, by omega⟩
    have kk : Kp a H (upd H3 t (.tup [.int (1 + d2), .str p.s, .int (1 + d3)])) := (((Ex.kp (Ex.new nL)).trans k1).trans (k2.trans k3)).trans (Ex.kp (Ex.new nt))
    have ft : H t = none := Kp.free (((Ex.kp (Ex.new nL)).trans k1).trans (k2.trans k3)) nt t_a
    refine q t b p s _ ft kk (src3.ex (Ex.new nt)) ?_ (by omega) (by omega) (by omega) (by omega)
    rw [← hb, ← hs]
    exact upd_same
/-! ### the law's own frames -/
theorem cal_lframe (T : Tx K mg) : Cal P w K mg base CX0 1 "_law_frame" ["_law_form", "_law_number"] (sp_frame K) := by
  refine T.d_law_frame.cal sc_law_frame (fun vs H Q E h => ?_) (fun _ _ _ _ _ _ us hl => match us, hl with | [_, _], _ => rfl) (fun f cdv A outer s H vs Q E hr h => ⟨_, (pss_cons (ps_par (i := 2) (j := 3) (by rfl) sc_law_frame.nd rfl rfl (by decide) rfl rfl (pa_cons (pe_lst pa_nil) (pa_cons (pv 1) pa_nil)) (by rfl))
      (pss_cons (ps_for PassesOwn.never rfl (pi_range1 rfl T.b_range (pa_cons (pe_ix ix_tup (pv 0) pe_int (fun _ _ => rfl)) pa_nil)) (pg_name (i := 4) sc_law_frame.nd rfl (Or.inl rfl)) (pss_cons (ps_expr (pe_bm PySem.F.plainAttrs_list PySem.F.slot_list_append PySem.F.type_list_append mt_append (pv 2) (pa_cons (pe_op op_mod (pe_callTy call_int1 (by rfl) T.b_int (by decide +kernel) (pa_cons (pv 3) pa_nil)) pe_int) pa_nil)))
      (pss_one (ps_set (i := 3) sc_law_frame.nd rfl (Or.inl rfl) (pe_op op_fdivW (pv 3) pe_int)))))
      (Evl.pss_cut (ps_if (pt_cmpR op_eq (pe_ix ix_tup (pv 0) pe_int (fun _ _ => rfl)) pe_str (nomark _)) (pss_one (ps_expr (pe_bm PySem.F.plainAttrs_list PySem.F.slot_list_append PySem.F.type_list_append mt_append (pv 2) (pa_cons (pe_op op_mod (pe_callTy call_int1 (by rfl) T.b_int (by decide +kernel) (pa_cons (pe_callB (cr_sum rfl) (by rfl) T.b_sum (by decide +kernel) (pa_cons (pv 2) pa_nil)) pa_nil)) pe_int) pa_nil)))) (pss_one (ps_if (pt_cmpR op_eq (pe_ix ix_tup (pv 0) pe_int (fun _ _ => rfl)) pe_str (nomark _)) (pss_one (ps_expr (pe_bm PySem.F.plainAttrs_list PySem.F.slot_list_append PySem.F.type_list_append mt_append (pv 2) (pa_cons (pe_op op_sub pe_int (pe_op op_mod (pe_callTy call_int1 (by rfl) T.b_int (by decide +kernel) (pa_cons (pe_callB (cr_sum rfl) (by rfl) T.b_sum (by decide +kernel) (pa_cons (pv 2) pa_nil)) pa_nil)) pe_int)) pa_nil)))) pss_nil)))
      (pss_one (ps_ret (pe_op op_cat (pe_op op_cat (pe_lst (pa_cons pe_int pa_nil)) (pv 2)) (pe_op op_rep (pe_lst (pa_cons pe_int pa_nil)) (pe_ix ix_tup (pv 0) pe_int (fun _ _ => rfl))))))))), ?_⟩)
  · obtain ⟨g, b, p, s, x, rfl, _⟩ := h
    rfl
  · obtain ⟨g, b, p, s, x, rfl, ⟨t, rfl, sq, h1, h2, h3, h4⟩, hx, hx2, q⟩ := h
    refine ⟨Nat.zero_le _, fun L nL => ⟨_, rfl, _, _, rfl, ?_⟩⟩
    refine ⟨_, rfl, t, _, 0, .int b, rfl, rfl, ex_t (Ex.new nL) sq, rfl, b, rfl, by omega, by omega, ?_⟩
    refine for_range (lo := 0) (n := (b : Int).toNat) (fun i σ H1 => ∃ u, σ = [some (.ref t), some (.int x), some (.ref L), some (.int (x / 2 ^ i)), u] ∧ Ex H H1 ∧ H1 L = some (.lst ((bits i x).map V.int)))
      ⟨none, by simp [L2.start], Ex.new nL, upd_same⟩ ?_ ?_
    · rintro i σ H1 hi ⟨u, rfl, ex, hL⟩
      refine ⟨_, rfl, .inl ⟨rfl, _, sq_of hL⟩, _, rfl, .inl ⟨_, rfl, _, _, rfl, rfl, (by show (0 : Int) < 2; decide), L, _, _, rfl, rfl, hL, ?_, ?_⟩⟩
      · rw [List.length_map, bits_len]
        exact small1000 (by omega)
      refine ⟨_, rfl, _, _, rfl, rfl, wide_div (b := 3) (by decide) (by decide) (by decide) (by decide), ?_⟩
      refine ⟨some (.int (0 + (i : Int))), ?_, ex.mut nL, ?_⟩
      · rw [← div_step]
        rfl
      · rw [upd_same, bits_succ, List.map_append]
        rfl
    · rintro σ H1 ⟨u, rfl, ex, hL⟩
      rw [Int.toNat_natCast] at hL
      have sq1 := ex_t ex sq
      refine ⟨fun σ' H' => ∃ y u, σ' = [some (.ref t), some (.int x), some (.ref L), y, u] ∧ Ex H H' ∧ H' L = some (.lst ((bits b x ++ parL b p x).map V.int)), ?_, ?_⟩
      · have sm : (bits b x).length < sizeLine := by
          rw [bits_len]
          exact small1000 (by omega)
        have rd : ∀ H2, Ex H H2 → SqT K H2 t [.int b, .str p.s, .int s] := fun H2 e => ex_t e sq
        refine ⟨_, rfl, t, _, 1, .str p.s, rfl, rfl, sq1, rfl, rfl, _, rfl, ?_⟩
        rw [ev_is' p]
        cases p with
        | no =>
          refine iteF ⟨_, rfl, t, _, 1, .str Pa.no.s, rfl, rfl, sq1, rfl, rfl, _, rfl, ?_⟩
          rw [od_is .no]
          refine iteF ⟨_, _, rfl, ex, ?_⟩
          rw [hL]
          simp [parL]
        | ev =>
          refine iteT ⟨_, rfl, .inl ⟨rfl, _, sq_of hL⟩, _, rfl, L, _, rfl, sq_of hL, .inl ⟨_, rfl, _, _, rfl, rfl, (by show (0 : Int) < 2; decide), L, _, _, rfl, rfl, hL, by rw [List.length_map]; exact sm, ?_⟩⟩
          refine ⟨_, _, rfl, ex.mut nL, ?_⟩
          rw [upd_same, List.map_append]
          rfl
        | od =>
          refine iteF ⟨_, rfl, t, _, 1, .str Pa.od.s, rfl, rfl, sq1, rfl, rfl, _, rfl, ?_⟩
          rw [od_is .od]
          refine iteT ⟨_, rfl, .inl ⟨rfl, _, sq_of hL⟩, _, rfl, L, _, rfl, sq_of hL, .inl ⟨_, rfl, _, _, rfl, rfl, (by show (0 : Int) < 2; decide), _, _, rfl, rfl, L, _, _, rfl, rfl, hL, by rw [List.length_map]; exact sm, ?_⟩⟩
          refine ⟨_, _, rfl, ex.mut nL, ?_⟩
          rw [upd_same, List.map_append]
          rfl
      · rintro σ' H' ⟨y, u, rfl, ex', hL'⟩
        have pl := parL_len b p x
        have len1 : ((bits b x ++ parL b p x).map V.int).length ≤ 10 := by
          rw [List.length_map, List.length_append, bits_len]
          omega
        have mk : EvL (tOp rCat (tOp rCat (tLst (tCons (tC (.int 0)) tNil)) (tVar 2)) (tOp rRep (tLst (tCons (tC (.int 1)) tNil)) (tOp (rIxT K) (tVar 0) (tC (.int 2))))) [some (.ref t), some (.int x), some (.ref L), y, u] H'
            (([V.int 0] ++ (bits b x ++ parL b p x).map V.int) ++ (List.replicate (s : Int).toNat [V.int 1]).flatten) := by
          refine el_cat (evx_new (el_cat (evx_new (el_lst (ea_cons ev_c ea_nil) (by decide))) (evx_var rfl hL') ?_)) (evx_new (el_rep (evx_new (el_lst (ea_cons ev_c ea_nil) (by decide))) (ev_ixT (ev_var rfl) ev_c (ex_t ex' sq) rfl) (by omega) (by omega) ?_)) ?_
          · show 1 + _ ≤ _
            omega
          · show 1 * (s : Int).toNat ≤ _
            omega
          · rw [rep_one, List.length_append, List.length_map (as := List.replicate s (1 : Int)), List.length_replicate]
            show 1 + _ + _ ≤ _
            omega
        refine mk H' (Ex.refl H') _ fun l H2 nl e2 h2 => q l H2 (fresh_back ex' nl) (ex'.trans e2) ?_
        rw [h2, rep_one]
        simp [frm, List.map_append]
end
section
variable {P : Program} {w : World} {K : PySem.W.Frag} {mg : Str → Option Value} {base : Heap}
/-! ### texts -/
def sp_text (K : PySem.W.Frag) : Sp := fun vs H Q _ => ∃ (a : Addr) (n : Nat) (g : V) (b : Nat) (p : Pa) (s m : Nat), vs = [.ref a, g, .int (m : Nat)] ∧ Src H a n ∧ n ≤ 500000 ∧ IsSh K H g b p s ∧ m ≤ 100 ∧
  ∀ L ns H', H L = none → Kp a H H' → Src H' a (n + 3 * m) → ns.length = m → InSh b ns → H' L = some (.lst (ns.map V.int)) → Q (.ref L) H'
theorem cal_text (T : Tx K mg) : Cal P w K mg base CX0 2 "_law_text" ["_law_source_here", "_law_form", "_law_many"] (sp_text K) := by
  have c_law_draw := cal_draw (P := P) (w := w) (base := base) T
  refine T.d_law_text.cal sc_law_text (fun vs H Q E h => ?_) (fun _ _ _ _ _ _ us hl => match us, hl with | [_, _, _], _ => rfl) (fun f cdv A outer s H vs Q E hr h => ⟨_, (pss_cons (ps_set (i := 3) sc_law_text.nd rfl (Or.inl rfl) pe_int)
      (pss_cons (ps_for PassesOwn.never rfl (pi_range1 rfl T.b_range (pa_cons (pe_ix ix_tup (pv 1) pe_int (fun _ _ => rfl)) pa_nil)) (pg_name (i := 4) sc_law_text.nd rfl (Or.inl rfl)) (pss_one (ps_set (i := 3) sc_law_text.nd rfl (Or.inl rfl) (pe_op op_mul pe_int (pv 3)))))
      (pss_cons (ps_set (i := 5) sc_law_text.nd rfl (Or.inl rfl) (pe_lst pa_nil))
      (pss_cons (ps_for PassesOwn.never rfl (pi_range1 rfl T.b_range (pa_cons (pv 2) pa_nil)) (pg_name (i := 4) sc_law_text.nd rfl (Or.inl rfl)) (pss_one (ps_expr (pe_bm PySem.F.plainAttrs_list PySem.F.slot_list_append PySem.F.type_list_append mt_append (pv 5) (pa_cons (pe_ix ix_list (pe_lst (pa_cons pe_int (pa_cons (pe_op op_sub (pv 3) pe_int) (pa_cons (pe_cal c_law_draw (hr.mono (by decide)) pass0 (pa_cons (pv 0) (pa_cons (pv 3) pa_nil))) (pa_cons (pe_cal c_law_draw (hr.mono (by decide)) pass0 (pa_cons (pv 0) (pa_cons (pv 3) pa_nil))) pa_nil))))) (pe_cal c_law_draw (hr.mono (by decide)) pass0 (pa_cons (pv 0) (pa_cons pe_int pa_nil))) (fun _ _ => rfl)) pa_nil)))))
      (pss_one (ps_ret (pv 5))))))), ?_⟩)
  · obtain ⟨a, n, g, b, p, s, m, rfl, _⟩ := h
    rfl
  · obtain ⟨a, n, g, b, p, s, m, rfl, src, hn, ⟨t, rfl, sq, h1, h2, h3, h4⟩, hm, q⟩ := h
    refine ⟨_, rfl, t, _, 0, .int b, rfl, rfl, sq, rfl, b, rfl, by omega, by omega, ?_⟩
    refine for_range (lo := 0) (n := (b : Int).toNat) (fun i σ H1 => ∃ u, σ = [some (.ref a), some (.ref t), some (.int (m : Nat)), some (.int (2 ^ i)), u, none] ∧ H1 = H)
      ⟨none, rfl, rfl⟩ ?_ ?_
    · rintro i σ H1 hi ⟨u, rfl, rfl⟩
      refine ⟨_, rfl, _, _, rfl, rfl, .inl ⟨by decide, by decide⟩, some (.int (0 + (i : Int))), ?_, rfl⟩
      show [some (V.ref a), some (.ref t), some (.int (m : Nat)), some (.int (2 * 2 ^ i)), some (.int (0 + (i : Int))), none] = _
      rw [Int.pow_succ, Int.mul_comm]
    rintro σ H1 ⟨u, rfl, rfl⟩
    rw [Int.toNat_natCast]
    refine ⟨Nat.zero_le _, fun L nL => ?_⟩
    have L_a := src.ne nL
    have p1 : (1 : Int) ≤ 2 ^ b := by
      have : (0 : Int) < 2 ^ b := Int.pow_pos (by decide)
      omega
    have p2 : (2 : Int) ^ b < 2 ^ 200 := by
      have e : (2 : Int) ^ b = ((2 ^ b : Nat) : Int) := by norm_cast
      have e2 : (2 : Int) ^ 200 = ((2 ^ 200 : Nat) : Int) := by norm_cast
      have : (2 : Nat) ^ b < 2 ^ 200 := Nat.pow_lt_pow_right (by decide) (by omega)
      omega
    refine ⟨_, rfl, m, rfl, by omega, by omega, ?_⟩
    refine for_range (lo := 0) (n := ((m : Nat) : Int).toNat) (fun i σ H2 => ∃ u ns, σ = [some (.ref a), some (.ref t), some (.int (m : Nat)), some (.int (2 ^ b)), u, some (.ref L)] ∧ Kp a H1 H2 ∧ Src H2 a (n + 3 * i) ∧ ns.length = i ∧ InSh b ns ∧ H2 L = some (.lst (ns.map V.int)))
      ⟨u, [], rfl, Ex.kp (Ex.new nL), src.ex (Ex.new nL), rfl, (fun _ h => by cases h), upd_same⟩ ?_ ?_
    · rintro i σ H2 hi ⟨u, ns, rfl, kp, sr, hl, hin, hL⟩
      refine ⟨_, rfl, .inl ⟨rfl, _, sq_of hL⟩, ?_⟩
      refine ⟨_, rfl, _, _, rfl, rfl, _, rfl, _, rfl, a, _, _, rfl, sr, by omega, by omega, p2, fun d1 H3 d10 d11 s1 k1 => ?_⟩
      refine ⟨_, rfl, _, rfl, a, _, _, rfl, s1, by omega, by omega, p2, fun d2 H4 d20 d21 s2 k2 => ⟨(by show 4 ≤ sizeLine; decide), fun M nM => ?_⟩⟩
      have M_a := s2.ne nM
      refine ⟨_, rfl, a, 4, _, rfl, s2.ex (Ex.new nM), by omega, by decide, by decide, fun d3 H5 d30 d31 s3 k3 => ?_⟩
      have hM : H5 M = some (.lst [.int 0, .int (2 ^ b - 1), .int d1, .int d2]) := k3 M _ M_a upd_same
      obtain ⟨y, hy, y0, y1⟩ : ∃ y : Int, atI [V.int 0, .int (2 ^ b - 1), .int d1, .int d2] d3 = some (.int y) ∧ 0 ≤ y ∧ y < 2 ^ b := by
        have : d3 = 0 ∨ d3 = 1 ∨ d3 = 2 ∨ d3 = 3 := by omega
        rcases this with rfl | rfl | rfl | rfl
        · exact ⟨0, rfl, by omega, by omega⟩
        · exact ⟨_, rfl, by omega, by omega⟩
        · exact ⟨_, rfl, d10, d11⟩
        · exact ⟨_, rfl, d20, d21⟩
      refine ⟨M, _, d3, _, rfl, rfl, sq_of hM, hy, ?_⟩
      have kk : Kp a H2 H5 := ((k1.trans k2).trans (Ex.kp (Ex.new nM))).trans k3
      have hL5 := kk L _ L_a hL
      refine ⟨L, _, _, rfl, rfl, hL5, ?_, ?_⟩
      · rw [List.length_map]
        exact small1000 (by omega)
      refine ⟨some (.int (0 + (i : Int))), ns ++ [y], rfl, ?_, ?_, by rw [List.length_append, hl]; rfl, ?_, ?_⟩
      · exact (kp.trans kk).mut nL
      · exact (s3.mono (by omega)).upd L_a
      · intro z hz
        rcases List.mem_append.mp hz with h | h
        · exact hin z h
        · rw [List.mem_singleton.mp h]
          exact ⟨y0, y1⟩
      · rw [upd_same, List.map_append]
        rfl
    · rintro σ H2 ⟨u, ns, rfl, kp, sr, hl, hin, hL⟩
      rw [Int.toNat_natCast] at sr hl
      exact ⟨_, rfl, q L ns H2 nL kp sr hl hin hL⟩
end
end LW
namespace LW
open PySem PySem.Spec PyProof.Rows L2 Evl SB
section
variable {P : Program} {w : World} {K : PySem.W.Frag} {mg : Str → Option Value} {base : Heap}
/-! ### sizes, lengths, ticks -/
def sp_size (K : PySem.W.Frag) : Sp := fun vs H Q _ => ∃ g b p s, vs = [g] ∧ IsSh K H g b p s ∧ Q (.int (sz b p s : Nat)) H
theorem cal_size (T : Tx K mg) : Cal P w K mg base CX0 4 "size_of" ["shape"] (sp_size K) := by
  have c_check_shape := cal_check_shape (P := P) (w := w) (base := base) T
  refine T.d_size_of.cal sc_size_of (fun vs H Q E h => ?_) (fun _ _ _ _ _ _ us hl => match us, hl with | [_], _ => rfl) (fun f cdv A outer s H vs Q E hr h => ⟨_, (pss_cons (ps_expr (pe_cal c_check_shape (hr.mono (by decide)) pass0 (pa_cons (pv 0) pa_nil)))
      (pss_cons (ps_asg (pv 0) (pg_tup rfl (pgs_cons (pg_name (i := 1) sc_size_of.nd rfl (Or.inl rfl)) (pgs_cons (pg_name (i := 2) sc_size_of.nd rfl (Or.inl rfl)) (pgs_cons (pg_name (i := 3) sc_size_of.nd rfl (Or.inl rfl)) pgs_nil)))))
      (pss_cons (ps_set (i := 4) sc_size_of.nd rfl (Or.inl rfl) (pe_ifExp (pt_cmpR op_eq (pv 2) pe_str (nomark _)) pe_int pe_int))
      (pss_one (ps_ret (pe_op op_add (pe_op op_add (pe_op op_add pe_int (pv 1)) (pv 4)) (pv 3))))))), ?_⟩)
  · obtain ⟨g, b, p, s, rfl, _⟩ := h
    rfl
  · obtain ⟨g, b, p, s, rfl, sh, q⟩ := h
    refine ⟨_, rfl, g, b, p, s, rfl, sh, ?_⟩
    obtain ⟨t, rfl, sq, h1, h2, h3, h4⟩ := id sh
    refine ⟨_, rfl, t, _, rfl, sq, rfl, _, _, rfl, _, _, rfl, _, _, rfl, rfl, ?_⟩
    refine ⟨_, rfl, rfl, _, rfl, ?_⟩
    rw [no_is p]
    have fin : ∀ z : Int, z = (plen p : Nat) → Q (.int (1 + (b : Int) + z + (s : Int))) H := fun z e => by
      have e2 : 1 + (b : Int) + z + (s : Int) = ((sz b p s : Nat) : Int) := by
        unfold sz
        omega
      rw [e2]
      exact q
    cases p with
    | no => exact iteT ⟨_, rfl, _, _, rfl, rfl, _, rfl, _, _, rfl, rfl, _, rfl, _, _, rfl, rfl, fin 0 rfl⟩
    | ev => exact iteF ⟨_, rfl, _, _, rfl, rfl, _, rfl, _, _, rfl, rfl, _, rfl, _, _, rfl, rfl, fin 1 rfl⟩
    | od => exact iteF ⟨_, rfl, _, _, rfl, rfl, _, rfl, _, _, rfl, rfl, _, rfl, _, _, rfl, rfl, fin 1 rfl⟩
def sp_from (K : PySem.W.Frag) : Sp := fun vs H Q _ => ∃ lo v n, vs = [.int lo, v] ∧ TyN K H v n ∧ ∀ r : Bool, (∀ i, v = .int i → r = decide (lo ≤ i)) → (n ≠ "int" → r = false) → Q (.bl r) H
theorem cal_from (T : Tx K mg) : Cal P w K mg base CX0 2 "is_int_from" ["least", "value"] (sp_from K) := by
  have c_is_int := cal_is_int (P := P) (w := w) (base := base) T
  refine T.d_is_int_from.cal sc_is_int_from (fun vs H Q E h => ?_) (fun _ _ _ _ _ _ us hl => match us, hl with | [_, _], _ => rfl) (fun f cdv A outer s H vs Q E hr h => ⟨_, (pss_one (ps_ret (pe_and (pe_cal c_is_int (hr.mono (by decide)) pass0 (pa_cons (pv 1) pa_nil)) (pe_one (pe_cmpR op_ge (pv 1) (pv 0) (nomark _)))))), ?_⟩)
  · obtain ⟨lo, v, n, rfl, _⟩ := h
    rfl
  · obtain ⟨lo, v, n, rfl, ty, q⟩ := h
    refine ⟨v, rfl, v, n, rfl, ty, _, rfl, ?_⟩
    cases ty with
    | int i => exact ⟨_, rfl, _, rfl, i, lo, rfl, rfl, q _ (fun j e => by cases e; rfl) (fun z => absurd rfl z)⟩
    | _ => exact q false (fun j e => nomatch e) (fun _ => rfl)
def sp_check_length : Sp := fun vs H Q _ => ∃ i : Int, vs = [.int i] ∧ 1 ≤ i ∧ Q .non H
theorem cal_check_length (T : Tx K mg) : Cal P w K mg base CX0 3 "check_length" ["length"] sp_check_length := by
  have c_is_int_from := cal_from (P := P) (w := w) (base := base) T
  refine T.d_check_length.cal sc_check_length (fun vs H Q E h => ?_) (fun _ _ _ _ _ _ us hl => match us, hl with | [_], _ => rfl) (fun f cdv A outer s H vs Q E hr h => ⟨_, (pss_one (ps_if (pt_not (pt_val (pe_cal c_is_int_from (hr.mono (by decide)) pass0 (pa_cons pe_int (pa_cons (pv 0) pa_nil))))) (pss_one ps_never) pss_nil)), ?_⟩)
  · obtain ⟨i, rfl, _⟩ := h
    rfl
  · obtain ⟨i, rfl, hi, q⟩ := h
    refine ⟨_, rfl, 1, _, "int", rfl, .int i, fun r r1 r2 => ⟨r, rfl, ?_⟩⟩
    have e : r = true := by
      rw [r1 _ rfl]
      exact decide_eq_true hi
    subst e
    exact iteF q
def sp_check_tick : Sp := fun vs H Q _ => ∃ i : Int, vs = [.int i] ∧ Q .non H
theorem cal_check_tick (T : Tx K mg) : Cal P w K mg base CX0 2 "check_tick" ["tick"] sp_check_tick := by
  have c_is_int := cal_is_int (P := P) (w := w) (base := base) T
  refine T.d_check_tick.cal sc_check_tick (fun vs H Q E h => ?_) (fun _ _ _ _ _ _ us hl => match us, hl with | [_], _ => rfl) (fun f cdv A outer s H vs Q E hr h => ⟨_, (pss_one (ps_if (pt_not (pt_val (pe_cal c_is_int (hr.mono (by decide)) pass0 (pa_cons (pv 0) pa_nil)))) (pss_one ps_never) pss_nil)), ?_⟩)
  · obtain ⟨i, rfl, _⟩ := h
    rfl
  · obtain ⟨i, rfl, q⟩ := h
    exact ⟨_, rfl, _, "int", rfl, .int i, _, rfl, iteNS rfl q⟩
/-! ### sendings -/
def sp_is_begin (K : PySem.W.Frag) : Sp := fun vs H Q _ => ∃ g b p s t i n, vs = [g, .ref t] ∧ IsSh K H g b p s ∧ SqT K H t [.int i, .int n] ∧ 0 ≤ n ∧ n < 2 ^ b ∧ Q (.bl true) H
theorem cal_is_begin (T : Tx K mg) : Cal P w K mg base CX0 4 "_is_begin" ["shape", "item"] (sp_is_begin K) := by
  have c_is_int := cal_is_int (P := P) (w := w) (base := base) T
  have c_fits := cal_fits (P := P) (w := w) (base := base) T
  refine T.d_is_begin.cal sc_is_begin (fun vs H Q E h => ?_) (fun _ _ _ _ _ _ us hl => match us, hl with | [_, _], _ => rfl) (fun f cdv A outer s H vs Q E hr h => ⟨_, (pss_cons (ps_if (PW.pt (pw_or (pt_not (pt_val (pe_callB call_isi (by rfl) T.b_isinstance (by decide +kernel) (pa_cons (pv 1) (pa_cons (pe_bltn (v := .ty "tuple") (by rfl) T.b_tuple (by decide +kernel) rfl) pa_nil))))) (pw_or1 (pt_cmpR op_ne (pe_callB call_len_seq (by rfl) T.b_len (by decide +kernel) (pa_cons (pv 1) pa_nil)) pe_int (nomark _))))) (pss_one (ps_ret pe_bl)) pss_nil)
      (pss_cons (ps_asg (pv 1) (pg_tup rfl (pgs_cons (pg_name (i := 2) sc_is_begin.nd rfl (Or.inl rfl)) (pgs_cons (pg_name (i := 3) sc_is_begin.nd rfl (Or.inl rfl)) pgs_nil))))
      (pss_one (ps_ret (pe_and (pe_cal c_is_int (hr.mono (by decide)) pass0 (pa_cons (pv 2) pa_nil)) (pe_one (pe_cal c_fits (hr.mono (by decide)) pass0 (pa_cons (pv 0) (pa_cons (pv 3) pa_nil))))))))), ?_⟩)
  · obtain ⟨g, b, p, s, t, i, n, rfl, _⟩ := h
    rfl
  · obtain ⟨g, b, p, s, t, i, n, rfl, sh, sq, h1, h2, q⟩ := h
    refine ⟨_, rfl, _, .ty "tuple", _, _, true, rfl, .ty _, (TyN.tup sq).x, ki, true, rfl, iteF ?_⟩
    refine ⟨_, rfl, t, _, rfl, .inr sq, rfl, _, rfl, iteNS rfl ?_⟩
    refine ⟨_, rfl, t, _, rfl, sq, rfl, _, _, rfl, _, _, rfl, rfl, ?_⟩
    refine ⟨_, rfl, _, "int", rfl, .int i, true, rfl, iteT ?_⟩
    refine ⟨_, rfl, _, rfl, g, b, p, s, _, "int", rfl, sh, .int n, fun r r1 r2 => ?_⟩
    have e : r = true := by
      rw [r1 _ rfl]
      exact decide_eq_true ⟨h1, h2⟩
    subst e
    exact q
def Gaps (d : Int) (snd : List (Int × Int)) : Prop := ∀ (k : Nat) (q r : Int × Int), snd[k]? = some q → snd[k + 1]? = some r → q.1 + d ≤ r.1
def sp_check_sending (K : PySem.W.Frag) : Sp := fun vs H Q _ => ∃ g b p s ln a xs snd, vs = [g, .int ln, .ref a] ∧ IsSh K H g b p s ∧ 1 ≤ ln ∧ SqL K H a xs ∧ Snd K H xs snd ∧ snd.length ≤ 60 ∧ (∀ q ∈ snd, 0 ≤ q.2 ∧ q.2 < 2 ^ b) ∧
  Gaps ((sz b p s : Nat) * ln) snd ∧ ∀ H', Ex H H' → Q .non H'
theorem cal_check_sending (T : Tx K mg) : Cal P w K mg base CX0 5 "_check_sending" ["shape", "length", "sending"] (sp_check_sending K) := by
  have c_is_list_up_to := cal_list_up_to (P := P) (w := w) (base := base) T
  have c_size_of := cal_size (P := P) (w := w) (base := base) T
  have c_is_begin := cal_is_begin (P := P) (w := w) (base := base) T
  refine T.d_check_sending.cal sc_check_sending (fun vs H Q E h => ?_) (fun _ _ _ _ _ _ us hl => match us, hl with | [_, _, _], _ => rfl) (fun f cdv A outer s H vs Q E hr h => ⟨_, (pss_cons (ps_if (pt_not (pt_val (pe_cal c_is_list_up_to (hr.mono (by decide)) pass0 (pa_cons (pe_gi T.i_MOST_NUMBERS) (pa_cons (pv 2) pa_nil))))) (pss_one ps_never) pss_nil)
      (pss_cons (ps_set (i := 3) sc_check_sending.nd rfl (Or.inl rfl) (pe_op op_mul (pe_cal c_size_of (hr.mono (by decide)) pass0 (pa_cons (pv 0) pa_nil)) (pv 1)))
      (pss_one (ps_for PassesOwn.never rfl (pi_enum (by rfl) T.b_enumerate (pa_cons (pv 2) pa_nil)) (pg_tup rfl (pgs_cons (pg_name (i := 4) sc_check_sending.nd rfl (Or.inl rfl)) (pgs_cons (pg_name (i := 5) sc_check_sending.nd rfl (Or.inl rfl)) pgs_nil))) (pss_cons (ps_if (pt_not (pt_val (pe_cal c_is_begin (hr.mono (by decide)) pass0 (pa_cons (pv 0) (pa_cons (pv 5) pa_nil))))) (pss_one ps_never) pss_nil)
      (pss_one (ps_if (PW.pt (pw_and (pt_cmpR op_gt (pv 4) pe_int (nomark _)) (pw_and1 (pt_cmpR op_lt (pe_op op_sub (pe_ix ix_tup (pv 5) pe_int (fun _ _ => rfl)) (pe_ix ix_tup (pe_ix ix_list (pv 2) (pe_op op_sub (pv 4) pe_int) (fun _ _ => rfl)) pe_int (fun _ _ => rfl))) (pv 3) (nomark _))))) (pss_one ps_never) pss_nil))))))), ?_⟩)
  · obtain ⟨g, b, p, s, ln, a, xs, snd, rfl, _⟩ := h
    rfl
  · obtain ⟨g, b, p, s, ln, a, xs, snd, rfl, sh, hln, sq, hs, hl, hin, gp, q⟩ := h
    refine ⟨_, rfl, 60, a, _, rfl, sq, _, rfl, ?_⟩
    have e : decide ((xs.length : Int) ≤ 60) = true := decide_eq_true (by have := hs.1; omega)
    rw [e]
    refine iteF ⟨_, rfl, g, b, p, s, rfl, sh, _, rfl, _, _, rfl, rfl, .inl ⟨by omega, ?_⟩, ?_⟩
    · have h9 : sz b p s ≤ 100 := by
        obtain ⟨_, _, _, _, _, _, _⟩ := sh
        unfold sz
        cases p <;> simp [plen] <;> omega
      have : ((sz b p s : Nat) : Int) ≤ 100 := by omega
      omega
    refine ⟨_, rfl, a, _, rfl, sq, ?_⟩
    refine for_enum (K := K) (a := a) (xs := xs) (fun i σ H1 => ∃ u v, σ = [some g, some (.int ln), some (.ref a), some (.int ((sz b p s : Nat) * ln)), u, v] ∧ Ex H H1) ⟨none, none, rfl, Ex.refl H⟩ (fun i σ H1 _ ⟨_, _, _, e⟩ => ex_l e sq) ?_ ?_
    · rintro i x T1 σ H1 hx ⟨u, v, rfl, ex⟩ nT
      have hi := (List.getElem?_eq_some_iff.mp hx).1
      have hi2 : i < snd.length := by rw [← hs.1]; exact hi
      have hq : snd[i]? = some snd[i] := List.getElem?_eq_getElem hi2
      have ex2 : Ex H (upd H1 T1 (.tup [.int (i : Nat), x])) := ex.trans (Ex.new nT)
      obtain ⟨t, rfl, ht⟩ := (hs.ex ex2).2 i x _ hx hq
      obtain ⟨n0, n1⟩ := hin _ (List.getElem_mem hi2)
      have sq2 := ex_l ex2 sq
      refine ⟨T1, _, rfl, .inl (.inl upd_same), rfl, _, _, rfl, _, _, rfl, rfl, ?_⟩
      refine ⟨_, rfl, _, rfl, g, b, p, s, t, _, _, rfl, sh.ex ex2, ht, n0, n1, true, rfl, iteF ?_⟩
      refine ⟨_, rfl, _, _, rfl, rfl, _, rfl, ite2 (fun h0 => ?_) (fun _ => iteF ⟨_, _, rfl, ex2⟩)⟩
      have i0 : 0 < i := by
        have := of_decide_eq_true h0
        omega
      have hi3 : i - 1 < snd.length := by omega
      have hx3 : xs[i - 1]? = some xs[i - 1] := List.getElem?_eq_getElem (by omega)
      have hq3 : snd[i - 1]? = some snd[i - 1] := List.getElem?_eq_getElem hi3
      obtain ⟨t', e', ht'⟩ := (hs.ex ex2).2 (i - 1) _ _ hx3 hq3
      rw [e'] at hx3
      have g1 := gp (i - 1) _ _ hq3 (by rw [Nat.sub_add_cancel i0]; exact hq)
      refine ⟨_, rfl, t, _, 0, _, rfl, rfl, ht, rfl, _, rfl, _, rfl, _, _, rfl, rfl, a, xs, _, _, rfl, rfl, sq2, atI_i _ (i - 1) (by omega) hx3, t', _, 0, _, rfl, rfl, ht', rfl, _, _, rfl, rfl, _, rfl, _, _, rfl, rfl, _, rfl, ?_⟩
      have e2 : decide ((snd[i]).1 - (snd[i - 1]).1 < ((sz b p s : Nat) : Int) * ln) = false := decide_eq_false (by omega)
      rw [e2]
      exact iteF ⟨_, _, rfl, ex2⟩
    · rintro σ H1 ⟨u, v, rfl, ex⟩
      exact q H1 ex
def sp_check_lasts (K : PySem.W.Frag) : Sp := fun vs H Q _ => ∃ (m : Nat) (a : Addr) (ds : List Int), vs = [.int (m : Nat), .ref a] ∧ SqL K H a (ds.map V.int) ∧ ds.length = m ∧ (∀ d ∈ ds, 1 ≤ d) ∧ ∀ H', Ex H H' → Q .non H'
theorem cal_check_lasts (T : Tx K mg) : Cal P w K mg base CX0 3 "_check_lasts" ["many", "lasts"] (sp_check_lasts K) := by
  have c_is_int_from := cal_from (P := P) (w := w) (base := base) T
  refine T.d_check_lasts.cal sc_check_lasts (fun vs H Q E h => ?_) (fun _ _ _ _ _ _ us hl => match us, hl with | [_, _], _ => rfl) (fun f cdv A outer s H vs Q E hr h => ⟨_, (pss_cons (ps_if (PW.pt (pw_or (pt_not (pt_val (pe_callB call_isi (by rfl) T.b_isinstance (by decide +kernel) (pa_cons (pv 1) (pa_cons (pe_bltn (v := .ty "list") (by rfl) T.b_list (by decide +kernel) rfl) pa_nil))))) (pw_or1 (pt_cmpR op_ne (pe_callB call_len_seq (by rfl) T.b_len (by decide +kernel) (pa_cons (pv 1) pa_nil)) (pv 0) (nomark _))))) (pss_one ps_never) pss_nil)
      (pss_one (ps_for PassesOwn.never rfl (pi_enum (by rfl) T.b_enumerate (pa_cons (pv 1) pa_nil)) (pg_tup rfl (pgs_cons (pg_name (i := 2) sc_check_lasts.nd rfl (Or.inl rfl)) (pgs_cons (pg_name (i := 3) sc_check_lasts.nd rfl (Or.inl rfl)) pgs_nil))) (pss_one (ps_if (pt_not (pt_val (pe_cal c_is_int_from (hr.mono (by decide)) pass0 (pa_cons pe_int (pa_cons (pv 3) pa_nil))))) (pss_one ps_never) pss_nil))))), ?_⟩)
  · obtain ⟨m, a, ds, rfl, _⟩ := h
    rfl
  · obtain ⟨m, a, ds, rfl, sq, hl, hd, q⟩ := h
    refine ⟨_, rfl, _, .ty "list", _, _, true, rfl, .ty _, (TyN.lst sq).x, ki, true, rfl, iteF ?_⟩
    refine ⟨_, rfl, a, _, rfl, .inl sq, _, rfl, rfl, _, rfl, iteNS (by rw [List.length_map, hl]) ?_⟩
    refine ⟨_, rfl, a, _, rfl, sq, ?_⟩
    refine for_enum (K := K) (a := a) (xs := ds.map V.int) (fun i σ H1 => ∃ u v, σ = [some (.int (m : Nat)), some (.ref a), u, v] ∧ Ex H H1) ⟨none, none, rfl, Ex.refl H⟩ (fun i σ H1 _ ⟨_, _, _, e⟩ => ex_l e sq) ?_ ?_
    · rintro i x T1 σ H1 hx ⟨u, v, rfl, ex⟩ nT
      obtain ⟨z, hz, rfl⟩ := ints_at hx
      have ex2 : Ex H (upd H1 T1 (.tup [.int (i : Nat), .int z])) := ex.trans (Ex.new nT)
      refine ⟨T1, _, rfl, .inl (.inl upd_same), rfl, _, _, rfl, _, _, rfl, rfl, ?_⟩
      refine ⟨_, rfl, 1, _, "int", rfl, .int z, fun r r1 r2 => ⟨r, rfl, ?_⟩⟩
      have e : r = true := by
        rw [r1 _ rfl]
        exact decide_eq_true (hd z (List.mem_of_getElem? hz))
      subst e
      exact iteF ⟨_, _, rfl, ex2⟩
    · rintro σ H1 ⟨u, v, rfl, ex⟩
      exact q H1 ex
/-! ### changes -/
def tkd (t : Int) (ds : List Int) (i : Nat) : Int := t + (ds.take i).sum
def sp_changes (K : PySem.W.Frag) : Sp := fun vs H Q _ => ∃ (a c : Addr) (t : Int) (ls ds : List Int), vs = [.ref a, .int t, .ref c] ∧ SqL K H a (ls.map V.int) ∧ SqL K H c (ds.map V.int) ∧ ls.length = ds.length ∧ ls.length ≤ 10000 ∧ RetL ((ch ls (tkd t ds) ls.length).map V.int) H Q
theorem cal_changes (T : Tx K mg) : Cal P w K mg base CX0 1 "changes_of" ["levels", "begin", "lasts"] (sp_changes K) := by
  refine T.d_changes_of.cal sc_changes_of (fun vs H Q E h => ?_) (fun _ _ _ _ _ _ us hl => match us, hl with | [_, _, _], _ => rfl) (fun f cdv A outer s H vs Q E hr h => ⟨_, (pss_cons (ps_set (i := 3) sc_changes_of.nd rfl (Or.inl rfl) (pe_lst pa_nil))
      (pss_cons (ps_set (i := 4) sc_changes_of.nd rfl (Or.inl rfl) pe_int)
      (pss_cons (ps_set (i := 5) sc_changes_of.nd rfl (Or.inl rfl) (pv 1))
      (pss_cons (ps_for PassesOwn.never rfl (pi_zip (by rfl) T.b_zip (pa_cons (pv 0) (pa_cons (pv 2) pa_nil))) (pg_tup rfl (pgs_cons (pg_name (i := 6) sc_changes_of.nd rfl (Or.inl rfl)) (pgs_cons (pg_name (i := 7) sc_changes_of.nd rfl (Or.inl rfl)) pgs_nil))) (pss_cons (ps_if (pt_cmpR op_ne (pv 6) (pv 4) (nomark _)) (pss_one (ps_expr (pe_bm PySem.F.plainAttrs_list PySem.F.slot_list_append PySem.F.type_list_append mt_append (pv 3) (pa_cons (pv 5) pa_nil)))) pss_nil)
      (pss_cons (ps_set (i := 4) sc_changes_of.nd rfl (Or.inl rfl) (pv 6))
      (pss_one (ps_set (i := 5) sc_changes_of.nd rfl (Or.inl rfl) (pe_op op_add (pv 5) (pv 7)))))))
      (pss_one (ps_ret (pv 3))))))), ?_⟩)
  · obtain ⟨a, c, t, ls, ds, rfl, _⟩ := h
    rfl
  · obtain ⟨a, c, t, ls, ds, rfl, sa, sc, hl, hz, q⟩ := h
    refine ⟨Nat.zero_le _, fun L nL => ⟨_, rfl, ?_⟩⟩
    refine ⟨_, rfl, _, rfl, a, c, _, _, rfl, ex_l (Ex.new nL) sa, ex_l (Ex.new nL) sc, ?_⟩
    refine RZ.for_zipL (K := K) (a := a) (b := c) (xs := ls.map V.int) (ys := ds.map V.int) (by rw [List.length_map, List.length_map, hl])
      (fun i σ H1 => ∃ u v, σ = [some (.ref a), some (.int t), some (.ref c), some (.ref L), some (.int (pvl ls i)), some (.int (tkd t ds i)), u, v] ∧ Ex H H1 ∧ H1 L = some (.lst ((ch ls (tkd t ds) i).map V.int)))
      ⟨none, none, by simp [L2.start, pvl, tkd], Ex.new nL, upd_same⟩ (fun i σ H1 ⟨_, _, _, e, _⟩ => ⟨ex_l e sa, ex_l e sc⟩) ?_ ?_
    · rintro i x y T1 σ H1 hx hy ⟨u, v, rfl, ex, hL⟩ nT
      obtain ⟨l, hl1, rfl⟩ := ints_at hx
      obtain ⟨d, hd1, rfl⟩ := ints_at hy
      have il := (List.getElem?_eq_some_iff.mp hl1).1
      have ex2 : Ex H (upd H1 T1 (.tup [.int l, .int d])) := ex.trans (Ex.new nT)
      have hL2 : (upd H1 T1 (.tup [.int l, .int d])) L = some (.lst ((ch ls (tkd t ds) i).map V.int)) := Ex.new nT _ _ hL
      have eg : ls.getD i 1 = l := by rw [List.getD_eq_getElem?_getD, hl1]; rfl
      have es : tkd t ds i + d = tkd t ds (i + 1) := by
        unfold tkd
        rw [List.take_add_one, hd1]
        simp
        omega
      have ep : l = pvl ls (i + 1) := eg.symm
      refine ⟨T1, _, rfl, .inl (.inl upd_same), rfl, _, _, rfl, _, _, rfl, rfl, ?_⟩
      refine ⟨_, rfl, _, rfl, rfl, _, rfl, ?_⟩
      by_cases c1 : l = pvl ls i
      · have e1 : (!decide (V.int l = V.int (pvl ls i))) = false := by rw [← c1]; simp
        rw [e1]
        refine iteF ⟨_, rfl, _, rfl, _, rfl, _, _, rfl, rfl, some (.int l), some (.int d), ?_, ex2, ?_⟩
        · rw [← ep, ← es]
          rfl
        · rw [hL2]
          show _ = some (HO.lst (List.map V.int (ch ls (tkd t ds) i ++ (if ls.getD i 1 = pvl ls i then [] else [tkd t ds i]))))
          rw [eg, if_pos c1, List.append_nil]
      · have e1 : (!decide (V.int l = V.int (pvl ls i))) = true := by
          have : decide (V.int l = V.int (pvl ls i)) = false := decide_eq_false (fun z => c1 (by cases z; rfl))
          rw [this]
          rfl
        rw [e1]
        refine iteT ⟨_, rfl, .inl ⟨rfl, _, sq_of hL2⟩, _, rfl, L, _, _, rfl, rfl, hL2, ?_, ?_⟩
        · have := ch_len ls (tkd t ds) i
          rw [List.length_map]
          exact Nat.lt_of_le_of_lt (show _ ≤ 10000 by omega) (by decide)
        · refine ⟨_, rfl, _, rfl, _, rfl, _, _, rfl, rfl, some (.int l), some (.int d), ?_, ex2.mut nL, ?_⟩
          · rw [← ep, ← es]
            rfl
          · rw [upd_same]
            show _ = some (HO.lst (List.map V.int (ch ls (tkd t ds) i ++ _)))
            rw [eg, if_neg c1, List.map_append]
            rfl
    · rintro σ H1 ⟨u, v, rfl, ex, hL⟩
      rw [List.length_map] at hL
      exact ⟨_, rfl, q L H1 nL ex hL⟩
def sp_sent (K : PySem.W.Frag) : Sp := fun vs H Q _ => ∃ g b p s ln a xs snd, vs = [g, .int ln, .ref a] ∧ IsSh K H g b p s ∧ 1 ≤ ln ∧ SqL K H a xs ∧ Snd K H xs snd ∧ snd.length ≤ 60 ∧ (∀ q ∈ snd, 0 ≤ q.2 ∧ q.2 < 2 ^ b) ∧
  Gaps ((sz b p s : Nat) * ln) snd ∧ RetL ((sig b p s ln snd).map V.int) H Q
theorem sz_le {b s : Nat} {p : Pa} (hb : b ≤ 9) (hs : s ≤ 2) : sz b p s ≤ 13 := by
  unfold sz
  cases p <;> simp [plen] <;> omega
theorem sum_rep (n : Nat) (ln : Int) : (List.replicate n ln).sum = (n : Int) * ln := by
  induction n with
  | zero => simp
  | succ n ih =>
    rw [List.replicate_succ, List.sum_cons, ih, Int.natCast_succ, Int.add_mul]
    omega
theorem tkd_rep (t ln : Int) {n i : Nat} (h : i ≤ n) : tkd t (List.replicate n ln) i = t + (i : Int) * ln := by
  unfold tkd
  rw [List.take_replicate, Nat.min_eq_left h, sum_rep]
theorem sig_snoc (b : Nat) (p : Pa) (s : Nat) (ln : Int) (snd : List (Int × Int)) (q : Int × Int) : sig b p s ln (snd ++ [q]) = sig b p s ln snd ++ ch (frm b p s q.2) (fun i => q.1 + (i : Int) * ln) (sz b p s) := by simp [sig]
theorem sig_len (b : Nat) (p : Pa) (s : Nat) (ln : Int) : ∀ snd : List (Int × Int), (sig b p s ln snd).length ≤ snd.length * sz b p s
  | [] => by simp [sig]
  | q :: r => by
    have ih := sig_len b p s ln r
    have e : sig b p s ln (q :: r) = ch (frm b p s q.2) (fun i => q.1 + (i : Int) * ln) (sz b p s) ++ sig b p s ln r := by simp [sig]
    have := ch_len (frm b p s q.2) (fun i => q.1 + (i : Int) * ln) (sz b p s)
    rw [e, List.length_append, List.length_cons, Nat.add_mul]
    omega
theorem body_sent (T : Tx K mg) : ∀ (f : Addr) (cdv : Value) (A : Around) (outer : List Env) (s : Shared) (H : Hp) (vs : List V) (Q : VK) (E : XK), Room 7 (A.deeper (envOfC "sent" (defScope s_sent) s.heap.objs.size f cdv)) → sp_sent K vs H Q E →
      ∃ t, PSs (cxOf CX0 P w K mg base ["shape", "length", "sending", "lasts", "signal", "tick", "number"] "sent" (defScope s_sent) f cdv A outer s H E).nox (defBody s_sent) t ∧ t { nx := fun _ H' => Q .non H', rt := Q } (start ["shape", "length", "sending", "lasts", "signal", "tick", "number"] vs) H := by
  have c_check_shape := cal_check_shape (P := P) (w := w) (base := base) T
  have c_check_length := cal_check_length (P := P) (w := w) (base := base) T
  have c_check_sending := cal_check_sending (P := P) (w := w) (base := base) T
  have c_size_of := cal_size (P := P) (w := w) (base := base) T
  have c_changes_of := cal_changes (P := P) (w := w) (base := base) T
  have c_frame_of := cal_frame (P := P) (w := w) (base := base) T
  refine fun f cdv A outer s H vs Q E hr h => ⟨_, (pss_cons (ps_expr (pe_cal c_check_shape (hr.mono (by decide)) pass0 (pa_cons (pv 0) pa_nil)))
      (pss_cons (ps_expr (pe_cal c_check_length (hr.mono (by decide)) pass0 (pa_cons (pv 1) pa_nil)))
      (pss_cons (ps_expr (pe_cal c_check_sending (hr.mono (by decide)) pass0 (pa_cons (pv 0) (pa_cons (pv 1) (pa_cons (pv 2) pa_nil)))))
      (pss_cons (ps_set (i := 3) sc_sent.nd rfl (Or.inl rfl) (pe_op op_rep (pe_lst (pa_cons (pv 1) pa_nil)) (pe_cal c_size_of (hr.mono (by decide)) pass0 (pa_cons (pv 0) pa_nil))))
      (pss_cons (ps_set (i := 4) sc_sent.nd rfl (Or.inl rfl) (pe_lst pa_nil))
      (pss_cons (ps_for PassesOwn.never rfl (pi_list (pv 2)) (pg_tup rfl (pgs_cons (pg_name (i := 5) sc_sent.nd rfl (Or.inl rfl)) (pgs_cons (pg_name (i := 6) sc_sent.nd rfl (Or.inl rfl)) pgs_nil))) (pss_one (ps_expr (pe_bm PySem.F.plainAttrs_list PySem.F.slot_list_extend PySem.F.type_list_extend mt_extend (pv 4) (pa_cons (pe_cal c_changes_of (hr.mono (by decide)) pass0 (pa_cons (pe_cal c_frame_of (hr.mono (by decide)) pass0 (pa_cons (pv 0) (pa_cons (pv 6) pa_nil))) (pa_cons (pv 5) (pa_cons (pv 3) pa_nil)))) pa_nil)))))
      (pss_one (ps_ret (pv 4))))))))), ?_⟩
  obtain ⟨g, b, p, s, ln, a, xs, snd, rfl, sh, hln, sq, hs, hl, hin, gp, q⟩ := h
  have h13 : sz b p s ≤ 13 := by
    obtain ⟨_, _, _, _, h, _, h'⟩ := sh
    exact sz_le h h'
  refine ⟨_, rfl, g, b, p, s, rfl, sh, _, rfl, _, rfl, hln, _, rfl, _, rfl, _, rfl, g, b, p, s, ln, a, xs, snd, rfl, sh, hln, sq, hs, hl, hin, gp, fun H1 e1 => ?_⟩
  refine ⟨_, rfl, by show 1 ≤ sizeLine; decide, fun L1 n1 => ⟨_, rfl, g, b, p, s, rfl, (sh.ex e1).ex (Ex.new n1), L1, _, _, rfl, rfl, upd_same, by omega, by omega, ?_, fun L2 n2 => ?_⟩⟩
  · show 1 * ((sz b p s : Nat) : Int).toNat ≤ sizeLine
    rw [Int.toNat_natCast, sizeLine_eq]
    omega
  rw [rep_one]
  have e2 : Ex H (upd (upd H1 L1 (.lst [.int ln])) L2 (.lst ((List.replicate (sz b p s) ln).map V.int))) := e1.trans ((Ex.new n1).trans (Ex.new n2))
  have hL2 : (upd (upd H1 L1 (.lst [.int ln])) L2 (.lst ((List.replicate (sz b p s) ln).map V.int))) L2 = some (.lst ((List.replicate (sz b p s) ln).map V.int)) := upd_same
  generalize upd (upd H1 L1 (.lst [.int ln])) L2 (.lst ((List.replicate (sz b p s) ln).map V.int)) = H2 at e2 hL2
  refine ⟨Nat.zero_le _, fun L nL => ?_⟩
  have fL : H L = none := fresh_back e2 nL
  have neL : L ≠ L2 := fun z => by
    rw [z, hL2] at nL
    cases nL
  refine ⟨_, rfl, a, rfl, ⟨_, ex_l (e2.trans (Ex.new nL)) sq⟩, for_list (K := K) (a := a) (xs := xs) (fun i σ H3 => ∃ u v, σ = [some g, some (.int ln), some (.ref a), some (.ref L2), some (.ref L), u, v] ∧ Ex H2 H3 ∧ H3 L = some (.lst ((sig b p s ln (snd.take i)).map V.int)))
    ⟨none, none, rfl, Ex.new nL, upd_same⟩ (fun i σ H3 _ ⟨_, _, _, e, _⟩ => ex_l (e2.trans e) sq) ?_ ?_⟩
  · rintro i x σ H3 hx ⟨u, v, rfl, ex, hL⟩
    have hi := (List.getElem?_eq_some_iff.mp hx).1
    have hi2 : i < snd.length := by rw [← hs.1]; exact hi
    have hq : snd[i]? = some snd[i] := List.getElem?_eq_getElem hi2
    have ex3 := e2.trans ex
    obtain ⟨t, rfl, ht⟩ := (hs.ex ex3).2 i x _ hx hq
    obtain ⟨m0, m1⟩ := hin _ (List.getElem_mem hi2)
    refine ⟨t, _, rfl, ht, rfl, _, _, rfl, _, _, rfl, rfl, ?_⟩
    refine ⟨_, rfl, .inl ⟨rfl, _, sq_of hL⟩, ?_⟩
    refine ⟨_, rfl, _, rfl, g, b, p, s, _, rfl, sh.ex ex3, m0, m1, fun F H4 nF e4 hF => ?_⟩
    have hL2' := e4 _ _ (ex _ _ hL2)
    have fl : (frm b p s (snd[i]).2).length = (List.replicate (sz b p s) ln).length := by rw [frm_sz, List.length_replicate]
    refine ⟨_, rfl, _, rfl, F, L2, _, _, _, rfl, sq_of hF, sq_of hL2', fl, by rw [frm_sz]; omega, fun G H5 nG e5 hG => ?_⟩
    have hL5 := e5 _ _ (e4 _ _ hL)
    have ec : ch (frm b p s (snd[i]).2) (tkd (snd[i]).1 (List.replicate (sz b p s) ln)) (frm b p s (snd[i]).2).length = ch (frm b p s (snd[i]).2) (fun i' => (snd[i]).1 + (i' : Int) * ln) (sz b p s) := by
      rw [frm_sz]
      exact ch_congr fun i' hi' => tkd_rep _ _ (by omega)
    rw [ec] at hG
    refine ⟨L, G, _, _, rfl, rfl, hL5, hG, ?_, ?_⟩
    · have h1 := sig_len b p s ln (snd.take i)
      have h2 := ch_len (frm b p s (snd[i]).2) (fun i' => (snd[i]).1 + (i' : Int) * ln) (sz b p s)
      have h3 : (snd.take i).length * sz b p s ≤ 60 * 13 := Nat.mul_le_mul (by rw [List.length_take]; omega) h13
      rw [List.length_map, List.length_map, sizeLine_eq]
      omega
    · refine ⟨_, _, rfl, (ex.trans (e4.trans e5)).mut (fresh_back (Ex.refl H2) nL), ?_⟩
      rw [upd_same, ← List.map_append, ← sig_snoc, List.take_add_one, hq]
      rfl
  · rintro σ H3 ⟨u, v, rfl, ex, hL⟩
    rw [hs.1, List.take_length] at hL
    exact ⟨_, rfl, q L H3 fL (e2.trans ex) hL⟩
theorem len_sent {vs H Q} {E : XK} (h : sp_sent K vs H Q E) : vs.length = (["shape", "length", "sending"] : List Str).length := by
  obtain ⟨g, b, p, s, ln, a, xs, snd, rfl, _⟩ := h
  rfl
theorem cal_sent (T : Tx K mg) : Cal P w K mg base CX0 8 "sent" ["shape", "length", "sending"] (sp_sent K) :=
  T.d_sent.cal sc_sent (fun vs H Q E h => len_sent h) (fun _ _ _ _ _ _ us hl => match us, hl with | [_, _, _], _ => rfl) (body_sent T)
theorem cal_sentK (T : Tx K mg) : CalK P w K mg base CX0 8 "sent" ["sending", "length", "shape"] ["shape", "length", "sending"] (gPm [2, 1, 0]) (sp_sent K) := by
  refine T.d_sent.calK (gPm [2, 1, 0]) (fun kV doc pm an cdv ct us ws hl => ?_) (rel_gPm _) sc_sent (fun vs H Q E h => len_sent h) (body_sent T)
  match us, ws, hl with
  | [], [a, b, c], _ => rfl
def sp_stext (K : PySem.W.Frag) : Sp := fun vs H Q _ => ∃ g b p s ln a ns t, vs = [g, .int ln, .ref a, .int t] ∧ IsSh K H g b p s ∧ 1 ≤ ln ∧ SqL K H a (ns.map V.int) ∧ ns.length ≤ 60 ∧ InSh b ns ∧
  RetL ((ch (frms b p s ns) (fun i => t + (i : Int) * ln) (frms b p s ns).length).map V.int) H Q
theorem frms_13 {b s : Nat} {p : Pa} {ns : List Int} (hb : b ≤ 9) (hs : s ≤ 2) (hl : ns.length ≤ 60) : (frms b p s ns).length ≤ 780 := by
  have h := frms_sz b p s ns
  have h3 : ns.length * sz b p s ≤ 60 * 13 := Nat.mul_le_mul hl (sz_le hb hs)
  omega
theorem body_stext (T : Tx K mg) : ∀ (f : Addr) (cdv : Value) (A : Around) (outer : List Env) (s : Shared) (H : Hp) (vs : List V) (Q : VK) (E : XK), Room 7 (A.deeper (envOfC "sent_text" (defScope s_sent_text) s.heap.objs.size f cdv)) → sp_stext K vs H Q E →
      ∃ t, PSs (cxOf CX0 P w K mg base ["shape", "length", "numbers", "begin", "levels"] "sent_text" (defScope s_sent_text) f cdv A outer s H E).nox (defBody s_sent_text) t ∧ t { nx := fun _ H' => Q .non H', rt := Q } (start ["shape", "length", "numbers", "begin", "levels"] vs) H := by
  have c_check_shape := cal_check_shape (P := P) (w := w) (base := base) T
  have c_check_length := cal_check_length (P := P) (w := w) (base := base) T
  have c_check_text := cal_check_text (P := P) (w := w) (base := base) T
  have c_check_tick := cal_check_tick (P := P) (w := w) (base := base) T
  have c_levels_of := cal_levels (P := P) (w := w) (base := base) T
  have c_changes_of := cal_changes (P := P) (w := w) (base := base) T
  refine fun f cdv A outer s H vs Q E hr h => ⟨_, (pss_cons (ps_expr (pe_cal c_check_shape (hr.mono (by decide)) pass0 (pa_cons (pv 0) pa_nil)))
      (pss_cons (ps_expr (pe_cal c_check_length (hr.mono (by decide)) pass0 (pa_cons (pv 1) pa_nil)))
      (pss_cons (ps_expr (pe_cal c_check_text (hr.mono (by decide)) pass0 (pa_cons (pv 0) (pa_cons (pv 2) pa_nil))))
      (pss_cons (ps_expr (pe_cal c_check_tick (hr.mono (by decide)) pass0 (pa_cons (pv 3) pa_nil)))
      (pss_cons (ps_set (i := 4) sc_sent_text.nd rfl (Or.inl rfl) (pe_cal c_levels_of (hr.mono (by decide)) pass0 (pa_cons (pv 0) (pa_cons (pv 2) pa_nil))))
      (pss_one (ps_ret (pe_cal c_changes_of (hr.mono (by decide)) pass0 (pa_cons (pv 4) (pa_cons (pv 3) (pa_cons (pe_op op_rep (pe_lst (pa_cons (pv 1) pa_nil)) (pe_callB call_len_seq (by rfl) T.b_len (by decide +kernel) (pa_cons (pv 4) pa_nil))) pa_nil))))))))))), ?_⟩
  obtain ⟨g, b, p, s, ln, a, ns, t, rfl, sh, hln, sq, hl, hin, q⟩ := h
  have h13 : (frms b p s ns).length ≤ 780 := by
    obtain ⟨_, _, _, _, h, _, h'⟩ := sh
    exact frms_13 h h' hl
  refine ⟨_, rfl, g, b, p, s, rfl, sh, _, rfl, _, rfl, hln, _, rfl, _, rfl, g, b, p, s, a, ns, rfl, sh, sq, hl, hin, fun H1 e1 => ?_⟩
  refine ⟨_, rfl, _, rfl, _, rfl, _, rfl, g, b, p, s, a, ns, rfl, sh.ex e1, ex_l e1 sq, hl, hin, fun F H2 nF e2 hF => ?_⟩
  refine ⟨_, rfl, _, rfl, _, rfl, by show 1 ≤ sizeLine; decide, fun L1 n1 => ⟨_, rfl, F, _, rfl, .inl (sq_of (Ex.new n1 _ _ hF)), L1, _, _, rfl, rfl, upd_same, by omega, ?_, ?_, fun L2 n2 => ?_⟩⟩
  · rw [List.length_map]
    omega
  · rw [List.length_map]
    show 1 * (((frms b p s ns).length : Nat) : Int).toNat ≤ sizeLine
    rw [Int.toNat_natCast, sizeLine_eq]
    omega
  rw [List.length_map, rep_one]
  have fl : (frms b p s ns).length = (List.replicate (frms b p s ns).length ln).length := by rw [List.length_replicate]
  refine ⟨F, L2, t, _, _, rfl, sq_of (Ex.new n2 _ _ (Ex.new n1 _ _ hF)), sq_of upd_same, fl, by omega, fun G H3 nG e3 hG => ?_⟩
  have e123 := e1.trans (e2.trans ((Ex.new n1 (o := .lst [.int ln])).trans (Ex.new n2 (o := .lst ((List.replicate (frms b p s ns).length ln).map V.int)))))
  have ec : ch (frms b p s ns) (tkd t (List.replicate (frms b p s ns).length ln)) (frms b p s ns).length = ch (frms b p s ns) (fun i => t + (i : Int) * ln) (frms b p s ns).length := ch_congr fun i hi => tkd_rep _ _ (by omega)
  rw [ec] at hG
  exact q G H3 (fresh_back e123 nG) (e123.trans e3) hG
theorem len_stext {vs H Q} {E : XK} (h : sp_stext K vs H Q E) : vs.length = (["shape", "length", "numbers", "begin"] : List Str).length := by
  obtain ⟨g, b, p, s, ln, a, ns, t, rfl, _⟩ := h
  rfl
theorem cal_stext (T : Tx K mg) : Cal P w K mg base CX0 8 "sent_text" ["shape", "length", "numbers", "begin"] (sp_stext K) :=
  T.d_sent_text.cal sc_sent_text (fun vs H Q E h => len_stext h) (fun _ _ _ _ _ _ us hl => match us, hl with | [_, _, _, _], _ => rfl) (body_stext T)
theorem cal_stextK (T : Tx K mg) : CalK P w K mg base CX0 8 "sent_text" ["begin", "numbers", "shape", "length"] ["shape", "length", "numbers", "begin"] (gPm [2, 3, 1, 0]) (sp_stext K) := by
  refine T.d_sent_text.calK (gPm [2, 3, 1, 0]) (fun kV doc pm an cdv ct us ws hl => ?_) (rel_gPm _) sc_sent_text (fun vs H Q E h => len_stext h) (body_stext T)
  match us, ws, hl with
  | [], [a, b, c, d], _ => rfl
def sp_uneven (K : PySem.W.Frag) : Sp := fun vs H Q _ => ∃ g b p s a ns t c ds, vs = [g, .ref a, .int t, .ref c] ∧ IsSh K H g b p s ∧ SqL K H a (ns.map V.int) ∧ ns.length ≤ 60 ∧ InSh b ns ∧ SqL K H c (ds.map V.int) ∧
  ds.length = (frms b p s ns).length ∧ (∀ d ∈ ds, 1 ≤ d) ∧ RetL ((ch (frms b p s ns) (tkd t ds) (frms b p s ns).length).map V.int) H Q
theorem body_uneven (T : Tx K mg) : ∀ (f : Addr) (cdv : Value) (A : Around) (outer : List Env) (s : Shared) (H : Hp) (vs : List V) (Q : VK) (E : XK), Room 7 (A.deeper (envOfC "sent_unevenly" (defScope s_sent_unevenly) s.heap.objs.size f cdv)) → sp_uneven K vs H Q E →
      ∃ t, PSs (cxOf CX0 P w K mg base ["shape", "numbers", "begin", "lasts", "levels"] "sent_unevenly" (defScope s_sent_unevenly) f cdv A outer s H E).nox (defBody s_sent_unevenly) t ∧ t { nx := fun _ H' => Q .non H', rt := Q } (start ["shape", "numbers", "begin", "lasts", "levels"] vs) H := by
  have c_check_shape := cal_check_shape (P := P) (w := w) (base := base) T
  have c_check_text := cal_check_text (P := P) (w := w) (base := base) T
  have c_check_tick := cal_check_tick (P := P) (w := w) (base := base) T
  have c_check_lasts := cal_check_lasts (P := P) (w := w) (base := base) T
  have c_levels_of := cal_levels (P := P) (w := w) (base := base) T
  have c_changes_of := cal_changes (P := P) (w := w) (base := base) T
  refine fun f cdv A outer s H vs Q E hr h => ⟨_, (pss_cons (ps_expr (pe_cal c_check_shape (hr.mono (by decide)) pass0 (pa_cons (pv 0) pa_nil)))
      (pss_cons (ps_expr (pe_cal c_check_text (hr.mono (by decide)) pass0 (pa_cons (pv 0) (pa_cons (pv 1) pa_nil))))
      (pss_cons (ps_expr (pe_cal c_check_tick (hr.mono (by decide)) pass0 (pa_cons (pv 2) pa_nil)))
      (pss_cons (ps_set (i := 4) sc_sent_unevenly.nd rfl (Or.inl rfl) (pe_cal c_levels_of (hr.mono (by decide)) pass0 (pa_cons (pv 0) (pa_cons (pv 1) pa_nil))))
      (pss_cons (ps_expr (pe_cal c_check_lasts (hr.mono (by decide)) pass0 (pa_cons (pe_callB call_len_seq (by rfl) T.b_len (by decide +kernel) (pa_cons (pv 4) pa_nil)) (pa_cons (pv 3) pa_nil))))
      (pss_one (ps_ret (pe_cal c_changes_of (hr.mono (by decide)) pass0 (pa_cons (pv 4) (pa_cons (pv 2) (pa_cons (pv 3) pa_nil))))))))))), ?_⟩
  obtain ⟨g, b, p, s, a, ns, t, c, ds, rfl, sh, sq, hl, hin, sc, hd, hd1, q⟩ := h
  have h13 : (frms b p s ns).length ≤ 780 := by
    obtain ⟨_, _, _, _, h, _, h'⟩ := sh
    exact frms_13 h h' hl
  refine ⟨_, rfl, g, b, p, s, rfl, sh, _, rfl, _, rfl, g, b, p, s, a, ns, rfl, sh, sq, hl, hin, fun H1 e1 => ?_⟩
  refine ⟨_, rfl, _, rfl, _, rfl, _, rfl, g, b, p, s, a, ns, rfl, sh.ex e1, ex_l e1 sq, hl, hin, fun F H2 nF e2 hF => ?_⟩
  have e12 := e1.trans e2
  refine ⟨_, rfl, F, _, rfl, .inl (sq_of hF), _, rfl, ds.length, c, ds, by rw [List.length_map, hd]; rfl, ex_l e12 sc, rfl, hd1, fun H3 e3 => ?_⟩
  have e123 := e12.trans e3
  exact ⟨_, rfl, _, rfl, _, rfl, F, c, t, _, ds, rfl, sq_of (e3 _ _ hF), ex_l e123 sc, hd.symm, by omega, fun G H4 nG e4 hG => q G H4 (fresh_back e123 nG) (e123.trans e4) hG⟩
theorem len_uneven {vs H Q} {E : XK} (h : sp_uneven K vs H Q E) : vs.length = (["shape", "numbers", "begin", "lasts"] : List Str).length := by
  obtain ⟨g, b, p, s, a, ns, t, c, ds, rfl, _⟩ := h
  rfl
theorem cal_uneven (T : Tx K mg) : Cal P w K mg base CX0 8 "sent_unevenly" ["shape", "numbers", "begin", "lasts"] (sp_uneven K) :=
  T.d_sent_unevenly.cal sc_sent_unevenly (fun vs H Q E h => len_uneven h) (fun _ _ _ _ _ _ us hl => match us, hl with | [_, _, _, _], _ => rfl) (body_uneven T)
theorem cal_unevenK (T : Tx K mg) : CalK P w K mg base CX0 8 "sent_unevenly" ["lasts", "begin", "numbers", "shape"] ["shape", "numbers", "begin", "lasts"] (gPm [3, 2, 1, 0]) (sp_uneven K) := by
  refine T.d_sent_unevenly.calK (gPm [3, 2, 1, 0]) (fun kV doc pm an cdv ct us ws hl => ?_) (rel_gPm _) sc_sent_unevenly (fun vs H Q E h => len_uneven h) (body_uneven T)
  match us, ws, hl with
  | [], [a, b, c, d], _ => rfl
end
end LW
namespace LW
open PySem PySem.Spec PyProof.Rows L2 Evl SB
section
variable {P : Program} {w : World} {K : PySem.W.Frag} {mg : Str → Option Value} {base : Heap}
/-! ### the law's lengths and changes -/
def sp_length : Sp := fun vs H Q _ => ∃ (a : Addr) (n : Nat), vs = [.ref a] ∧ Src H a n ∧ n ≤ 900000 ∧ ∀ (l : Int) H', 1 ≤ l → l ≤ 100000000000000000000000000 → Src H' a (n + 2) → Kp a H H' → Q (.int l) H'
theorem cal_length (T : Tx K mg) : Cal P w K mg base CX0 2 "_law_length" ["_law_source_here"] sp_length := by
  have c_law_draw := cal_draw (P := P) (w := w) (base := base) T
  refine T.d_law_length.cal sc_law_length (fun vs H Q E h => ?_) (fun _ _ _ _ _ _ us hl => match us, hl with | [_], _ => rfl) (fun f cdv A outer s H vs Q E hr h => ⟨_, (pss_cons (ps_set (i := 1) sc_law_length.nd rfl (Or.inl rfl) (pe_ix ix_list (pe_lst (pa_cons pe_int (pa_cons pe_int (pa_cons pe_int (pa_cons (pe_op op_powB pe_int pe_int) (pa_cons (pe_op op_powB pe_int pe_int) pa_nil)))))) (pe_cal c_law_draw (hr.mono (by decide)) pass0 (pa_cons (pv 0) (pa_cons pe_int pa_nil))) (fun _ _ => rfl)))
      (pss_one (ps_ret (pe_op op_add pe_int (pe_cal c_law_draw (hr.mono (by decide)) pass0 (pa_cons (pv 0) (pa_cons (pv 1) pa_nil))))))), ?_⟩)
  · obtain ⟨a, n, rfl, _⟩ := h
    rfl
  · obtain ⟨a, n, rfl, src, hn, q⟩ := h
    refine ⟨10, 9, rfl, rfl, cpow10 9 (by decide) (by decide), 10, 26, rfl, rfl, cpow10 26 (by decide) (by decide), (by show 5 ≤ sizeLine; decide), fun L nL => ?_⟩
    have L_a := src.ne nL
    refine ⟨_, rfl, a, 5, n, rfl, src.ex (Ex.new nL), by omega, by decide, by decide, fun d H1 d0 d1 src1 k1 => ?_⟩
    have hL := k1 L _ L_a upd_same
    obtain ⟨y, hy, y0, y1⟩ : ∃ y : Int, atI [V.int 1, .int 2, .int 12, .int (10 ^ (9 : Int).toNat), .int (10 ^ (26 : Int).toNat)] d = some (.int y) ∧ 1 ≤ y ∧ y ≤ 100000000000000000000000000 := by
      have : d = 0 ∨ d = 1 ∨ d = 2 ∨ d = 3 ∨ d = 4 := by omega
      rcases this with rfl | rfl | rfl | rfl | rfl
      · exact ⟨1, rfl, by decide, by decide⟩
      · exact ⟨2, rfl, by decide, by decide⟩
      · exact ⟨12, rfl, by decide, by decide⟩
      · exact ⟨_, rfl, by decide, by decide⟩
      · exact ⟨_, rfl, by decide, by decide⟩
    refine ⟨L, _, d, _, rfl, rfl, sq_of hL, hy, ?_⟩
    refine ⟨_, rfl, _, rfl, a, y, n + 1, rfl, src1, by omega, by omega, by omega, fun d2 H2 d20 d21 src2 k2 => ⟨_, _, rfl, rfl, ?_⟩⟩
    exact q _ H2 (by omega) (by omega) src2 (((Ex.kp (Ex.new nL)).trans k1).trans k2)
def sp_lchanges (K : PySem.W.Frag) : Sp := fun vs H Q _ => ∃ (a c : Addr) (ls ts : List Int), vs = [.ref a, .ref c] ∧ SqL K H a (ls.map V.int) ∧ SqL K H c (ts.map V.int) ∧ ls.length = ts.length ∧ ls.length ≤ 10000 ∧ RetL ((ch ls (fun i => ts.getD i 0) ls.length).map V.int) H Q
theorem cal_lchanges (T : Tx K mg) : Cal P w K mg base CX0 1 "_law_changes" ["_law_levels", "_law_ticks"] (sp_lchanges K) := by
  refine T.d_law_changes.cal sc_law_changes (fun vs H Q E h => ?_) (fun _ _ _ _ _ _ us hl => match us, hl with | [_, _], _ => rfl) (fun f cdv A outer s H vs Q E hr h => ⟨_, (pss_cons (ps_par (i := 2) (j := 3) (by rfl) sc_law_changes.nd rfl rfl (by decide) rfl rfl (pa_cons (pe_lst pa_nil) (pa_cons pe_int pa_nil)) (by rfl))
      (pss_cons (ps_for PassesOwn.never rfl (pi_zip (by rfl) T.b_zip (pa_cons (pv 0) (pa_cons (pv 1) pa_nil))) (pg_tup rfl (pgs_cons (pg_name (i := 4) sc_law_changes.nd rfl (Or.inl rfl)) (pgs_cons (pg_name (i := 5) sc_law_changes.nd rfl (Or.inl rfl)) pgs_nil))) (pss_cons (ps_if (pt_cmpR op_ne (pv 4) (pv 3) (nomark _)) (pss_one (ps_expr (pe_bm PySem.F.plainAttrs_list PySem.F.slot_list_append PySem.F.type_list_append mt_append (pv 2) (pa_cons (pv 5) pa_nil)))) pss_nil)
      (pss_one (ps_set (i := 3) sc_law_changes.nd rfl (Or.inl rfl) (pv 4)))))
      (pss_one (ps_ret (pv 2))))), ?_⟩)
  · obtain ⟨a, c, ls, ts, rfl, _⟩ := h
    rfl
  · obtain ⟨a, c, ls, ts, rfl, sa, sc, hl, hz, q⟩ := h
    refine ⟨Nat.zero_le _, fun L nL => ⟨_, _, rfl, ?_⟩⟩
    refine ⟨_, rfl, _, rfl, a, c, _, _, rfl, ex_l (Ex.new nL) sa, ex_l (Ex.new nL) sc, ?_⟩
    refine RZ.for_zipL (K := K) (a := a) (b := c) (xs := ls.map V.int) (ys := ts.map V.int) (by rw [List.length_map, List.length_map, hl])
      (fun i σ H1 => ∃ u v, σ = [some (.ref a), some (.ref c), some (.ref L), some (.int (pvl ls i)), u, v] ∧ Ex H H1 ∧ H1 L = some (.lst ((ch ls (fun i => ts.getD i 0) i).map V.int)))
      ⟨none, none, rfl, Ex.new nL, upd_same⟩ (fun i σ H1 ⟨_, _, _, e, _⟩ => ⟨ex_l e sa, ex_l e sc⟩) ?_ ?_
    · rintro i x y T1 σ H1 hx hy ⟨u, v, rfl, ex, hL⟩ nT
      obtain ⟨l, hl1, rfl⟩ := ints_at hx
      obtain ⟨d, hd1, rfl⟩ := ints_at hy
      have il := (List.getElem?_eq_some_iff.mp hl1).1
      have ex2 : Ex H (upd H1 T1 (.tup [.int l, .int d])) := ex.trans (Ex.new nT)
      have hL2 : (upd H1 T1 (.tup [.int l, .int d])) L = some (.lst ((ch ls (fun i => ts.getD i 0) i).map V.int)) := Ex.new nT _ _ hL
      have eg : ls.getD i 1 = l := by rw [List.getD_eq_getElem?_getD, hl1]; rfl
      have ed : ts.getD i 0 = d := by rw [List.getD_eq_getElem?_getD, hd1]; rfl
      have ep : l = pvl ls (i + 1) := eg.symm
      refine ⟨T1, _, rfl, .inl (.inl upd_same), rfl, _, _, rfl, _, _, rfl, rfl, ?_⟩
      refine ⟨_, rfl, _, rfl, rfl, _, rfl, ?_⟩
      by_cases c1 : l = pvl ls i
      · have e1 : (!decide (V.int l = V.int (pvl ls i))) = false := by rw [← c1]; simp
        rw [e1]
        refine iteF ⟨_, rfl, some (.int l), some (.int d), ?_, ex2, ?_⟩
        · rw [← ep]
          rfl
        · rw [hL2]
          show _ = some (HO.lst (List.map V.int (ch ls (fun i => ts.getD i 0) i ++ (if ls.getD i 1 = pvl ls i then [] else [ts.getD i 0]))))
          rw [eg, if_pos c1, List.append_nil]
      · have e1 : (!decide (V.int l = V.int (pvl ls i))) = true := by
          have : decide (V.int l = V.int (pvl ls i)) = false := decide_eq_false (fun z => c1 (by cases z; rfl))
          rw [this]
          rfl
        rw [e1]
        refine iteT ⟨_, rfl, .inl ⟨rfl, _, sq_of hL2⟩, _, rfl, L, _, _, rfl, rfl, hL2, ?_, ?_⟩
        · have := ch_len ls (fun i => ts.getD i 0) i
          rw [List.length_map]
          exact Nat.lt_of_le_of_lt (show _ ≤ 10000 by omega) (by decide)
        · refine ⟨_, rfl, some (.int l), some (.int d), ?_, ex2.mut nL, ?_⟩
          · rw [← ep]
            rfl
          · rw [upd_same]
            show _ = some (HO.lst (List.map V.int (ch ls (fun i => ts.getD i 0) i ++ (if ls.getD i 1 = pvl ls i then [] else [ts.getD i 0]))))
            rw [eg, if_neg c1, ed, List.map_append]
            rfl
    · rintro σ H1 ⟨u, v, rfl, ex, hL⟩
      rw [List.length_map] at hL
      exact ⟨_, rfl, q L H1 nL ex hL⟩
theorem str_eq (x : Str) : decide (V.str x = V.str x) = true := decide_eq_true rfl
def Sml (xs : List Int) : Prop := (∀ n ∈ xs, n.natAbs < 2 ^ 200) ∧ xs.length ≤ 10000
def sp_is_right (K : PySem.W.Frag) : Sp := fun vs H Q _ => ∃ (a c : Addr) (xs : List Int), vs = [.str (PyData.list (dI xs)).shown, .ref a, .ref c] ∧ SqL K H a (xs.map V.int) ∧ SqL K H c (xs.map V.int) ∧ Sml xs ∧ Q (.bl true) H
theorem cal_is_right (T : Tx K mg) : CalG P w K mg base CX0 1 "_law_is_right" ["_law_told", "_law_due", "_law_again"] (sp_is_right K) := by
  refine T.d_law_is_right.calG sc_law_is_right (fun vs H Q E h => ?_) (fun _ _ _ _ _ _ us hl => match us, hl with | [_, _, _], _ => rfl) (fun f cdv A outer s H vs Q E hr hgd h => ⟨_, (pss_one (ps_ret (pe_and (pe_cmpR op_eq (pv 0) (pe_callB (call_rp hgd hr.units) (by rfl) T.b_repr (by decide +kernel) (pa_cons (pv 1) pa_nil)) (nomark _)) (pe_one (pe_cmpR op_eq (pe_callB (call_rp hgd hr.units) (by rfl) T.b_repr (by decide +kernel) (pa_cons (pv 2) pa_nil)) (pe_callB (call_rp hgd hr.units) (by rfl) T.b_repr (by decide +kernel) (pa_cons (pv 1) pa_nil)) (nomark _)))))), ?_⟩)
  · obtain ⟨a, c, xs, rfl, _⟩ := h
    rfl
  · obtain ⟨a, c, xs, rfl, sa, sc, ⟨hs, hl⟩, q⟩ := h
    obtain ⟨z1, z2, z3, z4⟩ := show_list hs hl
    refine ⟨_, rfl, _, rfl, _, _, rfl, .lst sa (dp_ints _), z1, z2, z3, z4, rfl, _, rfl, ?_⟩
    rw [str_eq]
    refine iteT ⟨_, rfl, _, _, rfl, .lst sc (dp_ints _), z1, z2, z3, z4, _, rfl, _, _, rfl, .lst sa (dp_ints _), z1, z2, z3, z4, rfl, ?_⟩
    rw [str_eq]
    exact q
end
end LW
namespace LW
open PySem PySem.Spec PyProof.Rows L2 Evl SB
section
variable {P : Program} {w : World} {K : PySem.W.Frag} {mg : Str → Option Value} {base : Heap}
/-- between two numbers of a sending -/
structure St6 (K : PySem.W.Frag) (H0 H : Hp) (S F L T X : Addr) (n k : Nat) (b : Nat) (p : Pa) (s : Nat) (bit : Int) (ms : List Int) (snd : List (Int × Int)) (tick : Int) : Prop where
  kp : Kp S H0 H
  src : Src H S (n + 3 * k)
  hF : ∃ xs, H F = some (.lst xs) ∧ Snd K H xs snd
  hL : H L = some (.lst ((frms b p s (snd.map (·.2))).map V.int))
  hT : H T = some (.lst ((tks (sz b p s) bit snd).map V.int))
  hX : H X = some (.lst (ms.map V.int))
  num : snd.map (·.2) = ms.take k
  gaps : Gaps ((sz b p s : Nat) * bit) snd
  bnd : ∀ q ∈ snd, -10000000000000000000000000000 ≤ q.1 ∧ q.1 + (sz b p s : Nat) * bit ≤ tick
  tb : -10000000000000000000000000000 ≤ tick ∧ tick ≤ 100000000000000000000000000000 + (k : Int) * 10000000000000000000000000000
theorem Gaps.snoc {d : Int} {snd : List (Int × Int)} {q : Int × Int} (g : Gaps d snd) (h : ∀ r ∈ snd, r.1 + d ≤ q.1) : Gaps d (snd ++ [q]) := by
  intro k x y h1 h2
  have hk := (List.getElem?_eq_some_iff.mp h2).1
  rw [List.length_append] at hk
  simp at hk
  by_cases e : k + 1 < snd.length
  · rw [List.getElem?_append_left (by omega)] at h1
    rw [List.getElem?_append_left e] at h2
    exact g k x y h1 h2
  · rw [List.getElem?_append_left (by omega)] at h1
    rw [List.getElem?_append_right (by omega), show k + 1 - snd.length = 0 by omega] at h2
    obtain rfl : q = y := Option.some.inj h2
    exact h x (List.mem_of_getElem? h1)
theorem small200 {i : Int} (h1 : -1000000000000000000000000000000000 ≤ i) (h2 : i ≤ 1000000000000000000000000000000000) : i.natAbs < 2 ^ 200 := by omega
theorem mul_le13 {n : Nat} {bit : Int} (hn : n ≤ 13) (h0 : 1 ≤ bit) (h1 : bit ≤ 100000000000000000000000000) : 0 ≤ (n : Int) * bit ∧ (n : Int) * bit ≤ 1300000000000000000000000000 := by
  have a1 : (n : Int) * bit ≤ 13 * bit := Int.mul_le_mul_of_nonneg_right (by omega) (by omega)
  have a2 : 0 ≤ (n : Int) * bit := Int.mul_nonneg (by omega) (by omega)
  omega
def sp_sright (K : PySem.W.Frag) : Sp := fun vs H Q _ => ∃ (S : Addr) (n : Nat) (g : V) (b : Nat) (p : Pa) (s m : Nat), vs = [.ref S, g, .int (m : Nat)] ∧ Src H S n ∧ n ≤ 100000 ∧ IsSh K H g b p s ∧ m ≤ 60 ∧
  ∀ H', Kp S H H' → Src H' S (n + 400) → Q (.bl true) H'
theorem cal_sright (T : Tx K mg) : CalG P w K mg base CX0 9 "_law_sending_right" ["_law_source_here", "_law_form", "_law_many"] (sp_sright K) := by
  have c_law_draw := cal_draw (P := P) (w := w) (base := base) T
  have c_law_length := cal_length (P := P) (w := w) (base := base) T
  have c_law_text := cal_text (P := P) (w := w) (base := base) T
  have c_law_frame := cal_lframe (P := P) (w := w) (base := base) T
  have c_law_changes := cal_lchanges (P := P) (w := w) (base := base) T
  have c_law_is_right := cal_is_right (P := P) (w := w) (base := base) T
  have c_sent := cal_sent (P := P) (w := w) (base := base) T
  have c_sent_sending_length_shape := cal_sentK (P := P) (w := w) (base := base) T
  refine T.d_law_sending_right.calG sc_law_sending_right (fun vs H Q E h => ?_) (fun _ _ _ _ _ _ us hl => match us, hl with | [_, _, _], _ => rfl) (fun f cdv A outer s H vs Q E hr hgd h => ⟨_, (pss_cons (ps_par (i := 3) (j := 4) (by rfl) sc_law_sending_right.nd rfl rfl (by decide) rfl rfl (pa_cons (pe_cal c_law_length (hr.mono (by decide)) pass0 (pa_cons (pv 0) pa_nil)) (pa_cons (pe_ix ix_list (pe_lst (pa_cons pe_int (pa_cons (pe_un un_neg (pe_op op_powB pe_int pe_int)) (pa_cons pe_int (pa_cons (pe_op op_powB pe_int pe_int) pa_nil))))) (pe_cal c_law_draw (hr.mono (by decide)) pass0 (pa_cons (pv 0) (pa_cons pe_int pa_nil))) (fun _ _ => rfl)) pa_nil)) (by rfl))
      (pss_cons (ps_par3 (i := 5) (j := 6) (l := 7) (by rfl) sc_law_sending_right.nd rfl rfl rfl (by decide) (by decide) (by decide) rfl rfl rfl (pa_cons (pe_lst pa_nil) (pa_cons (pe_lst pa_nil) (pa_cons (pe_lst pa_nil) pa_nil))) (by rfl))
      (pss_cons (ps_for PassesOwn.never rfl (pi_list (pe_cal c_law_text (hr.mono (by decide)) pass0 (pa_cons (pv 0) (pa_cons (pv 1) (pa_cons (pv 2) pa_nil))))) (pg_name (i := 8) sc_law_sending_right.nd rfl (Or.inl rfl)) (pss_cons (ps_expr (pe_bm PySem.F.plainAttrs_list PySem.F.slot_list_append PySem.F.type_list_append mt_append (pv 5) (pa_cons (pe_tup (pa_cons (pv 4) (pa_cons (pv 8) pa_nil))) pa_nil)))
      (pss_cons (ps_for PassesOwn.never rfl (pi_enum (by rfl) T.b_enumerate (pa_cons (pe_cal c_law_frame (hr.mono (by decide)) pass0 (pa_cons (pv 1) (pa_cons (pv 8) pa_nil))) pa_nil)) (pg_tup rfl (pgs_cons (pg_name (i := 9) sc_law_sending_right.nd rfl (Or.inl rfl)) (pgs_cons (pg_name (i := 10) sc_law_sending_right.nd rfl (Or.inl rfl)) pgs_nil))) (pss_cons (ps_expr (pe_bm PySem.F.plainAttrs_list PySem.F.slot_list_append PySem.F.type_list_append mt_append (pv 6) (pa_cons (pv 10) pa_nil)))
      (pss_one (ps_expr (pe_bm PySem.F.plainAttrs_list PySem.F.slot_list_append PySem.F.type_list_append mt_append (pv 7) (pa_cons (pe_op op_add (pv 4) (pe_op op_mul (pv 9) (pv 3))) pa_nil))))))
      (pss_cons (ps_set (i := 11) sc_law_sending_right.nd rfl (Or.inl rfl) (pe_ix ix_list (pe_lst (pa_cons pe_int (pa_cons pe_int (pa_cons pe_int (pa_cons (pe_cal c_law_draw (hr.mono (by decide)) pass0 (pa_cons (pv 0) (pa_cons pe_int pa_nil))) (pa_cons (pe_cal c_law_draw (hr.mono (by decide)) pass0 (pa_cons (pv 0) (pa_cons (pe_op op_mul pe_int (pv 3)) pa_nil))) pa_nil)))))) (pe_cal c_law_draw (hr.mono (by decide)) pass0 (pa_cons (pv 0) (pa_cons pe_int pa_nil))) (fun _ _ => rfl)))
      (pss_one (ps_set (i := 4) sc_law_sending_right.nd rfl (Or.inl rfl) (pe_op op_add (pe_op op_add (pv 4) (pe_op op_mul (pe_callB call_len_seq (by rfl) T.b_len (by decide +kernel) (pa_cons (pe_cal c_law_frame (hr.mono (by decide)) pass0 (pa_cons (pv 1) (pa_cons (pv 8) pa_nil))) pa_nil)) (pv 3))) (pv 11))))))))
      (pss_cons (ps_par (i := 12) (j := 13) (by rfl) sc_law_sending_right.nd rfl rfl (by decide) rfl rfl (pa_cons (pe_callTy call_list_of (by rfl) T.b_list (by decide +kernel) (pa_cons (pv 5) pa_nil)) (pa_cons (pe_cal c_law_changes (hr.mono (by decide)) pass0 (pa_cons (pv 6) (pa_cons (pv 7) pa_nil))) pa_nil)) (by rfl))
      (pss_cons (ps_set (i := 14) sc_law_sending_right.nd rfl (Or.inl rfl) (pe_cal c_sent (hr.mono (by decide)) pass0 (pa_cons (pv 1) (pa_cons (pv 3) (pa_cons (pv 12) pa_nil)))))
      (pss_cons (ps_set (i := 15) sc_law_sending_right.nd rfl (Or.inl rfl) (pe_callB (call_rp hgd hr.units) (by rfl) T.b_repr (by decide +kernel) (pa_cons (pv 14) pa_nil)))
      (pss_cons (ps_expr (pe_bm PySem.F.plainAttrs_list PySem.F.slot_list_append PySem.F.type_list_append mt_append (pv 14) (pa_cons pe_int pa_nil)))
      (pss_cons (ps_if (pt_not (pt_val (pe_calG c_law_is_right (hr.mono (by decide)) hgd pass0 (pa_cons (pv 15) (pa_cons (pv 13) (pa_cons (pe_calK c_sent_sending_length_shape (hr.mono (by decide)) pass0 (pk_cons (pv 12) (pk_cons (pv 3) (pk_cons (pv 1) pk_nil)))) pa_nil)))))) (pss_one (ps_ret pe_bl)) pss_nil)
      (pss_one (ps_ret (pe_cmpR (op_eqD hr.units) (pv 12) (pv 5) (nomark _)))))))))))), ?_⟩)
  · obtain ⟨S, n, g, b, p, s, m, rfl, _⟩ := h
    rfl
  · obtain ⟨S, n, g, b, p, s, m, rfl, src, hn, sh, hm, q⟩ := h
    obtain ⟨hb9, hs1, hs2⟩ : b ≤ 9 ∧ 1 ≤ s ∧ s ≤ 2 := by
      obtain ⟨_, _, _, _, h1, h2, h3⟩ := sh
      exact ⟨h1, h2, h3⟩
    have h13 : sz b p s ≤ 13 := sz_le hb9 hs2
    obtain ⟨ys, hS⟩ := src.at
    have shk : ∀ {H' : Hp}, Kp S H H' → IsSh K H' g b p s := fun k => sh.kp k hS
    -- bit, tick
    refine ⟨_, rfl, S, n, rfl, src, by omega, fun bit H1 bit1 bit2 src1 k1 => ?_⟩
    refine ⟨10, 28, rfl, rfl, cpow10 28 (by decide) (by decide), _, rfl, 10, 29, rfl, rfl, cpow10 29 (by decide) (by decide), (by show 4 ≤ sizeLine; decide), fun M nM => ?_⟩
    have M_S := src1.ne nM
    refine ⟨_, rfl, S, 4, n + 2, rfl, src1.ex (Ex.new nM), by omega, by decide, by decide, fun d H2 d0 d1 src2 k2 => ?_⟩
    have hM := k2 M _ M_S upd_same
    obtain ⟨tick0, hy, y0, y1⟩ : ∃ y : Int, atI [V.int 0, .int (-(10 ^ (28 : Int).toNat)), .int 17, .int (10 ^ (29 : Int).toNat)] d = some (.int y) ∧ -10000000000000000000000000000 ≤ y ∧ y ≤ 100000000000000000000000000000 := by
      have : d = 0 ∨ d = 1 ∨ d = 2 ∨ d = 3 := by omega
      rcases this with rfl | rfl | rfl | rfl
      · exact ⟨0, rfl, by decide, by decide⟩
      · exact ⟨_, rfl, by decide, by decide⟩
      · exact ⟨17, rfl, by decide, by decide⟩
      · exact ⟨_, rfl, by decide, by decide⟩
    refine ⟨M, _, d, _, rfl, rfl, sq_of hM, hy, _, _, rfl, ?_⟩
    have kp2 : Kp S H H2 := (k1.trans (Ex.kp (Ex.new nM))).trans k2
    -- frames, levels, ticks
    refine ⟨Nat.zero_le _, fun F nF => ⟨Nat.zero_le _, fun L nL => ⟨Nat.zero_le _, fun TT nT => ⟨_, _, _, rfl, ?_⟩⟩⟩⟩
    have F_S := src2.ne nF
    have src2a := src2.ex (Ex.new nF (o := .lst []))
    have L_S := src2a.ne nL
    have src2b := src2a.ex (Ex.new nL (o := .lst []))
    have T_S := src2b.ne nT
    have src3 := src2b.ex (Ex.new nT (o := .lst []))
    have L_F : L ≠ F := fun z => by rw [z, upd_same] at nL; cases nL
    have T_L : TT ≠ L := fun z => by rw [z, upd_same] at nT; cases nT
    have T_F : TT ≠ F := fun z => by rw [z, upd_ne (Ne.symm L_F), upd_same] at nT; cases nT
    have fF : H F = none := kp2.free nF F_S
    have fL : H L = none := by
      have h1 : H2 L = none := by rw [upd_ne L_F] at nL; exact nL
      exact kp2.free h1 L_S
    have fT : H TT = none := by
      have h1 : H2 TT = none := by rw [upd_ne T_L, upd_ne T_F] at nT; exact nT
      exact kp2.free h1 T_S
    have kp3 : Kp S H (upd (upd (upd H2 F (.lst [])) L (.lst [])) TT (.lst [])) := kp2.trans (Ex.kp (((Ex.new nF).trans (Ex.new nL)).trans (Ex.new nT)))
    have hT3 : (upd (upd (upd H2 F (.lst [])) L (.lst [])) TT (.lst [])) TT = some (.lst []) := upd_same
    have hL3 : (upd (upd (upd H2 F (.lst [])) L (.lst [])) TT (.lst [])) L = some (.lst []) := Ex.new nT _ _ upd_same
    have hF3 : (upd (upd (upd H2 F (.lst [])) L (.lst [])) TT (.lst [])) F = some (.lst []) := Ex.new nT _ _ (Ex.new nL _ _ upd_same)
    generalize upd (upd (upd H2 F (.lst [])) L (.lst [])) TT (.lst []) = H3 at src3 kp3 hT3 hL3 hF3
    -- for number in text(..)
    refine ⟨_, rfl, _, rfl, _, rfl, S, _, g, b, p, s, m, rfl, src3, by omega, shk kp3, by omega, fun X ms H4 nX k4 src4 lms inms hX => ?_⟩
    have X_S : X ≠ S := src3.ne nX
    have X_F : X ≠ F := fun z => by rw [z, hF3] at nX; cases nX
    have X_L : X ≠ L := fun z => by rw [z, hL3] at nX; cases nX
    have X_T : X ≠ TT := fun z => by rw [z, hT3] at nX; cases nX
    have fX : H X = none := kp3.free nX X_S
    have kp4 := kp3.trans k4
    refine ⟨X, rfl, ⟨_, sq_of hX⟩, for_list (K := K) (a := X) (xs := ms.map V.int) (fun k σ H5 => ∃ snd tick u1 u2 u3 u4, σ = [some (.ref S), some g, some (.int (m : Nat)), some (.int bit), some (.int tick), some (.ref F), some (.ref L), some (.ref TT), u1, u2, u3, u4, none, none, none, none] ∧
        St6 K H H5 S F L TT X (n + 2 + 1 + 3 * m) k b p s bit ms snd tick)
      ⟨[], tick0, none, none, none, none, rfl, ⟨kp4, src4.mono (by omega), ⟨[], k4 F _ F_S hF3, Snd.nil⟩, k4 L _ L_S hL3, k4 TT _ T_S hT3, hX, rfl, (fun k q r h => by simp at h), (fun q h => by cases h), by omega, by omega⟩⟩ (fun k σ H5 _ ⟨_, _, _, _, _, _, _, st⟩ => sq_of st.hX) ?_ ?_⟩
    · rintro k x σ H5 hx ⟨snd, tick, u1, u2, u3, u4, rfl, st⟩
      obtain ⟨z, hz, rfl⟩ := ints_at hx
      have hk := (List.getElem?_eq_some_iff.mp hz).1
      obtain ⟨z0, z1⟩ := inms z (List.mem_of_getElem? hz)
      obtain ⟨xs, hF5, hsnd⟩ := st.hF
      have hB := mul_le13 h13 bit1 bit2
      have lsnd : snd.length = k := by
        have h1 := congrArg List.length st.num
        rw [List.length_map, List.length_take] at h1
        omega
      -- frames.append((tick, number))
      refine ⟨_, rfl, .inl ⟨rfl, _, sq_of hF5⟩, _, rfl, _, rfl, (by show 2 ≤ sizeLine; decide), fun t nt => ⟨F, _, _, rfl, rfl, Ex.new nt _ _ hF5, ?_, ?_⟩⟩
      · have := hsnd.1
        exact small1000 (by omega)
      have e6 : Ex H5 (upd H5 t (.tup [.int tick, .int z])) := Ex.new nt
      have hFn : (upd H5 t (.tup [.int tick, .int z])) F = some (.lst xs) := e6 _ _ hF5
      have kp6 : Kp S H (upd (upd H5 t (.tup [.int tick, .int z])) F (.lst (xs ++ [.ref t]))) := (st.kp.trans (Ex.kp e6)).mut fF
      have src6 : Src (upd (upd H5 t (.tup [.int tick, .int z])) F (.lst (xs ++ [.ref t]))) S (n + 2 + 1 + 3 * m + 3 * k) := (st.src.ex e6).upd F_S
      have hF6 : (upd (upd H5 t (.tup [.int tick, .int z])) F (.lst (xs ++ [.ref t]))) F = some (.lst (xs ++ [.ref t])) := upd_same
      have snd6 : Snd K (upd (upd H5 t (.tup [.int tick, .int z])) F (.lst (xs ++ [.ref t]))) (xs ++ [.ref t]) (snd ++ [(tick, z)]) := Snd.kp Kp.upd hFn ((hsnd.ex e6).snoc (q := (tick, z)) (st_of upd_same))
      have hL6 : (upd (upd H5 t (.tup [.int tick, .int z])) F (.lst (xs ++ [.ref t]))) L = some (.lst ((frms b p s (snd.map (·.2))).map V.int)) := by
        rw [upd_ne L_F]
        exact e6 _ _ st.hL
      have hT6 : (upd (upd H5 t (.tup [.int tick, .int z])) F (.lst (xs ++ [.ref t]))) TT = some (.lst ((tks (sz b p s) bit snd).map V.int)) := by
        rw [upd_ne T_F]
        exact e6 _ _ st.hT
      have hX6 : (upd (upd H5 t (.tup [.int tick, .int z])) F (.lst (xs ++ [.ref t]))) X = some (.lst (ms.map V.int)) := by
        rw [upd_ne X_F]
        exact e6 _ _ st.hX
      generalize upd (upd H5 t (.tup [.int tick, .int z])) F (.lst (xs ++ [.ref t])) = H6 at kp6 src6 hF6 snd6 hL6 hT6 hX6
      -- for place, level in enumerate(frame(form, number))
      refine ⟨_, rfl, _, rfl, g, b, p, s, z, rfl, shk kp6, z0, z1, fun R H7 nR e7 hR => ?_⟩
      have R_L : R ≠ L := fun c => by rw [c, hL6] at nR; cases nR
      have R_T : R ≠ TT := fun c => by rw [c, hT6] at nR; cases nR
      refine ⟨R, _, rfl, sq_of hR, ?_⟩
      refine for_enum (K := K) (a := R) (xs := (frm b p s z).map V.int) (fun j σ H8 => ∃ v1 v2, σ = [some (.ref S), some g, some (.int (m : Nat)), some (.int bit), some (.int tick), some (.ref F), some (.ref L), some (.ref TT), some (.int z), v1, v2, u4, none, none, none, none] ∧
          Kp2 L TT H7 H8 ∧ H8 L = some (.lst ((frms b p s (snd.map (·.2)) ++ (frm b p s z).take j).map V.int)) ∧ H8 TT = some (.lst ((tks (sz b p s) bit snd ++ (List.range j).map fun i : Nat => tick + (i : Int) * bit).map V.int)))
        ⟨u2, u3, rfl, Kp2.refl, by rw [List.take_zero, List.append_nil]; exact e7 _ _ hL6, by rw [List.range_zero, List.map_nil, List.append_nil]; exact e7 _ _ hT6⟩ (fun j σ H8 _ ⟨_, _, _, k8, _⟩ => sq_of (k8 R _ R_L R_T hR)) ?_ ?_
      · rintro j y T1 σ H8 hy ⟨v1, v2, rfl, k8, hL8, hT8⟩ nT1
        obtain ⟨l, hl1, rfl⟩ := ints_at hy
        have hj := (List.getElem?_eq_some_iff.mp hl1).1
        rw [frm_sz] at hj
        have ln1 : (frms b p s (snd.map (·.2))).length ≤ 1000 := by
          rw [frms_sz, List.length_map, lsnd]
          have : k * sz b p s ≤ 60 * 13 := Nat.mul_le_mul (by omega) h13
          omega
        have ln2 : (tks (sz b p s) bit snd).length ≤ 1000 := by
          rw [tks_len, lsnd]
          have : k * sz b p s ≤ 60 * 13 := Nat.mul_le_mul (by omega) h13
          omega
        have e8 : Ex H8 (upd H8 T1 (.tup [.int (j : Nat), .int l])) := Ex.new nT1
        refine ⟨T1, _, rfl, .inl (.inl upd_same), rfl, _, _, rfl, _, _, rfl, rfl, ?_⟩
        refine ⟨_, rfl, .inl ⟨rfl, _, sq_of (e8 _ _ hL8)⟩, _, rfl, L, _, _, rfl, rfl, e8 _ _ hL8, ?_, ?_⟩
        · rw [List.length_map, List.length_append, List.length_take, frm_sz]
          exact Nat.lt_of_le_of_lt (show _ ≤ 2000 by omega) (by decide)
        have hT9 : (upd (upd H8 T1 (.tup [.int (j : Nat), .int l])) L (.lst ((frms b p s (snd.map (·.2)) ++ (frm b p s z).take j).map V.int ++ [.int l]))) TT = some (.lst ((tks (sz b p s) bit snd ++ (List.range j).map fun i : Nat => tick + (i : Int) * bit).map V.int)) := by
          rw [upd_ne T_L]
          exact e8 _ _ hT8
        refine ⟨_, rfl, .inl ⟨rfl, _, sq_of hT9⟩, _, rfl, _, rfl, _, rfl, _, _, rfl, rfl, .inl ⟨by omega, by omega⟩, _, _, rfl, rfl, TT, _, _, rfl, rfl, hT9, ?_, ?_⟩
        · rw [List.length_map, List.length_append, List.length_map, List.length_range]
          exact Nat.lt_of_le_of_lt (show _ ≤ 2000 by omega) (by decide)
        refine ⟨_, _, rfl, ((k8.ex e8).updA).updB, ?_, ?_⟩
        · rw [upd_ne (Ne.symm T_L), upd_same, List.take_add_one, hl1]
          simp [List.map_append]
        · rw [upd_same, List.range_succ]
          simp [List.map_append]
      rintro σ H8 ⟨v1, v2, rfl, k8, hL8, hT8⟩
      rw [List.length_map, List.take_length, ← frms_snoc] at hL8
      rw [List.length_map, frm_sz, ← tks_snoc (q := (tick, z))] at hT8
      have hL7 := e7 _ _ hL6
      have hT7 := e7 _ _ hT6
      have kp8 : Kp S H H8 := k8.kp (kp6.trans (Ex.kp e7)) fL fT
      have src8 : Src H8 S (n + 2 + 1 + 3 * m + 3 * k) := (src6.ex e7).kp2 k8 (Ne.symm L_S) (Ne.symm T_S)
      have hF8 : H8 F = some (.lst (xs ++ [.ref t])) := k8 _ _ (Ne.symm L_F) (Ne.symm T_F) (e7 _ _ hF6)
      have hX8 : H8 X = some (.lst (ms.map V.int)) := k8 _ _ X_L X_T (e7 _ _ hX6)
      have snd8 := (snd6.ex e7).kp2 k8 hL7 hT7
      have en : frms b p s (snd.map (·.2) ++ [z]) = frms b p s ((snd ++ [(tick, z)]).map (·.2)) := by simp
      rw [en] at hL8
      -- gap
      refine ⟨_, rfl, S, 40, _, rfl, src8, by omega, by decide, by decide, fun d1 H9 d10 d11 src9 k9 => ?_⟩
      refine ⟨_, rfl, _, rfl, _, _, rfl, rfl, .inl ⟨by decide, by decide⟩, S, _, _, rfl, src9, by omega, by omega, by omega, fun d2 H10 d20 d21 src10 k10 => ⟨(by show 5 ≤ sizeLine; decide), fun G nG => ?_⟩⟩
      have G_S := src10.ne nG
      refine ⟨_, rfl, S, 5, _, rfl, src10.ex (Ex.new nG), by omega, by decide, by decide, fun d3 H11 d30 d31 src11 k11 => ?_⟩
      have hG := k11 G _ G_S upd_same
      obtain ⟨gap, hgap, gp0, gp1⟩ : ∃ y : Int, atI [V.int 0, .int 0, .int 1, .int d1, .int d2] d3 = some (.int y) ∧ 0 ≤ y ∧ y ≤ 900000000000000000000000000 + 40 := by
        have : d3 = 0 ∨ d3 = 1 ∨ d3 = 2 ∨ d3 = 3 ∨ d3 = 4 := by omega
        rcases this with rfl | rfl | rfl | rfl | rfl
        · exact ⟨0, rfl, by decide, by decide⟩
        · exact ⟨0, rfl, by decide, by decide⟩
        · exact ⟨1, rfl, by decide, by decide⟩
        · exact ⟨d1, rfl, d10, by omega⟩
        · exact ⟨d2, rfl, d20, by omega⟩
      refine ⟨G, _, d3, _, rfl, rfl, sq_of hG, hgap, ?_⟩
      have kk : Kp S H8 H11 := ((k9.trans k10).trans (Ex.kp (Ex.new nG))).trans k11
      have kp11 := kp8.trans kk
      obtain ⟨y8, hS8⟩ := src8.at
      -- tick = tick + len(frame(form, number)) * bit + gap
      refine ⟨_, rfl, _, rfl, _, rfl, g, b, p, s, z, rfl, shk kp11, z0, z1, fun R2 H12 nR2 e12 hR2 => ?_⟩
      refine ⟨R2, _, rfl, .inl (sq_of hR2), _, rfl, _, _, rfl, rfl, .inl ?_, _, _, rfl, rfl, _, rfl, _, _, rfl, rfl, ?_⟩
      · rw [List.length_map, frm_sz]
        exact ⟨by omega, by omega⟩
      refine ⟨snd ++ [(tick, z)], _, _, _, _, _, rfl, ?_⟩
      rw [List.length_map, frm_sz]
      have tb := st.tb
      refine ⟨kp11.trans (Ex.kp e12), (src11.ex e12).mono (by omega), ⟨_, e12 _ _ (kk F _ F_S hF8), (snd8.kp kk hS8).ex e12⟩, e12 _ _ (kk L _ L_S hL8), e12 _ _ (kk TT _ T_S hT8), e12 _ _ (kk X _ X_S hX8), ?_, ?_, ?_, ?_⟩
      · rw [List.map_append, st.num, List.take_add_one, hz]
        rfl
      · exact st.gaps.snoc fun r hr => (st.bnd r hr).2
      · intro q' hq'
        rcases List.mem_append.mp hq' with h | h
        · have := st.bnd q' h
          exact ⟨this.1, by omega⟩
        · rw [List.mem_singleton.mp h]
          exact ⟨tb.1, by show tick + _ ≤ _; omega⟩
      · refine ⟨by omega, ?_⟩
        rw [Int.natCast_succ, Int.add_mul]
        omega
    rintro σ H5 ⟨snd, tick, u1, u2, u3, u4, rfl, st⟩
    rw [List.length_map] at st
    obtain ⟨xs, hF5, hsnd⟩ := st.hF
    have num : snd.map (·.2) = ms := by
      have := st.num
      rw [List.take_length] at this
      exact this
    have lsnd : snd.length = m := by
      have h1 := congrArg List.length num
      rw [List.length_map] at h1
      omega
    have hB := mul_le13 h13 bit1 bit2
    have inq : ∀ q' ∈ snd, 0 ≤ q'.2 ∧ q'.2 < 2 ^ b := fun q' hq' => inms _ (num ▸ List.mem_map_of_mem hq')
    have lfr : (frms b p s (snd.map (·.2))).length = (tks (sz b p s) bit snd).length := by rw [frms_sz, tks_len, List.length_map]
    have lfr2 : (frms b p s (snd.map (·.2))).length ≤ 780 := frms_13 hb9 hs2 (by rw [List.length_map]; omega)
    -- passed, due = list(frames), changes(levels, ticks)
    refine ⟨_, rfl, F, _, rfl, .inl (sq_of hF5), fun Pd nPd => ?_⟩
    have ePd := Ex.new nPd (o := .lst xs)
    refine ⟨_, rfl, _, rfl, L, TT, _, _, rfl, sq_of (ePd _ _ st.hL), sq_of (ePd _ _ st.hT), lfr, by omega, fun D H6 nD e6 hD => ⟨_, _, rfl, ?_⟩⟩
    rw [ch_sig hs1] at hD
    have hPd6 : H6 Pd = some (.lst xs) := e6 _ _ upd_same
    have snd6 := hsnd.ex (ePd.trans e6)
    have hF6 := (ePd.trans e6) _ _ hF5
    have kp6 : Kp S H H6 := st.kp.trans (Ex.kp (ePd.trans e6))
    have src6 := st.src.ex (ePd.trans e6)
    have sml : Sml (sig b p s bit snd) := by
      refine ⟨fun y hy => ?_, ?_⟩
      · unfold sig at hy
        obtain ⟨l, hl, hy⟩ := List.mem_flatten.mp hy
        obtain ⟨q', hq', rfl⟩ := List.mem_map.mp hl
        obtain ⟨i, hi, rfl⟩ := ch_mem hy
        have h1 := st.bnd q' hq'
        have h2 := mul_le13 (show i ≤ 13 by omega) bit1 bit2
        have tb := st.tb
        have : ((ms.length : Nat) : Int) * 10000000000000000000000000000 ≤ 60 * 10000000000000000000000000000 := Int.mul_le_mul_of_nonneg_right (by omega) (by decide)
        exact small200 (by omega) (by omega)
      · have h1 := sig_len b p s bit snd
        have h3 : snd.length * sz b p s ≤ 60 * 13 := Nat.mul_le_mul (by omega) h13
        omega
    -- found = sent(form, bit, passed); told = repr(found); found.append(0)
    refine ⟨_, rfl, _, rfl, _, rfl, g, b, p, s, bit, Pd, xs, snd, rfl, shk kp6, bit1, sq_of hPd6, snd6, by omega, inq, st.gaps, fun G H7 nG e7 hG => ?_⟩
    refine ⟨_, rfl, _, _, rfl, .lst (sq_of hG) (dp_ints _), (show_list sml.1 sml.2).1, (show_list sml.1 sml.2).2.1, (show_list sml.1 sml.2).2.2.1, (show_list sml.1 sml.2).2.2.2, ?_⟩
    have kp7 := kp6.trans (Ex.kp e7)
    have G_S := src6.ne nG
    have fG : H G = none := kp6.free nG G_S
    have G_Pd : G ≠ Pd := fun c => by rw [c, hPd6] at nG; cases nG
    have G_D : G ≠ D := fun c => by rw [c, hD] at nG; cases nG
    have G_F : G ≠ F := fun c => by rw [c, hF6] at nG; cases nG
    refine ⟨_, rfl, .inl ⟨rfl, _, sq_of hG⟩, G, _, _, rfl, rfl, hG, ?_, ?_⟩
    · rw [List.length_map]
      exact Nat.lt_of_le_of_lt sml.2 (by decide)
    have kp8 : Kp S H (upd H7 G (.lst ((sig b p s bit snd).map V.int ++ [.int 0]))) := kp7.mut fG
    have snd8 : Snd K (upd H7 G (.lst ((sig b p s bit snd).map V.int ++ [.int 0]))) xs snd := Snd.kp Kp.upd hG (snd6.ex e7)
    have hPd8 : (upd H7 G (.lst ((sig b p s bit snd).map V.int ++ [.int 0]))) Pd = some (.lst xs) := by
      rw [upd_ne (Ne.symm G_Pd)]
      exact e7 _ _ hPd6
    have hD8 : (upd H7 G (.lst ((sig b p s bit snd).map V.int ++ [.int 0]))) D = some (.lst ((sig b p s bit snd).map V.int)) := by
      rw [upd_ne (Ne.symm G_D)]
      exact e7 _ _ hD
    have hF8 : (upd H7 G (.lst ((sig b p s bit snd).map V.int ++ [.int 0]))) F = some (.lst xs) := by
      rw [upd_ne (Ne.symm G_F)]
      exact e7 _ _ hF6
    have src8 : Src (upd H7 G (.lst ((sig b p s bit snd).map V.int ++ [.int 0]))) S (n + 400) := ((src6.ex e7).upd G_S).mono (by omega)
    generalize upd H7 G (.lst ((sig b p s bit snd).map V.int ++ [.int 0])) = H8 at kp8 snd8 hPd8 hD8 hF8 src8
    refine ⟨_, rfl, _, rfl, _, rfl, _, rfl, _, rfl, g, b, p, s, bit, Pd, xs, snd, rfl, shk kp8, bit1, sq_of hPd8, snd8, by omega, inq, st.gaps, fun G2 H9 nG2 e9 hG2 => ?_⟩
    refine ⟨D, G2, _, rfl, sq_of (e9 _ _ hD8), sq_of hG2, sml, true, rfl, iteF ?_⟩
    have snd9 := snd8.ex e9
    refine ⟨_, rfl, _, rfl, .list (dP snd), .list (dP snd), .lst (sq_of (e9 _ _ hPd8)) snd9.dp, .lst (sq_of (e9 _ _ hF8)) snd9.dp, dP_shaped snd, dP_shaped snd, ?_⟩
    rw [eqv_sh (dP_shaped snd)]
    exact q H9 (kp8.trans (Ex.kp e9)) (src8.ex e9)
end
end LW
namespace LW
open PySem PySem.Spec PyProof.Rows L2 Evl SB
section
variable {P : Program} {w : World} {K : PySem.W.Frag} {mg : Str → Option Value} {base : Heap}
theorem sum_bnd {B : Int} (hB : 0 ≤ B) : ∀ (ds : List Int) (j : Nat), (∀ d ∈ ds, 1 ≤ d ∧ d ≤ B) → 0 ≤ (ds.take j).sum ∧ (ds.take j).sum ≤ (ds.length : Int) * B
  | [], j, _ => by simp
  | d :: r, 0, h => by
    rw [List.take_zero]
    exact ⟨Int.le_refl _, Int.mul_nonneg (by omega) hB⟩
  | d :: r, j + 1, h => by
    obtain ⟨h1, h2⟩ := sum_bnd hB r j fun x hx => h x (List.mem_cons_of_mem _ hx)
    obtain ⟨d1, d2⟩ := h d (List.mem_cons_self ..)
    rw [List.take_succ_cons, List.sum_cons, List.length_cons, Int.natCast_succ, Int.add_mul]
    omega
theorem tkd_snoc (o : Int) (ds : List Int) (d : Int) {j : Nat} (h : j ≤ ds.length) : tkd o (ds ++ [d]) j = tkd o ds j := by
  unfold tkd
  rw [List.take_append_of_le_length h]
theorem tkd_end (o : Int) (ds : List Int) (d : Int) : tkd o (ds ++ [d]) (ds.length + 1) = tkd o ds ds.length + d := by
  unfold tkd
  rw [List.take_of_length_le (by simp), List.take_length, List.sum_append]
  simp
  omega
def sp_tright (K : PySem.W.Frag) : Sp := fun vs H Q _ => ∃ (S : Addr) (n : Nat) (g : V) (b : Nat) (p : Pa) (s m : Nat), vs = [.ref S, g, .int (m : Nat)] ∧ Src H S n ∧ n ≤ 100000 ∧ IsSh K H g b p s ∧ m ≤ 60 ∧
  ∀ H', Kp S H H' → Src H' S (n + 2000) → Q (.bl true) H'
theorem cal_tright (T : Tx K mg) : CalG P w K mg base CX0 9 "_law_text_right" ["_law_source_here", "_law_form", "_law_many"] (sp_tright K) := by
  have c_law_draw := cal_draw (P := P) (w := w) (base := base) T
  have c_law_length := cal_length (P := P) (w := w) (base := base) T
  have c_law_text := cal_text (P := P) (w := w) (base := base) T
  have c_law_frame := cal_lframe (P := P) (w := w) (base := base) T
  have c_law_changes := cal_lchanges (P := P) (w := w) (base := base) T
  have c_law_is_right := cal_is_right (P := P) (w := w) (base := base) T
  have c_sent_text := cal_stext (P := P) (w := w) (base := base) T
  have c_sent_unevenly := cal_uneven (P := P) (w := w) (base := base) T
  have c_sent_text_begin_numbers_shape_length := cal_stextK (P := P) (w := w) (base := base) T
  have c_sent_unevenly_lasts_begin_numbers_shape := cal_unevenK (P := P) (w := w) (base := base) T
  refine T.d_law_text_right.calG sc_law_text_right (fun vs H Q E h => ?_) (fun _ _ _ _ _ _ us hl => match us, hl with | [_, _, _], _ => rfl) (fun f cdv A outer s H vs Q E hr hgd h => ⟨_, (pss_cons (ps_asg (pe_tup (pa_cons (pe_cal c_law_length (hr.mono (by decide)) pass0 (pa_cons (pv 0) pa_nil)) (pa_cons (pe_ix ix_list (pe_lst (pa_cons pe_int (pa_cons (pe_un un_neg (pe_op op_powB pe_int pe_int)) (pa_cons pe_int (pa_cons (pe_op op_powB pe_int pe_int) pa_nil))))) (pe_cal c_law_draw (hr.mono (by decide)) pass0 (pa_cons (pv 0) (pa_cons pe_int pa_nil))) (fun _ _ => rfl)) pa_nil))) (pg_tup rfl (pgs_cons (pg_name (i := 3) sc_law_text_right.nd rfl (Or.inr rfl)) (pgs_cons (pg_name (i := 4) sc_law_text_right.nd rfl (Or.inr rfl)) pgs_nil))))
      (pss_cons (ps_par (i := 5) (j := 6) (by rfl) sc_law_text_right.nd rfl rfl (by decide) rfl rfl (pa_cons (pe_cal c_law_text (hr.mono (by decide)) pass0 (pa_cons (pv 0) (pa_cons (pv 1) (pa_cons (pv 2) pa_nil)))) (pa_cons (pe_lst pa_nil) pa_nil)) (by rfl))
      (pss_cons (ps_for PassesOwn.never rfl (pi_list (pv 5)) (pg_name (i := 7) sc_law_text_right.nd rfl (Or.inl rfl)) (pss_one (ps_set (i := 6) sc_law_text_right.nd rfl (Or.inl rfl) (pe_op op_cat (pv 6) (pe_cal c_law_frame (hr.mono (by decide)) pass0 (pa_cons (pv 1) (pa_cons (pv 7) pa_nil)))))))
      (pss_cons (ps_par (i := 8) (j := 9) (by rfl) sc_law_text_right.nd rfl rfl (by decide) rfl rfl (pa_cons (pe_callTy call_list_of (by rfl) T.b_list (by decide +kernel) (pa_cons (pv 5) pa_nil)) (pa_cons (pe_lc rfl sc_law_text_right.nd (pi_range1 rfl T.b_range (pa_cons (pe_callB call_len_seq (by rfl) T.b_len (by decide +kernel) (pa_cons (pv 6) pa_nil)) pa_nil)) (blkOk_by (own := [("_law_index", 17)]) (N := ["_law_source_here", "_law_form", "_law_many", "_law_bit", "_law_origin", "_law_codes", "_law_levels", "_law_number", "_law_passed", "_law_ticks", "_law_found", "_law_told", "_law_again", "_law_spans", "_law_tick", "_law_level", "_law_handed", "_law_index"]) (sc := defScope s_law_text_right) (by decide +kernel)) (fun _ _ _ _ _ => (pg_name (i := 17) sc_law_text_right.nd rfl (Or.inl rfl))) (fun _ _ _ _ _ => pts_nil) (fun _ _ _ _ _ => (pe_op op_add (pv 4) (pe_op op_mul (pv 17) (pv 3))))) pa_nil)) (by rfl))
      (pss_cons (ps_set (i := 10) sc_law_text_right.nd rfl (Or.inl rfl) (pe_cal c_sent_text (hr.mono (by decide)) pass0 (pa_cons (pv 1) (pa_cons (pv 3) (pa_cons (pv 8) (pa_cons (pv 4) pa_nil))))))
      (pss_cons (ps_set (i := 11) sc_law_text_right.nd rfl (Or.inl rfl) (pe_callB (call_rp hgd hr.units) (by rfl) T.b_repr (by decide +kernel) (pa_cons (pv 10) pa_nil)))
      (pss_cons (ps_expr (pe_bm PySem.F.plainAttrs_list PySem.F.slot_list_append PySem.F.type_list_append mt_append (pv 10) (pa_cons pe_int pa_nil)))
      (pss_cons (ps_set (i := 12) sc_law_text_right.nd rfl (Or.inl rfl) (pe_calK c_sent_text_begin_numbers_shape_length (hr.mono (by decide)) pass0 (pk_cons (pv 4) (pk_cons (pv 8) (pk_cons (pv 1) (pk_cons (pv 3) pk_nil))))))
      (pss_cons (ps_if (pt_not (pt_val (pe_calG c_law_is_right (hr.mono (by decide)) hgd pass0 (pa_cons (pv 11) (pa_cons (pe_cal c_law_changes (hr.mono (by decide)) pass0 (pa_cons (pv 6) (pa_cons (pv 9) pa_nil))) (pa_cons (pv 12) pa_nil)))))) (pss_one (ps_ret pe_bl)) pss_nil)
      (pss_cons (ps_par3 (i := 13) (j := 9) (l := 14) (by rfl) sc_law_text_right.nd rfl rfl rfl (by decide) (by decide) (by decide) rfl rfl rfl (pa_cons (pe_lst pa_nil) (pa_cons (pe_lst pa_nil) (pa_cons (pv 4) pa_nil))) (by rfl))
      (pss_cons (ps_for PassesOwn.never rfl (pi_list (pv 6)) (pg_name (i := 15) sc_law_text_right.nd rfl (Or.inl rfl)) (pss_cons (ps_expr (pe_bm PySem.F.plainAttrs_list PySem.F.slot_list_append PySem.F.type_list_append mt_append (pv 13) (pa_cons (pe_ix ix_list (pe_lst (pa_cons pe_int (pa_cons (pv 3) (pa_cons (pe_op op_add pe_int (pe_cal c_law_draw (hr.mono (by decide)) pass0 (pa_cons (pv 0) (pa_cons (pe_op op_mul pe_int (pv 3)) pa_nil)))) pa_nil)))) (pe_cal c_law_draw (hr.mono (by decide)) pass0 (pa_cons (pv 0) (pa_cons pe_int pa_nil))) (fun _ _ => rfl)) pa_nil)))
      (pss_cons (ps_expr (pe_bm PySem.F.plainAttrs_list PySem.F.slot_list_append PySem.F.type_list_append mt_append (pv 9) (pa_cons (pv 14) pa_nil)))
      (pss_one (ps_set (i := 14) sc_law_text_right.nd rfl (Or.inl rfl) (pe_op op_add (pv 14) (pe_ix ix_list (pv 13) (pe_un un_neg pe_int) (fun _ _ => rfl))))))))
      (pss_cons (ps_set (i := 16) sc_law_text_right.nd rfl (Or.inl rfl) (pe_callTy call_list_of (by rfl) T.b_list (by decide +kernel) (pa_cons (pv 13) pa_nil)))
      (pss_cons (ps_set (i := 10) sc_law_text_right.nd rfl (Or.inl rfl) (pe_cal c_sent_unevenly (hr.mono (by decide)) pass0 (pa_cons (pv 1) (pa_cons (pv 8) (pa_cons (pv 4) (pa_cons (pv 16) pa_nil))))))
      (pss_cons (ps_set (i := 11) sc_law_text_right.nd rfl (Or.inl rfl) (pe_callB (call_rp hgd hr.units) (by rfl) T.b_repr (by decide +kernel) (pa_cons (pv 10) pa_nil)))
      (pss_cons (ps_expr (pe_bm PySem.F.plainAttrs_list PySem.F.slot_list_append PySem.F.type_list_append mt_append (pv 10) (pa_cons pe_int pa_nil)))
      (pss_cons (ps_set (i := 12) sc_law_text_right.nd rfl (Or.inl rfl) (pe_calK c_sent_unevenly_lasts_begin_numbers_shape (hr.mono (by decide)) pass0 (pk_cons (pv 16) (pk_cons (pv 4) (pk_cons (pv 8) (pk_cons (pv 1) pk_nil))))))
      (pss_cons (ps_if (pt_not (pt_val (pe_calG c_law_is_right (hr.mono (by decide)) hgd pass0 (pa_cons (pv 11) (pa_cons (pe_cal c_law_changes (hr.mono (by decide)) pass0 (pa_cons (pv 6) (pa_cons (pv 9) pa_nil))) (pa_cons (pv 12) pa_nil)))))) (pss_one (ps_ret pe_bl)) pss_nil)
      (pss_one (ps_ret (pe_and (pe_cmpR (op_eqD hr.units) (pv 8) (pv 5) (nomark _)) (pe_one (pe_cmpR (op_eqD hr.units) (pv 16) (pv 13) (nomark _))))))))))))))))))))))), ?_⟩)
  · obtain ⟨S, n, g, b, p, s, m, rfl, _⟩ := h
    rfl
  · obtain ⟨S, n, g, b, p, s, m, rfl, src, hn, sh, hm, q⟩ := h
    obtain ⟨hb9, hs1, hs2⟩ : b ≤ 9 ∧ 1 ≤ s ∧ s ≤ 2 := by
      obtain ⟨_, _, _, _, h1, h2, h3⟩ := sh
      exact ⟨h1, h2, h3⟩
    have h13 : sz b p s ≤ 13 := sz_le hb9 hs2
    obtain ⟨ys, hS⟩ := src.at
    have shk : ∀ {H' : Hp}, Kp S H H' → IsSh K H' g b p s := fun k => sh.kp k hS
    -- bit, origin
    refine ⟨_, rfl, S, n, rfl, src, by omega, fun bit H1 bit1 bit2 src1 k1 => ?_⟩
    refine ⟨10, 28, rfl, rfl, cpow10 28 (by decide) (by decide), _, rfl, 10, 29, rfl, rfl, cpow10 29 (by decide) (by decide), (by show 4 ≤ sizeLine; decide), fun M nM => ?_⟩
    have M_S := src1.ne nM
    refine ⟨_, rfl, S, 4, n + 2, rfl, src1.ex (Ex.new nM), by omega, by decide, by decide, fun d H2 d0 d1 src2 k2 => ?_⟩
    have hM := k2 M _ M_S upd_same
    obtain ⟨o, hy, y0, y1⟩ : ∃ y : Int, atI [V.int 0, .int (-(10 ^ (28 : Int).toNat)), .int 17, .int (10 ^ (29 : Int).toNat)] d = some (.int y) ∧ -10000000000000000000000000000 ≤ y ∧ y ≤ 100000000000000000000000000000 := by
      have : d = 0 ∨ d = 1 ∨ d = 2 ∨ d = 3 := by omega
      rcases this with rfl | rfl | rfl | rfl
      · exact ⟨0, rfl, by decide, by decide⟩
      · exact ⟨_, rfl, by decide, by decide⟩
      · exact ⟨17, rfl, by decide, by decide⟩
      · exact ⟨_, rfl, by decide, by decide⟩
    refine ⟨M, _, d, _, rfl, rfl, sq_of hM, hy, (by show 2 ≤ sizeLine; decide), fun Tp nTp => ?_⟩
    refine ⟨Tp, _, rfl, .inl (.inl upd_same), rfl, _, _, rfl, _, _, rfl, rfl, ?_⟩
    have kp2 : Kp S H (upd H2 Tp (.tup [.int bit, .int o])) := ((k1.trans (Ex.kp (Ex.new nM))).trans k2).trans (Ex.kp (Ex.new nTp))
    have src2' := src2.ex (Ex.new nTp (o := .tup [.int bit, .int o]))
    generalize upd H2 Tp (.tup [.int bit, .int o]) = H2' at kp2 src2'
    -- codes, levels
    refine ⟨_, rfl, _, rfl, _, rfl, S, _, g, b, p, s, m, rfl, src2', by omega, shk kp2, by omega, fun C ms H3 nC k3 src3 lms inms hC => ⟨Nat.zero_le _, fun L0 nL0 => ⟨_, _, rfl, ?_⟩⟩⟩
    have C_S : C ≠ S := src2'.ne nC
    have kp3 := (kp2.trans k3).trans (Ex.kp (Ex.new nL0 (o := .lst [])))
    have src4 := src3.ex (Ex.new nL0 (o := .lst []))
    have hC4 : (upd H3 L0 (.lst [])) C = some (.lst (ms.map V.int)) := Ex.new nL0 _ _ hC
    have hL4 : (upd H3 L0 (.lst [])) L0 = some (.lst []) := upd_same
    have fC : H C = none := kp2.free nC C_S
    generalize upd H3 L0 (.lst []) = H4 at kp3 src4 hC4 hL4
    have lfr2 : (frms b p s ms).length ≤ 780 := frms_13 hb9 hs2 (by omega)
    -- for number in codes
    refine ⟨_, rfl, C, rfl, ⟨_, sq_of hC4⟩, for_list (K := K) (a := C) (xs := ms.map V.int) (fun k σ H5 => ∃ L u, σ = [some (.ref S), some g, some (.int (m : Nat)), some (.int bit), some (.int o), some (.ref C), some (.ref L), u, none, none, none, none, none, none, none, none, none, none] ∧
        Ex H4 H5 ∧ H5 L = some (.lst ((frms b p s (ms.take k)).map V.int)) ∧ L ≠ S) ⟨L0, none, rfl, Ex.refl H4, hL4, src3.ne nL0⟩ (fun k σ H5 _ ⟨_, _, _, e, _⟩ => sq_of (e _ _ hC4)) ?_ ?_⟩
    · rintro k x σ H5 hx ⟨L, u, rfl, ex, hL, _⟩
      obtain ⟨z, hz, rfl⟩ := ints_at hx
      have hk := (List.getElem?_eq_some_iff.mp hz).1
      obtain ⟨z0, z1⟩ := inms z (List.mem_of_getElem? hz)
      have kp5 := kp3.trans (Ex.kp ex)
      have cat : EvL (tOp rCat (tVar 6) (tCall (sp_frame K) [] E0 (tCons (tVar 1) (tCons (tVar 7) tNil)))) [some (.ref S), some g, some (.int (m : Nat)), some (.int bit), some (.int o), some (.ref C), some (.ref L), some (.int z), none, none, none, none, none, none, none, none, none, none] H5 ((frms b p s (ms.take k)).map V.int ++ (frm b p s z).map V.int) := by
        refine el_cat (evx_var rfl hL) (evx_new (el_call (ea_cons (ev_var rfl) (ea_cons (ev_var rfl) ea_nil)) fun H6 e6 Q6 q6 => ⟨g, b, p, s, z, rfl, (shk kp5).ex e6, z0, z1, q6⟩)) ?_
        have h1 := frms_sz b p s (ms.take k)
        have h5 : (ms.take k).length * sz b p s ≤ 60 * 13 := Nat.mul_le_mul (by rw [List.length_take]; omega) h13
        rw [List.length_map, List.length_map, frm_sz]
        omega
      refine cat H5 (Ex.refl H5) _ fun L' H6 nL' e6 h6 => ⟨L', _, rfl, ex.trans e6, ?_, (src4.ex ex).ne nL'⟩
      rw [h6, ← List.map_append, ← frms_snoc, List.take_add_one, hz]
      rfl
    rintro σ H5 ⟨L, u, rfl, ex, hL, L_S⟩
    rw [List.length_map, List.take_length] at hL
    have kp5 := kp3.trans (Ex.kp ex)
    have src5 := src4.ex ex
    have hC5 := ex _ _ hC4
    -- passed, ticks = list(codes), [origin + index * bit ..]
    refine ⟨_, rfl, C, _, rfl, .inl (sq_of hC5), fun Pd nPd => ?_⟩
    have ePd := Ex.new nPd (o := .lst (ms.map V.int))
    have hPd6 : (upd H5 Pd (.lst (ms.map V.int))) Pd = some (.lst (ms.map V.int)) := upd_same
    have Pd_S := src5.ne nPd
    have kp6 := kp5.trans (Ex.kp ePd)
    have src6 := src5.ex ePd
    have hL6 := ePd _ _ hL
    have hC6 := ePd _ _ hC5
    generalize upd H5 Pd (.lst (ms.map V.int)) = H6 at hPd6 kp6 src6 hL6 hC6
    refine ⟨_, rfl, L, _, rfl, .inl (sq_of hL6), _, rfl, by omega, by rw [List.length_map]; omega, fun D nD => ?_⟩
    refine lc_range (lo := 0) (n := (((frms b p s ms).map V.int).length : Int).toNat) (fun i H' => Ex H6 H' ∧ H' D = some (.lst (((List.range i).map fun j : Nat => o + (j : Int) * bit).map V.int))) ⟨Ex.new nD, upd_same⟩ (fun i H' hi ⟨e1, e2⟩ => ?_) (fun H7 ⟨e7, hD⟩ => ?_)
    · rw [List.length_map, Int.toNat_natCast] at hi
      refine ⟨rfl, ?_⟩
      refine ⟨_, rfl, _, rfl, _, rfl, _, _, rfl, rfl, .inl ⟨by omega, by omega⟩, _, _, rfl, rfl, _, e2, ?_, e1.mut nD, ?_⟩
      · rw [List.length_map, List.length_map, List.length_range]
        exact small1000 (by omega)
      · have e3 : (0 : Int) + (i : Int) = (i : Int) := Int.zero_add _
        rw [upd_same, List.range_succ]
        show some (HO.lst (_ ++ [V.int (o + ((0 : Int) + (i : Int)) * bit)])) = _
        rw [e3]
        simp [List.map_append]
    rw [List.length_map, Int.toNat_natCast] at hD
    refine ⟨_, _, rfl, ?_⟩
    have kp7 := kp6.trans (Ex.kp e7)
    have src7 := src6.ex e7
    have hL7 := e7 _ _ hL6
    have hC7 := e7 _ _ hC6
    have hPd7 := e7 _ _ hPd6
    have smlA : Sml (ch (frms b p s ms) (fun i => o + (i : Int) * bit) (frms b p s ms).length) := by
      refine ⟨fun y hy => ?_, by have := ch_len (frms b p s ms) (fun i => o + (i : Int) * bit) (frms b p s ms).length; omega⟩
      obtain ⟨i, hi, rfl⟩ := ch_mem hy
      have a1 : (i : Int) * bit ≤ 780 * bit := Int.mul_le_mul_of_nonneg_right (by omega) (by omega)
      have a2 : 0 ≤ (i : Int) * bit := Int.mul_nonneg (by omega) (by omega)
      exact small200 (by omega) (by omega)
    -- found = sent_text(..); told = repr(found); found.append(0); again = ..
    refine ⟨_, rfl, _, rfl, _, rfl, _, rfl, g, b, p, s, bit, Pd, ms, o, rfl, shk kp7, bit1, sq_of hPd7, by omega, inms, fun G H8 nG e8 hG => ?_⟩
    refine ⟨_, rfl, _, _, rfl, .lst (sq_of hG) (dp_ints _), (show_list smlA.1 smlA.2).1, (show_list smlA.1 smlA.2).2.1, (show_list smlA.1 smlA.2).2.2.1, (show_list smlA.1 smlA.2).2.2.2, ?_⟩
    have kp8 := kp7.trans (Ex.kp e8)
    have G_S := src7.ne nG
    have fG : H G = none := kp7.free nG G_S
    have G_Pd : G ≠ Pd := fun c => by rw [c, hPd7] at nG; cases nG
    have G_D : G ≠ D := fun c => by rw [c, hD] at nG; cases nG
    have G_L : G ≠ L := fun c => by rw [c, hL7] at nG; cases nG
    have G_C : G ≠ C := fun c => by rw [c, hC7] at nG; cases nG
    refine ⟨_, rfl, .inl ⟨rfl, _, sq_of hG⟩, G, _, _, rfl, rfl, hG, ?_, ?_⟩
    · rw [List.length_map]
      exact Nat.lt_of_le_of_lt smlA.2 (by decide)
    obtain ⟨H9, kp9, hPd9, hD9, hL9, hC9, src9, e9⟩ : ∃ H9, Kp S H H9 ∧ H9 Pd = some (.lst (ms.map V.int)) ∧ H9 D = some (.lst (((List.range (frms b p s ms).length).map fun j : Nat => o + (j : Int) * bit).map V.int)) ∧ H9 L = some (.lst ((frms b p s ms).map V.int)) ∧ H9 C = some (.lst (ms.map V.int)) ∧ Src H9 S (n + 2 + 1 + 3 * m) ∧
        H9 = upd H8 G (.lst ((ch (frms b p s ms) (fun i => o + (i : Int) * bit) (frms b p s ms).length).map V.int ++ [.int 0])) := by
      refine ⟨_, kp8.mut fG, ?_, ?_, ?_, ?_, (src7.ex e8).upd G_S, rfl⟩
      · rw [upd_ne (Ne.symm G_Pd)]
        exact e8 _ _ hPd7
      · rw [upd_ne (Ne.symm G_D)]
        exact e8 _ _ hD
      · rw [upd_ne (Ne.symm G_L)]
        exact e8 _ _ hL7
      · rw [upd_ne (Ne.symm G_C)]
        exact e8 _ _ hC7
    rw [← e9]
    clear e9
    refine ⟨_, rfl, _, rfl, _, rfl, _, rfl, g, b, p, s, bit, Pd, ms, o, rfl, shk kp9, bit1, sq_of hPd9, by omega, inms, fun G2 H10 nG2 e10 hG2 => ?_⟩
    have lD : (frms b p s ms).length = ((List.range (frms b p s ms).length).map fun j : Nat => o + (j : Int) * bit).length := by rw [List.length_map, List.length_range]
    refine ⟨_, rfl, _, rfl, _, rfl, L, D, _, _, rfl, sq_of (e10 _ _ hL9), sq_of (e10 _ _ hD9), lD, by omega, fun D2 H11 nD2 e11 hD2 => ?_⟩
    have ec : ch (frms b p s ms) (fun i => ((List.range (frms b p s ms).length).map fun j : Nat => o + (j : Int) * bit).getD i 0) (frms b p s ms).length = ch (frms b p s ms) (fun i => o + (i : Int) * bit) (frms b p s ms).length :=
      ch_congr fun i hi => by
        rw [List.getD_eq_getElem?_getD, List.getElem?_map, List.getElem?_range hi]
        rfl
    rw [ec] at hD2
    refine ⟨_, rfl, D2, G2, _, rfl, sq_of hD2, sq_of (e11 _ _ hG2), smlA, true, rfl, iteF ?_⟩
    have kp11 := kp9.trans (Ex.kp (e10.trans e11))
    have src11 := src9.ex (e10.trans e11)
    have hL11 := (e10.trans e11) _ _ hL9
    have hC11 := (e10.trans e11) _ _ hC9
    have hPd11 := (e10.trans e11) _ _ hPd9
    clear hG hG2 hD2 hD hD9
    -- spans, ticks, tick
    refine ⟨Nat.zero_le _, fun Sp nSp => ⟨Nat.zero_le _, fun Tk nTk => ⟨_, rfl, _, _, _, rfl, ?_⟩⟩⟩
    have Sp_S := src11.ne nSp
    have src12a := src11.ex (Ex.new nSp (o := .lst []))
    have Tk_S := src12a.ne nTk
    have Tk_Sp : Tk ≠ Sp := fun z => by rw [z, upd_same] at nTk; cases nTk
    have e12 := (Ex.new nSp (o := .lst [])).trans (Ex.new nTk (o := .lst []))
    have hSp12 : (upd (upd H11 Sp (.lst [])) Tk (.lst [])) Sp = some (.lst []) := Ex.new nTk _ _ upd_same
    have hTk12 : (upd (upd H11 Sp (.lst [])) Tk (.lst [])) Tk = some (.lst []) := upd_same
    have fSp : H Sp = none := kp11.free nSp Sp_S
    have fTk : H Tk = none := by
      have h1 : H11 Tk = none := by rw [upd_ne Tk_Sp] at nTk; exact nTk
      exact kp11.free h1 Tk_S
    have L_Sp : L ≠ Sp := fun z => by rw [← z, hL11] at nSp; cases nSp
    have C_Sp : C ≠ Sp := fun z => by rw [← z, hC11] at nSp; cases nSp
    have Pd_Sp : Pd ≠ Sp := fun z => by rw [← z, hPd11] at nSp; cases nSp
    have L_Tk : L ≠ Tk := fun z => by rw [← z, upd_ne L_Sp, hL11] at nTk; cases nTk
    have C_Tk : C ≠ Tk := fun z => by rw [← z, upd_ne C_Sp, hC11] at nTk; cases nTk
    have Pd_Tk : Pd ≠ Tk := fun z => by rw [← z, upd_ne Pd_Sp, hPd11] at nTk; cases nTk
    have kp12 := kp11.trans (Ex.kp e12)
    have src12 := src11.ex e12
    have hL12 := e12 _ _ hL11
    have hC12 := e12 _ _ hC11
    have hPd12 := e12 _ _ hPd11
    generalize upd (upd H11 Sp (.lst [])) Tk (.lst []) = H12 at kp12 src12 hL12 hC12 hPd12 hSp12 hTk12
    refine ⟨_, rfl, L, rfl, ⟨_, sq_of hL12⟩, for_list (K := K) (a := L) (xs := (frms b p s ms).map V.int) (fun k σ H5 => ∃ ds u15, σ = [some (.ref S), some g, some (.int (m : Nat)), some (.int bit), some (.int o), some (.ref C), some (.ref L), u, some (.ref Pd), some (.ref Tk), some (.ref G), some (.str (PyData.list (dI (ch (frms b p s ms) (fun i => o + (i : Int) * bit) (frms b p s ms).length))).shown), some (.ref G2), some (.ref Sp), some (.int (tkd o ds k)), u15, none, none] ∧
        Kp S H H5 ∧ Src H5 S (n + 2 + 1 + 3 * m + 2 * k) ∧ H5 L = some (.lst ((frms b p s ms).map V.int)) ∧ H5 C = some (.lst (ms.map V.int)) ∧ H5 Pd = some (.lst (ms.map V.int)) ∧ H5 Sp = some (.lst (ds.map V.int)) ∧ H5 Tk = some (.lst (((List.range k).map fun j => tkd o ds j).map V.int)) ∧ ds.length = k ∧ (∀ d ∈ ds, 1 ≤ d ∧ d ≤ 300000000000000000000000000))
      ⟨[], none, by simp [tkd], kp12, src12, hL12, hC12, hPd12, hSp12, hTk12, rfl, (fun _ h => by cases h)⟩ (fun k σ H5 _ ⟨_, _, _, _, _, h, _⟩ => sq_of h) ?_ ?_⟩
    · rintro k x σ H5 hx ⟨ds, u15, rfl, kp, sr, hL', hC', hPd', hSp', hTk', ld, hds⟩
      obtain ⟨z, hz, rfl⟩ := ints_at hx
      have hk := (List.getElem?_eq_some_iff.mp hz).1
      -- spans.append([1, bit, 1 + draw(2 * bit)][draw(3)])
      refine ⟨_, rfl, .inl ⟨rfl, _, sq_of hSp'⟩, ?_⟩
      refine ⟨_, rfl, _, rfl, _, rfl, _, _, rfl, rfl, .inl ⟨by decide, by decide⟩, S, _, _, rfl, sr, by omega, by omega, by omega, fun d1 H6 d10 d11 s6 k6 => ⟨_, _, rfl, rfl, (by show 3 ≤ sizeLine; decide), fun M2 nM2 => ?_⟩⟩
      have M2_S := s6.ne nM2
      refine ⟨_, rfl, S, 3, _, rfl, s6.ex (Ex.new nM2), by omega, by decide, by decide, fun d2 H7 d20 d21 s7 k7 => ?_⟩
      have hM2 := k7 M2 _ M2_S upd_same
      obtain ⟨dd, hdd, dd0, dd1⟩ : ∃ y : Int, atI [V.int 1, .int bit, .int (1 + d1)] d2 = some (.int y) ∧ 1 ≤ y ∧ y ≤ 300000000000000000000000000 := by
        have : d2 = 0 ∨ d2 = 1 ∨ d2 = 2 := by omega
        rcases this with rfl | rfl | rfl
        · exact ⟨1, rfl, by decide, by decide⟩
        · exact ⟨bit, rfl, by omega, by omega⟩
        · exact ⟨_, rfl, by omega, by omega⟩
      have kk : Kp S H5 H7 := (k6.trans (Ex.kp (Ex.new nM2))).trans k7
      refine ⟨M2, _, d2, _, rfl, rfl, sq_of hM2, hdd, Sp, _, _, rfl, rfl, kk Sp _ Sp_S hSp', ?_, ?_⟩
      · rw [List.length_map]
        exact small1000 (by omega)
      have hTk8 : (upd H7 Sp (.lst (ds.map V.int ++ [.int dd]))) Tk = some (.lst (((List.range k).map fun j => tkd o ds j).map V.int)) := by
        rw [upd_ne Tk_Sp]
        exact kk Tk _ Tk_S hTk'
      -- ticks.append(tick); tick = tick + spans[-1]
      refine ⟨_, rfl, .inl ⟨rfl, _, sq_of hTk8⟩, _, rfl, Tk, _, _, rfl, rfl, hTk8, ?_, ?_⟩
      · rw [List.length_map, List.length_map, List.length_range]
        exact small1000 (by omega)
      have hSp9 : (upd (upd H7 Sp (.lst (ds.map V.int ++ [.int dd]))) Tk (.lst (((List.range k).map fun j => tkd o ds j).map V.int ++ [.int (tkd o ds k)]))) Sp = some (.lst (ds.map V.int ++ [.int dd])) := by
        rw [upd_ne (Ne.symm Tk_Sp), upd_same]
      refine ⟨_, rfl, _, rfl, 1, rfl, Sp, _, _, _, rfl, rfl, sq_of hSp9, atI_last _ _, _, _, rfl, rfl, ?_⟩
      have stay : ∀ {A : Addr} {xs : List V}, A ≠ S → A ≠ Sp → A ≠ Tk → H5 A = some (.lst xs) → (upd (upd H7 Sp (.lst (ds.map V.int ++ [.int dd]))) Tk (.lst (((List.range k).map fun j => tkd o ds j).map V.int ++ [.int (tkd o ds k)]))) A = some (.lst xs) := fun {A xs} h1 h2 h3 h => by
        rw [upd_ne h3, upd_ne h2]
        exact kk A _ h1 h
      refine ⟨ds ++ [dd], some (.int z), ?_, ((kp.trans kk).mut fSp).mut fTk, ((s7.mono (by omega)).upd Sp_S).upd Tk_S, stay L_S L_Sp L_Tk hL', stay C_S C_Sp C_Tk hC', stay Pd_S Pd_Sp Pd_Tk hPd', ?_, ?_, by rw [List.length_append, ld]; rfl, ?_⟩
      · rw [← ld, tkd_end]
        rfl
      · rw [hSp9, List.map_append]
        rfl
      · rw [upd_same, List.range_succ, List.map_append, List.map_append]
        have e1 : (List.range k).map (fun j => tkd o (ds ++ [dd]) j) = (List.range k).map fun j => tkd o ds j := List.map_congr_left fun j hj => tkd_snoc o ds dd (by have := List.mem_range.mp hj; omega)
        rw [e1]
        show _ = some (HO.lst (_ ++ [V.int (tkd o (ds ++ [dd]) k)]))
        rw [tkd_snoc o ds dd (by omega)]
      · intro d hd
        rcases List.mem_append.mp hd with h | h
        · exact hds d h
        · rw [List.mem_singleton.mp h]
          exact ⟨dd0, dd1⟩
    rintro σ H13 ⟨ds, u15, rfl, kp, sr, hL', hC', hPd', hSp', hTk', ld, hds⟩
    rw [List.length_map] at hTk' ld sr
    have smlB : Sml (ch (frms b p s ms) (tkd o ds) (frms b p s ms).length) := by
      refine ⟨fun y hy => ?_, by have := ch_len (frms b p s ms) (tkd o ds) (frms b p s ms).length; omega⟩
      obtain ⟨i, hi, rfl⟩ := ch_mem hy
      have h1 := sum_bnd (B := 300000000000000000000000000) (by decide) ds i hds
      have h2 : (ds.length : Int) * 300000000000000000000000000 ≤ 780 * 300000000000000000000000000 := Int.mul_le_mul_of_nonneg_right (by omega) (by decide)
      show (o + (ds.take i).sum).natAbs < 2 ^ 200
      exact small200 (by omega) (by omega)
    -- handed = list(spans)
    refine ⟨_, rfl, Sp, _, rfl, .inl (sq_of hSp'), fun Hd nHd => ?_⟩
    have eHd := Ex.new nHd (o := .lst (ds.map V.int))
    have hHd : (upd H13 Hd (.lst (ds.map V.int))) Hd = some (.lst (ds.map V.int)) := upd_same
    have kp14 := kp.trans (Ex.kp eHd)
    have src14 := sr.ex eHd
    have hL14 := eHd _ _ hL'
    have hC14 := eHd _ _ hC'
    have hPd14 := eHd _ _ hPd'
    have hSp14 := eHd _ _ hSp'
    have hTk14 := eHd _ _ hTk'
    generalize upd H13 Hd (.lst (ds.map V.int)) = H14 at hHd kp14 src14 hL14 hC14 hPd14 hSp14 hTk14
    have dd1 : ∀ d ∈ ds, 1 ≤ d := fun d hd => (hds d hd).1
    refine ⟨_, rfl, _, rfl, _, rfl, _, rfl, g, b, p, s, Pd, ms, o, Hd, ds, rfl, shk kp14, sq_of hPd14, by omega, inms, sq_of hHd, ld, dd1, fun G3 H15 nG3 e15 hG3 => ?_⟩
    refine ⟨_, rfl, _, _, rfl, .lst (sq_of hG3) (dp_ints _), (show_list smlB.1 smlB.2).1, (show_list smlB.1 smlB.2).2.1, (show_list smlB.1 smlB.2).2.2.1, (show_list smlB.1 smlB.2).2.2.2, ?_⟩
    have G3_S := src14.ne nG3
    have fG3 : H G3 = none := kp14.free nG3 G3_S
    refine ⟨_, rfl, .inl ⟨rfl, _, sq_of hG3⟩, G3, _, _, rfl, rfl, hG3, ?_, ?_⟩
    · rw [List.length_map]
      exact Nat.lt_of_le_of_lt smlB.2 (by decide)
    have off : ∀ {A : Addr} {xs : List V}, H14 A = some (.lst xs) → (upd H15 G3 (.lst ((ch (frms b p s ms) (tkd o ds) (frms b p s ms).length).map V.int ++ [.int 0]))) A = some (.lst xs) := fun {A xs} h => by
      have ne : A ≠ G3 := fun c => by rw [← c, h] at nG3; cases nG3
      rw [upd_ne ne]
      exact e15 _ _ h
    have kp16 : Kp S H (upd H15 G3 (.lst ((ch (frms b p s ms) (tkd o ds) (frms b p s ms).length).map V.int ++ [.int 0]))) := (kp14.trans (Ex.kp e15)).mut fG3
    have src16 : Src (upd H15 G3 (.lst ((ch (frms b p s ms) (tkd o ds) (frms b p s ms).length).map V.int ++ [.int 0]))) S (n + 2000) := ((src14.ex e15).upd G3_S).mono (by omega)
    have hL16 := off hL14
    have hC16 := off hC14
    have hPd16 := off hPd14
    have hSp16 := off hSp14
    have hTk16 := off hTk14
    have hHd16 := off hHd
    clear off
    generalize upd H15 G3 (.lst ((ch (frms b p s ms) (tkd o ds) (frms b p s ms).length).map V.int ++ [.int 0])) = H16 at kp16 src16 hL16 hC16 hPd16 hSp16 hTk16 hHd16
    refine ⟨_, rfl, _, rfl, _, rfl, _, rfl, g, b, p, s, Pd, ms, o, Hd, ds, rfl, shk kp16, sq_of hPd16, by omega, inms, sq_of hHd16, ld, dd1, fun G4 H17 nG4 e17 hG4 => ?_⟩
    have lT : (frms b p s ms).length = ((List.range (frms b p s ms).length).map fun j => tkd o ds j).length := by rw [List.length_map, List.length_range]
    refine ⟨_, rfl, _, rfl, _, rfl, L, Tk, _, _, rfl, sq_of (e17 _ _ hL16), sq_of (e17 _ _ hTk16), lT, by omega, fun D3 H18 nD3 e18 hD3 => ?_⟩
    have ec2 : ch (frms b p s ms) (fun i => ((List.range (frms b p s ms).length).map fun j => tkd o ds j).getD i 0) (frms b p s ms).length = ch (frms b p s ms) (tkd o ds) (frms b p s ms).length :=
      ch_congr fun i hi => by
        rw [List.getD_eq_getElem?_getD, List.getElem?_map, List.getElem?_range hi]
        rfl
    rw [ec2] at hD3
    refine ⟨_, rfl, D3, G4, _, rfl, sq_of hD3, sq_of (e18 _ _ hG4), smlB, true, rfl, iteF ?_⟩
    have e1718 := e17.trans e18
    refine ⟨_, rfl, _, rfl, .list (dI ms), .list (dI ms), .lst (sq_of (e1718 _ _ hPd16)) (dp_ints _), .lst (sq_of (e1718 _ _ hC16)) (dp_ints _), dI_shaped ms, dI_shaped ms, _, rfl, ?_⟩
    rw [eqv_sh (dI_shaped ms)]
    refine iteT ⟨_, rfl, _, rfl, .list (dI ds), .list (dI ds), .lst (sq_of (e1718 _ _ hHd16)) (dp_ints _), .lst (sq_of (e1718 _ _ hSp16)) (dp_ints _), dI_shaped ds, dI_shaped ds, ?_⟩
    rw [eqv_sh (dI_shaped ds)]
    exact q H18 (kp16.trans (Ex.kp e1718)) (src16.ex e1718)
end
end LW
namespace LW
open PySem PySem.Spec PyProof.Rows L2 Evl SB
section
variable {P : Program} {w : World} {K : PySem.W.Frag} {mg : Str → Option Value} {base : Heap}
def sp_law (K : PySem.W.Frag) : Sp := fun vs H Q _ => ∃ (a : Addr) (ns : List Int), vs = [.ref a] ∧ SqL K H a (ns.map V.int) ∧ ns.length ≤ 63 ∧ ∀ H', Q (.bl true) H'
theorem fast_is : ch (frms 9 .od 1 (List.replicate 60 341)) (fun i => 5 + (i : Int) * 3) (frms 9 .od 1 (List.replicate 60 341)).length = (List.range 720).map fun i : Nat => 5 + 3 * (i : Int) := by decide +kernel
theorem law_ok {fd : FuncData} (T : Tx K mg) (F : FunD K "law" "law" (defArgs s_law) (defBody s_law) (defScope s_law) [] [] (He.fAd K ("law", none)) fd) : FnG P w K mg base CX0 10 (He.fAd K ("law", none)) fd ["_law_script"] (sp_law K) := by
  have c_law_source := cal_source (P := P) (w := w) (base := base) T
  have c_law_draw := cal_draw (P := P) (w := w) (base := base) T
  have c_law_shape := cal_shape (P := P) (w := w) (base := base) T
  have c_law_sending_right := cal_sright (P := P) (w := w) (base := base) T
  have c_law_text_right := cal_tright (P := P) (w := w) (base := base) T
  have c_sent_text := cal_stext (P := P) (w := w) (base := base) T
  have c_sent := cal_sent (P := P) (w := w) (base := base) T
  have c_sent_unevenly := cal_uneven (P := P) (w := w) (base := base) T
  refine FnG.body F sc_law (fun vs H Q E h => ?_) (fun cdv A outer s H vs Q E hr hgd h => ⟨_, PSs.nox ((pss_cons (ps_for PassesOwn.never rfl (pi_range1 rfl T.b_range (pa_cons (pe_callB (call_max2 rfl) (by rfl) T.b_max (by decide +kernel) (pa_cons pe_int (pa_cons (pe_callB (call_min2 rfl) (by rfl) T.b_min (by decide +kernel) (pa_cons pe_int (pa_cons (pe_callB call_len_seq (by rfl) T.b_len (by decide +kernel) (pa_cons (pv 0) pa_nil)) pa_nil))) pa_nil))) pa_nil)) (pg_name (i := 1) sc_law.nd rfl (Or.inl rfl)) (pss_cons (ps_set (i := 2) sc_law.nd rfl (Or.inl rfl) (pe_cal c_law_source (hr.mono (by decide)) pass0 (pa_cons (pv 0) (pa_cons (pv 1) pa_nil))))
      (pss_cons (ps_par (i := 3) (j := 4) (by rfl) sc_law.nd rfl rfl (by decide) rfl rfl (pa_cons (pe_cal c_law_shape (hr.mono (by decide)) pass0 (pa_cons (pv 2) pa_nil)) (pa_cons (pe_ix ix_list (pe_lst (pa_cons (pe_cal c_law_draw (hr.mono (by decide)) pass0 (pa_cons (pv 2) (pa_cons pe_int pa_nil))) (pa_cons (pe_op op_add pe_int (pe_cal c_law_draw (hr.mono (by decide)) pass0 (pa_cons (pv 2) (pa_cons pe_int pa_nil)))) pa_nil))) (pe_callTy call_int1 (by rfl) T.b_int (by decide +kernel) (pa_cons (pe_cmpR op_eq (pv 1) pe_int (nomark _)) pa_nil)) (fun _ _ => rfl)) pa_nil)) (by rfl))
      (pss_one (ps_if (PW.pt (pw_or (pt_not (pt_val (pe_calG c_law_sending_right (hr.mono (by decide)) hgd pass0 (pa_cons (pv 2) (pa_cons (pv 3) (pa_cons (pv 4) pa_nil)))))) (pw_or1 (pt_not (pt_val (pe_calG c_law_text_right (hr.mono (by decide)) hgd pass0 (pa_cons (pv 2) (pa_cons (pv 3) (pa_cons (pv 4) pa_nil))))))))) (pss_one (ps_ret pe_bl)) pss_nil)))))
      (pss_cons (ps_set (i := 5) sc_law.nd rfl (Or.inl rfl) (pe_cal c_sent_text (hr.mono (by decide)) pass0 (pa_cons (pe_tup (pa_cons pe_int (pa_cons pe_str (pa_cons pe_int pa_nil)))) (pa_cons pe_int (pa_cons (pe_op op_rep (pe_lst (pa_cons pe_int pa_nil)) pe_int) (pa_cons pe_int pa_nil))))))
      (pss_cons (ps_if (pt_cmpR (op_neD hr.units) (pv 5) (pe_lc rfl sc_law.nd (pi_range1 rfl T.b_range (pa_cons pe_int pa_nil)) (blkOk_by (own := [("_law_turn", 6)]) (N := ["_law_script", "_law_at", "_law_source_here", "_law_form", "_law_many", "_law_fast", "_law_turn"]) (sc := defScope s_law) (by decide +kernel)) (fun _ _ _ _ _ => (pg_name (i := 6) sc_law.nd rfl (Or.inl rfl))) (fun _ _ _ _ _ => pts_nil) (fun _ _ _ _ _ => (pe_op op_add pe_int (pe_op op_mul pe_int (pv 6))))) (nomark _)) (pss_one (ps_ret pe_bl)) pss_nil)
      (pss_one (ps_ret (pe_and (pe_cmpR (op_eqD hr.units) (pe_cal c_sent (hr.mono (by decide)) pass0 (pa_cons (pe_tup (pa_cons pe_int (pa_cons pe_str (pa_cons pe_int pa_nil)))) (pa_cons pe_int (pa_cons (pe_lst pa_nil) pa_nil)))) (pe_lst pa_nil) (nomark _)) (pe_one (pe_cmpR (op_eqD hr.units) (pe_cal c_sent_unevenly (hr.mono (by decide)) pass0 (pa_cons (pe_tup (pa_cons pe_int (pa_cons pe_str (pa_cons pe_int pa_nil)))) (pa_cons (pe_lst pa_nil) (pa_cons pe_int (pa_cons (pe_lst pa_nil) pa_nil))))) (pe_lst pa_nil) (nomark _)))))))))), ?_⟩)
  · obtain ⟨a, ns, rfl, _⟩ := h
    rfl
  · obtain ⟨a, ns, rfl, sq, hl, q⟩ := h
    refine ⟨_, rfl, a, _, rfl, .inl sq, _, _, rfl, _, _, rfl, _, rfl, ?_, ?_, ?_⟩
    · split <;> split <;> omega
    · split <;> split <;> omega
    have small : ∀ i : Nat, i < (if (if ((ns.map V.int).length : Int) < 8 then ((ns.map V.int).length : Int) else 8) > 1 then (if ((ns.map V.int).length : Int) < 8 then ((ns.map V.int).length : Int) else 8) else 1 : Int).toNat → i ≤ 8 := by
      intro i hi
      split at hi <;> (try split at hi) <;> omega
    refine for_range (lo := 0) (fun i σ H1 => ∃ u1 u2 u3 u4, σ = [some (.ref a), u1, u2, u3, u4, none, none] ∧ Ex H H1) ⟨none, none, none, none, rfl, Ex.refl H⟩ ?_ ?_
    · rintro i σ H1 hi ⟨u1, u2, u3, u4, rfl, ex⟩
      have i8 := small i hi
      refine ⟨_, rfl, _, rfl, a, ns, i, by simp, ex_l ex sq, by omega, fun S H2 nS e2 src0 => ?_⟩
      refine ⟨_, rfl, S, 0, rfl, src0, by omega, fun t b p s H3 nt k1 s1 ht b1 b9 s1' s2' => ?_⟩
      have fS : H S = none := fresh_back ex nS
      have x3 : Ex H H3 := Kp.new (ex.trans e2) k1 fS
      obtain ⟨ys, hS3⟩ := s1.at
      have sh3 : IsSh K H3 (.ref t) b p s := ⟨t, rfl, st_of ht, b1, b9, s1', s2'⟩
      refine ⟨_, rfl, S, 7, 3, rfl, s1, by omega, by decide, by decide, fun d1 H4 d10 d11 s4 k4 => ?_⟩
      refine ⟨_, rfl, S, 21, 4, rfl, s4, by omega, by decide, by decide, fun d2 H5 d20 d21 s5 k5 => ⟨_, _, rfl, rfl, (by show 2 ≤ sizeLine; decide), fun M nM => ?_⟩⟩
      have M_S := s5.ne nM
      obtain ⟨m, hm, m60⟩ : ∃ m : Nat, atI [V.int d1, .int (40 + d2)] (if decide (V.int (0 + (i : Int)) = V.int 0) then 1 else 0) = some (.int (m : Nat)) ∧ m ≤ 60 := by
        by_cases c : decide (V.int (0 + (i : Int)) = V.int 0) = true
        · rw [if_pos c]
          exact ⟨(40 + d2).toNat, by rw [Int.toNat_of_nonneg (by omega)]; rfl, by omega⟩
        · rw [if_neg c]
          exact ⟨d1.toNat, by rw [Int.toNat_of_nonneg (by omega)]; rfl, by omega⟩
      refine ⟨_, rfl, rfl, .inr ⟨_, rfl, M, _, _, _, rfl, rfl, sq_of upd_same, hm, _, _, rfl, ?_⟩⟩
      have kk := (k4.trans k5).trans (Ex.kp (Ex.new nM (o := .lst [.int d1, .int (40 + d2)])))
      have x6 := Kp.new x3 kk fS
      have s6 := s5.ex (Ex.new nM (o := .lst [.int d1, .int (40 + d2)]))
      have sh6 := sh3.kp kk hS3
      refine ⟨_, rfl, _, rfl, _, rfl, S, _, .ref t, b, p, s, m, rfl, s6, by omega, sh6, m60, fun H7 k7 s7 => ⟨true, rfl, iteF ?_⟩⟩
      have x7 := Kp.new x6 k7 fS
      obtain ⟨y6, hS6⟩ := s6.at
      have sh7 := sh6.kp k7 hS6
      exact ⟨_, rfl, _, rfl, _, rfl, S, _, .ref t, b, p, s, m, rfl, s7, by omega, sh7, m60, fun H8 k8 s8 => ⟨true, rfl, iteF ⟨_, _, _, _, rfl, Kp.new x7 k8 fS⟩⟩⟩
    · rintro σ H1 ⟨u1, u2, u3, u4, rfl, ex⟩
      refine ⟨by decide, fun t nt => ⟨by decide, fun L3 nL3 => ⟨L3, 60, _, rfl, rfl, upd_same, by decide, by decide, by decide, fun L4 nL4 => ?_⟩⟩⟩
      refine ⟨.ref t, 9, .od, 1, 3, L4, List.replicate 60 341, 5, rfl, ⟨t, rfl, st_of (Ex.new nL4 _ _ (Ex.new nL3 _ _ upd_same)), by decide, by decide, by decide, by decide⟩, by decide, sq_of (by rw [upd_same]; exact congrArg (fun z => some (HO.lst z)) (rep_one 60 341)), by decide, ?_, fun G H2 nG e2 hG => ?_⟩
      · intro z hz
        rw [List.eq_of_mem_replicate hz]
        decide
      rw [fast_is] at hG
      refine ⟨_, rfl, 720, rfl, by decide, by decide, fun D nD => ?_⟩
      refine lc_range (lo := 0) (n := (720 : Int).toNat) (fun i H' => Ex H2 H' ∧ H' D = some (.lst (((List.range i).map fun i : Nat => 5 + 3 * (i : Int)).map V.int))) ⟨Ex.new nD, upd_same⟩ (fun i H' hi ⟨e3, h3⟩ => ?_) (fun H3 ⟨e3, hD⟩ => ?_)
      · have hi' : i < 720 := hi
        refine ⟨rfl, ?_⟩
        refine ⟨_, rfl, _, _, rfl, rfl, .inl ⟨by decide, by decide⟩, _, _, rfl, rfl, _, h3, ?_, e3.mut nD, ?_⟩
        · rw [List.length_map, List.length_map, List.length_range]
          exact small1000 (by omega)
        · have e0 : (0 : Int) + (i : Int) = (i : Int) := Int.zero_add _
          rw [upd_same, List.range_succ]
          show some (HO.lst (_ ++ [V.int (5 + 3 * ((0 : Int) + (i : Int)))])) = _
          rw [e0]
          simp [List.map_append]
      refine ⟨_, _, .lst (sq_of (e3 _ _ hG)) (dp_ints _), .lst (sq_of hD) (dp_ints _), dI_shaped _, dI_shaped _, _, rfl, ?_⟩
      have ee : PyData.eqv (.list (dI ((List.range 720).map fun i : Nat => 5 + 3 * (i : Int)))) (.list (dI ((List.range (720 : Int).toNat).map fun i : Nat => 5 + 3 * (i : Int)))) = true := eqv_sh (dI_shaped _)
      rw [ee]
      refine iteF ?_
      -- sent((5, 'odd', 2), 4, []) == [] and ..
      refine ⟨by decide, fun t2 nt2 => ⟨Nat.zero_le _, fun L5 nL5 => ⟨.ref t2, 5, .od, 2, 4, L5, [], [], rfl, ⟨t2, rfl, st_of (Ex.new nL5 _ _ upd_same), by decide, by decide, by decide, by decide⟩, by decide, sq_of upd_same, Snd.nil, by decide, (fun _ h => by cases h), (fun k q r h => by simp at h), fun G5 H5 nG5 e5 hG5 => ⟨Nat.zero_le _, fun L6 nL6 => ?_⟩⟩⟩⟩
      refine ⟨.list [], .list [], .lst (sq_of (Ex.new nL6 _ _ hG5)) .nil, .lst (sq_of upd_same) .nil, by decide +kernel, by decide +kernel, _, rfl, ?_⟩
      have ev0 : PyData.eqv (.list []) (.list []) = true := by decide +kernel
      rw [ev0]
      refine iteT ⟨by decide, fun t3 nt3 => ⟨Nat.zero_le _, fun L7 nL7 => ⟨Nat.zero_le _, fun L8 nL8 => ?_⟩⟩⟩
      refine ⟨.ref t3, 5, .od, 2, L7, [], 7, L8, [], rfl, ⟨t3, rfl, st_of (Ex.new nL8 _ _ (Ex.new nL7 _ _ upd_same)), by decide, by decide, by decide, by decide⟩, sq_of (Ex.new nL8 _ _ upd_same), by decide, (fun _ h => by cases h), sq_of upd_same, rfl, (fun _ h => by cases h), fun G6 H6 nG6 e6 hG6 => ⟨Nat.zero_le _, fun L9 nL9 => ?_⟩⟩
      refine ⟨.list [], .list [], .lst (sq_of (Ex.new nL9 _ _ hG6)) .nil, .lst (sq_of upd_same) .nil, by decide +kernel, by decide +kernel, ?_⟩
      rw [ev0]
      exact q _
theorem law_facts {h : Heap} {fa : Addr} (X : K.In h) (hfa : mg ("law" : Str) = some (.ref fa)) (T : Tx K mg) :
    ∃ (K' : PySem.W.Frag) (fd : FuncData) (sp : Sp), K'.In h ∧ (∀ (s : Shared) (u : Value), BindsTo s fd ⟨[u], []⟩ [(("_law_script" : Str), u)]) ∧
        (∀ (H : Hp) (a : Addr) (ns : List Int), ns.length ≤ 63 → Only H → SqL K' H a (ns.map V.int) → sp [.ref a] H (fun v _ => v = .bl true) fun _ _ _ => False) ∧
        ∀ base : Heap, K'.In base → base.Ns mainGlobals mg → FnG P w K' mg base L2.CX0 10 fa fd ["_law_script"] sp := by
  obtain ⟨e, fd, F⟩ := T.d_law
  have e2 := hfa.symm.trans e
  cases e2
  exact ⟨K, fd, sp_law K, X, fun s u => FunD.bindsA (ps := ["_law_script"]) F (fun _ _ _ _ _ _ us hl => match us, hl with | [_], _ => rfl) s [u] rfl,
    fun H a ns hl _ hS => ⟨a, ns, rfl, hS, hl, fun _ => rfl⟩, fun base _ _ => law_ok T F⟩
end
end LW
namespace LW
open PySem PySem.Spec PyProof.Rows L2 Evl SB
def fnL : List He.DefD := [⟨("is_int", none), "is_int", "is_int", defArgs s_is_int, defBody s_is_int, defScope s_is_int, [], []⟩,
  ⟨("is_int_from", none), "is_int_from", "is_int_from", defArgs s_is_int_from, defBody s_is_int_from, defScope s_is_int_from, [], []⟩,
  ⟨("is_int_between", none), "is_int_between", "is_int_between", defArgs s_is_int_between, defBody s_is_int_between, defScope s_is_int_between, [], []⟩,
  ⟨("is_parity", none), "is_parity", "is_parity", defArgs s_is_parity, defBody s_is_parity, defScope s_is_parity, [], []⟩,
  ⟨("fits", none), "fits", "fits", defArgs s_fits, defBody s_fits, defScope s_fits, [], []⟩,
  ⟨("is_list_up_to", none), "is_list_up_to", "is_list_up_to", defArgs s_is_list_up_to, defBody s_is_list_up_to, defScope s_is_list_up_to, [], []⟩,
  ⟨("check_shape", none), "check_shape", "check_shape", defArgs s_check_shape, defBody s_check_shape, defScope s_check_shape, [], []⟩,
  ⟨("check_number", none), "check_number", "check_number", defArgs s_check_number, defBody s_check_number, defScope s_check_number, [], []⟩,
  ⟨("check_text", none), "check_text", "check_text", defArgs s_check_text, defBody s_check_text, defScope s_check_text, [], []⟩,
  ⟨("check_text_between", none), "check_text_between", "check_text_between", defArgs s_check_text_between, defBody s_check_text_between, defScope s_check_text_between, [], []⟩,
  ⟨("check_length", none), "check_length", "check_length", defArgs s_check_length, defBody s_check_length, defScope s_check_length, [], []⟩,
  ⟨("check_tick", none), "check_tick", "check_tick", defArgs s_check_tick, defBody s_check_tick, defScope s_check_tick, [], []⟩,
  ⟨("size_of", none), "size_of", "size_of", defArgs s_size_of, defBody s_size_of, defScope s_size_of, [], []⟩,
  ⟨("parity_of", none), "parity_of", "parity_of", defArgs s_parity_of, defBody s_parity_of, defScope s_parity_of, [], []⟩,
  ⟨("frame_of", none), "frame_of", "frame_of", defArgs s_frame_of, defBody s_frame_of, defScope s_frame_of, [], []⟩,
  ⟨("levels_of", none), "levels_of", "levels_of", defArgs s_levels_of, defBody s_levels_of, defScope s_levels_of, [], []⟩,
  ⟨("_bits_of", none), "_bits_of", "_bits_of", defArgs s_bits_of, defBody s_bits_of, defScope s_bits_of, [], []⟩,
  ⟨("sent", none), "sent", "sent", defArgs s_sent, defBody s_sent, defScope s_sent, [], []⟩,
  ⟨("sent_text", none), "sent_text", "sent_text", defArgs s_sent_text, defBody s_sent_text, defScope s_sent_text, [], []⟩,
  ⟨("sent_unevenly", none), "sent_unevenly", "sent_unevenly", defArgs s_sent_unevenly, defBody s_sent_unevenly, defScope s_sent_unevenly, [], []⟩,
  ⟨("changes_of", none), "changes_of", "changes_of", defArgs s_changes_of, defBody s_changes_of, defScope s_changes_of, [], []⟩,
  ⟨("_check_sending", none), "_check_sending", "_check_sending", defArgs s_check_sending, defBody s_check_sending, defScope s_check_sending, [], []⟩,
  ⟨("_is_begin", none), "_is_begin", "_is_begin", defArgs s_is_begin, defBody s_is_begin, defScope s_is_begin, [], []⟩,
  ⟨("_check_lasts", none), "_check_lasts", "_check_lasts", defArgs s_check_lasts, defBody s_check_lasts, defScope s_check_lasts, [], []⟩,
  ⟨("_law_source", none), "_law_source", "_law_source", defArgs s_law_source, defBody s_law_source, defScope s_law_source, [], []⟩,
  ⟨("_law_draw", none), "_law_draw", "_law_draw", defArgs s_law_draw, defBody s_law_draw, defScope s_law_draw, [], []⟩,
  ⟨("_law_shape", none), "_law_shape", "_law_shape", defArgs s_law_shape, defBody s_law_shape, defScope s_law_shape, [], []⟩,
  ⟨("_law_frame", none), "_law_frame", "_law_frame", defArgs s_law_frame, defBody s_law_frame, defScope s_law_frame, [], []⟩,
  ⟨("_law_text", none), "_law_text", "_law_text", defArgs s_law_text, defBody s_law_text, defScope s_law_text, [], []⟩,
  ⟨("_law_length", none), "_law_length", "_law_length", defArgs s_law_length, defBody s_law_length, defScope s_law_length, [], []⟩,
  ⟨("_law_changes", none), "_law_changes", "_law_changes", defArgs s_law_changes, defBody s_law_changes, defScope s_law_changes, [], []⟩,
  ⟨("_law_is_right", none), "_law_is_right", "_law_is_right", defArgs s_law_is_right, defBody s_law_is_right, defScope s_law_is_right, [], []⟩,
  ⟨("_law_sending_right", none), "_law_sending_right", "_law_sending_right", defArgs s_law_sending_right, defBody s_law_sending_right, defScope s_law_sending_right, [], []⟩,
  ⟨("_law_text_right", none), "_law_text_right", "_law_text_right", defArgs s_law_text_right, defBody s_law_text_right, defScope s_law_text_right, [], []⟩,
  ⟨("law", none), "law", "law", defArgs s_law, defBody s_law, defScope s_law, [], []⟩]
def faL : List He.Fa := [.free "abs", .free "bool", .free "enumerate", .free "int", .free "isinstance", .free "len", .free "list", .free "max", .free "min", .free "range", .free "repr", .free "str", .free "sum", .free "tuple", .free "zip", .glo "PARITIES", .int "MOST_BITS" (9), .int "MOST_STOPS" (2), .int "MOST_NUMBERS" (60), .glo "is_int", .glo "is_int_from", .glo "is_int_between", .glo "is_parity", .glo "fits", .glo "is_list_up_to", .glo "check_shape", .glo "check_number", .glo "check_text", .glo "check_text_between", .glo "check_length", .glo "check_tick", .glo "size_of", .glo "parity_of", .glo "frame_of", .glo "levels_of", .glo "_bits_of", .glo "sent", .glo "sent_text", .glo "sent_unevenly", .glo "changes_of", .glo "_check_sending", .glo "_is_begin", .glo "_check_lasts", .glo "_law_source", .glo "_law_draw", .glo "_law_shape", .glo "_law_frame", .glo "_law_text", .glo "_law_length", .glo "_law_changes", .glo "_law_is_right", .glo "_law_sending_right", .glo "_law_text_right", .glo "law"]
def exL (K : PySem.W.Frag) : Bool := He.tupB K "PARITIES" [.str "none", .str "even", .str "odd"]
theorem tx_of {w : World} {K : PySem.W.Frag} {h : Heap} {mg : Str → Option Value} (X : K.In h) (G : h.Ns mainGlobals mg) (c : He.SaysX faL fnL [] [] exL w h K) : Tx K mg := by
  have D := c.t.d
  have M := c.more
  exact {
    b_abs := He.free_ok X G (D.fact 0 (f := .free "abs") rfl),
    b_bool := He.free_ok X G (D.fact 1 (f := .free "bool") rfl),
    b_enumerate := He.free_ok X G (D.fact 2 (f := .free "enumerate") rfl),
    b_int := He.free_ok X G (D.fact 3 (f := .free "int") rfl),
    b_isinstance := He.free_ok X G (D.fact 4 (f := .free "isinstance") rfl),
    b_len := He.free_ok X G (D.fact 5 (f := .free "len") rfl),
    b_list := He.free_ok X G (D.fact 6 (f := .free "list") rfl),
    b_max := He.free_ok X G (D.fact 7 (f := .free "max") rfl),
    b_min := He.free_ok X G (D.fact 8 (f := .free "min") rfl),
    b_range := He.free_ok X G (D.fact 9 (f := .free "range") rfl),
    b_repr := He.free_ok X G (D.fact 10 (f := .free "repr") rfl),
    b_str := He.free_ok X G (D.fact 11 (f := .free "str") rfl),
    b_sum := He.free_ok X G (D.fact 12 (f := .free "sum") rfl),
    b_tuple := He.free_ok X G (D.fact 13 (f := .free "tuple") rfl),
    b_zip := He.free_ok X G (D.fact 14 (f := .free "zip") rfl),
    t_PARITIES := He.glo_ok X G (D.fact 15 (f := .glo "PARITIES") rfl),
    v_PARITIES := fun H => He.tupB_ok M H,
    i_MOST_BITS := He.int_ok X G (D.fact 16 (f := .int "MOST_BITS" (9)) rfl),
    i_MOST_STOPS := He.int_ok X G (D.fact 17 (f := .int "MOST_STOPS" (2)) rfl),
    i_MOST_NUMBERS := He.int_ok X G (D.fact 18 (f := .int "MOST_NUMBERS" (60)) rfl),
    d_is_int := ⟨He.glo_ok X G (D.fact 19 (f := .glo "is_int") rfl), D.def_ 0 rfl⟩,
    d_is_int_from := ⟨He.glo_ok X G (D.fact 20 (f := .glo "is_int_from") rfl), D.def_ 1 rfl⟩,
    d_is_int_between := ⟨He.glo_ok X G (D.fact 21 (f := .glo "is_int_between") rfl), D.def_ 2 rfl⟩,
    d_is_parity := ⟨He.glo_ok X G (D.fact 22 (f := .glo "is_parity") rfl), D.def_ 3 rfl⟩,
    d_fits := ⟨He.glo_ok X G (D.fact 23 (f := .glo "fits") rfl), D.def_ 4 rfl⟩,
    d_is_list_up_to := ⟨He.glo_ok X G (D.fact 24 (f := .glo "is_list_up_to") rfl), D.def_ 5 rfl⟩,
    d_check_shape := ⟨He.glo_ok X G (D.fact 25 (f := .glo "check_shape") rfl), D.def_ 6 rfl⟩,
    d_check_number := ⟨He.glo_ok X G (D.fact 26 (f := .glo "check_number") rfl), D.def_ 7 rfl⟩,
    d_check_text := ⟨He.glo_ok X G (D.fact 27 (f := .glo "check_text") rfl), D.def_ 8 rfl⟩,
    d_check_text_between := ⟨He.glo_ok X G (D.fact 28 (f := .glo "check_text_between") rfl), D.def_ 9 rfl⟩,
    d_check_length := ⟨He.glo_ok X G (D.fact 29 (f := .glo "check_length") rfl), D.def_ 10 rfl⟩,
    d_check_tick := ⟨He.glo_ok X G (D.fact 30 (f := .glo "check_tick") rfl), D.def_ 11 rfl⟩,
    d_size_of := ⟨He.glo_ok X G (D.fact 31 (f := .glo "size_of") rfl), D.def_ 12 rfl⟩,
    d_parity_of := ⟨He.glo_ok X G (D.fact 32 (f := .glo "parity_of") rfl), D.def_ 13 rfl⟩,
    d_frame_of := ⟨He.glo_ok X G (D.fact 33 (f := .glo "frame_of") rfl), D.def_ 14 rfl⟩,
    d_levels_of := ⟨He.glo_ok X G (D.fact 34 (f := .glo "levels_of") rfl), D.def_ 15 rfl⟩,
    d_bits_of := ⟨He.glo_ok X G (D.fact 35 (f := .glo "_bits_of") rfl), D.def_ 16 rfl⟩,
    d_sent := ⟨He.glo_ok X G (D.fact 36 (f := .glo "sent") rfl), D.def_ 17 rfl⟩,
    d_sent_text := ⟨He.glo_ok X G (D.fact 37 (f := .glo "sent_text") rfl), D.def_ 18 rfl⟩,
    d_sent_unevenly := ⟨He.glo_ok X G (D.fact 38 (f := .glo "sent_unevenly") rfl), D.def_ 19 rfl⟩,
    d_changes_of := ⟨He.glo_ok X G (D.fact 39 (f := .glo "changes_of") rfl), D.def_ 20 rfl⟩,
    d_check_sending := ⟨He.glo_ok X G (D.fact 40 (f := .glo "_check_sending") rfl), D.def_ 21 rfl⟩,
    d_is_begin := ⟨He.glo_ok X G (D.fact 41 (f := .glo "_is_begin") rfl), D.def_ 22 rfl⟩,
    d_check_lasts := ⟨He.glo_ok X G (D.fact 42 (f := .glo "_check_lasts") rfl), D.def_ 23 rfl⟩,
    d_law_source := ⟨He.glo_ok X G (D.fact 43 (f := .glo "_law_source") rfl), D.def_ 24 rfl⟩,
    d_law_draw := ⟨He.glo_ok X G (D.fact 44 (f := .glo "_law_draw") rfl), D.def_ 25 rfl⟩,
    d_law_shape := ⟨He.glo_ok X G (D.fact 45 (f := .glo "_law_shape") rfl), D.def_ 26 rfl⟩,
    d_law_frame := ⟨He.glo_ok X G (D.fact 46 (f := .glo "_law_frame") rfl), D.def_ 27 rfl⟩,
    d_law_text := ⟨He.glo_ok X G (D.fact 47 (f := .glo "_law_text") rfl), D.def_ 28 rfl⟩,
    d_law_length := ⟨He.glo_ok X G (D.fact 48 (f := .glo "_law_length") rfl), D.def_ 29 rfl⟩,
    d_law_changes := ⟨He.glo_ok X G (D.fact 49 (f := .glo "_law_changes") rfl), D.def_ 30 rfl⟩,
    d_law_is_right := ⟨He.glo_ok X G (D.fact 50 (f := .glo "_law_is_right") rfl), D.def_ 31 rfl⟩,
    d_law_sending_right := ⟨He.glo_ok X G (D.fact 51 (f := .glo "_law_sending_right") rfl), D.def_ 32 rfl⟩,
    d_law_text_right := ⟨He.glo_ok X G (D.fact 52 (f := .glo "_law_text_right") rfl), D.def_ 33 rfl⟩,
    d_law := ⟨He.glo_ok X G (D.fact 53 (f := .glo "law") rfl), D.def_ 34 rfl⟩ }
def looseL : List Str := (["LineError", "InvalidNumber", "InvalidTick", "InvalidLength", "InvalidShape", "InvalidSending", "InvalidText", "InvalidLengths", "PARITIES", "MOST_BITS", "MOST_STOPS", "MOST_NUMBERS", "is_int", "is_int_from", "is_int_between", "is_parity", "fits", "is_list_up_to", "check_shape", "check_number", "check_text", "check_text_between", "check_length", "check_tick", "size_of", "parity_of", "frame_of", "levels_of", "_bits_of", "sent"] : List Str) ++ (["sent_text", "sent_unevenly", "changes_of", "_check_sending", "_is_begin", "_check_lasts", "_law_source", "_law_draw", "_law_shape", "_law_frame", "_law_text", "_law_length", "_law_changes", "_law_is_right", "_law_sending_right", "_law_text_right"] : List Str)
abbrev RW : PySem.W.OpenRow := PySem.W.OpenLaw.row PySem.Challenge.rw_startbits_k06_signals_of_sendings
abbrev hk : PySem.W.Hook := He.hookX 5 faL fnL [] [] exL
def obL (s : PySem.W.SharedT) : He.AlX := He.obsX 5 faL fnL [] [] exL (HandSHeadRun.getT s)
theorem obL_eq (s : PySem.W.SharedT) : obL s = hk.obs s.abs := He.obsX_eq (HandSHeadRun.getT_eq s)
theorem runL (w : World) : HandSHeadRun.RunEq RW (PySem.W.view RW.prog [51]) hk obL 6000 looseL w := by
  intro os
  kernel_rfl
end LW
open PySem PySem.W PySem.Calls PyProof.Rows
set_option maxHeartbeats 0 in
theorem PySem.Challenge.cw_startbits_k06_signals_of_sendings_holds : PySem.Challenge.rw_startbits_k06_signals_of_sendings.Holds := by
  w_on; o_law
  refine HandSHeadRun.head_any (r := OpenLaw.row PySem.Challenge.rw_startbits_k06_signals_of_sendings) (q := view (OpenLaw.row PySem.Challenge.rw_startbits_k06_signals_of_sendings).prog [51]) (H := LW.hk) (ob := LW.obL) (M := 6000) (loose := LW.looseL) (d := HandSHeadRun.topDef (OpenLaw.row PySem.Challenge.rw_startbits_k06_signals_of_sendings).prog 51) (kwd := []) LW.obL_eq
    (by kernel_rfl) (fun s => by kernel_rfl) LW.runL (by kernel_rfl) (by kernel_rfl) (by kernel_rfl) (by rfl) (by first | assumption | decide +kernel) (by decide +kernel) ⟨rfl, rfl, rfl, rfl, rfl, by decide +kernel⟩ ?hw ?hc
  case hw => w_witness2
  case hc =>
    refine SB.walkG (l := PySem.Challenge.rw_startbits_k06_signals_of_sendings) (n := 63) (k := 10) (x := "_law_script") (CX := L2.CX0) rfl (by decide) (by kernel_rfl) ⟨rfl, by decide, by decide⟩ ?F (fun _ _ _ _ z => z)
    intro w mg fa h Y G hmg0
    obtain ⟨K, KX, c⟩ := Y
    have hmg : mg ("law" : PySem.Str) = some (.ref fa) := by
      have e : (HandSHeadRun.topDef (OpenLaw.row PySem.Challenge.rw_startbits_k06_signals_of_sendings).prog 51).name = ("law" : PySem.Str) := by kernel_rfl
      rw [← e]
      exact hmg0
    exact LW.law_facts KX hmg (LW.tx_of KX G c)
