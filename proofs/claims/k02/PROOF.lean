import PyProof.Rows.All
import Wide.All
import OpenK.AllK
import Wide.FinOn
import PySem.Challenge.RW_startbits_k02_frames_and_parity
import HandS.ForMost
import HandS.Wide
import HandS.IsInst
import HandS.Defaults
import HandS.HeadHook2
import HandS.HeadHook4
import HandS.HeadEnd
import HandS.Head0
import HandS.Head1
import HandS.Head2
import PyProof.ReprRoads
import PyProof.ReprLen
import HandS.Evl
import HandS.Text
import HandS.Zip
import HandS.Style
import HandS.ForExc
import HandS.ExcInit
import KE.KExcLine
import HandS.ExcSuper
import HandS.TryOnly
import HandS.Dict
import HandS.ExcField
import HandS.ExcIs
import KE.KExcHand
import KE.KExcIs
import KE.KIsAll
set_option Elab.async false
set_option linter.all false
set_option maxRecDepth 100000
set_option maxHeartbeats 4000000
namespace SB
open PySem PySem.Spec PyProof.Rows L2
/-! powers of wide ints -/
def CPowB (i j : Int) : Prop := 0 ≤ j ∧ ((i.natAbs.log2 : Int) + 1) * j ≤ 134217728
theorem bits_le (i : Int) : (Builtin.Int.intBits i : Int) ≤ (i.natAbs.log2 : Int) + 1 := by
  unfold Builtin.Int.intBits
  split <;> omega
theorem op_powB {X : Cx} : OpR X (binaryOp .Pow) (rI CPowB fun i j => .int (i ^ j.toNat)) :=
  opI fun i j _ _ _ _ _ hc q => by
    refine pow_int hc.1 ?_ q
    have h2 := hc.2
    have h3 := Int.mul_le_mul_of_nonneg_right (bits_le i) hc.1
    have e : (2 : Int) ^ 27 = 134217728 := by decide
    omega
/-! repr of data -/
def rRp (K : PySem.W.Frag) : List V → Hp → VK → Prop := fun xs H Q => ∃ v d, xs = [v] ∧ Dp K H v d ∧ d.showable = true ∧ d.hasDict = false ∧ d.depth ≤ 60 ∧ d.shown.length ≤ sizeLine ∧ Q (.str d.shown) H
theorem call_rp {X : Cx} (hg : X.A.guards = some []) (hu : X.A.units + 64 < cLine) : CallR X (.builtin "repr") (rRp X.K) := by
  intro pins s σ H xs us Q I r h
  obtain ⟨v, d, rfl, hd, h1, h2, h3, h4, q⟩ := h
  obtain ⟨u, rfl, ru⟩ := vals1 r
  cases hd with
  | non =>
    obtain rfl : u = Value.none := ru
    exact PySem.P.repr_of_none ⟨.str "None", H, I.tok _, ⟨_, rfl⟩, q⟩
  | bl b =>
    obtain rfl : u = Value.bool b := ru
    cases b with
    | true => exact PySem.P.repr_of_bool ⟨.str "True", H, I.tok _, ⟨_, rfl⟩, q⟩
    | false => exact PySem.P.repr_of_bool ⟨.str "False", H, I.tok _, ⟨_, rfl⟩, q⟩
  | int i =>
    obtain ⟨t, rfl⟩ := ru
    exact PySem.P.repr_of_int (of_decide_eq_true h1) ⟨.str (toString i), H, I.tok _, ⟨_, rfl⟩, q⟩
  | str x =>
    obtain ⟨t, rfl⟩ := ru
    exact PySem.P.repr_of_str ⟨.str (reprText x), H, I.tok _, ⟨_, rfl⟩, q⟩ h4
  | lst hs ha =>
    obtain ⟨as, rd⟩ := Dp.reads I _ _ u (.lst hs ha) ru
    cases (show u = Value.ref _ from ru)
    exact PySem.repr_of_reads' rd h1 (PyData.noDict_hsm h2) hg (by omega) (fun _ _ e => e) (fun h' u tk hk => ⟨.str _, H, I.kept hk, ⟨_, rfl⟩, q⟩) h4
  | tup hs ha =>
    obtain ⟨as, rd⟩ := Dp.reads I _ _ u (.tup hs ha) ru
    cases (show u = Value.ref _ from ru)
    exact PySem.repr_of_reads' rd h1 (PyData.noDict_hsm h2) hg (by omega) (fun _ _ e => e) (fun h' u tk hk => ⟨.str _, H, I.kept hk, ⟨_, rfl⟩, q⟩) h4
/-! defs that are run where no repr is under way: the promise holds for such surroundings alone -/
structure FnG (P : Program) (w : World) (K : PySem.W.Frag) (mg : Str → Option Value) (base : Heap) (CX : CXT) (k : Nat)
    (f : Addr) (fd : FuncData) (ps : List Str) (sp : Sp) : Prop where
  len : ∀ vs H Q E, sp vs H Q E → vs.length = ps.length
  go : ∀ (A : Around) (out : List Env) (s : Shared) (H : Hp) (ar : Args) (us : List Value) (vs : List V) (Q : VK) (E : XK),
    Room k A → A.guards = some [] → Env0 P w K mg base A out s H → BindsTo s fd ar (ps.zip us) → Vals vs us → sp vs H Q E →
    codeAny (model P w) A (.call (.ref f) ar) (CR CX out P w H s Q E) s
section
variable {P : Program} {w : World} {K : PySem.W.Frag} {mg : Str → Option Value} {base : Heap} {CX : CXT} {k : Nat}
  {f : Addr} {fd : FuncData} {ps : List Str} {sp : Sp}
theorem FnG.of (F : FnOk P w K mg base CX k f fd ps sp) : FnG P w K mg base CX k f fd ps sp :=
  ⟨F.len, fun A out s H ar us vs Q E r _ e b v h => F.run A out s H ar us vs Q E r e b v h⟩
theorem FnG.mono {j : Nat} (F : FnG P w K mg base CX j f fd ps sp) (h : j ≤ k) : FnG P w K mg base CX k f fd ps sp :=
  ⟨F.len, fun A out s H ar us vs Q E r g e b v z => F.go A out s H ar us vs Q E (r.mono h) g e b v z⟩
theorem FnG.body {x qual : Str} {params : Arguments} {bd : List Stmt} {scope : Scope} {dvs : List V} {kws : List (Str × V)} {N : List Str}
    (F : FunD K x qual params bd scope dvs kws f fd) (S : FnScope N ps scope) (len : ∀ vs H Q E, sp vs H Q E → vs.length = ps.length)
    (hb : ∀ (cdv : Value) (A : Around) (out : List Env) (s : Shared) (H : Hp) (vs : List V) (Q : VK) (E : XK),
      Room k (A.deeper (envOfC qual scope s.heap.objs.size f cdv)) → A.guards = some [] → sp vs H Q E →
      ∃ t, PSs (cxOf CX P w K mg base N qual scope f cdv A out s H E) bd t ∧ t { nx := fun _ H' => Q .non H', rt := Q } (start N vs) H) :
    FnG P w K mg base CX (k + 1) f fd ps sp := by
  obtain ⟨oc, od, dV, kV, doc, pm, an, cdv, ct, osl, rfl, lk, hcd, _, _⟩ := F.ex
  refine ⟨len, ?_⟩
  intro A out s H ar us vs Q E room gd e0 bnd vls pr
  have inS : K.In s.heap := e0.mod.kin.keeps fun b o z => (e0.bs b o z).1
  have nl : s.heap.NoLimit := e0.mod.nolimit.keeps fun b o z => (e0.bs b o z).1
  refine codeAny_call_function room.depth (inS _ _ lk) rfl S.co S.gen rfl (PySem.W.codeRec_of inS hcd) (bnd _ _ _ _ ?_)
  refine wpAny_newFunctionEnv_cells S.kind ?_ ?_
  · intro ⟨n, v⟩ hy
    cases S.par n (List.of_mem_zip hy).1 with
    | inl q => exact .inl q
    | inr q => exact .inr ⟨q, PySem.W.cellsFrom_some _ _ _ (.inl q)⟩
  intro env he s1 x
  subst he
  refine ⟨nl.keeps x.toInCall.keep, codeAny_func ?_⟩
  obtain ⟨t, der, rd⟩ := hb cdv A out s H vs Q E (room.deeper _) gd pr
  have I0 := inv_start (CX := CX) (P := P) (w := w) (K := K) (mg := mg) (base := base) (cd := cdv) (f := f) (E := E)
    (qual := qual) S room.hd e0 (len _ _ _ _ pr) vls x
  refine wpAny_mono (der.run [] s1 (start N vs) H _ I0 rd) ?_ (fun _ _ z => z)
  intro fl s' z
  cases fl with
  | ret u =>
    obtain ⟨v, σ', H', J, rv, q⟩ := z
    exact ⟨v, H', J.os, J.bare, J.base, J.hok, rv, q⟩
  | next =>
    obtain ⟨σ', H', J, q⟩ := z
    exact ⟨V.non, H', J.os, J.bare, J.base, J.hok, rfl, q⟩
  | brk =>
    obtain ⟨_, _, _, q⟩ := z
    exact q.elim
  | cont =>
    obtain ⟨_, _, _, q⟩ := z
    exact q.elim
end
section
variable {X : Cx} {CX : CXT} {k : Nat} {f : Addr} {fd : FuncData} {ps : List Str} {sp : Sp} {dvs : List V} {ds : List Value} {E : XK}
  {x : Str} {p pos : Pos} {e : Expr} {es : List Expr} {t : TA}
theorem runG {pins : List (Addr × Obj)} {σ : L2.St} {H : Hp} {s : Shared} {Q : VK} {us : List Value} {vs : List V}
    (F : FnG X.prog X.w X.K X.mg X.base CX k f fd ps sp) (hr : Room k X.A) (hg : X.A.guards = some []) (hb : Binds X.K fd ps ds) (hd : Vals dvs ds) (hx : Passes CX X E)
    (I : Inv X pins σ H s) (r : Vals vs us) (h : sp (vs ++ dvs) H Q E) : wpAny (model X.prog X.w) X.A (call (.ref f) us) (EP X pins σ Q) X.xe s := by
  have rr : Vals (vs ++ dvs) (us ++ ds) := r.append hd
  have ll : (us ++ ds).length = ps.length := rr.length.symm.trans (F.len _ _ _ _ h)
  have go := F.go X.A X.stack s H ⟨us, []⟩ (us ++ ds) (vs ++ dvs) Q E hr hg I.env0 (hb s us I.kIn ll) rr h
  refine wpAny_call (codeAny_mono go ?_)
  intro r s' z
  match r, z with
  | .error e, z => exact hx pins σ H s e s' I z
  | .ok (.ret u), z => exact I.after z
  | .ok .next, z => exact False.elim z
  | .ok .brk, z => exact False.elim z
  | .ok .cont, z => exact False.elim z
theorem pe_callG (F : FnG X.prog X.w X.K X.mg X.base CX k f fd ps sp) (hr : Room k X.A) (gd : X.A.guards = some []) (hg : Gl X x) (hm : X.mg x = some (.ref f))
    (hk : PySem.W.keepIn X.K (.ref f) = true) (hb : Binds X.K fd ps ds) (hd : Vals dvs ds) (hx : Passes CX X E)
    (ha : PA X (e :: es) t) (hdb : (x == ("__debug__" : Str)) = false := by decide)
    (he : starEach (e :: es) X.env = (false, eval e X.env) :: starEach es X.env := by rfl) (hpl : (backTo pos (starEach es X.env)).any (·.1) = false := by rfl) :
    PE X (.Call (.Name x p) (e :: es) [] pos) (tCall sp dvs E t) := by
  constructor
  intro pins s σ H Q I h
  refine wpAny_Call_Name_kw (ld_glob I hg hm ?_ hdb)
  refine PySem.W.callWith_K (h₀ := X.base) I.ok.mod.kin hk (thn (ha.run pos pins s σ H _ I h) ?_) he hpl
  intro us s1 ⟨vs, H1, I1, r, q⟩
  exact ⟨I1.kIn, runG F hr gd hb hd hx I1 r q⟩
end
/-! the end of a law over such a def -/
theorem callG {P : Program} {w : World} {K : PySem.W.Frag} {mg mb : Str → Option Value} {CX : CXT} {k : Nat} {fa a : Addr} {fd : FuncData} {x : Str} {sp : Sp} {s₁ : Shared}
    {vs : List Value} {ns : List Int}
    (KX : K.In s₁.heap) (hns : s₁.heap.Ns mainGlobals mg) (hb : s₁.heap.Ns builtinsNs mb) (hbb : ∀ x : Str, x ≠ "__name__" → mb x = bootBuiltins x) (hlim : s₁.heap.NoLimit) (hg : s₁.gens = #[])
    (ha : s₁.heap.get? a = some { cls := .type "list", data := .seq vs.toArray }) (hi : IntsAre vs ns) (hl : ns.length ≤ sizeLine) (hr : Room k callerA)
    (F : ∀ base : Heap, K.In base → base.Ns mainGlobals mg → FnG P w K mg base CX k fa fd [x] sp)
    (hbind : ∀ (s : Shared) (u : Value), BindsTo s fd ⟨[u], []⟩ [(x, u)])
    (hsp : ∀ H : Hp, Only H → SqL K H a (ns.map V.int) → sp [.ref a] H (fun v _ => v = .bl true) fun _ _ _ => False)
    (hCX : ∀ H e s', CX [] H s₁ (fun _ _ _ => False) e s' → False) :
    codeAny (model P w) callerA (.call (.ref fa) ⟨[.ref a], []⟩) (fun r s' => r = .ok (.ret (.bool true)) ∧ OldK s₁.heap s'.heap ∧ s'.os = s₁.os ∧ AllBare s'.gens) s₁ := by
  -- whatever is tracked at the entry is the script alone
  have main : ∀ T : Hp, Only T → SqL K T a (ns.map V.int) → HOk P w T s₁.heap → (∀ b, T b ≠ none → b = a ∧ K.lookup a = none) →
      codeAny (model P w) callerA (.call (.ref fa) ⟨[.ref a], []⟩) (fun r s' => r = .ok (.ret (.bool true)) ∧ OldK s₁.heap s'.heap ∧ s'.os = s₁.os ∧ AllBare s'.gens) s₁ := by
    intro T only sq hok alone
    have B : ∀ {b : Addr} {o : Obj}, s₁.heap.get? b = some o → T b = none → (hidT s₁.heap T).get? b = some o := fun e n => hidT_get e n
    have notD : ∀ {b : Addr} {o : Obj} {es : Array DictEntry} {n : Nat}, s₁.heap.get? b = some o → o.data = .dict es n → T b = none := by
      intro b o es n e d
      by_cases q : T b = none
      · exact q
      · have z := (alone b q).1
        subst z
        rw [ha] at e
        cases e
        cases (show Data.seq vs.toArray _ = Data.dict es n from d)
    have nsB : ∀ {b : Addr} {m : Str → Option Value}, s₁.heap.Ns b m → (hidT s₁.heap T).Ns b m :=
      fun ⟨o, es, n, e, d, r⟩ => ⟨o, es, n, B e (notD e d), d, r⟩
    have inB : K.In (hidT s₁.heap T) := by
      intro b o e
      refine B (KX b o e) ?_
      by_cases q : T b = none
      · exact q
      · obtain ⟨z1, z2⟩ := alone b q
        subst z1
        rw [z2] at e
        cases e
    have modB : Mod K mg (hidT s₁.heap T) := by
      obtain ⟨mc, l1, l2⟩ := hlim
      exact ⟨inB, nsB hns, ⟨mb, nsB hb, hbb⟩, mc, nsB l1, l2⟩
    have e0 : Env0 P w K mg (hidT s₁.heap T) callerA [] s₁ T := by
      refine ⟨rfl, modB, fun b o z => of_hidT z, Nat.le_of_eq (hidT_size _ _), trivial, ?_, hok, .of_eq hg⟩
      intro b z
      exact absurd (show b ∈ ([] : List Addr) from z) (by simp)
    have run := (F _ inB (nsB hns)).go callerA [] s₁ T ⟨[.ref a], []⟩ [.ref a] [.ref a] _ _ hr rfl e0 (hbind s₁ (.ref a)) (.cons rfl .nil) (hsp T only sq)
    refine codeAny_mono run ?_
    intro r s' z
    match r, z with
    | .error e, z => exact (hCX T e s' z).elim
    | .ok .next, z => exact False.elim z
    | .ok .brk, z => exact False.elim z
    | .ok .cont, z => exact False.elim z
    | .ok (.ret u), ⟨v, T', os, bare, un, hok', rel, q⟩ =>
      cases (show v = .bl true from q)
      cases (show u = Value.bool true from rel)
      refine ⟨rfl, OldK.of_keep ?_, os, bare⟩
      intro b o e
      cases q : T b with
      | none =>
        refine un.keep b o e q ?_ (by simp)
        intro z
        exact absurd (show b ∈ ([] : List Addr) from z) (by simp)
      | some u =>
        rcases only b with z | ⟨ob, ys, z⟩
        · rw [q] at z
          cases z
        · obtain ⟨e1, _⟩ := hok b _ z
          obtain ⟨e2, _⟩ := hok' b _ (un.frzs b ob _ z)
          rw [e] at e1
          cases e1
          exact e2
  cases hk : K.lookup a with
  | some o =>
    have e := KX a o hk
    rw [ha] at e
    cases e
    refine main (fun _ => none) (fun _ => .inl rfl) ?_ (fun b u z => nomatch (show (none : Option HO) = some u from z)) (fun b z => absurd rfl z)
    exact .inr ⟨_, vs.toArray, _, hk, rfl, rfl, rfl, by rw [List.size_toArray, hi.length]; exact hl, by simpa using vals_ints hi⟩
  | none =>
    obtain ⟨T, yes, no⟩ : ∃ T : Hp, (∀ b : Addr, b = a → T b = some (.frz { cls := .type "list", data := .seq vs.toArray } (.lst (ns.map V.int)))) ∧ (∀ b : Addr, b ≠ a → T b = none) :=
      ⟨fun c => if c = a then some (.frz { cls := .type "list", data := .seq vs.toArray } (.lst (ns.map V.int))) else none, fun b h => if_pos h, fun b h => if_neg h⟩
    refine main T ?_ (.inl (.inr ⟨_, yes a rfl⟩)) ?_ ?_
    · intro b
      by_cases h : b = a
      · exact .inr ⟨_, _, yes b h⟩
      · exact .inl (no b h)
    · intro b u z
      by_cases h : b = a
      · have z' := (yes b h).symm.trans z
        cases z'
        subst h
        exact ⟨ha, by rw [List.length_map]; exact hl, vs, _, vals_ints hi, ha⟩
      · have z' := (no b h).symm.trans z
        cases z'
    · intro b z
      by_cases h : b = a
      · exact ⟨h, hk⟩
      · exact absurd (no b h) z
theorem walkG {l : PySem.W.OpenLaw} {n k : Nat} {q : Program} {loose : List Str} {XP : (Str → Option Value) → Heap → Prop} {YP : World → Heap → Prop} {d : DefRec} {CX : CXT} {x : Str}
    (hn : l.most = some n) (hn2 : n ≤ sizeLine) (hdf : d.params.defaults = []) (hr : Room k callerA)
    (F : ∀ (w : World) (mg : Str → Option Value) (fa : Addr) (h : Heap), YP w h → h.Ns mainGlobals mg → mg d.name = some (.ref fa) →
      ∃ (K : PySem.W.Frag) (fd : FuncData) (sp : Sp), K.In h ∧ (∀ (s : Shared) (u : Value), BindsTo s fd ⟨[u], []⟩ [(x, u)]) ∧
        (∀ (H : Hp) (a : Addr) (ns : List Int), ns.length ≤ n → Only H → SqL K H a (ns.map V.int) → sp [.ref a] H (fun v _ => v = .bl true) fun _ _ _ => False) ∧
        ∀ base : Heap, K.In base → base.Ns mainGlobals mg → FnG l.prog w K mg base CX k fa fd [x] sp)
    (hCX : ∀ (H : Hp) (s : Shared) (e : Value) (s' : Shared), CX [] H s (fun _ _ _ => False) e s' → False) :
    PySem.W.WalkO q loose XP YP l.row.toRowW d [] (fun f vs => PySem.call f vs) := by
  apply Att.attach_call hn hdf
  intro w s₀ s₁ mg mb fa o pm cd doc a vs ns G Y ho hd hcd hmg hobj hints hlen hg
  obtain ⟨K, fd, sp, KX, bnd, say, prom⟩ := F w mg fa _ Y G.T.g hmg
  exact callG KX G.T.g G.T.b G.T.builtins G.T.nolimit hg hobj hints (Nat.le_trans hlen hn2) hr prom bnd (fun H hO hS => say H a ns hlen hO hS) (fun H e s' => hCX H s₁ e s')
end SB
namespace SB
open PySem PySem.Spec PyProof.Rows L2
/-! a def of the text, where it stands; what a caller has of it -/
def GInt (mg : Str → Option Value) (x : Str) (i : Int) : Prop := ∃ t, mg x = some (.int i t)
def Df (K : PySem.W.Frag) (mg : Str → Option Value) (x : Str) (st : Stmt) : Prop :=
  mg x = some (.ref (He.ga K x)) ∧ ∃ fd, FunD K x x (defArgs st) (defBody st) (defScope st) [] [] (He.fAd K (x, none)) fd
theorem pe_gi {X : Cx} {x : Str} {i : Int} {pos : Pos} (h : GInt X.mg x i) (hg : Gl X x := by rfl) (hdb : (x == ("__debug__" : Str)) = false := by decide) : PE X (.Name x pos) (tC (.int i)) := by
  obtain ⟨t, e⟩ := h
  exact pe_glob hg e ⟨_, rfl⟩ hdb
structure Cal (P : Program) (w : World) (K : PySem.W.Frag) (mg : Str → Option Value) (base : Heap) (CX : CXT) (k : Nat) (x : Str) (ps : List Str) (sp : Sp) : Prop where
  ex : ∃ f fd, mg x = some (.ref f) ∧ PySem.W.keepIn K (.ref f) = true ∧ Binds K fd ps [] ∧ FnOk P w K mg base CX k f fd ps sp
structure CalG (P : Program) (w : World) (K : PySem.W.Frag) (mg : Str → Option Value) (base : Heap) (CX : CXT) (k : Nat) (x : Str) (ps : List Str) (sp : Sp) : Prop where
  ex : ∃ f fd, mg x = some (.ref f) ∧ PySem.W.keepIn K (.ref f) = true ∧ Binds K fd ps [] ∧ FnG P w K mg base CX k f fd ps sp
/-- called by keywords alone -/
structure CalK (P : Program) (w : World) (K : PySem.W.Frag) (mg : Str → Option Value) (base : Heap) (CX : CXT) (k : Nat) (x : Str) (ks ps : List Str) (gV : List V → List V → List V) (sp : Sp) : Prop where
  ex : ∃ f fd g, mg x = some (.ref f) ∧ PySem.W.keepIn K (.ref f) = true ∧ KBinds K fd ps ks g gV ∧ FnOk P w K mg base CX k f fd ps sp
section
variable {X : Cx} {CX : CXT} {k j : Nat} {ps ks : List Str} {sp : Sp} {E : XK} {x : Str} {p pos : Pos} {e : Expr} {es : List Expr} {kws : List Keyword} {t tk : TA} {gV : List V → List V → List V}
theorem pe_cal (F : Cal X.prog X.w X.K X.mg X.base CX k x ps sp) (hr : Room k X.A) (hx : Passes CX X E) (ha : PA X (e :: es) t) (hg : Gl X x := by rfl) (hdb : (x == ("__debug__" : Str)) = false := by decide)
    (he : starEach (e :: es) X.env = (false, eval e X.env) :: starEach es X.env := by rfl) (hpl : (backTo pos (starEach es X.env)).any (·.1) = false := by rfl) :
    PE X (.Call (.Name x p) (e :: es) [] pos) (tCall sp [] E t) := by
  obtain ⟨f, fd, e1, e2, e3, e4⟩ := F.ex
  exact pe_call e4 hr hg e1 e2 e3 .nil hx ha hdb he hpl
theorem pe_cal0 (F : Cal X.prog X.w X.K X.mg X.base CX k x ps sp) (hr : Room k X.A) (hx : Passes CX X E) (hg : Gl X x := by rfl) (hdb : (x == ("__debug__" : Str)) = false := by decide) :
    PE X (.Call (.Name x p) [] [] pos) (tCall sp [] E tNil) := by
  obtain ⟨f, fd, e1, e2, e3, e4⟩ := F.ex
  exact pe_call0 e4 hr hg e1 e2 e3 .nil hx hdb
theorem pe_calG (F : CalG X.prog X.w X.K X.mg X.base CX k x ps sp) (hr : Room k X.A) (gd : X.A.guards = some []) (hx : Passes CX X E) (ha : PA X (e :: es) t) (hg : Gl X x := by rfl) (hdb : (x == ("__debug__" : Str)) = false := by decide)
    (he : starEach (e :: es) X.env = (false, eval e X.env) :: starEach es X.env := by rfl) (hpl : (backTo pos (starEach es X.env)).any (·.1) = false := by rfl) :
    PE X (.Call (.Name x p) (e :: es) [] pos) (tCall sp [] E t) := by
  obtain ⟨f, fd, e1, e2, e3, e4⟩ := F.ex
  exact pe_callG e4 hr gd hg e1 e2 e3 .nil hx ha hdb he hpl
theorem pe_calK (F : CalK X.prog X.w X.K X.mg X.base CX k x ks ps gV sp) (hr : Room k X.A) (hx : Passes CX X E) (hkw : PK X kws tk) (hg : Gl X x := by rfl)
    (hall : (backToKw pos (keywordEach kws X.env)).all (·.1.isSome) = true := by rfl) (hks : (backToKw pos (keywordEach kws X.env)).filterMap (·.1) = ks := by rfl)
    (hdb : (x == ("__debug__" : Str)) = false := by decide)
    (hpl : ((backTo pos (starEach [] X.env)).any (·.1) || (backToKw pos (keywordEach kws X.env)).any (·.1.isNone)) = false := by rfl) :
    PE X (.Call (.Name x p) [] kws pos) (tCallK sp gV E tNil tk) := by
  obtain ⟨f, fd, g, e1, e2, e3, e4⟩ := F.ex
  constructor
  intro pins s σ H Q I h
  refine wpAny_Call_Name_kw (ld_glob I hg e1 ?_ hdb)
  refine PySem.W.callWith_KW0 (h₀ := X.base) I.ok.mod.kin e2 hall (thn (hkw.run pos pins s σ H _ I h) ?_) hpl
  intro ws s2 ⟨zs, H2, I2, rz, q2⟩
  refine ⟨I2.kIn, ?_⟩
  rw [hks]
  exact run_fnk (us := []) (vs := []) e4 hr e3 hx I2 .nil rz q2
end
section
variable {P : Program} {w : World} {K : PySem.W.Frag} {mg : Str → Option Value} {base : Heap}
theorem Df.cal {CX : CXT} {k : Nat} {x : Str} {st : Stmt} {N ps : List Str} {sp : Sp} (D : Df K mg x st) (S : FnScope N ps (defScope st)) (len : ∀ vs H Q E, sp vs H Q E → vs.length = ps.length)
    (hb : ∀ (kV doc pm : Value) (an : Option Addr) (cdv ct : Value) (us : List Value), us.length = ps.length → bindArgs (PySem.W.fnOf x x (defArgs st) (defBody st) (defScope st) .none kV doc pm an cdv ct) ⟨us, []⟩ = pure (ps.zip us))
    (body : ∀ (f : Addr) (cdv : Value) (A : Around) (outer : List Env) (s : Shared) (H : Hp) (vs : List V) (Q : VK) (E : XK), Room k (A.deeper (envOfC x (defScope st) s.heap.objs.size f cdv)) → sp vs H Q E →
      ∃ t, PSs (cxOf CX P w K mg base N x (defScope st) f cdv A outer s H E).nox (defBody st) t ∧ t { nx := fun _ H' => Q .non H', rt := Q } (start N vs) H) :
    Cal P w K mg base CX (k + 1) x ps sp := by
  obtain ⟨e, fd, F⟩ := D
  exact ⟨_, fd, e, F.kp, FunD.bindsN F hb, FunD.ok F S len (fun cdv A outer s H vs Q E hr h => let ⟨t, a, b⟩ := body _ cdv A outer s H vs Q E hr h; ⟨t, a.nox, b⟩)⟩
theorem Df.calG {CX : CXT} {k : Nat} {x : Str} {st : Stmt} {N ps : List Str} {sp : Sp} (D : Df K mg x st) (S : FnScope N ps (defScope st)) (len : ∀ vs H Q E, sp vs H Q E → vs.length = ps.length)
    (hb : ∀ (kV doc pm : Value) (an : Option Addr) (cdv ct : Value) (us : List Value), us.length = ps.length → bindArgs (PySem.W.fnOf x x (defArgs st) (defBody st) (defScope st) .none kV doc pm an cdv ct) ⟨us, []⟩ = pure (ps.zip us))
    (body : ∀ (f : Addr) (cdv : Value) (A : Around) (outer : List Env) (s : Shared) (H : Hp) (vs : List V) (Q : VK) (E : XK), Room k (A.deeper (envOfC x (defScope st) s.heap.objs.size f cdv)) → A.guards = some [] → sp vs H Q E →
      ∃ t, PSs (cxOf CX P w K mg base N x (defScope st) f cdv A outer s H E).nox (defBody st) t ∧ t { nx := fun _ H' => Q .non H', rt := Q } (start N vs) H) :
    CalG P w K mg base CX (k + 1) x ps sp := by
  obtain ⟨e, fd, F⟩ := D
  exact ⟨_, fd, e, F.kp, FunD.bindsN F hb, FnG.body F S len (fun cdv A outer s H vs Q E hr g h => let ⟨t, a, b⟩ := body _ cdv A outer s H vs Q E hr g h; ⟨t, a.nox, b⟩)⟩
/-- a def with the promise that its positional callers have, called by keywords -/
theorem Df.calK {CX : CXT} {k : Nat} {x : Str} {st : Stmt} {N ks ps : List Str} {sp : Sp} {gV : List V → List V → List V} (D : Df K mg x st)
    (g : List Value → List Value → List Value)
    (hb : ∀ (kV doc pm : Value) (an : Option Addr) (cdv ct : Value) (us ws : List Value), (g us ws).length = ps.length → bindArgs (PySem.W.fnOf x x (defArgs st) (defBody st) (defScope st) .none kV doc pm an cdv ct) ⟨us, ks.zip ws⟩ = pure (ps.zip (g us ws)))
    (rel : ∀ {vs : List V} {us : List Value} {zs : List V} {ws : List Value}, Vals vs us → Vals zs ws → Vals (gV vs zs) (g us ws))
    (S : FnScope N ps (defScope st)) (len : ∀ vs H Q E, sp vs H Q E → vs.length = ps.length)
    (body : ∀ (f : Addr) (cdv : Value) (A : Around) (outer : List Env) (s : Shared) (H : Hp) (vs : List V) (Q : VK) (E : XK), Room k (A.deeper (envOfC x (defScope st) s.heap.objs.size f cdv)) → sp vs H Q E →
      ∃ t, PSs (cxOf CX P w K mg base N x (defScope st) f cdv A outer s H E).nox (defBody st) t ∧ t { nx := fun _ H' => Q .non H', rt := Q } (start N vs) H) :
    CalK P w K mg base CX (k + 1) x ks ps gV sp := by
  obtain ⟨e, fd, F⟩ := D
  have F2 := F
  obtain ⟨oc, od, dV, kV, doc, pm, an, cdv, ct, osl, rfl, lk, hcd, hD, hK⟩ := F2.ex
  refine ⟨_, _, g, e, F.kp, ⟨fun s us ws _ l => ?_, rel⟩, FunD.ok F S len (fun cdv A outer s H vs Q E hr h => let ⟨t, a, b⟩ := body _ cdv A outer s H vs Q E hr h; ⟨t, a.nox, b⟩)⟩
  rcases hD with ⟨_, rfl⟩ | ⟨z, _⟩
  · exact .of_eq (hb kV doc pm an cdv ct us ws l)
  · exact absurd rfl z
end
/-! values by their types -/
inductive TyN (K : PySem.W.Frag) (H : Hp) : V → String → Prop where
  | non : TyN K H .non "NoneType"
  | bl (b : Bool) : TyN K H (.bl b) "bool"
  | int (i : Int) : TyN K H (.int i) "int"
  | str (x : Str) : TyN K H (.str x) "str"
  | lst {a : Addr} {xs : List V} (h : SqL K H a xs) : TyN K H (.ref a) "list"
  | tup {a : Addr} {xs : List V} (h : SqT K H a xs) : TyN K H (.ref a) "tuple"
  | dct {a : Addr} {kvs : List (Key × V)} (h : H a = some (.dK kvs)) : TyN K H (.ref a) "dict"
theorem TyN.x {K : PySem.W.Frag} {H : Hp} {v : V} {n : String} (h : TyN K H v n) : TyX K H v (.type n) := by
  cases h with
  | non => exact .base .non
  | bl b => exact .base (.bl b)
  | int i => exact .base (.int i)
  | str x => exact .base (.str x)
  | lst h =>
    rcases h with (h | ⟨o, h⟩) | ⟨o, its, n, h, c, _⟩
    · exact .base (.lst h)
    · exact .base (.frz h)
    · exact .kList h c
  | tup h =>
    rcases h with (h | ⟨o, h⟩) | ⟨o, its, n, h, c, _⟩
    · exact .base (.tup h)
    · exact .fTuple h
    · exact .kTuple h c
  | dct h => exact .base (.dK h)
theorem TyN.kit {K : PySem.W.Frag} {H : Hp} {v : V} {n m : String} (h : TyN K H v n) (hm : m = "int" ∨ m = "bool" ∨ m = "str" ∨ m = "list" ∨ m = "tuple") :
    PySem.W.kitOne K (.type n) (.type m) = some (decide (n = m ∨ n = "bool" ∧ m = "int")) := by
  cases h <;> (rcases hm with rfl | rfl | rfl | rfl | rfl) <;> exact kit_ty (by decide +kernel)
theorem same_upd {H : Hp} {p : Addr} {o : HO} (h : H p = none) : Same H (upd H p o) := fun b x e => by
  rw [upd_ne (ne_of_none e h)]
  exact e
end SB
namespace SB
open PySem PySem.Spec PyProof.Rows L2 Evl
/-! shapes, frames: the mathematics -/
inductive Pa where
  | no | ev | od
def Pa.s : Pa → Str
  | .no => "none"
  | .ev => "even"
  | .od => "odd"
def bits (b : Nat) (x : Int) : List Int := (List.range b).map fun i => x / 2 ^ i % 2
def parL (b : Nat) (p : Pa) (x : Int) : List Int := match p with
  | .no => []
  | .ev => [(bits b x).sum % 2]
  | .od => [1 - (bits b x).sum % 2]
def frm (b : Nat) (p : Pa) (s : Nat) (x : Int) : List Int := 0 :: (bits b x ++ (parL b p x ++ List.replicate s 1))
def frms (b : Nat) (p : Pa) (s : Nat) (ns : List Int) : List Int := (ns.map (frm b p s)).flatten
theorem bits_len (b : Nat) (x : Int) : (bits b x).length = b := by simp [bits]
theorem bits_succ (b : Nat) (x : Int) : bits (b + 1) x = bits b x ++ [x / 2 ^ b % 2] := by
  simp [bits, List.range_succ]
theorem parL_len (b : Nat) (p : Pa) (x : Int) : (parL b p x).length ≤ 1 := by cases p <;> simp [parL]
theorem frm_len (b : Nat) (p : Pa) (s : Nat) (x : Int) : (frm b p s x).length = 1 + b + (parL b p x).length + s := by
  simp [frm, bits_len]; omega
theorem frm_le (b : Nat) (p : Pa) (s : Nat) (x : Int) : (frm b p s x).length ≤ 2 + b + s := by
  have := frm_len b p s x
  have := parL_len b p x
  omega
theorem bits_01 {b : Nat} {x y : Int} (h : y ∈ bits b x) : y = 0 ∨ y = 1 := by
  unfold bits at h
  obtain ⟨i, _, rfl⟩ := List.mem_map.mp h
  omega
theorem frm_01 {b : Nat} {p : Pa} {s : Nat} {x y : Int} (h : y ∈ frm b p s x) : y = 0 ∨ y = 1 := by
  unfold frm at h
  rcases List.mem_cons.mp h with h | h
  · exact .inl h
  rcases List.mem_append.mp h with h | h
  · exact bits_01 h
  rcases List.mem_append.mp h with h | h
  · cases p with
    | no => cases h
    | ev =>
      have := List.mem_singleton.mp h
      omega
    | od =>
      have := List.mem_singleton.mp h
      omega
  · exact .inr (List.eq_of_mem_replicate h)
theorem frms_01 {b : Nat} {p : Pa} {s : Nat} {ns : List Int} {y : Int} (h : y ∈ frms b p s ns) : y = 0 ∨ y = 1 := by
  unfold frms at h
  obtain ⟨l, hl, hy⟩ := List.mem_flatten.mp h
  obtain ⟨x, _, rfl⟩ := List.mem_map.mp hl
  exact frm_01 hy
theorem frms_snoc (b : Nat) (p : Pa) (s : Nat) (ns : List Int) (n : Int) : frms b p s (ns ++ [n]) = frms b p s ns ++ frm b p s n := by simp [frms]
theorem frms_le (b : Nat) (p : Pa) (s : Nat) : ∀ ns : List Int, (frms b p s ns).length ≤ ns.length * (2 + b + s)
  | [] => by simp [frms]
  | n :: ns => by
    have h := frms_le b p s ns
    have h2 := frm_le b p s n
    have e : frms b p s (n :: ns) = frm b p s n ++ frms b p s ns := by simp [frms]
    rw [e, List.length_append, List.length_cons, Nat.add_mul]
    omega
theorem div_step (x : Int) (i : Nat) : x / 2 ^ i / 2 = x / 2 ^ (i + 1) := by
  rw [Int.pow_succ, Int.ediv_ediv_of_nonneg (Int.pow_nonneg (by decide))]
/-! data -/
def dI (ns : List Int) : List PyData := ns.map PyData.int
theorem dp_ints {K : PySem.W.Frag} {H : Hp} : ∀ ns : List Int, DpAll K H (ns.map V.int) (dI ns)
  | [] => .nil
  | n :: ns => .cons (.int n) (dp_ints ns)
theorem int_log {i : Int} {k : Nat} (hk : 0 < k) (h : i.natAbs < 2 ^ k) : i.natAbs.log2 < k := PySem.Flt.log2_lt_of hk h
/-- a list of small ints can be shown -/
theorem show_ints (ns : List Int) (h : ∀ n ∈ ns, n.natAbs < 2 ^ 200) : PyData.showableAll (dI ns) = true ∧ PyData.hasDictAll (dI ns) = false ∧ PyData.depthAll (dI ns) = 0 ∧
    ((PyData.shownAll (dI ns)).map (·.length)).sum ≤ 201 * ns.length ∧ (PyData.shownAll (dI ns)).length = ns.length := by
  induction ns with
  | nil => simp [dI, PyData.showableAll, PyData.hasDictAll, PyData.depthAll, PyData.shownAll]
  | cons n ns ih =>
    obtain ⟨h1, h2, h3, h4, h5⟩ := ih fun m hm => h m (List.mem_cons_of_mem _ hm)
    have hn := h n (List.mem_cons_self ..)
    have hl : n.natAbs.log2 < 200 := int_log (by decide) hn
    have ht : (Str.ofString (toString n)).length ≤ 201 := by
      rw [PySem.ofString_length]
      exact int_text_length_le (k := 200) (by decide) hl
    have e : dI (n :: ns) = PyData.int n :: dI ns := rfl
    rw [e]
    refine ⟨?_, ?_, ?_, ?_, ?_⟩
    · simp only [PyData.showableAll, PyData.showable, h1, Bool.and_true, decide_eq_true_eq]
      omega
    · simp only [PyData.hasDictAll, PyData.hasDict, h2, Bool.false_or]
    · simp only [PyData.depthAll, PyData.depth, h3]
      rfl
    · simp only [PyData.shownAll, PyData.shown, List.map_cons, List.sum_cons, List.length_cons]
      omega
    · simp only [PyData.shownAll, List.length_cons, h5]
theorem show_list {ns : List Int} (h : ∀ n ∈ ns, n.natAbs < 2 ^ 200) (hl : ns.length ≤ 10000) :
    (PyData.list (dI ns)).showable = true ∧ (PyData.list (dI ns)).hasDict = false ∧ (PyData.list (dI ns)).depth ≤ 60 ∧ (PyData.list (dI ns)).shown.length ≤ sizeLine := by
  obtain ⟨h1, h2, h3, h4, h5⟩ := show_ints ns h
  refine ⟨?_, ?_, ?_, ?_⟩
  · simp only [PyData.showable, h1]
  · simp only [PyData.hasDict, h2]
  · simp only [PyData.depth, h3]
    omega
  · simp only [PyData.shown]
    have := listText_len_le (PyData.shownAll (dI ns))
    rw [sizeLine_eq]
    omega
/-- the reading of repr(xs), xs a list of ints -/
theorem rp_list {K : PySem.W.Frag} {H : Hp} {a : Addr} {ns : List Int} {Q : VK} (hs : SqL K H a (ns.map V.int)) (h : ∀ n ∈ ns, n.natAbs < 2 ^ 200) (hl : ns.length ≤ 10000)
    (q : Q (.str (PyData.list (dI ns)).shown) H) : rRp K [.ref a] H Q := by
  obtain ⟨h1, h2, h3, h4⟩ := show_list h hl
  exact ⟨_, _, rfl, .lst hs (dp_ints ns), h1, h2, h3, h4, q⟩
/-! heaps -/
def Kp (a : Addr) (H H' : Hp) : Prop := ∀ b o, b ≠ a → H b = some o → H' b = some o
theorem Ex.kp {a : Addr} {H H' : Hp} (e : Ex H H') : Kp a H H' := fun b o _ h => e b o h
theorem Kp.trans {a : Addr} {H H1 H2 : Hp} (x : Kp a H H1) (y : Kp a H1 H2) : Kp a H H2 := fun b o n h => y b o n (x b o n h)
theorem Kp.refl {a : Addr} {H : Hp} : Kp a H H := fun _ _ _ h => h
theorem Kp.upd {a : Addr} {H : Hp} {o : HO} : Kp a H (upd H a o) := fun b u n h => by
  rw [upd_ne n]
  exact h
theorem Kp.tup {K : PySem.W.Frag} {a t : Addr} {H H' : Hp} {xs ys : List V} (k : Kp a H H') (ha : H a = some (.lst ys)) (h : SqT K H t xs) : SqT K H' t xs := by
  rcases h with (h | ⟨o, h⟩) | h
  · exact .inl (.inl (k t _ (fun e => by rw [e, ha] at h; cases h) h))
  · exact .inl (.inr ⟨o, k t _ (fun e => by rw [e, ha] at h; cases h) h⟩)
  · exact .inr h
theorem Kp.free {a p : Addr} {H H' : Hp} (k : Kp a H H') (hp : H' p = none) (ha : p ≠ a) : H p = none := by
  cases h : H p with
  | none => rfl
  | some o =>
    rw [k p o ha h] at hp
    cases hp
/-! shapes as values -/
def IsSh (K : PySem.W.Frag) (H : Hp) (v : V) (b : Nat) (p : Pa) (s : Nat) : Prop :=
  ∃ t, v = .ref t ∧ SqT K H t [.int b, .str p.s, .int s] ∧ 1 ≤ b ∧ b ≤ 9 ∧ 1 ≤ s ∧ s ≤ 2
theorem IsSh.ex {K : PySem.W.Frag} {H H' : Hp} {v : V} {b : Nat} {p : Pa} {s : Nat} (e : Ex H H') (h : IsSh K H v b p s) : IsSh K H' v b p s := by
  obtain ⟨t, e1, e2, r⟩ := h
  exact ⟨t, e1, ex_t e e2, r⟩
theorem IsSh.kp {K : PySem.W.Frag} {H H' : Hp} {v : V} {b : Nat} {p : Pa} {s : Nat} {a : Addr} {ys : List V} (e : Kp a H H') (ha : H a = some (.lst ys)) (h : IsSh K H v b p s) : IsSh K H' v b p s := by
  obtain ⟨t, e1, e2, r⟩ := h
  exact ⟨t, e1, e.tup ha e2, r⟩
theorem no_is (p : Pa) : decide (V.str p.s = V.str "none") = match p with | .no => true | _ => false := by cases p <;> decide +kernel
theorem ev_is' (p : Pa) : decide (V.str p.s = V.str "even") = match p with | .ev => true | _ => false := by cases p <;> decide +kernel
theorem od_is (p : Pa) : decide (V.str p.s = V.str "odd") = match p with | .od => true | _ => false := by cases p <;> decide +kernel
theorem pa_in (p : Pa) : inV (.str p.s) [.str "none", .str "even", .str "odd"] = true := by cases p <;> decide +kernel
theorem atI_i {xs : List V} {v : V} (i : Int) (j : Nat) (e : i = (j : Int)) (h : xs[j]? = some v) : atI xs i = some v := by
  rw [e]
  exact atI_nat h
/-! isinstance of the kinds -/
section
variable {K : PySem.W.Frag}
theorem ki {n m : String} {b : Bool} (h : kitB n m = some b := by decide +kernel) : PySem.W.kitOne K (.type n) (.type m) = some b := kit_ty h
end
/-! a draw's source -/
def Src (H : Hp) (a : Addr) (n : Nat) : Prop := ∃ l sd c : Int, H a = some (.lst [.int l, .int sd, .int c]) ∧ 0 ≤ sd ∧ sd < 4611686018427387904 ∧ 0 ≤ c ∧ c ≤ n
theorem Src.mono {H : Hp} {a : Addr} {n m : Nat} (h : Src H a n) (e : n ≤ m) : Src H a m := by
  obtain ⟨l, sd, c, h1, h2, h3, h4, h5⟩ := h
  exact ⟨l, sd, c, h1, h2, h3, h4, by omega⟩
theorem Src.ex {H H' : Hp} {a : Addr} {n : Nat} (h : Src H a n) (e : Ex H H') : Src H' a n := by
  obtain ⟨l, sd, c, h1, h2⟩ := h
  exact ⟨l, sd, c, e _ _ h1, h2⟩
theorem cpow3 {i : Int} (h0 : 0 ≤ i) (h : i < 2 ^ 250) : CPowB i 3 := by
  have h1 : i.natAbs < 2 ^ 250 := by
    have e : (2 : Int) ^ 250 = ((2 ^ 250 : Nat) : Int) := by norm_cast
    omega
  have h2 := int_log (by decide) h1
  exact ⟨by decide, by omega⟩
theorem cpow10 (k : Int) (h0 : 0 ≤ k) (h : k ≤ 1000) : CPowB 10 k := by
  refine ⟨h0, ?_⟩
  have e : ((10 : Int).natAbs.log2 : Int) + 1 = 4 := by decide
  rw [e]
  omega
end SB
namespace SB
open PySem PySem.Spec PyProof.Rows L2 Evl
/-! lists that are made of lists -/
def EvX (te : TE) (σ : L2.St) (H : Hp) (xs : List V) : Prop := ∀ H1, Ex H H1 → ∀ Q : VK, (∀ p H2, Ex H1 H2 → H2 p = some (.lst xs) → Q (.ref p) H2) → te σ H1 Q
section
variable {σ : L2.St} {H : Hp} {ta tb te : TE} {xs ys : List V} {K : PySem.W.Frag}
theorem evx_var {i : Nat} {a : Addr} (h : σ[i]? = some (some (.ref a))) (ha : H a = some (.lst xs)) : EvX (tVar i) σ H xs := fun H1 e Q q => ⟨_, h, q a H1 (Ex.refl H1) (e a _ ha)⟩
theorem evx_new (h : EvL te σ H xs) : EvX te σ H xs := fun H1 e Q q => h H1 e Q fun p H2 _ e2 h2 => q p H2 e2 h2
theorem el_cat (ha : EvX ta σ H xs) (hb : EvX tb σ H ys) (hl : xs.length + ys.length ≤ 100000) : EvL (tOp rCat ta tb) σ H (xs ++ ys) := fun H1 e Q q =>
  ha H1 e _ fun p H2 e2 h2 => hb H2 (e.trans e2) _ fun r H3 e3 h3 => ⟨p, r, xs, ys, rfl, rfl, e3 _ _ h2, h3, sz_of hl, fun l nl =>
    q l _ (fresh_back (e2.trans e3) nl) ((e2.trans e3).trans (Ex.new nl)) upd_same⟩
theorem el_rep {k : Int} (ha : EvX ta σ H xs) (hb : Ev tb σ H (.int k)) (h0 : -(2 ^ 63) ≤ k) (h1 : k < 2 ^ 63) (hl : xs.length * k.toNat ≤ 100000) : EvL (tOp rRep ta tb) σ H (List.replicate k.toNat xs).flatten := fun H1 e Q q =>
  ha H1 e _ fun p H2 e2 h2 => hb H2 (e.trans e2) _ fun H3 e3 => ⟨p, k, xs, rfl, rfl, e3 _ _ h2, h0, h1, sz_of hl, fun l nl =>
    q l _ (fresh_back (e2.trans e3) nl) ((e2.trans e3).trans (Ex.new nl)) upd_same⟩
theorem el_call {sp : Sp} {E : XK} {t : TA} {vs : List V} (ha : EvA t σ H vs) (h : ∀ H1, Ex H H1 → ∀ Q : VK, RetL xs H1 Q → sp (vs ++ []) H1 Q E) : EvL (tCall sp [] E t) σ H xs := fun H1 e Q q =>
  ha H1 e _ fun H2 e2 => h H2 (e.trans e2) Q fun p H3 n e3 h3 => q p H3 (fresh_back e2 n) (e2.trans e3) h3
theorem ev_call {sp : Sp} {E : XK} {t : TA} {vs : List V} {v : V} (ha : EvA t σ H vs) (h : ∀ H1, Ex H H1 → ∀ Q : VK, RetV v H1 Q → sp (vs ++ []) H1 Q E) : Ev (tCall sp [] E t) σ H v := fun H1 e Q q =>
  ha H1 e _ fun H2 e2 => h H2 (e.trans e2) Q fun H3 e3 => q H3 (e2.trans e3)
theorem ev_ixT {t : Addr} {i : Int} {v : V} (ha : Ev ta σ H (.ref t)) (hb : Ev tb σ H (.int i)) (h : SqT K H t xs) (hi : atI xs i = some v) : Ev (tOp (rIxT K) ta tb) σ H v := ev_op ha hb (rv_ixT h hi)
end
theorem rep_one (k : Nat) (i : Int) : (List.replicate (k : Int).toNat [V.int i]).flatten = (List.replicate k i).map V.int := by
  rw [Int.toNat_natCast, List.map_replicate]
  simp
theorem ints_at {ns : List Int} {i : Nat} {y : V} (hi : (ns.map V.int)[i]? = some y) : ∃ z, ns[i]? = some z ∧ y = V.int z := by
  rw [List.getElem?_map] at hi
  cases e : ns[i]? with
  | none =>
    rw [e] at hi
    cases hi
  | some z =>
    rw [e] at hi
    exact ⟨z, rfl, (Option.some.inj hi).symm⟩
theorem Kp.new {a : Addr} {H H1 H2 : Hp} (e : Ex H H1) (k : Kp a H1 H2) (h : H a = none) : Ex H H2 := fun b o hb =>
  k b o (ne_of_none hb h) (e b o hb)
theorem Src.at {H : Hp} {a : Addr} {n : Nat} (h : Src H a n) : ∃ ys, H a = some (.lst ys) := by
  obtain ⟨l, sd, c, e, _⟩ := h
  exact ⟨_, e⟩
theorem Src.ne {H : Hp} {a p : Addr} {n : Nat} (h : Src H a n) (hp : H p = none) : p ≠ a := by
  obtain ⟨ys, e⟩ := h.at
  exact fun z => by rw [z, e] at hp; cases hp
end SB
namespace SB
open PySem PySem.Spec PyProof.Rows L2 Evl
theorem seq_any {te : TE} {i : Nat} {u : TS} {D : L2.Ends} {σ : L2.St} {H : Hp} {P : V → Prop} (h : ∀ Q' : VK, (∀ v, P v → Q' v H) → te σ H Q') (k : ∀ v, P v → u D (σ.set i (some v)) H) :
    tSeq (tAsg te (gName i)) u D σ H := h _ k
end SB
namespace SB
open PySem PySem.Spec PyProof.Rows L2 Evl
theorem Kp.mut {a p : Addr} {H H' : Hp} {o : HO} (k : Kp a H H') (h : H p = none) : Kp a H (L2.upd H' p o) := fun b u n hb => by
  rw [upd_ne (ne_of_none hb h)]
  exact k b u n hb
theorem Src.upd {H : Hp} {a p : Addr} {n : Nat} {o : HO} (h : Src H a n) (ne : p ≠ a) : Src (L2.upd H p o) a n := by
  obtain ⟨l, sd, c, e, r⟩ := h
  refine ⟨l, sd, c, ?_, r⟩
  rw [upd_ne (Ne.symm ne)]
  exact e
end SB
namespace SB
open PySem PySem.Spec PyProof.Rows L2 Evl
/-- a loop over enumerate of a list -/
theorem for_enum {K : PySem.W.Frag} {a : Addr} {xs : List V} {g : TG} {tb : TS} {D : L2.Ends} {σ : L2.St} {H : Hp} (Pv : Nat → L2.St → Hp → Prop) (h0 : Pv 0 σ H)
    (hq : ∀ i σ H, i ≤ xs.length → Pv i σ H → SqL K H a xs)
    (hs : ∀ (i : Nat) (x : V) (T : Addr) (σ : L2.St) (H : Hp), xs[i]? = some x → Pv i σ H → H T = none →
      g (.ref T) σ (L2.upd H T (.tup [.int (i : Nat), x])) fun σ2 H2 => tb { D with nx := Pv (i + 1), ct := Pv (i + 1), bk := D.nx } σ2 H2)
    (hd : ∀ σ H, Pv xs.length σ H → D.nx σ H) :
    ∃ W : Nat → Nat → L2.St → Hp → Prop, (∃ m, W 0 m σ H) ∧ ∀ i m σ H, W i m σ H →
      ((Ite K a).stop i H ∧ D.nx σ H) ∨ ((Ite K a).go i H ∧ ∃ N : L2.St → Hp → Prop, (∀ σ' H', N σ' H' → ∃ m', m' < m ∧ W (i + 1) m' σ' H') ∧
        ∀ v H', (Ite K a).yld i H v H' → g v σ H' fun σ2 H2 => tb { D with nx := N, ct := N, bk := D.nx } σ2 H2) := by
  refine ⟨fun i m σ H => m + i = xs.length ∧ Pv i σ H, ⟨xs.length, by omega, h0⟩, ?_⟩
  rintro i m σ H ⟨e, pv⟩
  have sq := hq i σ H (by omega) pv
  by_cases lt : i < xs.length
  · have hx : xs[i]? = some xs[i] := List.getElem?_eq_getElem lt
    refine .inr ⟨⟨xs, xs[i], sq, hx⟩, Pv (i + 1), fun σ' H' p' => ⟨m - 1, by omega, by omega, p'⟩, ?_⟩
    intro v H' y
    obtain ⟨T, x, rfl, nT, rfl, fx⟩ := y
    exact hs i x T σ H (fx xs sq) pv nT
  · obtain rfl : i = xs.length := by omega
    exact .inl ⟨⟨xs, sq, Nat.le_refl _⟩, hd σ H pv⟩
/-! keyword calls: the values in the parameters' order -/
def gPm {α : Type} (perm : List Nat) (us ws : List α) : List α := if us.length = 0 ∧ ws.length = perm.length then perm.filterMap fun i => ws[i]? else []
theorem rel_pick {zs : List V} {ws : List Value} (r : Vals zs ws) : ∀ perm : List Nat, Vals (perm.filterMap fun i => zs[i]?) (perm.filterMap fun i => ws[i]?)
  | [] => .nil
  | i :: perm => by
    have ih := rel_pick r perm
    have hl := r.length
    rw [List.filterMap_cons, List.filterMap_cons]
    cases e : zs[i]? with
    | none =>
      have e2 : ws[i]? = none := by
        rw [List.getElem?_eq_none_iff] at e ⊢
        omega
      rw [e2]
      exact ih
    | some v =>
      obtain ⟨u, hu, rv⟩ := r.get e
      rw [hu]
      exact .cons rv ih
theorem rel_gPm (perm : List Nat) {vs : List V} {us : List Value} {zs : List V} {ws : List Value} (r : Vals vs us) (rz : Vals zs ws) : Vals (gPm perm vs zs) (gPm perm us ws) := by
  unfold gPm
  rw [r.length, rz.length]
  split
  · exact rel_pick rz perm
  · exact .nil
/-! where a line of levels changes: the level ahead of all is 1, the i-th level begins at T i -/
def pvl (ls : List Int) : Nat → Int
  | 0 => 1
  | i + 1 => ls.getD i 1
def ch (ls : List Int) (T : Nat → Int) : Nat → List Int
  | 0 => []
  | i + 1 => ch ls T i ++ (if ls.getD i 1 = pvl ls i then [] else [T i])
theorem ch_len (ls : List Int) (T : Nat → Int) : ∀ n, (ch ls T n).length ≤ n
  | 0 => Nat.le_refl _
  | n + 1 => by
    have := ch_len ls T n
    unfold ch
    rw [List.length_append]
    split
    · simp
      omega
    · simp
      omega
theorem ch_congr {ls : List Int} {T U : Nat → Int} : ∀ {n : Nat}, (∀ i, i < n → T i = U i) → ch ls T n = ch ls U n
  | 0, _ => rfl
  | n + 1, h => by
    unfold ch
    rw [ch_congr fun i hi => h i (by omega), h n (by omega)]
theorem ch_mem {ls : List Int} {T : Nat → Int} {y : Int} : ∀ {n : Nat}, y ∈ ch ls T n → ∃ i, i < n ∧ y = T i
  | 0, h => by cases h
  | n + 1, h => by
    unfold ch at h
    rcases List.mem_append.mp h with h | h
    · obtain ⟨i, hi, e⟩ := ch_mem h
      exact ⟨i, by omega, e⟩
    · split at h
      · cases h
      · exact ⟨n, by omega, List.mem_singleton.mp h⟩
/-- a line behind another one that ends at 1 -/
theorem ch_app {A B : List Int} {T : Nat → Int} (h1 : pvl A A.length = 1) : ∀ k, k ≤ B.length → ch (A ++ B) T (A.length + k) = ch A T A.length ++ ch B (fun i => T (A.length + i)) k
  | 0, _ => by
    have : ∀ n, n ≤ A.length → ch (A ++ B) T n = ch A T n := by
      intro n
      induction n with
      | zero => intro _; rfl
      | succ n ih =>
        intro hn
        unfold ch
        rw [ih (by omega)]
        have e1 : (A ++ B).getD n 1 = A.getD n 1 := by
          rw [List.getD_eq_getElem?_getD, List.getD_eq_getElem?_getD, List.getElem?_append_left (by omega)]
        have e2 : pvl (A ++ B) n = pvl A n := by
          cases n with
          | zero => rfl
          | succ m =>
            show (A ++ B).getD m 1 = A.getD m 1
            rw [List.getD_eq_getElem?_getD, List.getD_eq_getElem?_getD, List.getElem?_append_left (by omega)]
        rw [e1, e2]
    rw [Nat.add_zero, this A.length (Nat.le_refl _)]
    simp [ch]
  | k + 1, hk => by
    have ih := ch_app (A := A) (B := B) (T := T) h1 k (by omega)
    have e1 : (A ++ B).getD (A.length + k) 1 = B.getD k 1 := by
      rw [List.getD_eq_getElem?_getD, List.getD_eq_getElem?_getD, List.getElem?_append_right (by omega), Nat.add_sub_cancel_left]
    have e2 : pvl (A ++ B) (A.length + k) = pvl B k := by
      cases k with
      | zero =>
        rw [Nat.add_zero]
        show _ = 1
        rw [← h1]
        generalize hA : A.length = n
        cases n with
        | zero => rfl
        | succ m =>
          show (A ++ B).getD m 1 = A.getD m 1
          have hm : m < A.length := by omega
          rw [List.getD_eq_getElem?_getD, List.getD_eq_getElem?_getD, List.getElem?_append_left hm]
      | succ m =>
        show (A ++ B).getD (A.length + m) 1 = B.getD m 1
        rw [List.getD_eq_getElem?_getD, List.getD_eq_getElem?_getD, List.getElem?_append_right (by omega), Nat.add_sub_cancel_left]
    show ch (A ++ B) T (A.length + k) ++ (if (A ++ B).getD (A.length + k) 1 = pvl (A ++ B) (A.length + k) then [] else [T (A.length + k)]) = _
    rw [ih, e1, e2, List.append_assoc]
    rfl
def plen : Pa → Nat
  | .no => 0
  | _ => 1
def sz (b : Nat) (p : Pa) (s : Nat) : Nat := 1 + b + plen p + s
theorem frm_sz (b : Nat) (p : Pa) (s : Nat) (x : Int) : (frm b p s x).length = sz b p s := by
  rw [frm_len]
  cases p <;> rfl
/-- a frame ends at 1 -/
theorem frm_end {b : Nat} {p : Pa} {s : Nat} (x : Int) (hs : 1 ≤ s) : pvl (frm b p s x) (frm b p s x).length = 1 := by
  have hl := frm_len b p s x
  generalize hn : (frm b p s x).length = n at hl
  cases n with
  | zero => omega
  | succ m =>
    show (frm b p s x).getD m 1 = 1
    rw [List.getD_eq_getElem?_getD]
    unfold frm
    have hp : (parL b p x).length ≤ 1 := parL_len b p x
    rw [show m = ((bits b x).length + (parL b p x).length + (s - 1)) + 1 by rw [bits_len]; omega, List.getElem?_cons_succ, ← List.append_assoc, List.getElem?_append_right (by rw [List.length_append]; omega), List.length_append, Nat.add_sub_cancel_left,
      List.getElem?_replicate]
    rw [if_pos (by omega)]
    rfl
/-- a text's levels are sent from the ticks of its sending -/
def sig (b : Nat) (p : Pa) (s : Nat) (ln : Int) (snd : List (Int × Int)) : List Int := (snd.map fun q => ch (frm b p s q.2) (fun i => q.1 + (i : Int) * ln) (sz b p s)).flatten
def tks (n : Nat) (ln : Int) (snd : List (Int × Int)) : List Int := (snd.map fun q => (List.range n).map fun i : Nat => q.1 + (i : Int) * ln).flatten
theorem tks_len (n : Nat) (ln : Int) : ∀ snd : List (Int × Int), (tks n ln snd).length = snd.length * n
  | [] => by simp [tks]
  | q :: r => by
    have ih := tks_len n ln r
    have e : tks n ln (q :: r) = ((List.range n).map fun i : Nat => q.1 + (i : Int) * ln) ++ tks n ln r := by simp [tks]
    rw [e, List.length_append, ih, List.length_map, List.length_range, List.length_cons, Nat.add_mul]
    omega
theorem frms_sz (b : Nat) (p : Pa) (s : Nat) : ∀ ns : List Int, (frms b p s ns).length = ns.length * sz b p s
  | [] => by simp [frms]
  | n :: ns => by
    have ih := frms_sz b p s ns
    have e : frms b p s (n :: ns) = frm b p s n ++ frms b p s ns := by simp [frms]
    rw [e, List.length_append, ih, frm_sz, List.length_cons, Nat.add_mul]
    omega
theorem ch_sig {b : Nat} {p : Pa} {s : Nat} {ln : Int} (hs : 1 ≤ s) : ∀ snd : List (Int × Int), ch (frms b p s (snd.map (·.2))) (fun i => (tks (sz b p s) ln snd).getD i 0) (frms b p s (snd.map (·.2))).length = sig b p s ln snd
  | [] => rfl
  | q :: r => by
    have ih := ch_sig (b := b) (p := p) (s := s) (ln := ln) hs r
    have e1 : frms b p s ((q :: r).map (·.2)) = frm b p s q.2 ++ frms b p s (r.map (·.2)) := by simp [frms]
    have e2 : tks (sz b p s) ln (q :: r) = ((List.range (sz b p s)).map fun i : Nat => q.1 + (i : Int) * ln) ++ tks (sz b p s) ln r := by simp [tks]
    have e3 : sig b p s ln (q :: r) = ch (frm b p s q.2) (fun i => q.1 + (i : Int) * ln) (sz b p s) ++ sig b p s ln r := by simp [sig]
    rw [e1, List.length_append, ch_app (frm_end q.2 hs) _ (Nat.le_refl _), e3, ← ih, frm_sz]
    congr 1
    · refine ch_congr fun i hi => ?_
      show (tks (sz b p s) ln (q :: r)).getD i 0 = _
      rw [e2, List.getD_eq_getElem?_getD, List.getElem?_append_left (by simpa using hi), List.getElem?_map, List.getElem?_range hi]
      rfl
    · refine ch_congr fun i hi => ?_
      show (tks (sz b p s) ln (q :: r)).getD (sz b p s + i) 0 = _
      rw [e2, List.getD_eq_getElem?_getD, List.getElem?_append_right (by simp), List.length_map, List.length_range, Nat.add_sub_cancel_left, ← List.getD_eq_getElem?_getD]
/-! lists of pairs -/
def Snd (K : PySem.W.Frag) (H : Hp) (xs : List V) (snd : List (Int × Int)) : Prop := xs.length = snd.length ∧ ∀ (k : Nat) (x : V) (q : Int × Int), xs[k]? = some x → snd[k]? = some q → ∃ t, x = .ref t ∧ SqT K H t [.int q.1, .int q.2]
theorem Snd.ex {K : PySem.W.Frag} {H H' : Hp} {xs : List V} {snd : List (Int × Int)} (e : Ex H H') (h : Snd K H xs snd) : Snd K H' xs snd :=
  ⟨h.1, fun k x q h1 h2 => let ⟨t, a, b⟩ := h.2 k x q h1 h2; ⟨t, a, ex_t e b⟩⟩
theorem Snd.kp {K : PySem.W.Frag} {H H' : Hp} {a : Addr} {ys : List V} {xs : List V} {snd : List (Int × Int)} (e : Kp a H H') (ha : H a = some (.lst ys)) (h : Snd K H xs snd) : Snd K H' xs snd :=
  ⟨h.1, fun k x q h1 h2 => let ⟨t, u, b⟩ := h.2 k x q h1 h2; ⟨t, u, e.tup ha b⟩⟩
theorem Snd.nil {K : PySem.W.Frag} {H : Hp} : Snd K H [] [] := ⟨rfl, fun k x q h _ => by simp at h⟩
theorem Snd.snoc {K : PySem.W.Frag} {H : Hp} {xs : List V} {snd : List (Int × Int)} {t : Addr} {q : Int × Int} (h : Snd K H xs snd) (ht : SqT K H t [.int q.1, .int q.2]) : Snd K H (xs ++ [.ref t]) (snd ++ [q]) := by
  refine ⟨by rw [List.length_append, List.length_append, h.1]; rfl, fun k x q' h1 h2 => ?_⟩
  by_cases hk : k < xs.length
  · rw [List.getElem?_append_left hk] at h1
    rw [List.getElem?_append_left (by rw [← h.1]; exact hk)] at h2
    exact h.2 k x q' h1 h2
  · have hk2 : k = xs.length := by
      have := (List.getElem?_eq_some_iff.mp h1).1
      rw [List.length_append] at this
      simp at this
      omega
    subst hk2
    rw [List.getElem?_append_right (Nat.le_refl _), Nat.sub_self] at h1
    rw [h.1, List.getElem?_append_right (Nat.le_refl _), Nat.sub_self] at h2
    obtain rfl : V.ref t = x := Option.some.inj h1
    obtain rfl : q = q' := Option.some.inj h2
    exact ⟨t, rfl, ht⟩
def dP (snd : List (Int × Int)) : List PyData := snd.map fun q => PyData.tuple [.int q.1, .int q.2]
theorem Snd.dp {K : PySem.W.Frag} {H : Hp} : ∀ {xs : List V} {snd : List (Int × Int)}, Snd K H xs snd → DpAll K H xs (dP snd)
  | [], [], _ => .nil
  | [], q :: r, h => by have := h.1; simp at this
  | x :: xs, [], h => by have := h.1; simp at this
  | x :: xs, q :: r, h => by
    obtain ⟨t, rfl, ht⟩ := h.2 0 x q rfl rfl
    exact .cons (.tup ht (.cons (.int _) (.cons (.int _) .nil))) (Snd.dp ⟨by have := h.1; simpa using this, fun k y q' h1 h2 => h.2 (k + 1) y q' h1 h2⟩)
theorem dP_ok : ∀ snd : List (Int × Int), PyData.canLayAll0 (dP snd) = true ∧ PyData.depthAll (dP snd) ≤ 1
  | [] => ⟨rfl, Nat.zero_le _⟩
  | q :: r => by
    obtain ⟨h1, h2⟩ := dP_ok r
    have e : dP (q :: r) = PyData.tuple [.int q.1, .int q.2] :: dP r := rfl
    rw [e]
    refine ⟨?_, ?_⟩
    · simp only [PyData.canLayAll0, PyData.canLay0, h1, Bool.and_true]
    · simp only [PyData.depthAll, PyData.depth]
      omega
theorem dP_shaped (snd : List (Int × Int)) : SeqAt.shaped (.list (dP snd)) = true := by
  obtain ⟨h1, h2⟩ := dP_ok snd
  unfold SeqAt.shaped
  rw [Bool.and_eq_true]
  refine ⟨?_, decide_eq_true ?_⟩
  · simp only [PyData.canLay0, h1]
  · simp only [PyData.depth]
    omega
theorem dI_ok : ∀ ns : List Int, PyData.canLayAll0 (dI ns) = true ∧ PyData.depthAll (dI ns) ≤ 1
  | [] => ⟨rfl, Nat.zero_le _⟩
  | q :: r => by
    obtain ⟨h1, h2⟩ := dI_ok r
    have e : dI (q :: r) = PyData.int q :: dI r := rfl
    rw [e]
    refine ⟨?_, ?_⟩
    · simp only [PyData.canLayAll0, PyData.canLay0, h1, Bool.and_true]
    · simp only [PyData.depthAll, PyData.depth]
      omega
theorem dI_shaped (ns : List Int) : SeqAt.shaped (.list (dI ns)) = true := by
  obtain ⟨h1, h2⟩ := dI_ok ns
  unfold SeqAt.shaped
  rw [Bool.and_eq_true]
  refine ⟨?_, decide_eq_true ?_⟩
  · simp only [PyData.canLay0, h1]
  · simp only [PyData.depth]
    omega
theorem eqv_sh {d : PyData} (h : SeqAt.shaped d = true) : PyData.eqv d d = true := SeqAt.eqv_refl d (SeqAt.canLay_of_shaped h)
end SB
namespace SB
open PySem PySem.Spec PyProof.Rows L2 Evl
def Kp2 (a b : Addr) (H H' : Hp) : Prop := ∀ c o, c ≠ a → c ≠ b → H c = some o → H' c = some o
theorem Kp2.refl {a b : Addr} {H : Hp} : Kp2 a b H H := fun _ _ _ _ h => h
theorem Kp2.ex {a b : Addr} {H H1 H2 : Hp} (k : Kp2 a b H H1) (e : Ex H1 H2) : Kp2 a b H H2 := fun c o n1 n2 h => e c o (k c o n1 n2 h)
theorem Kp2.updA {a b : Addr} {H H1 : Hp} {o : HO} (k : Kp2 a b H H1) : Kp2 a b H (L2.upd H1 a o) := fun c u n1 n2 h => by
  rw [upd_ne n1]
  exact k c u n1 n2 h
theorem Kp2.updB {a b : Addr} {H H1 : Hp} {o : HO} (k : Kp2 a b H H1) : Kp2 a b H (L2.upd H1 b o) := fun c u n1 n2 h => by
  rw [upd_ne n2]
  exact k c u n1 n2 h
theorem Kp2.tup {K : PySem.W.Frag} {a b t : Addr} {H H' : Hp} {xs ys zs : List V} (k : Kp2 a b H H') (ha : H a = some (.lst ys)) (hb : H b = some (.lst zs)) (h : SqT K H t xs) : SqT K H' t xs := by
  rcases h with (h | ⟨o, h⟩) | h
  · exact .inl (.inl (k t _ (fun e => by rw [e, ha] at h; cases h) (fun e => by rw [e, hb] at h; cases h) h))
  · exact .inl (.inr ⟨o, k t _ (fun e => by rw [e, ha] at h; cases h) (fun e => by rw [e, hb] at h; cases h) h⟩)
  · exact .inr h
theorem Snd.kp2 {K : PySem.W.Frag} {H H' : Hp} {a b : Addr} {ys zs : List V} {xs : List V} {snd : List (Int × Int)} (e : Kp2 a b H H') (ha : H a = some (.lst ys)) (hb : H b = some (.lst zs)) (h : Snd K H xs snd) : Snd K H' xs snd :=
  ⟨h.1, fun k x q h1 h2 => let ⟨t, u, c⟩ := h.2 k x q h1 h2; ⟨t, u, e.tup ha hb c⟩⟩
theorem Kp2.kp {a b S : Addr} {H0 H H' : Hp} (k : Kp2 a b H H') (k0 : Kp S H0 H) (ha : H0 a = none) (hb : H0 b = none) : Kp S H0 H' := fun c o n h =>
  k c o (ne_of_none h ha) (ne_of_none h hb) (k0 c o n h)
theorem Src.kp2 {a b S : Addr} {n : Nat} {H H' : Hp} (h : Src H S n) (k : Kp2 a b H H') (ha : S ≠ a) (hb : S ≠ b) : Src H' S n := by
  obtain ⟨l, sd, c, e, r⟩ := h
  exact ⟨l, sd, c, k _ _ ha hb e, r⟩
theorem tks_snoc (n : Nat) (ln : Int) (snd : List (Int × Int)) (q : Int × Int) : tks n ln (snd ++ [q]) = tks n ln snd ++ (List.range n).map fun i : Nat => q.1 + (i : Int) * ln := by simp [tks]
end SB
namespace EXS
open PySem PySem.W PySem.Calls PyProof.Rows
/-! an own error whose __init__ says super().__init__(f'..') and stores its one field -/
def eArgs (fld : Str) (p1 p2 : Pos) : Arguments := { posonlyargs := [], args := [{ arg := "self", annotation := none, pos := p1 }, { arg := fld, annotation := none, pos := p2 }], vararg := none, kwonlyargs := [], kw_defaults := [], kwarg := none, defaults := [] }
def eScope (fld : Str) : Scope := { kind := .function, names := [("self", .local), (fld, .local), ("__class__", .free), ("super", .globalImplicit)], isGenerator := false, isCoroutine := false, more := [] }
def eBody (fld : Str) (js : List Expr) (a0 a1 a2 a3 a4 a5 b1 b2 b3 b4 : Pos) : List Stmt :=
  [.Expr (.Call (.Attribute (.Call (.Name "super" a0) [] [] a1) "__init__" a2) [.JoinedStr js a3] [] a4) a5, .Assign [.Attribute (.Name "self" b1) fld b2] (.Name fld b3) b4]
/-- f'TEXT{FLD}' is some text -/
def Tells (fld : Str) (js : List Expr) (v : Value) : Prop := ∀ (prog : Program) (w : World) (A : Around) (E : Value → Shared → Prop) (env : Env) (m : Str → Option Value) (s : Shared) (p : Pos) (Q : Value → Shared → Prop),
  s.heap.Ns env.locals m → m fld = some v → env.scope.kind = .function → env.kindOf fld = some .local → (∀ x t tk, Q (.str x t) { s with toks := tk }) → wpAny (model prog w) A (eval (.JoinedStr js p) env) Q E s
theorem tells2 {fld tx : Str} {p0 p1 p2 : Pos} {k : Nat} {v : Value} (hf : (fld == ("__debug__" : Str)) = false) (hl : tx.length ≤ 100) (hv : v = .none ∨ ∃ i t, v = .int i t ∧ i.natAbs.log2 < 1920) :
    Tells fld [.Constant (.str tx) k p0, .FormattedValue (.Name fld p1) (-1) none p2] v := by
  intro prog w A E env m s p Q hn hm hk hl2 q
  have fld_ok : ∀ (s' : Shared) (Q' : Value → Shared → Prop), s'.heap = s.heap → (∀ (y : Str) (t : Tok) (tk : Nat), y.length ≤ 3000 → Q' (.str y t) { s' with toks := tk }) →
      wpAny (model prog w) A (eval (.FormattedValue (.Name fld p1) (-1) none p2) env) Q' E s' := by
    intro s' Q' eh q'
    refine PySem.wpAny_FormattedValue_plain (wpAny_Name (wpAny_loadName_local hk hl2 (show s'.heap.Ns env.locals m by rw [eh]; exact hn) hm ?_) hf)
    rcases hv with rfl | ⟨i, t, rfl, hi⟩
    · exact wpAny_formatField_none (q' "None" _ _ (by decide))
    · refine PySem.wpAny_formatField_int hi (q' _ _ _ ?_)
      rw [PySem.ofString_length]
      have := int_text_length_le (k := 1920) (by decide) hi
      omega
  refine PySem.wpAny_JoinedStr ?_
  show wpAny _ _ (eval (.Constant (.str tx) k p0) env) _ _ _
  refine PySem.Calls.Constant_str ⟨tx, _, rfl, ?_, ?_⟩
  · rw [sizeLine_eq, show (Str.empty ++ tx).length = Str.empty.length + tx.length from PySem.strLen_append _ _]
    show 0 + tx.length ≤ _
    omega
  · show wpAny _ _ (eval (.FormattedValue (.Name fld p1) (-1) none p2) env) _ _ _
    refine fld_ok _ _ rfl fun y t tk hy => ⟨y, t, rfl, ?_, ?_⟩
    · rw [sizeLine_eq, PySem.strLen_append, PySem.strLen_append]
      show 0 + tx.length + y.length ≤ _
      omega
    · show _ ∧ _
      refine ⟨?_, q _ _ _⟩
      rw [sizeLine_eq, PySem.strLen_append, PySem.strLen_append]
      show 0 + tx.length + y.length ≤ _
      omega
end EXS
namespace EXS
open PySem PySem.W PySem.Calls PyProof.Rows PySem.HandSPX
theorem mcall {o : Expr} {env : Env} {ov : Value} {a2 a4 : Pos} {name : Str} {n : Nat} {args : List (Bool × Sem Value)} (hf : methodCallForm n args [] = true) (h : (a2.endLine == a4.line) = true) :
    methodCall o name a2 a4 env ov n args [] = (do
          let __x ← holding [ov] (getMethod ov name (do
      let __do_lift ← importBound o env
      pure (__do_lift.getD true)))
          match __x with
            | (f, first) => callWith a4 f first args []) := by
  unfold methodCall
  rw [hf]
  have e : methodCallPos true o env a2 a4 = pure a4 := by
    unfold methodCallPos
    rw [h] 
    rfl
  rw [e]
  rfl
theorem mcall_eq {a2 a3 a4 q0 q1 q2 : Pos} {env : Env} {tx x : Str} {kc : Nat} {p0 p1 : Pos} (h : (a2.endLine == a4.line) = true) : eval (.Call (.Attribute (.Call (.Name "super" p0) [] [] p1) "__init__" a2) [.JoinedStr [.Constant (.str tx) kc q0, .FormattedValue (.Name x q1) (-1) none q2] a3] [] a4) env = (do
          let ov ← attributeBase (.Call (.Name "super" p0) [] [] p1) "__init__" env (eval (.Call (.Name "super" p0) [] [] p1) env)
          standAt a2.atName
          let __x ← holding [ov] (getMethod ov "__init__" (do
      let __do_lift ← importBound (.Call (.Name "super" p0) [] [] p1) env
      pure (__do_lift.getD true)))
          match __x with
            | (f, first) => callWith a4 f first (backTo a4 (starEach [.JoinedStr [.Constant (.str tx) kc q0, .FormattedValue (.Name x q1) (-1) none q2] a3] env)) []) := by
  have e : eval (.Call (.Attribute (.Call (.Name "super" p0) [] [] p1) "__init__" a2) [.JoinedStr [.Constant (.str tx) kc q0, .FormattedValue (.Name x q1) (-1) none q2] a3] [] a4) env = (do
          let ov ← attributeBase (.Call (.Name "super" p0) [] [] p1) "__init__" env (eval (.Call (.Name "super" p0) [] [] p1) env)
          standAt a2.atName
          methodCall (.Call (.Name "super" p0) [] [] p1) "__init__" a2 a4 env ov 1 (backTo a4 (starEach [.JoinedStr [.Constant (.str tx) kc q0, .FormattedValue (.Name x q1) (-1) none q2] a3] env)) []) := rfl
  rw [e]
  refine congrArg _ (funext fun ov => ?_)
  refine congrArg _ (funext fun _ => ?_)
  exact mcall rfl h
/-- what the program has of an own error: its class at C, its __init__ at fI, over LineError over ValueError -/
structure ErrTxt (prog : Program) (K : Frag) (mg : Str → Option Value) (nm fld tx : Str) (C fI : Addr) : Prop where
  gC : mg nm = some (.ref C)
  sup : mg "super" = none
  cls : ∃ q N bs bm sn sub ab col dd k0 k1 k2 k3 k5, K.lookup C = some (excClassObj nm q C N bs bm true sn sub ab col dd k0 k1 k2 k3 k5 "ValueError.__new__") ∧ refsVE bm = true ∧ alongIn K "__init__" bm = some (some (.builtin "ValueError.__init__"))
  op : nsIn K cStatics "thirdparty.any" = some none
  sa : findIn K (.ref C) "__setattr__" = some (some (.builtin "object.__setattr__"))
  noN : findIn K (.ref C) fld = some none
  iC : findIn K (.ref C) "__init__" = some (some (.ref fI))
  tC : typeIn K (.ref fI) = some (.type "function")
  kC : keepIn K (.ref C) = true
  exC : subIn K (.ref C) (.type "BaseException") = some true
  veC : subIn K (.ref C) (.type "ValueError") = some true
  init : excInitIn K C [.type "ValueError", .type "Exception", .type "BaseException", .type "object"] "ValueError.__new__" = true
  seC : mroIn K C (.ref C) = some true
  tyC : typeIn K (.ref C) = some (.type "type")
  te : exmOne K (.ref C) (.ref C) = some true
  fn : ∃ (oc : Value) (od : Option Addr) (qual : Str) (doc pm : Value) (an : Option Addr) (cc co : Addr) (ct : Value) (osl : Array (Option Value)) (oc2 : Value) (od2 : Option Addr) (vs : Array Value) (osl2 : Array (Option Value)) (ocl : Obj) (p1 p2 a0 a1 a2 a3 a4 a5 b1 b2 b3 b4 q0 q1 q2 : Pos) (kk : Nat) (file : Str) (tf : Tok),
    K.lookup fI = some ⟨oc, od, .func { name := "__init__", qualname := qual, params := eArgs fld p1 p2, body := .stmts (eBody fld [.Constant (.str tx) kk q0, .FormattedValue (.Name fld q1) (-1) none q2] a0 a1 a2 a3 a4 a5 b1 b2 b3 b4), scope := eScope fld, globals := mainGlobals, closure := [("__class__", cc)], defaults := .none, kwdefaults := .none, doc := doc, pyModule := pm, annotations := an, code := .ref co, closureTuple := ct, builtins := builtinsNs }, osl⟩
      ∧ codeIn K (.ref co) qual = true ∧ K.lookup co = some ⟨oc2, od2, .fields vs, osl2⟩ ∧ vs[2]? = some (.str file tf) ∧ (prog.main.file == file) = true ∧ K.lookup cc = some ocl ∧ ocl.data = .cell (some (.ref C)) ∧ (a2.endLine == a4.line) = true
  nosup : (List.lookup ("super" : Str) prog.main.scope.names).isSome = false
  nf : fld = "index" ∨ fld = "limit" ∨ fld = "word"
  hl : tx.length ≤ 100
theorem kept_but {K : Frag} {h h' : Heap} {x : Addr} (X : K.In h) (hx : K.lookup x = none) (k : ∀ b o, b ≠ x → h.get? b = some o → h'.get? b = some o) : K.In h' := fun a o e =>
  k a o (fun z => by rw [z, hx] at e; cases e) (X a o e)
/-- what __init__ leaves of a fresh exception at x -/
structure InitEnd (h h' : Heap) (x C dx : Addr) (fld : Str) (v : Value) : Prop where
  keep : ∀ b o, b ≠ x → h.get? b = some o → h'.get? b = some o
  obj : ∃ t1, h'.get? x = some { cls := .ref C, dict := some dx, data := .fields #[.ref t1, .none, .none, .none, .bool false, .none] }
  dbig : h.objs.size ≤ dx
  dne : dx ≠ x
  ns : h'.Ns1 dx (fun y => if y = fld then some v else none)
/-- the heap without what stands at x -/
theorem hide1 (h : Heap) (x : Addr) : ∃ G : Heap, G.objs.size = h.objs.size ∧ (∀ b o, b ≠ x → h.get? b = some o → G.get? b = some o) ∧ (∀ b o, G.get? b = some o → h.get? b = some o) ∧ G.get? x = none := by
  let T : L2.Hp := fun b => if b = x then some (.lst []) else none
  refine ⟨L2.hidT h T, L2.hidT_size _ _, fun b o hb e => L2.hidT_get e (if_neg hb), fun b o e => (L2.of_hidT e).1, ?_⟩
  cases e : (L2.hidT h T).get? x with
  | none => rfl
  | some o =>
    have z := (L2.of_hidT e).2
    rw [show T x = some (.lst []) from if_pos rfl] at z
    cases z
section
variable {prog : Program} {w : World} {A : Around} {E : Value → Shared → Prop} {R : Result → Shared → Prop} {s : Shared} {K : Frag} {mg : Str → Option Value} {C fI : Addr} {nm fld tx : Str}
theorem init_raw (T : ErrTxt prog K mg nm fld tx C fI) {x t0 : Addr} {v : Value} (hv : v = .none ∨ ∃ i t, v = .int i t ∧ i.natAbs.log2 < 1920) (M : L2.Mod K mg s.heap) (hx : s.heap.get? x = some (excO C t0)) (hnx : K.lookup x = none) (hroom : A.depth < recursionLimit)
    (hq : ∀ h' tk dx, InitEnd s.heap h' x C dx fld v → R (.ok (.ret .none)) { s with heap := h', toks := tk }) :
    codeAny (model prog w) A (.call (.ref fI) ⟨[.ref x, v], []⟩) R s := by
  obtain ⟨oc, od, qual, doc, pm, an, cc, co, ct, osl, oc2, od2, vs, osl2, ocl, p1, p2, a0, a1, a2, a3, a4, a5, b1, b2, b3, b4, q0, q1, q2, kc, file, tf, lf, hcd, lco, hv2, hfile, lcc, hcell, hpos⟩ := T.fn
  obtain ⟨q, N, bs, bm, sn, sub, ab, col, dd, k0, k1, k2, k3, k5, lC, hbm, hal⟩ := T.cls
  obtain ⟨hp, g, d, t, os⟩ := s
  have X : K.In hp := M.kin
  have hxp : hp.get? x = some (excO C t0) := hx
  have hCp : hp.get? C = some (excClassObj nm q C N bs bm true sn sub ab col dd k0 k1 k2 k3 k5 "ValueError.__new__") := X _ _ lC
  have hxC : x ≠ C := fun z => by rw [z, lC] at hnx; cases hnx
  have hcl : clsIn K C = some { name := nm, bases := bs, mro := .ref C :: bm, ns := N, qualname := q, hasDict := true, slotNames := sn, subclasses := sub, abstract := ab, collection := col, hasDel := false } := by unfold clsIn; rw [lC] <;> rfl
  obtain ⟨G, Gs, G1, G2, G3⟩ := hide1 hp x
  have XG : K.In G := fun b o e => G1 b o (fun z => by rw [z, hnx] at e; cases e) (X b o e)
  have nfT := T.nf
  rcases nfT with rfl | rfl | rfl
  all_goals
    refine ks_codeAny_call_defAt (binds := [("self", .ref x), (_, v)]) hroom (X _ _ lf) rfl M.nolimit (codeRec_of X hcd) rfl (BindsTo.of_eq (by first | rfl | with_unfolding_all rfl)) (fun y hy => ?_) (fun y hy => ?_) (fun h₁ hn k => ?_) rfl rfl rfl
    · rcases hy with _ | ⟨_, _ | ⟨_, _ | ⟨_, _ | ⟨_, hy⟩⟩⟩⟩
      · exact NameKind.noConfusion
      · exact NameKind.noConfusion
      · exact NameKind.noConfusion
      · exact NameKind.noConfusion
      · cases hy
    · rcases hy with _ | ⟨_, _ | ⟨_, hy⟩⟩
      · rfl
      · rfl
      · cases hy
    have X₁ : K.In h₁ := X.keeps k
    refine ks_wpAt_execs_cons (ks_wpAt_Expr_any (ks_wpAt_MethodCall (he := mcall_eq hpos) (ks_wpAt_super_base rfl rfl rfl rfl (k _ _ (X _ _ lf)) rfl rfl rfl (k _ _ (X _ _ lco)) rfl hv2 hfile T.nosup ?_)))
    refine ks_loadName_global rfl rfl ?_
    obtain ⟨mb, hmb, hbb⟩ := M.blt
    have keepNs : ∀ {b : Addr} {m : Str → Option Value}, hp.Ns b m → h₁.Ns b m := fun ⟨o, es, n, e, r⟩ => ⟨o, es, n, k _ _ e, r⟩
    refine loadGlobal_builtin (keepNs M.glob) T.sup (keepNs hmb) ((hbb _ (by decide)).trans (show _ = some (Value.type "super") from rfl)) ⟨rfl, ?_⟩
    refine wpAny_loadName_free rfl rfl rfl ⟨_, k _ _ (X _ _ lcc), hcell⟩ ?_ rfl
    refine wpAny_loadName_local rfl rfl hn rfl ?_
    refine ks_wpAny_isType_cls (k _ _ hCp) rfl ⟨rfl, ?_⟩
    refine ks_wpAny_call_super (k _ _ hCp) rfl (k _ _ hxp) rfl (fun c z => by cases z) (looks_subIn X₁ T.seC) (fun h₂ hso k₂ => ?_)
    have X₂ : K.In h₂ := X₁.keeps k₂
    have kk : ∀ b o, hp.get? b = some o → h₂.get? b = some o := fun b o e => k₂ _ _ (k _ _ e)
    have XX : Frag.In ((x, excO C t0) :: K) h₂ := fun b o e => by
      by_cases hb : b = x
      · subst hb
        rw [List.lookup_cons_self] at e
        cases e
        exact kk _ _ hxp
      · rw [List.lookup_cons, show (b == x) = false from by simpa using hb] at e
        exact X₂ b o e
    have cl2 : clsIn ((x, excO C t0) :: K) C = clsIn K C := by
      unfold clsIn
      rw [List.lookup_cons, show (C == x) = false from by simpa using Ne.symm hxC]
    have inst : instIn ((x, excO C t0) :: K) (.ref x) (.type "ValueError") = some true := by
      have e1 : typeIn ((x, excO C t0) :: K) (.ref x) = some (.ref C) := by
        show Option.map _ (List.lookup x _) = _
        rw [List.lookup_cons_self]
        rfl
      show (typeIn ((x, excO C t0) :: K) (.ref x)).bind _ = _
      rw [e1]
      show mroIn ((x, excO C t0) :: K) C (.type "ValueError") = _
      have e2 := T.veC
      unfold mroIn
      rw [cl2]
      exact e2
    refine kxs_getMethod kxs_ValueError hso (looks_opaque X₂ T.op) (l₀ := .ref C :: bm) ?_ (PySem.ESX.drop_own C bm) X₂ hal (looks_instIn XX inst) hxC rfl ?_
    · intro A' Q' E' s' k' q'
      exact PySem.wpAny_bind (looks_clsIn X₂ hcl A' _ E' s' k' (PySem.wpAny_pure q'))
    have L1 : hp.objs.size < h₁.objs.size := hn.lt
    have L2' : h₁.objs.size ≤ h₂.objs.size := Nat.le_of_lt (Heap.lt_size hso)
    have xlt : x < hp.objs.size := Heap.lt_size hxp
    have hu : (h₂.push (kxs_mw "ValueError.__init__" x)).get? h₂.objs.size = some (kxs_mw "ValueError.__init__" x) := by heap_get
    have Gu : G.get? h₂.objs.size = none := by
      cases e : G.get? h₂.objs.size with
      | none => rfl
      | some o =>
        have z : h₂.objs.size < hp.objs.size := Heap.lt_size (G2 _ _ e)
        omega
    have k3 : ∀ b o, hp.get? b = some o → (h₂.push (kxs_mw "ValueError.__init__" x)).get? b = some o := fun b o e => Heap.get?_push_of_some _ (kk b o e)
    have N3 : News G hp.objs.size (h₂.push (kxs_mw "ValueError.__init__" x)) [(x, excObj C t0 none .none), (h₂.objs.size, kxs_mw "ValueError.__init__" x)] := by
      intro p hp'
      simp only [List.mem_cons, List.not_mem_nil, or_false] at hp'
      rcases hp' with rfl | rfl
      · exact ⟨k3 _ _ hxp, Nat.ne_of_lt xlt, G3⟩
      · exact ⟨hu, Nat.ne_of_gt (by omega), Gu⟩
    have hn3 : (h₂.push (kxs_mw "ValueError.__init__" x)).Ns hp.objs.size (fun x_1 => List.lookup x_1 (([("self", .ref x), (_, v)] : List (Str × Value)).reverse)) :=
      (fun ⟨o, es, n, e, r⟩ => ⟨o, es, n, Heap.get?_push_of_some _ (k₂ _ _ e), r⟩) hn
    have F3 : Fr G hp.objs.size (h₂.push (kxs_mw "ValueError.__init__" x)) (fun x_1 => List.lookup x_1 (([("self", .ref x), (_, v)] : List (Str × Value)).reverse)) :=
      ⟨hn3, fun b o e => k3 _ _ (G2 _ _ e), Nat.le_of_eq Gs⟩
    refine kxs_callWith1 (i := "ValueError.__init__") (x := x) N3 (List.mem_cons_of_mem _ List.mem_cons_self) (spliced_more (tells2 rfl T.hl hv _ _ _ _ _ _ _ _ _ hn3 rfl rfl rfl fun y t' tk' => spliced_none ?_))
    refine ⟨hu, ?_⟩
    refine kxs_call F3 XG N3 F.excBase_ValueError T.init (List.mem_cons_of_mem _ List.mem_cons_self) (UpdF.head (fun p hp' => ?_)) (by rw [sizeLine_eq]; exact (by decide : 1 ≤ 16777216)) (fun t1 h₄ F4 N4 gt => ?_)
    · simp only [List.mem_cons, List.not_mem_nil, or_false] at hp'
      subst hp'
      exact Nat.ne_of_gt (Nat.lt_of_lt_of_le (Nat.lt_trans xlt L1) L2')
    have hx4 : h₄.get? x = some (excObj C t1 none .none) := (N4 _ (List.mem_cons_of_mem _ List.mem_cons_self)).1
    have k4 : ∀ b o, b ≠ x → hp.get? b = some o → h₄.get? b = some o := fun b o hb e => F4.keep _ _ (G1 b o hb e)
    have X4 : K.In h₄ := kept_but X hnx k4
    have L4 : hp.objs.size < h₄.objs.size := F4.ns.lt
    show PySem.wpAt _ _ _ (execs _ _) _ _ _
    refine wpAt_of_wpAny (wpAny_execs_cons (plainObj_wpAny_Assign_Attribute ?_))
    refine wpAny_Name (wpAny_loadName_local rfl rfl F4.ns rfl (wpAny_Name (wpAny_loadName_local rfl rfl F4.ns rfl ?_) rfl)) rfl
    refine set_plain X4 (ox := excObj C t1 none .none) (od := none) ⟨hx4, rfl, rfl, trivial⟩ T.sa ?_
    refine exc_osa X4 hx4 hcl (show refsVE (.ref C :: bm) = true from hbm) rfl T.noN (fun h₅ tk₅ dx k₅ dn dne hx₅ hn₅ => ?_)
    show wpAny _ _ (execs _ _) _ _ _
    exact wpAny_execs_nil (hq h₅ tk₅ dx ⟨fun b o hb e => k₅ b o hb (k4 b o hb e), ⟨t1, hx₅⟩, Nat.le_of_lt (Nat.lt_of_lt_of_le L4 dn), dne, hn₅⟩)
end
end EXS
namespace EXS
open PySem PySem.W PySem.Calls PyProof.Rows PySem.HandSPX
theorem one_size (v : Value) : [v].length ≤ sizeLine := by
  rw [sizeLine_eq]
  exact (by decide : 1 ≤ 16777216)
theorem mod_keeps {K : Frag} {mg : Str → Option Value} {h h' : Heap} (M : L2.Mod K mg h) (k : ∀ b o, h.get? b = some o → h'.get? b = some o) : L2.Mod K mg h' := by
  have keepNs : ∀ {b : Addr} {m : Str → Option Value}, h.Ns b m → h'.Ns b m := fun ⟨o, es, n, e, r⟩ => ⟨o, es, n, k _ _ e, r⟩
  obtain ⟨mb, hmb, hbb⟩ := M.blt
  exact ⟨M.kin.keeps k, keepNs M.glob, ⟨mb, keepNs hmb, hbb⟩, M.nolimit.keeps k⟩
/-- a made error -/
structure OwnMade (h h' : Heap) (e C d : Addr) (fld : Str) (v : Value) : Prop where
  keep : ∀ b o, h.get? b = some o → h'.get? b = some o
  new : h.objs.size ≤ e
  obj : ∃ oe vs, h'.get? e = some oe ∧ oe.cls = .ref C ∧ oe.dict = some d ∧ oe.data = .fields vs ∧ vs[1]? = some .none
  dbig : h.objs.size ≤ d
  dne : d ≠ e
  ns : h'.Ns1 d (fun y => if y = fld then some v else none)
section
variable {prog : Program} {w : World} {A : Around} {E : Value → Shared → Prop} {R : Result → Shared → Prop} {s : Shared} {K : Frag} {mg : Str → Option Value} {C fI : Addr} {nm fld tx : Str}
theorem err_made (T : ErrTxt prog K mg nm fld tx C fI) {v : Value} (hv : v = .none ∨ ∃ i t, v = .int i t ∧ i.natAbs.log2 < 1920) (M : L2.Mod K mg s.heap) (hroom : A.depth + 1 < recursionLimit)
    (hq : ∀ h' tk e d, OwnMade s.heap h' e C d fld v → R (.ok (.ret (.ref e))) { s with heap := h', toks := tk }) :
    codeAny (model prog w) A (.call (.ref C) ⟨[v], []⟩) R s := by
  obtain ⟨q, N, bs, bm, sn, sub, ab, col, dd, k0, k1, k2, k3, k5, hC, hbm, hal⟩ := T.cls
  obtain ⟨hp, g, dr, tk, os⟩ := s
  have X : K.In hp := M.kin
  have k : ∀ b o, hp.get? b = some o → ((hp.push (kdv_tup [v])).push (excO C hp.objs.size)).get? b = some o := fun b o e => Heap.get?_push_of_some _ (Heap.get?_push_of_some _ e)
  have hget : ((hp.push (kdv_tup [v])).push (excO C hp.objs.size)).get? (hp.objs.size + 1) = some (excO C hp.objs.size) := by heap_get
  have hnx : K.lookup (hp.objs.size + 1) = none := by
    cases e : K.lookup (hp.objs.size + 1) with
    | none => rfl
    | some o =>
      have z : hp.get? (hp.objs.size + 1) = some o := X _ _ e
      exact absurd (Nat.lt_of_succ_lt (Heap.lt_size z)) (Nat.lt_irrefl _)
  refine call_own F.excBase_ValueError (fun X => refsVE_contains X bm hbm) (X _ _ hC) (looks_findIn X T.iC) (fun self => bind_fn X self T.tC) (one_size v) ?_
  refine init_raw (s := ⟨(hp.push (kdv_tup [v])).push (excO C hp.objs.size), g, dr, tk, os⟩) T hv (mod_keeps M k) hget hnx ?_ fun h' tk' dx ⟨k', ⟨t1, hx⟩, dn, dne, hns⟩ => ?_
  · show A.depth + 1 < recursionLimit
    exact hroom
  · have old : ∀ b o, hp.get? b = some o → h'.get? b = some o := fun b o e => k' b o (Nat.ne_of_lt (Nat.lt_succ_of_lt (Heap.lt_size e))) (k b o e)
    have z : hp.objs.size + 1 + 1 ≤ dx := by
      first
        | (simpa only [Heap.size_push] using dn)
        | exact dn
        | (have q := dn; rw [Heap.size_push, Heap.size_push] at q; exact q)
    exact ⟨rfl, hq h' tk' (hp.objs.size + 1) dx ⟨old, Nat.le_succ _, ⟨_, _, hx, rfl, rfl, rfl, rfl⟩, Nat.le_trans (Nat.le_trans (Nat.le_succ _) (Nat.le_succ _)) z, dne, hns⟩⟩
end
end EXS
namespace SB
open PySem PySem.Spec PyProof.Rows L2
theorem relO_fld {v : V} {v' : Value} (r : RelV v v') (fld f : Str) : RelO (List.lookup f [(fld, v)]) (if f = fld then some v' else none) := by
  by_cases hw : f = fld
  · subst hw
    rw [if_pos rfl, List.lookup_cons_self]
    exact r
  · rw [if_neg hw, List.lookup_cons, show (f == fld) = false from by simpa using hw]
    trivial
/-- the field of an own error: None or an index -/
def Fld (v : V) : Prop := v = .non ∨ ∃ i : Int, v = .int i ∧ i.natAbs.log2 < 1920
section
variable {X : Cx} {C fI : Addr} {nm fld tx : Str}
/-- NAME(e) -/
def tMkE (fld : Str) (C : Addr) (ta : TA) : L2.St → Hp → XK → Prop := fun σ H Q => ta σ H fun vs H1 => ∃ v, vs = [v] ∧ Fld v ∧ ∀ d, H1 d = none → Q (.ref C) (some d) (upd H1 d (.xd [(fld, v)]))
theorem pmk_err {a : Expr} {ta : TA} {p pos : Pos} {k : Nat} (T : EXS.ErrTxt X.prog X.K X.mg nm fld tx C fI) (hr : Room k X.A) (ha : PA X [a] ta) (hk : 1 ≤ k := by decide) (hg : Gl X nm := by rfl) (hdb : (nm == ("__debug__" : Str)) = false := by decide)
    (he : starEach (a :: []) X.env = (false, eval a X.env) :: starEach [] X.env := by rfl) (hpl : (backTo pos (starEach [] X.env)).any (·.1) = false := by rfl) :
    PMk X (.Call (.Name nm p) [a] [] pos) (tMkE fld C ta) := by
  intro pins s σ H Q I h
  refine wpAny_Call_Name_kw (ld_glob I hg T.gC ?_ hdb)
  refine PySem.W.callWith_K (h₀ := X.base) I.ok.mod.kin T.kC (thn (ha.run pos pins s σ H _ I h) fun us s1 hh => ?_) he hpl
  obtain ⟨vs, H1, I1, r1, v, ev, fv, q1⟩ := hh
  subst ev
  refine ⟨I1.kIn, ?_⟩
  cases r1 with
  | cons rv rn =>
    rename_i v' us'
    cases rn
    show wpAny _ _ (call (.ref C) [v']) _ _ _
    have M1 : L2.Mod X.K X.mg s1.heap := EXS.mod_keeps I1.env0.mod fun b o e => (I1.env0.bs b o e).1
    have hv : v' = .none ∨ ∃ i t, v' = .int i t ∧ i.natAbs.log2 < 1920 := by
      rcases fv with rfl | ⟨i, rfl, hi⟩
      · exact .inl rv
      · obtain ⟨t, rt⟩ := rv
        exact .inr ⟨i, t, rt, hi⟩
    obtain ⟨hp, g, dr, tk, os⟩ := s1
    refine wpAny_call (EXS.err_made T hv M1 (by have := hr.dp; omega) fun h' tk' e d M => ?_)
    show MkP X pins σ Q (.ref e) ⟨h', g, dr, tk', os⟩
    obtain ⟨oe, fv, hoe, hc, hd, hdat, h1⟩ := M.obj
    have hns := M.ns
    obtain ⟨G', g1, g2⟩ := restrict h' fun b => decide (b ≠ e)
    have gk : ∀ b, b ≠ e → G'.get? b = h'.get? b := fun b hb => g1 b (decide_eq_true hb)
    have ge : G'.get? e = none := g2 e (by simp)
    have old : ∀ b o, hp.get? b = some o → G'.get? b = some o := fun b o q => (gk b (Nat.ne_of_lt (Nat.lt_of_lt_of_le (Heap.lt_size q) M.new))).trans (M.keep b o q)
    have ob : ObjOk X.prog X.w (upd H1 d (.xd [(fld, v)])) G' d (.xd [(fld, v)]) :=
      ⟨_, hns.at (fun o q => (gk d M.dne).trans q), fun f => relO_fld rv fld f⟩
    have J : Inv X pins σ (upd H1 d (.xd [(fld, v)])) ⟨G', g, dr, tk', os⟩ := I1.laid (t' := tk') old M.dbig ob
    refine ⟨e, oe, fv, ⟨G', g, dr, tk', os⟩, _, .ref C, some d, rfl, J, fun b o q => ?_, ge, hoe, ⟨hc, hd⟩, hdat, h1, ?_, rfl, I1.bare, raises_own T.exC T.tyC, q1 d (I1.hok.fresh M.dbig)⟩
    · by_cases hb : b = e
      · have q' : G'.get? b = some o := q
        rw [hb, ge] at q'; cases q'
      · exact (gk b hb).symm.trans q
    · rw [upd_ne (Ne.symm M.dne)]
      exact I1.hok.fresh M.new
end
end SB
namespace EXS
open PySem PySem.W PySem.Calls PyProof.Rows PySem.HandSPX
/-! what a run at the head tells of own errors -/
def isBi (o : Option (Option Value)) (n : String) : Bool := match o with | some (some (.builtin m)) => m == n | _ => false
def isNo (o : Option (Option Value)) : Bool := match o with | some none => true | _ => false
def isTy (o : Option Value) (n : String) : Bool := match o with | some (.type m) => m == n | _ => false
def refD (o : Option (Option Value)) : Addr := match o with | some (some (.ref a)) => a | _ => 0
def isRef (o : Option (Option Value)) : Bool := match o with | some (some (.ref _)) => true | _ => false
theorem isBi_ok {o : Option (Option Value)} {n : String} (h : isBi o n = true) : o = some (some (.builtin n)) := by
  unfold isBi at h
  split at h
  · have e := beq_iff_eq.mp h
    subst e
    rfl
  · cases h
theorem isNo_ok {o : Option (Option Value)} (h : isNo o = true) : o = some none := by
  unfold isNo at h
  split at h
  · rfl
  · cases h
theorem isTy_ok {o : Option Value} {n : String} (h : isTy o n = true) : o = some (.type n) := by
  unfold isTy at h
  split at h
  · have e := beq_iff_eq.mp h
    subst e
    rfl
  · cases h
theorem isRef_ok {o : Option (Option Value)} (h : isRef o = true) : o = some (some (.ref (refD o))) := by
  unfold isRef at h
  split at h
  · rfl
  · cases h
def clsB (K : Frag) (C : Addr) (nm : Str) : Bool :=
  match K.lookup C with
  | some ⟨.type "type", _, .cls cd, sl⟩ =>
    match cd.mro, sl.toList with
    | .ref C' :: bm, [_, _, _, _, some (.builtin n), _] => C' == C && n == "ValueError.__new__" && cd.hasDict && !cd.hasDel && refsVE bm && isBi (alongIn K "__init__" bm) "ValueError.__init__" && cd.name == nm
    | _, _ => false
  | _ => false
theorem clsB_ok {K : Frag} {C : Addr} {nm : Str} (h : clsB K C nm = true) :
    ∃ q N bs bm sn sub ab col dd k0 k1 k2 k3 k5, K.lookup C = some (excClassObj nm q C N bs bm true sn sub ab col dd k0 k1 k2 k3 k5 "ValueError.__new__") ∧ refsVE bm = true ∧ alongIn K "__init__" bm = some (some (.builtin "ValueError.__init__")) := by
  unfold clsB at h
  split at h
  case h_2 => cases h
  rename_i dd cd sl hl
  split at h
  case h_2 => cases h
  rename_i C' bm k0 k1 k2 k3 n k5 hm hs
  simp only [Bool.and_eq_true, Bool.not_eq_true', beq_iff_eq] at h
  obtain ⟨⟨⟨⟨⟨⟨rfl, rfl⟩, h1⟩, h2⟩, h3⟩, h4⟩, rfl⟩ := h
  obtain ⟨nm, bs, mro, ns, q, hd, sn, sub, ab, col, hdel⟩ := cd
  cases hm
  cases h1
  cases h2
  have e : sl = #[k0, k1, k2, k3, some (.builtin "ValueError.__new__"), k5] := by
    cases sl
    cases hs
    rfl
  subst e
  exact ⟨_, _, _, _, _, _, _, _, _, _, _, _, _, _, hl, h3, isBi_ok h4⟩
def fileB (file : Str) : Option Value → Bool
  | some (.str f _) => file == f
  | _ => false
def fnB (K : Frag) (file : Str) (C fI : Addr) : Bool :=
  match K.lookup fI with
  | some ⟨_, _, .func fd, _⟩ =>
    match fd.closure, fd.defaults, fd.kwdefaults, fd.code with
    | [(n, cc)], .none, .none, .ref co =>
      n == "__class__" && codeIn K (.ref co) fd.qualname &&
        (match K.lookup co with
         | some ⟨_, _, .fields vs, _⟩ => fileB file vs[2]?
         | _ => false) &&
        (match K.lookup cc with
         | some ⟨_, _, .cell (some (.ref D)), _⟩ => D == C
         | _ => false)
    | _, _, _, _ => false
  | _ => false
theorem fnB_ok {K : Frag} {file : Str} {C fI : Addr} (h : fnB K file C fI = true) :
    ∃ (oc : Value) (od : Option Addr) (fd : FuncData) (osl : Array (Option Value)) (cc co : Addr) (oc2 : Value) (od2 : Option Addr) (vs : Array Value) (osl2 : Array (Option Value)) (f : Str) (tf : Tok) (oc3 : Value) (od3 : Option Addr) (osl3 : Array (Option Value)),
      K.lookup fI = some ⟨oc, od, .func fd, osl⟩ ∧ fd.closure = [(("__class__" : Str), cc)] ∧ fd.defaults = .none ∧ fd.kwdefaults = .none ∧ fd.code = .ref co ∧ codeIn K (.ref co) fd.qualname = true ∧
        K.lookup co = some ⟨oc2, od2, .fields vs, osl2⟩ ∧ vs[2]? = some (.str f tf) ∧ (file == f) = true ∧ K.lookup cc = some ⟨oc3, od3, .cell (some (.ref C)), osl3⟩ := by
  unfold fnB at h
  split at h
  case h_2 => cases h
  rename_i oc od fd osl hl
  split at h
  case h_2 => cases h
  rename_i n cc co h1 h2 h3 h4
  simp only [Bool.and_eq_true, beq_iff_eq] at h
  obtain ⟨⟨⟨rfl, hc⟩, hb⟩, hd⟩ := h
  split at hb
  case h_2 => cases hb
  rename_i oc2 od2 vs osl2 hl2
  unfold fileB at hb
  split at hb
  case h_2 => cases hb
  rename_i f tf hv
  split at hd
  case h_2 => cases hd
  rename_i oc3 od3 D osl3 hl3
  obtain rfl : D = C := by simpa using hd
  exact ⟨oc, od, fd, osl, cc, co, oc2, od2, vs, osl2, f, tf, oc3, od3, osl3, hl, h1, h2, h3, h4, hc, hl2, hv, hb, hl3⟩
/-- an own error with a field -/
structure ErrD where
  nm : Str
  fld : Str
  tx : Str
  params : Arguments
  body : List Stmt
  scope : Scope
abbrev ErrW : Type := Option (Str × Arguments × FuncBody × Scope × Addr × Addr)
def eI (K : Frag) (nm : Str) : Addr := refD (findIn K (.ref (He.ga K nm)) "__init__")
def errW (K : Frag) (nm : Str) : ErrW :=
  match K.lookup (eI K nm) with
  | some ⟨_, _, .func fd, _⟩ => some (fd.name, fd.params, fd.body, fd.scope, fd.globals, fd.builtins)
  | _ => none
def ErrD.val (e : ErrD) : ErrW := some ("__init__", e.params, .stmts e.body, e.scope, mainGlobals, builtinsNs)
def errB (file : Str) (K : Frag) (nm fld : Str) : Bool :=
  clsB K (He.ga K nm) nm && fnB K file (He.ga K nm) (eI K nm) && isRef (nsIn K mainGlobals nm) && He.Fa.ok K (.free "super") && isNo (nsIn K cStatics "thirdparty.any") &&
    isBi (findIn K (.ref (He.ga K nm)) "__setattr__") "object.__setattr__" && isNo (findIn K (.ref (He.ga K nm)) fld) && isRef (findIn K (.ref (He.ga K nm)) "__init__") &&
    isTy (typeIn K (.ref (eI K nm))) "function" && keepIn K (.ref (He.ga K nm)) && (subIn K (.ref (He.ga K nm)) (.type "BaseException") == some true) && (subIn K (.ref (He.ga K nm)) (.type "ValueError") == some true) &&
    excInitIn K (He.ga K nm) [.type "ValueError", .type "Exception", .type "BaseException", .type "object"] "ValueError.__new__" && (mroIn K (He.ga K nm) (.ref (He.ga K nm)) == some true) &&
    isTy (typeIn K (.ref (He.ga K nm))) "type" && (exmOne K (.ref (He.ga K nm)) (.ref (He.ga K nm)) == some true)
/-- the text of such an error is of the form that is told above -/
def ErrD.Good (e : ErrD) : Prop := ∃ (p1 p2 a0 a1 a2 a3 a4 a5 b1 b2 b3 b4 q0 q1 q2 : Pos) (kk : Nat), e.params = eArgs e.fld p1 p2 ∧ e.body = eBody e.fld [.Constant (.str e.tx) kk q0, .FormattedValue (.Name e.fld q1) (-1) none q2] a0 a1 a2 a3 a4 a5 b1 b2 b3 b4 ∧ e.scope = eScope e.fld ∧ (a2.endLine == a4.line) = true ∧ (e.fld = "index" ∨ e.fld = "limit" ∨ e.fld = "word") ∧ e.tx.length ≤ 100
theorem ga_ok {K : Frag} {h : Heap} {mg : Str → Option Value} {nm : Str} (X : K.In h) (G : h.Ns mainGlobals mg) (c : isRef (nsIn K mainGlobals nm) = true) : mg nm = some (.ref (He.ga K nm)) := by
  have e := isRef_ok c
  have z : refD (nsIn K mainGlobals nm) = He.ga K nm := by
    unfold He.ga refD
    rw [e]
  rw [z] at e
  exact mg_of X G e
theorem err_ok {prog : Program} {K : Frag} {h : Heap} {mg : Str → Option Value} {e : ErrD} (X : K.In h) (G : h.Ns mainGlobals mg) (hs : (List.lookup ("super" : Str) prog.main.scope.names).isSome = false)
    (g : e.Good) (c : errB prog.main.file K e.nm e.fld = true) (v : errW K e.nm = e.val) : ErrTxt prog K mg e.nm e.fld e.tx (He.ga K e.nm) (eI K e.nm) := by
  unfold errB at c
  simp only [Bool.and_eq_true, beq_iff_eq] at c
  obtain ⟨⟨⟨⟨⟨⟨⟨⟨⟨⟨⟨⟨⟨⟨⟨c1, c2⟩, c3⟩, c4⟩, c5⟩, c6⟩, c7⟩, c8⟩, c9⟩, c10⟩, c11⟩, c12⟩, c13⟩, c14⟩, c15⟩, c16⟩ := c
  obtain ⟨p1, p2, a0, a1, a2, a3, a4, a5, b1, b2, b3, b4, q0, q1, q2, kk, g1, g2, g3, g4, g5, g6⟩ := g
  obtain ⟨oc, od, fd, osl, cc, co, oc2, od2, vs, osl2, f, tf, oc3, od3, osl3, f1, f2, f3, f4, f5, f6, f7, f8, f9, f10⟩ := fnB_ok c2
  refine { gC := ga_ok X G c3, sup := ?_, cls := clsB_ok c1, op := isNo_ok c5, sa := isBi_ok c6, noN := isNo_ok c7, iC := isRef_ok c8, tC := isTy_ok c9, kC := c10, exC := ?_, veC := ?_, init := c13, seC := ?_, tyC := isTy_ok c15, te := ?_, nosup := hs, nf := g5, hl := g6, fn := ?_ }
  · exact He.free_ok X G c4
  · exact c11
  · exact c12
  · exact c14
  · exact c16
  · unfold errW at v
    rw [f1] at v
    obtain ⟨name, qual, params, body, scope, globals, closure, defaults, kwdefaults, doc, pm, an, code, ct, blt⟩ := fd
    cases f2
    cases f3
    cases f4
    cases f5
    have v' := Option.some.inj v
    simp only [Prod.mk.injEq] at v'
    obtain ⟨rfl, rfl, rfl, rfl, rfl, rfl⟩ := v'
    rw [g1, g2, g3] at f1
    exact ⟨oc, od, qual, doc, pm, an, cc, co, ct, osl, oc2, od2, vs, osl2, _, p1, p2, a0, a1, a2, a3, a4, a5, b1, b2, b3, b4, q0, q1, q2, kk, f, tf, f1, f6, f7, f8, f9, f10, rfl, g4⟩
/-! an own error without __init__ of its own -/
structure PlnTxt (K : Frag) (mg : Str → Option Value) (nm : Str) (C : Addr) : Prop where
  gC : mg nm = some (.ref C)
  ex : excIn K C [.type "ValueError", .type "Exception", .type "BaseException", .type "object"] "ValueError.__new__" = true
  kC : keepIn K (.ref C) = true
  exC : subIn K (.ref C) (.type "BaseException") = some true
  tyC : typeIn K (.ref C) = some (.type "type")
  te : exmOne K (.ref C) (.ref C) = some true
def plnB (K : Frag) (nm : Str) : Bool :=
  isRef (nsIn K mainGlobals nm) && excIn K (He.ga K nm) [.type "ValueError", .type "Exception", .type "BaseException", .type "object"] "ValueError.__new__" && keepIn K (.ref (He.ga K nm)) &&
    (subIn K (.ref (He.ga K nm)) (.type "BaseException") == some true) && isTy (typeIn K (.ref (He.ga K nm))) "type" && (exmOne K (.ref (He.ga K nm)) (.ref (He.ga K nm)) == some true)
theorem pln_ok {K : Frag} {h : Heap} {mg : Str → Option Value} {nm : Str} (X : K.In h) (G : h.Ns mainGlobals mg) (c : plnB K nm = true) : PlnTxt K mg nm (He.ga K nm) := by
  unfold plnB at c
  simp only [Bool.and_eq_true, beq_iff_eq] at c
  obtain ⟨⟨⟨⟨⟨c1, c2⟩, c3⟩, c4⟩, c5⟩, c6⟩ := c
  exact ⟨ga_ok X G c1, c2, c3, c4, isTy_ok c5, c6⟩
/-! the hook -/
def asE (g : Addr → Option Obj) : Nat → List Addr
  | 0 => [mainGlobals, cStatics]
  | n + 1 => He.growD g (asE g n)
def asF (g : Addr → Option Obj) (n : Nat) : List Addr := asE g n ++ [sysModules]
abbrev AlE : Type := He.AlX × List ErrW
def obsE (n : Nat) (fa : List He.Fa) (fn : List He.DefD) (ers : List ErrD) (ex : Frag → Bool) (g : Addr → Option Obj) : AlE :=
  ((He.obsT fa fn [] (He.frT g (asF g n)), ex (He.frT g (asF g n))), ers.map fun e => errW (He.frT g (asF g n)) e.nm)
structure SaysE (fa : List He.Fa) (fn : List He.DefD) (ers : List ErrD) (ex : Frag → Bool) (w : World) (h : Heap) (K : Frag) : Prop where
  x : He.SaysX fa fn [] [] ex w h K
  e : (ers.map fun e => errW K e.nm) = ers.map ErrD.val
def hookE (n : Nat) (fa : List He.Fa) (fn : List He.DefD) (ers : List ErrD) (ex : Frag → Bool) : Hook where
  α := AlE
  obs := fun s => obsE n fa fn ers ex s.heap.get?
  val := fun w => ((He.valT fn [] w, true), ers.map ErrD.val)
  says := fun w h => ∃ K, K.In h ∧ SaysE fa fn ers ex w h K
  of := by
    intro w s e
    have e1 := congrArg (fun z => z.1.1) e
    have e2 := congrArg (fun z => z.1.2) e
    have e3 := congrArg (fun z => z.2) e
    exact ⟨_, He.frT_in, ⟨⟨e1, e2, (fun _ z => nomatch z), (fun _ z => nomatch z), (fun _ z => nomatch z)⟩, e3⟩⟩
  keeps := by
    rintro w h h' ⟨K, X, c⟩ k
    exact ⟨K, X.keeps k, ⟨⟨c.x.t, c.x.more, (fun _ z => nomatch z), (fun _ z => nomatch z), (fun _ z => nomatch z)⟩, c.e⟩⟩
theorem obsE_eq {n : Nat} {fa : List He.Fa} {fn : List He.DefD} {ers : List ErrD} {ex : Frag → Bool} {g : Addr → Option Obj} {s : Shared} (h : ∀ a, g a = s.heap.get? a) : obsE n fa fn ers ex g = (hookE n fa fn ers ex).obs s := by
  have e := funext h
  rw [e]
  rfl
end EXS
namespace SB
open PySem PySem.Spec PyProof.Rows L2 Evl
def inB : Stmt → Nat → Stmt
  | .ClassDef (body := b) .., j => b.getD j (.Pass ⟨0, 0, 0, 0⟩)
  | s, _ => s
section
variable {X : Cx} {CX : CXT} {k j : Nat} {ps ks : List Str} {sp : Sp} {E : L2.St → XK} {x : Str} {p pos : Pos} {e : Expr} {es : List Expr} {t tk : TA}
theorem pe_calS (F : Cal X.prog X.w X.K X.mg X.base CX k x ps sp) (hr : Room k X.A) (hx : ∀ σ, PassesAt CX X σ (E σ)) (ha : PA X (e :: es) t) (hg : Gl X x := by rfl) (hdb : (x == ("__debug__" : Str)) = false := by decide)
    (he : starEach (e :: es) X.env = (false, eval e X.env) :: starEach es X.env := by rfl) (hpl : (backTo pos (starEach es X.env)).any (·.1) = false := by rfl) :
    PE X (.Call (.Name x p) (e :: es) [] pos) (tCallS sp E t) := by
  obtain ⟨f, fd, e1, e2, e3, e4⟩ := F.ex
  exact pe_callS e4 hr hg e1 e2 e3 hx ha hdb he hpl
end
section
variable {P : Program} {w : World} {K : PySem.W.Frag} {mg : Str → Option Value} {base : Heap}
/-- a def that raises: its surroundings with the way out -/
theorem Df.calX {CX : CXT} {k : Nat} {x : Str} {st : Stmt} {N ps : List Str} {sp : Sp} (D : Df K mg x st) (S : FnScope N ps (defScope st)) (len : ∀ vs H Q E, sp vs H Q E → vs.length = ps.length)
    (hb : ∀ (kV doc pm : Value) (an : Option Addr) (cdv ct : Value) (us : List Value), us.length = ps.length → bindArgs (PySem.W.fnOf x x (defArgs st) (defBody st) (defScope st) .none kV doc pm an cdv ct) ⟨us, []⟩ = pure (ps.zip us))
    (body : ∀ (f : Addr) (cdv : Value) (A : Around) (outer : List Env) (s : Shared) (H : Hp) (vs : List V) (Q : VK) (E : XK), Room k (A.deeper (envOfC x (defScope st) s.heap.objs.size f cdv)) → sp vs H Q E →
      ∃ t, PSs (cxOf CX P w K mg base N x (defScope st) f cdv A outer s H E) (defBody st) t ∧ t { nx := fun _ H' => Q .non H', rt := Q } (start N vs) H) :
    Cal P w K mg base CX (k + 1) x ps sp := by
  obtain ⟨e, fd, F⟩ := D
  exact ⟨_, fd, e, F.kp, FunD.bindsN F hb, FunD.ok F S len (fun cdv A outer s H vs Q E hr h => body _ cdv A outer s H vs Q E hr h)⟩
/-- what never raises of it -/
theorem Cal.calm {k : Nat} {x : Str} {ps : List Str} {sp : Sp} (F : Cal P w K mg base (L2.CX P w) k x ps sp) : Cal P w K mg base CX0 k x ps (fun vs H Q _ => sp vs H Q fun _ _ _ => False) := by
  obtain ⟨f, fd, e1, e2, e3, e4⟩ := F.ex
  refine ⟨f, fd, e1, e2, e3, fun vs H Q E h => e4.len vs H Q _ h, fun A outer s H ar us vs Q E r e b v h => ?_⟩
  refine codeAny_mono (e4.run A outer s H ar us vs Q _ r e b v h) ?_
  intro r s' z
  match r, z with
  | .ok (.ret u), z => exact z
  | .error e, ⟨a, B, H', cls, d, _, _, _, _, _, _, _, z⟩ => exact z.elim
theorem Cal.spm {CX : CXT} {k : Nat} {x : Str} {ps : List Str} {sp sp2 : Sp} (F : Cal P w K mg base CX k x ps sp) (h : ∀ vs H Q E, sp2 vs H Q E → sp vs H Q E) : Cal P w K mg base CX k x ps sp2 := by
  obtain ⟨f, fd, e1, e2, e3, e4⟩ := F.ex
  exact ⟨f, fd, e1, e2, e3, fun vs H Q E z => e4.len vs H Q E (h _ _ _ _ z), fun A outer s H ar us vs Q E r e b v z => e4.run A outer s H ar us vs Q E r e b v (h _ _ _ _ z)⟩
end
section
variable {X : Cx} {CX : CXT} {k : Nat} {ps : List Str} {sp : Sp} {E : XK} {x : Str} {p pos : Pos}
theorem pe_calG0 (F : CalG X.prog X.w X.K X.mg X.base CX k x ps sp) (hr : Room k X.A) (gd : X.A.guards = some []) (hx : Passes CX X E) (hg : Gl X x := by rfl) (hdb : (x == ("__debug__" : Str)) = false := by decide) :
    PE X (.Call (.Name x p) [] [] pos) (tCall sp [] E tNil) := by
  obtain ⟨f, fd, e1, e2, e3, e4⟩ := F.ex
  constructor
  intro pins s σ H Q I h
  refine wpAny_Call_Name_kw (ld_glob I hg e1 ?_ hdb)
  exact PySem.W.callWith_K0 I.kIn e2 (runG (us := []) (vs := []) e4 hr gd e3 .nil hx I .nil h)
end
/-! any values -/
def okB (lo hi : Int) : V → Bool
  | .int i => decide (lo ≤ i ∧ i ≤ hi)
  | _ => false
def okP : V → Bool
  | .str s => inV (.str s) [.str "none", .str "even", .str "odd"]
  | _ => false
/-- the first wrong item -/
def flt (x y z : V) : Option Int := if okB 1 9 x = true then (if okP y = true then (if okB 1 2 z = true then none else some 2) else some 1) else some 0
def Any (K : PySem.W.Frag) (H : Hp) (v : V) : Prop := ∃ n, TyN K H v n
theorem Any.ex {K : PySem.W.Frag} {H H' : Hp} {v : V} (e : Ex H H') (h : Any K H v) : Any K H' v := by
  obtain ⟨n, h⟩ := h
  cases h with
  | non => exact ⟨_, .non⟩
  | bl b => exact ⟨_, .bl b⟩
  | int i => exact ⟨_, .int i⟩
  | str x => exact ⟨_, .str x⟩
  | lst h => exact ⟨_, .lst (ex_l e h)⟩
  | tup h => exact ⟨_, .tup (ex_t e h)⟩
  | dct h => exact ⟨_, .dct (e _ _ h)⟩
end SB
namespace SB
open PySem PySem.Spec PyProof.Rows L2 Evl PySem.HandSPX
/-! several clauses «except C as n», all of them of own classes, and nothing else is raised -/
inductive HdsA (X : Cx) : List ExceptHandler → List (Value × Nat × (Addr → Value → Option Addr → TS)) → Prop where
  | nil : HdsA X [] []
  | cons {x n : Str} {c : Value} {i : Nat} {ts : Addr → Value → Option Addr → TS} {b₀ : Stmt} {suite : List Stmt} {np pos' : Pos} {hds : List ExceptHandler} {l : List (Value × Nat × (Addr → Value → Option Addr → TS))}
      (hg : Gl X x) (hd : (x == ("__debug__" : Str)) = false) (hm : X.mg x = some c) (hi : X.N[i]? = some n) (hk : X.env.kindOf n = some .local) (hfn : X.fn n = true ∨ List.lookup n X.env.scope.names = some .local)
      (hs : ∀ (a : Addr) (oe : Obj) (cls : Value) (d : Option Addr) (pn : List (Addr × Obj)), Zc cls d oe → (∃ vs, oe.data = .fields vs) → PSs (X.suite a ((a, oe) :: pn)) (b₀ :: suite) (ts a cls d))
      (r : HdsA X hds l) : HdsA X (.ExceptHandler (some (.Name x np)) (some n) (b₀ :: suite) pos' :: hds) ((c, i, ts) :: l)
def wManyA (K : PySem.W.Frag) (D : L2.Ends) : List (Value × Nat × (Addr → Value → Option Addr → TS)) → WX
  | [] => fun _ _ _ _ => False
  | (c, i, ts) :: r => fun cls d σ H => ∃ b, PySem.W.exmOne K cls c = some b ∧
      (b = true → ∀ a, H a = none → ts a cls d { nx := fun σ' H' => D.nx (σ'.set i none) H', rt := D.rt, bk := fun σ' H' => D.bk (σ'.set i none) H', ct := fun σ' H' => D.ct (σ'.set i none) H' } (σ.set i (some (.ref a))) H) ∧
      (b = false → wManyA K D r cls d σ H)
theorem frames_ne {h B : Heap} {a : Addr} {oe : Obj} {vs : Array Value} (ha : h.get? a = some oe) (hd : oe.data = .fields vs) : ∀ l : List Env, h.FunFrames B l → a ∉ frs l
  | [], _ => fun z => by simp [frs] at z
  | env :: rest, f => by
    obtain ⟨_, ⟨L, o, hf, _, hL, ho⟩, f2⟩ := f
    have ih := frames_ne ha hd rest f2
    intro z
    unfold frs at z ih
    rw [List.filterMap_cons, hf] at z
    rcases List.mem_cons.mp z with z | z
    · subst z
      rw [ha] at hL
      cases hL
      exact ho vs hd
    · exact ih z
theorem slots_trans {h h' h'' : Heap} (x : h.UpToSlots h') (y : h'.UpToSlots h'') : h.UpToSlots h'' := fun b o e n => by
  obtain ⟨sl, e1⟩ := x b o e n
  obtain ⟨sl2, e2⟩ := y b _ e1 n
  exact ⟨sl2, e2⟩
section
variable {X : Cx}
theorem look_cls {M : Model} {h : Heap} {a : Addr} {oe : Obj} (e : h.get? a = some oe) : PySem.W.Looks M h (typeOf (.ref a)) oe.cls := by
  have X1 : PySem.W.Frag.In [(a, oe)] h := fun b o z => by
    by_cases hb : b = a
    · subst hb
      rw [List.lookup_cons_self] at z
      cases z
      exact e
    · rw [List.lookup_cons, show (b == a) = false from by simpa using hb] at z
      cases z
  refine PySem.W.looks_typeIn X1 ?_
  show Option.map _ (List.lookup a [(a, oe)]) = _
  rw [List.lookup_cons_self]
  rfl
theorem handleA {pins : List (Addr × Obj)} {D : L2.Ends} {hds : List ExceptHandler} {l : List (Value × Nat × (Addr → Value → Option Addr → TS))} (hs : X.stack = X.env :: X.outer) (hf : X.env.frame = some X.env.locals) (hN : X.N.Nodup) (ok : X.Ok)
    {a : Addr} {B : Heap} {sI : Shared} {σ : L2.St} {H : Hp} {cls : Value} {d : Option Addr} (J : Inv X pins σ H sI) (gr : ∀ b o, sI.heap.get? b = some o → b ∉ frs X.stack → B.get? b = some o) (ha : H a = none) :
    HdsA X hds l → ∀ s₁ : Shared, FlyingZ B X.stack a (Zc cls d) s₁.heap → sI.heap.UpToSlots s₁.heap → s₁.os = sI.os → AllBare s₁.gens → wManyA X.K D l cls d σ H →
      wpAny (model X.prog X.w) X.A (handleBy (.ref a) X.env hds) (SP X pins D) X.xe s₁ := by
  intro hh
  induction hh with
  | nil => exact fun _ _ _ _ _ w => w.elim
  | @cons x n c i ts b₀ suite np pos' hds l hg hd hm hi hk hfn hsu r ih =>
    intro s₁ fl up os bare w
    obtain ⟨b, hb, wt, wf⟩ := w
    have J1 : Inv X pins σ H s₁ := J.landed gr fl.1 up os bare
    have ne1 : ∀ {s₂ : Shared} {oe : Obj} {vs : Array Value}, FlyingZ B X.stack a (Zc cls d) s₂.heap → s₂.heap.get? a = some oe → oe.data = .fields vs → a ≠ X.env.locals ∧ a ∉ X.fs := by
      intro s₂ oe vs fl2 e1 e2
      have z := frames_ne e1 e2 _ fl2.2.2.1
      rw [hs] at z
      unfold frs at z
      rw [List.filterMap_cons, hf] at z
      exact ⟨fun q => z (by rw [q]; exact List.mem_cons_self), fun q => z (List.mem_cons_of_mem _ q)⟩
    obtain ⟨oe, vs, e1, e2, e3⟩ := fl.there
    obtain ⟨n1, n2⟩ := ne1 fl e1 e3
    have JS : Inv (X.suite a ((a, oe) :: (X.pn ++ pins))) [] σ H s₁ := J1.suite e1 e3 ha n1 n2
    refine PySem.W.exc_clause_as (ld_glob (X := X.suite a ((a, oe) :: (X.pn ++ pins))) JS hg hm ⟨b, ?_, ?_⟩ hd)
    · have lc := look_cls (M := model X.prog X.w) e1
      rw [e2.1] at lc
      exact PySem.W.exm_one J1.kIn lc hb
    by_cases hbt : b = true
    · rw [if_pos hbt]
      refine lands_againZ fl fun h' fl' up' => ?_
      have up2 := slots_trans up up'
      have J2 : Inv X pins σ H ⟨h', s₁.gens, s₁.drawn, s₁.toks, s₁.os⟩ := J.landed gr fl'.1 up2 os bare
      obtain ⟨oe, vs, e1, e2, e3⟩ := fl'.there
      obtain ⟨n1, n2⟩ := ne1 (s₂ := ⟨h', s₁.gens, s₁.drawn, s₁.toks, s₁.os⟩) fl' e1 e3
      have JS : Inv (X.suite a ((a, oe) :: (X.pn ++ pins))) [] σ H ⟨h', s₁.gens, s₁.drawn, s₁.toks, s₁.os⟩ := J2.suite e1 e3 ha n1 n2
      refine store_ok (X := X.suite a ((a, oe) :: (X.pn ++ pins))) (v := .ref a) JS hN hi (Or.inl hk) rfl (fun s₃ J3 => ?_) hfn
      refine wpAny_mono ((hsu a oe cls d (X.pn ++ pins) e2 ⟨_, e3⟩).run [] s₃ _ _ _ J3 (wt hbt a ha)) ?_ (fun _ _ z => z.elim)
      intro f s₄ z
      cases f with
      | next =>
        obtain ⟨σ', H', J4, q⟩ := z
        exact gone_ok (J4.unsuite ok) hN hi hk fun s' J' => ⟨_, _, J', q⟩
      | brk =>
        obtain ⟨σ', H', J4, q⟩ := z
        exact gone_ok (J4.unsuite ok) hN hi hk fun s' J' => ⟨_, _, J', q⟩
      | cont =>
        obtain ⟨σ', H', J4, q⟩ := z
        exact gone_ok (J4.unsuite ok) hN hi hk fun s' J' => ⟨_, _, J', q⟩
      | ret u =>
        obtain ⟨v, σ', H', J4, rv, q⟩ := z
        exact gone_ok (J4.unsuite ok) hN hi hk fun s' J' => ⟨v, _, _, J', rv, q⟩
    · rw [if_neg hbt]
      exact ih s₁ fl up os bare (wf (by simpa using hbt))
theorem ps_try_manyA {body : List Stmt} {h₀ : ExceptHandler} {hds : List ExceptHandler} {l : List (Value × Nat × (Addr → Value → Option Addr → TS))} {pos : Pos} {tb : WX → TS}
    (hs : X.stack = X.env :: X.outer) (hf : X.env.frame = some X.env.locals) (hN : X.N.Nodup)
    (hb : ∀ (W : WX) (pn : List (Addr × Obj)) (xe : Value → Shared → Prop), Takes (X.tr pn xe) W → PSs (X.tr pn xe) body (tb W)) (hh : HdsA X (h₀ :: hds) l) :
    PS X (.Try body (h₀ :: hds) [] [] pos) (fun D σ H => tb (wManyA X.K D l) D σ H) := by
  constructor
  intro pins s σ H D I h
  refine wpAny_Try_except ?_
  have frm : X.A.frames = some (X.env :: X.outer) := by rw [← hs]; exact I.ok.frames
  refine wpAny_mono ((hb (wManyA X.K D l) (X.pn ++ pins) (fun e s₁ => wpAny (model X.prog X.w) X.A (noteFrame e X.env) (fun _ s₂ => wpAny (model X.prog X.w) X.A (setFlight e none) (fun _ s₃ => wpAny (model X.prog X.w) X.A (handleBy e X.env (h₀ :: hds)) (SP X pins D) X.xe s₃) X.xe s₂) X.xe s₁) ?_).run [] s σ H D (I.toTry _) h) ?_ (fun _ _ z => z)
  · rintro u s' ⟨a, B, sI, pins', σ', H', cls, d, rfl, J, gr, up, sky, ha, os, bare, w⟩
    have J2 : Inv X pins σ' H' sI := J.ofTry I.ok
    refine Sky.land Zc.steady frm hf (by rw [← hs]; exact sky) fun h' fl up' => ?_
    rw [← hs] at fl
    exact handleA hs hf hN I.ok J2 gr ha hh _ fl (slots_trans up up') os bare w
  · intro f s₁ z
    cases f with
    | next =>
      obtain ⟨σ', H', J, q⟩ := z
      exact wpAny_execs_nil ⟨σ', H', J.ofTry I.ok, q⟩
    | brk =>
      obtain ⟨σ', H', J, q⟩ := z
      exact ⟨σ', H', J.ofTry I.ok, q⟩
    | cont =>
      obtain ⟨σ', H', J, q⟩ := z
      exact ⟨σ', H', J.ofTry I.ok, q⟩
    | ret u =>
      obtain ⟨v, σ', H', J, rv, q⟩ := z
      exact ⟨v, σ', H', J.ofTry I.ok, rv, q⟩
end
end SB
namespace SB
open PySem PySem.Spec PyProof.Rows L2 Evl
/-! repr of data that may hold dicts of at most one entry -/
def keyD : Key → PyData
  | .inl i => .int i
  | .inr x => .str x
inductive DpD (K : PySem.W.Frag) (H : Hp) : V → PyData → Prop where
  | old {v : V} {d : PyData} (h : Dp K H v d) (n : d.hasDict = false) : DpD K H v d
  | dct0 {a : Addr} (h : H a = some (.dK [])) : DpD K H (.ref a) (.dict [])
  | dct1 {a : Addr} {k : Key} {v : V} {d : PyData} (h : H a = some (.dK [(k, v)])) (hd : Dp K H v d) (n : d.hasDict = false) : DpD K H (.ref a) (.dict [(keyD k, d)])
  | lst {a : Addr} {xs : List V} {ds : List PyData} (h : SqL K H a xs) (hl : xs.length = ds.length) (hi : ∀ (i : Nat) (v : V) (d : PyData), xs[i]? = some v → ds[i]? = some d → DpD K H v d) : DpD K H (.ref a) (.list ds)
  | tup {a : Addr} {xs : List V} {ds : List PyData} (h : SqT K H a xs) (hl : xs.length = ds.length) (hi : ∀ (i : Nat) (v : V) (d : PyData), xs[i]? = some v → ds[i]? = some d → DpD K H v d) : DpD K H (.ref a) (.tuple ds)
mutual
theorem rdL {h : Heap} {v : Value} {d : PyData} {as : List Addr} (r : Reads h v d as) (n : d.hasDict = false) : ∀ a ∈ as, ∃ o, h.get? a = some o ∧ o.cls = Value.type "list" := by
  cases r with
  | none => intro a z; cases z
  | bool b => intro a z; cases z
  | int i t => intro a z; cases z
  | str x t => intro a z; cases z
  | list e c dd r =>
    intro a z
    rcases List.mem_cons.mp z with rfl | z
    · exact ⟨_, e, c⟩
    · exact rdA r (by simpa [PyData.hasDict] using n) a z
  | tuple e c dd r =>
    intro a z
    exact rdA r (by simpa [PyData.hasDict] using n) a z
  | dict e c dd r1 r2 => simp [PyData.hasDict] at n
theorem rdA {h : Heap} {vs : List Value} {ds : List PyData} {as : List Addr} (r : ReadsAll h vs ds as) (n : PyData.hasDictAll ds = false) : ∀ a ∈ as, ∃ o, h.get? a = some o ∧ o.cls = Value.type "list" := by
  cases r with
  | nil => intro a z; cases z
  | cons r1 r2 =>
    simp only [PyData.hasDictAll, Bool.or_eq_false_iff] at n
    intro a z
    rcases List.mem_append.mp z with z | z
    · exact rdL r1 n.1 a z
    · exact rdA r2 n.2 a z
end
theorem sys_not {h : Heap} {as : List Addr} (hs : ∃ o, h.get? sysModules = some o ∧ o.cls = Value.type "dict") (r : ∀ a ∈ as, ∃ o, h.get? a = some o ∧ o.cls = Value.type "list") : ¬ sysModules ∈ as := fun z => by
  obtain ⟨o, e, c⟩ := r _ z
  obtain ⟨o', e', c'⟩ := hs
  rw [e] at e'
  cases e'
  rw [c] at c'
  simp at c'
theorem key_rd {h : Heap} {k : Key} {u : Value} (e : keyIs k u = true) : Reads h u (keyD k) [] := by
  cases k with
  | inl i =>
    cases u <;> simp [keyIs, Value.isInt] at e
    subst e
    exact .int _ _
  | inr x =>
    cases u <;> simp [keyIs, Value.isStrOf] at e
    subst e
    exact .str _ _
section
variable {X : Cx} {pins : List (Addr × Obj)} {σ : L2.St} {H : Hp} {s : Shared}
theorem all_rd {h : Heap} : ∀ {us : List Value} {ds : List PyData}, us.length = ds.length → (∀ (i : Nat) (u : Value) (d : PyData), us[i]? = some u → ds[i]? = some d → ∃ as, Reads h u d as ∧ ¬ sysModules ∈ as) → ∃ as, ReadsAll h us ds as ∧ ¬ sysModules ∈ as
  | [], [], _, _ => ⟨[], .nil, fun z => by cases z⟩
  | u :: us, d :: ds, hl, hi => by
    obtain ⟨as, r, n⟩ := hi 0 u d rfl rfl
    obtain ⟨bs, r2, n2⟩ := all_rd (us := us) (ds := ds) (by simpa using hl) (fun i u d h1 h2 => hi (i + 1) u d h1 h2)
    exact ⟨as ++ bs, .cons r r2, fun z => (List.mem_append.mp z).elim n n2⟩
theorem vals_at : ∀ {vs : List V} {us : List Value} {i : Nat} {u : Value}, Vals vs us → us[i]? = some u → ∃ v, vs[i]? = some v ∧ RelV v u
  | _, _, 0, _, .cons r _, h => by
    cases h
    exact ⟨_, rfl, r⟩
  | _, _, i + 1, _, .cons _ r, h => vals_at (i := i) r h
theorem readsD (I : Inv X pins σ H s) (hs : ∃ o, s.heap.get? sysModules = some o ∧ o.cls = Value.type "dict") {v : V} {d : PyData} (h : DpD X.K H v d) : ∀ u, RelV v u → ∃ as, Reads s.heap u d as ∧ ¬ sysModules ∈ as := by
  induction h with
  | old h n =>
    intro u r
    obtain ⟨as, rd⟩ := Dp.reads I _ _ u h r
    exact ⟨as, rd, sys_not hs (rdL rd n)⟩
  | dct0 h =>
    intro u r
    cases (show u = Value.ref _ from r)
    obtain ⟨_, ne, vs, kv, o, es, ep, e1, e2, e3, e4, e5, e6⟩ := dk_of I.hok h
    cases kv
    have e : es.toList = [] := by
      cases hh : es.toList with
      | nil => rfl
      | cons x y => rw [hh] at e5; cases e5
    refine ⟨_, .dict (as := []) (bs := []) e1 e2.1 e3 (by rw [e]; exact .nil) (by rw [e]; exact .nil), ?_⟩
    simpa using fun z => by
      have z' : sysModules = _ := z
      rw [z'] at ne
      simp at ne
  | @dct1 a k v d h hd n =>
    intro u r
    cases (show u = Value.ref _ from r)
    obtain ⟨_, ne, vs, kv, o, es, ep, e1, e2, e3, e4, e5, e6⟩ := dk_of I.hok h
    obtain ⟨k', y, rfl, rfl, rv⟩ : ∃ k' y, vs = [(k', y)] ∧ k' = k ∧ RelV v y := by
      cases kv with
      | cons k1 k2 =>
        cases k2
        exact ⟨_, _, rfl, k1.1.symm, k1.2⟩
    obtain ⟨e, ee, ek, ev⟩ : ∃ e, es.toList = [e] ∧ keyIs k' e.key = true ∧ e.val = y := by
      cases hh : es.toList with
      | nil => rw [hh] at e5; cases e5
      | cons x l =>
        rw [hh] at e5
        cases e5 with
        | cons q1 q2 q3 =>
          cases q3
          exact ⟨x, rfl, q1, q2⟩
    obtain ⟨as, rd⟩ := Dp.reads I _ _ y hd rv
    refine ⟨_, .dict (as := [] ++ []) (bs := as ++ []) e1 e2.1 e3 ?_ ?_, ?_⟩
    · rw [ee]
      exact .cons (key_rd ek) .nil
    · rw [ee]
      show ReadsAll _ [e.val] _ _
      rw [ev]
      exact .cons rd .nil
    · have nn := sys_not hs (rdL rd n)
      intro z
      simp only [List.append_nil, List.nil_append, List.mem_append, List.mem_cons, List.not_mem_nil, or_false] at z
      rcases z with z | z
      · rw [z] at ne
        simp at ne
      · exact nn z
  | lst h hl hi ih =>
    intro u r
    cases (show u = Value.ref _ from r)
    obtain ⟨its, vl, pl, _⟩ := I.list h
    obtain ⟨as, rd, nn⟩ := all_rd (h := s.heap) (us := its) (by rw [← vl.length, hl]) fun i u d h1 h2 => by
      obtain ⟨v, hv, rv⟩ := vals_at vl h1
      exact ih i v d hv h2 u rv
    obtain ⟨o, nn2, e1, e2, _, e3⟩ := pl
    refine ⟨_, .list e1 e2 e3 rd, fun z => ?_⟩
    rcases List.mem_cons.mp z with z | z
    · obtain ⟨o', e', c'⟩ := hs
      rw [z, e1] at e'
      cases e'
      rw [e2] at c'
      simp at c'
    · exact nn z
  | tup h hl hi ih =>
    intro u r
    cases (show u = Value.ref _ from r)
    obtain ⟨its, vl, pl, _⟩ := I.tuple h
    obtain ⟨as, rd, nn⟩ := all_rd (h := s.heap) (us := its) (by rw [← vl.length, hl]) fun i u d h1 h2 => by
      obtain ⟨v, hv, rv⟩ := vals_at vl h1
      exact ih i v d hv h2 u rv
    obtain ⟨o, e1, e2, nn2, e3⟩ := pl
    exact ⟨_, .tuple e1 e2 e3 rd, nn⟩
end
/-- what repr asks of data -/
def Shw (d : PyData) : Prop := d.showable = true ∧ d.depth ≤ 60 ∧ d.shown.length ≤ sizeLine
def rRd (K : PySem.W.Frag) : List V → Hp → VK → Prop := fun xs H Q => ∃ v d, xs = [v] ∧ DpD K H v d ∧ Shw d ∧ Q (.str d.shown) H
def SysK (K : PySem.W.Frag) : Prop := ∃ o, K.lookup sysModules = some o ∧ o.cls = Value.type "dict"
def sysB (K : PySem.W.Frag) : Bool := match K.lookup sysModules with
  | some ⟨.type n, _, _, _⟩ => n == "dict"
  | _ => false
theorem sys_ok {K : PySem.W.Frag} (h : sysB K = true) : SysK K := by
  unfold sysB at h
  split at h
  · rename_i n a b c e
    have q := beq_iff_eq.mp h
    subst q
    exact ⟨_, e, rfl⟩
  · cases h
theorem call_rd {X : Cx} (sy : SysK X.K) (hg : X.A.guards = some []) (hu : X.A.units + 64 < cLine) : CallR X (.builtin "repr") (rRd X.K) := by
  intro pins s σ H xs us Q I r h
  obtain ⟨v, d, rfl, hd, ⟨h1, h3, h4⟩, q⟩ := h
  by_cases hn : d.hasDict = false ∧ Dp X.K H v d
  · exact call_rp hg hu pins s σ H [v] us Q I r ⟨v, d, rfl, hn.2, h1, hn.1, h3, h4, q⟩
  obtain ⟨u, rfl, ru⟩ := vals1 r
  have hs : ∃ o, s.heap.get? sysModules = some o ∧ o.cls = Value.type "dict" := by
    obtain ⟨o, e, c⟩ := sy
    exact ⟨o, I.kIn _ _ e, c⟩
  obtain ⟨as, rd, nn⟩ := readsD I hs hd u ru
  have fin : ∀ a, u = Value.ref a → wpAny (model X.prog X.w) X.A (call (.builtin "repr") [u]) (EP X pins σ Q) X.xe s := by
    intro a e
    subst e
    exact PySem.repr_of_reads' rd h1 (fun _ => nn) hg (by omega) (fun _ _ e => e) (fun h' u tk hk => ⟨.str _, H, I.kept hk, ⟨_, rfl⟩, q⟩) h4
  cases hd with
  | old h n => exact absurd ⟨n, h⟩ hn
  | dct0 h => exact fin _ ru
  | dct1 h hd n => exact fin _ ru
  | lst h hl hi => exact fin _ ru
  | tup h hl hi => exact fin _ ru
end SB
namespace SB
open PySem PySem.Spec PyProof.Rows L2 Evl
/-- a target of several names in a list comprehension: its reading speaks of nothing that the block has of its own -/
theorem pg_tupK {X : Cx} {K0 : PySem.W.Frag} {n0 k : Nat} {elts : List Expr} {pos : Pos} {gs : TGs} (hK : X.K = K0) (hc : X.calm = true) (hn : (assignEach elts X.env).length = n0) (h : PGs X elts gs)
    (hst : List.findIdx? (fun x => x.fst) (assignEach elts X.env) = none := by rfl) : PG X (.Tuple elts k pos) (gTup K0 n0 gs) := by
  subst hK
  subst hn
  exact pg_tup hc h rfl hst
/-! isinstance of a caught own error, its fields -/
structure IsT (K : PySem.W.Frag) (C : Addr) : Prop where
  cl : (PySem.W.clsIn K C).isSome = true
  xf : XfC K C
  ca : PySem.W.findIn K (.ref C) "__class__" = some (some (.builtin "object.__class__"))
  sp : PySem.W.specialIn K (.builtin "object.__class__") "__get__" = some (some (.builtin "getset_descriptor.__get__"))
  tk : PySem.W.takesIn K (.builtin "object.__class__") = some true
  mo : PySem.W.mroIn K C (.type "object") = some true
def istB (K : PySem.W.Frag) (C : Addr) : Bool :=
  (PySem.W.clsIn K C).isSome && EXS.isBi (PySem.W.findIn K (.ref C) "__getattribute__") "BaseException.__getattribute__" && EXS.isNo (PySem.W.findIn K (.ref C) "__getattr__") && (PySem.W.subIn K (.ref C) (.type "BaseException") == some true) && PySem.W.hasDictIn K C &&
    EXS.isBi (PySem.W.findIn K (.ref C) "__class__") "object.__class__" && EXS.isBi (PySem.W.specialIn K (.builtin "object.__class__") "__get__") "getset_descriptor.__get__" && (PySem.W.takesIn K (.builtin "object.__class__") == some true) && (PySem.W.mroIn K C (.type "object") == some true)
theorem ist_ok {K : PySem.W.Frag} {C : Addr} (h : istB K C = true) : IsT K C := by
  unfold istB at h
  simp only [Bool.and_eq_true, beq_iff_eq] at h
  obtain ⟨⟨⟨⟨⟨⟨⟨⟨h1, h2⟩, h3⟩, h4⟩, h5⟩, h6⟩, h7⟩, h8⟩, h9⟩ := h
  exact ⟨h1, ⟨EXS.isBi_ok h2, EXS.isNo_ok h3, h4, h5⟩, EXS.isBi_ok h6, EXS.isBi_ok h7, h8, h9⟩
/-- the error's own dict, if it has one, is told of -/
def HasD (H : Hp) : Option Addr → Prop
  | none => True
  | some dx => ∃ fs, H dx = some (.xd fs)
def rIsX (K : PySem.W.Frag) (a : Addr) (cls : Value) (d : Option Addr) : List V → Hp → VK → Prop := fun xs H Q => ∃ (D L : Addr) (b : Bool), xs = [.ref a, .ref L] ∧ cls = .ref D ∧ IsT K D ∧ HasD H d ∧ PySem.W.kitOne K (.ref D) (.ref L) = some b ∧ Q (.bl b) H
theorem call_isX {X : Cx} {a : Addr} {oe : Obj} {cls : Value} {d : Option Addr} {pn : List (Addr × Obj)} (hz : Zc cls d oe) (hf : ∃ vs, oe.data = .fields vs) : CallR (X.suite a ((a, oe) :: pn)) (.builtin "isinstance") (rIsX X.K a cls d) := by
  intro pins s σ H xs us Q I r h
  obtain ⟨D, L, b, rfl, rfl, T, hd, hk, q⟩ := h
  obtain ⟨u1, u2, rfl, r1, r2⟩ : ∃ u1 u2, us = [u1, u2] ∧ RelV (.ref a) u1 ∧ RelV (.ref L) u2 := by
    cases r with
    | cons r1 r2 =>
      cases r2 with
      | cons r2 r3 =>
        cases r3
        exact ⟨_, _, rfl, r1, r2⟩
  cases (show u1 = Value.ref _ from r1)
  cases (show u2 = Value.ref _ from r2)
  obtain ⟨ha, _⟩ := I.pin (a, oe) (List.mem_append_left _ List.mem_cons_self)
  obtain ⟨vs, hdat⟩ := hf
  have nc : PySem.W.notCls oe = true := by
    unfold PySem.W.notCls
    rw [hdat]
  obtain ⟨od, J⟩ : ∃ od, PySem.W.InstAt s.heap a oe D od := by
    cases d with
    | none => exact ⟨none, ha, hz.1, nc, by rw [hz.2]; trivial⟩
    | some dx =>
      obtain ⟨fs, hx⟩ := hd
      obtain ⟨mA, hns, _⟩ := (I.hok dx _ hx : ObjOk X.prog X.w H s.heap dx (.xd fs))
      obtain ⟨od, ho, _⟩ := lookIn_ns hns
      exact ⟨some od, ha, hz.1, nc, by rw [hz.2]; exact ho⟩
  exact PySem.W.kia_one (PySem.W.kitx_exc (od := od) T.cl T.xf.ga T.xf.gg T.xf.exC T.ca T.sp T.tk T.mo) I.kIn J hk (fun z => by cases z) fun tk => ⟨.bl b, H, I.tok _, rfl, q⟩
end SB
namespace LW
open PySem PySem.Spec PyProof.Rows L2 Evl SB
def topS (i : Nat) : Stmt := PySem.Challenge.pw_startbits_k02_frames_and_parity.main.body.getD i (.Pass ⟨0, 0, 0, 0⟩)
abbrev s_is_int : Stmt := topS 8
abbrev s_is_int_between : Stmt := topS 9
abbrev s_is_level : Stmt := topS 10
abbrev s_is_parity : Stmt := topS 11
abbrev s_fits : Stmt := topS 12
abbrev s_check_shape : Stmt := topS 13
abbrev s_check_number : Stmt := topS 14
abbrev s_size_of : Stmt := topS 16
abbrev s_parity_of : Stmt := topS 17
abbrev s_frame_of : Stmt := topS 18
abbrev s_number_of : Stmt := topS 19
abbrev s_bits_of : Stmt := topS 20
abbrev s_are_levels : Stmt := topS 21
abbrev s_law_source : Stmt := topS 23
abbrev s_law_draw : Stmt := topS 24
abbrev s_law_shape : Stmt := topS 25
abbrev s_law_frame : Stmt := topS 26
abbrev s_law_is_integer : Stmt := topS 27
abbrev s_law_number : Stmt := topS 28
abbrev s_law_numbers : Stmt := topS 29
abbrev s_law_bent : Stmt := topS 30
abbrev s_law_right : Stmt := topS 31
abbrev s_law : Stmt := topS 32
theorem sc_is_int : FnScope ["value"] ["value"] (defScope s_is_int) := ⟨rfl, rfl, rfl, by decide +kernel, rfl, by decide +kernel, by decide +kernel⟩
theorem sc_is_int_between : FnScope ["least", "most", "value"] ["least", "most", "value"] (defScope s_is_int_between) := ⟨rfl, rfl, rfl, by decide +kernel, rfl, by decide +kernel, by decide +kernel⟩
theorem sc_is_level : FnScope ["value"] ["value"] (defScope s_is_level) := ⟨rfl, rfl, rfl, by decide +kernel, rfl, by decide +kernel, by decide +kernel⟩
theorem sc_is_parity : FnScope ["value"] ["value"] (defScope s_is_parity) := ⟨rfl, rfl, rfl, by decide +kernel, rfl, by decide +kernel, by decide +kernel⟩
theorem sc_fits : FnScope ["shape", "value"] ["shape", "value"] (defScope s_fits) := ⟨rfl, rfl, rfl, by decide +kernel, rfl, by decide +kernel, by decide +kernel⟩
theorem sc_check_shape : FnScope ["shape", "bits", "parity", "stops"] ["shape"] (defScope s_check_shape) := ⟨rfl, rfl, rfl, by decide +kernel, rfl, by decide +kernel, by decide +kernel⟩
theorem sc_check_number : FnScope ["shape", "number"] ["shape", "number"] (defScope s_check_number) := ⟨rfl, rfl, rfl, by decide +kernel, rfl, by decide +kernel, by decide +kernel⟩
theorem sc_size_of : FnScope ["shape", "bits", "parity", "stops", "parity_bits"] ["shape"] (defScope s_size_of) := ⟨rfl, rfl, rfl, by decide +kernel, rfl, by decide +kernel, by decide +kernel⟩
theorem sc_parity_of : FnScope ["shape", "number", "parity", "odd_ones"] ["shape", "number"] (defScope s_parity_of) := ⟨rfl, rfl, rfl, by decide +kernel, rfl, by decide +kernel, by decide +kernel⟩
theorem sc_frame_of : FnScope ["shape", "number", "parity_bit", "parity_bits", "stop_bits"] ["shape", "number"] (defScope s_frame_of) := ⟨rfl, rfl, rfl, by decide +kernel, rfl, by decide +kernel, by decide +kernel⟩
theorem sc_number_of : FnScope ["shape", "value", "bits", "number", "at", "bit"] ["shape", "value"] (defScope s_number_of) := ⟨rfl, rfl, rfl, by decide +kernel, rfl, by decide +kernel, by decide +kernel⟩
theorem sc_bits_of : FnScope ["shape", "number", "at"] ["shape", "number"] (defScope s_bits_of) := ⟨rfl, rfl, rfl, by decide +kernel, rfl, by decide +kernel, by decide +kernel⟩
theorem sc_are_levels : FnScope ["many", "value", "level"] ["many", "value"] (defScope s_are_levels) := ⟨rfl, rfl, rfl, by decide +kernel, rfl, by decide +kernel, by decide +kernel⟩
theorem sc_law_source : FnScope ["_law_script", "_law_at", "_law_cell", "_law_left"] ["_law_script", "_law_at"] (defScope s_law_source) := ⟨rfl, rfl, rfl, by decide +kernel, rfl, by decide +kernel, by decide +kernel⟩
theorem sc_law_draw : FnScope ["_law_source_here", "_law_many", "_law_drawn", "_law_mixed"] ["_law_source_here", "_law_many"] (defScope s_law_draw) := ⟨rfl, rfl, rfl, by decide +kernel, rfl, by decide +kernel, by decide +kernel⟩
theorem sc_law_shape : FnScope ["_law_source_here", "_law_parity"] ["_law_source_here"] (defScope s_law_shape) := ⟨rfl, rfl, rfl, by decide +kernel, rfl, by decide +kernel, by decide +kernel⟩
theorem sc_law_frame : FnScope ["_law_form", "_law_code", "_law_levels", "_law_rest", "_law_turn"] ["_law_form", "_law_code"] (defScope s_law_frame) := ⟨rfl, rfl, rfl, by decide +kernel, rfl, by decide +kernel, by decide +kernel⟩
theorem sc_law_is_integer : FnScope ["_law_thing"] ["_law_thing"] (defScope s_law_is_integer) := ⟨rfl, rfl, rfl, by decide +kernel, rfl, by decide +kernel, by decide +kernel⟩
theorem sc_law_number : FnScope ["_law_form", "_law_thing", "_law_code", "_law_weight", "_law_level"] ["_law_form", "_law_thing"] (defScope s_law_number) := ⟨rfl, rfl, rfl, by decide +kernel, rfl, by decide +kernel, by decide +kernel⟩
theorem sc_law_numbers : FnScope ["_law_source_here", "_law_form", "_law_most", "_law_turn", "_law_code"] ["_law_source_here", "_law_form"] (defScope s_law_numbers) := ⟨rfl, rfl, rfl, by decide +kernel, rfl, by decide +kernel, by decide +kernel⟩
theorem sc_law_bent : FnScope ["_law_source_here", "_law_frame_here", "_law_thing", "_law_turn", "_law_place", "_law_way"] ["_law_source_here", "_law_frame_here"] (defScope s_law_bent) := ⟨rfl, rfl, rfl, by decide +kernel, rfl, by decide +kernel, by decide +kernel⟩
theorem sc_law_right : FnScope ["_law_source_here", "_law_form", "_law_code", "_law_due", "_law_parity", "_law_found", "_law_thing", "_law_kept"] ["_law_source_here", "_law_form", "_law_code"] (defScope s_law_right) := ⟨rfl, rfl, rfl, by decide +kernel, rfl, by decide +kernel, by decide +kernel⟩
theorem sc_law : FnScope ["_law_script", "_law_at", "_law_source_here", "_law_form", "_law_other", "_law_code", "_law_thing", "_law_named"] ["_law_script"] (defScope s_law) := ⟨rfl, rfl, rfl, by decide +kernel, rfl, by decide +kernel, by decide +kernel⟩
structure Tx (K : PySem.W.Frag) (mg : Str → Option Value) : Prop where
  b_abs : mg "abs" = none
  b_all : mg "all" = none
  b_bool : mg "bool" = none
  b_enumerate : mg "enumerate" = none
  b_int : mg "int" = none
  b_isinstance : mg "isinstance" = none
  b_len : mg "len" = none
  b_list : mg "list" = none
  b_max : mg "max" = none
  b_min : mg "min" = none
  b_range : mg "range" = none
  b_repr : mg "repr" = none
  b_str : mg "str" = none
  b_sum : mg "sum" = none
  b_tuple : mg "tuple" = none
  t_PARITIES : mg "PARITIES" = some (.ref (He.ga K "PARITIES"))
  v_PARITIES : ∀ H, SqT K H (He.ga K "PARITIES") [.str "none", .str "even", .str "odd"]
  i_MOST_BITS : GInt mg "MOST_BITS" 9
  i_MOST_STOPS : GInt mg "MOST_STOPS" 2
  d_is_int : Df K mg "is_int" s_is_int
  d_is_int_between : Df K mg "is_int_between" s_is_int_between
  d_is_level : Df K mg "is_level" s_is_level
  d_is_parity : Df K mg "is_parity" s_is_parity
  d_fits : Df K mg "fits" s_fits
  d_check_shape : Df K mg "check_shape" s_check_shape
  d_check_number : Df K mg "check_number" s_check_number
  d_size_of : Df K mg "size_of" s_size_of
  d_parity_of : Df K mg "parity_of" s_parity_of
  d_frame_of : Df K mg "frame_of" s_frame_of
  d_number_of : Df K mg "number_of" s_number_of
  d_bits_of : Df K mg "_bits_of" s_bits_of
  d_are_levels : Df K mg "_are_levels" s_are_levels
  d_law_source : Df K mg "_law_source" s_law_source
  d_law_draw : Df K mg "_law_draw" s_law_draw
  d_law_shape : Df K mg "_law_shape" s_law_shape
  d_law_frame : Df K mg "_law_frame" s_law_frame
  d_law_is_integer : Df K mg "_law_is_integer" s_law_is_integer
  d_law_number : Df K mg "_law_number" s_law_number
  d_law_numbers : Df K mg "_law_numbers" s_law_numbers
  d_law_bent : Df K mg "_law_bent" s_law_bent
  d_law_right : Df K mg "_law_right" s_law_right
  d_law : Df K mg "law" s_law
structure TxE (P : Program) (K : PySem.W.Frag) (mg : Str → Option Value) : Prop where
  x_InvalidShape : EXS.ErrTxt P K mg "InvalidShape" "index" "wrong item of a shape: " (He.ga K "InvalidShape") (EXS.eI K "InvalidShape")
  sy : SysK K
  p_InvalidNumber : EXS.PlnTxt K mg "InvalidNumber" (He.ga K "InvalidNumber")
section
variable {P : Program} {w : World} {K : PySem.W.Frag} {mg : Str → Option Value} {base : Heap}
/-! ### the checks, at right arguments -/
def sp_is_int (K : PySem.W.Frag) : Sp := fun vs H Q _ => ∃ v n, vs = [v] ∧ TyN K H v n ∧ Q (.bl (decide (n = "int"))) H
theorem cal_is_int (T : Tx K mg) : Cal P w K mg base CX0 1 "is_int" ["value"] (sp_is_int K) := by
  refine T.d_is_int.cal sc_is_int (fun vs H Q E h => ?_) (fun _ _ _ _ _ _ us hl => match us, hl with | [_], _ => rfl) (fun f cdv A outer s H vs Q E hr h => ⟨_, (pss_one (ps_ret (pe_and (pe_callB call_isi (by rfl) T.b_isinstance (by decide +kernel) (pa_cons (pv 0) (pa_cons (pe_bltn (v := .ty "int") (by rfl) T.b_int (by decide +kernel) rfl) pa_nil))) (pe_one (pe_not (pe_callB call_isi (by rfl) T.b_isinstance (by decide +kernel) (pa_cons (pv 0) (pa_cons (pe_bltn (v := .ty "bool") (by rfl) T.b_bool (by decide +kernel) rfl) pa_nil)))))))), ?_⟩)
  · obtain ⟨v, n, rfl, _⟩ := h
    rfl
  · obtain ⟨v, n, rfl, ty, q⟩ := h
    refine ⟨v, rfl, v, .ty "int", _, _, _, rfl, .ty _, ty.x, ty.kit (.inl rfl), _, rfl, ?_⟩
    cases ty with
    | int i => exact ⟨_, rfl, _, .ty "bool", _, _, _, rfl, .ty _, (TyN.int i : TyN K H _ _).x, (TyN.int i : TyN K H _ _).kit (.inr (.inl rfl)), _, rfl, q⟩
    | bl b => exact ⟨_, rfl, _, .ty "bool", _, _, _, rfl, .ty _, (TyN.bl b : TyN K H _ _).x, (TyN.bl b : TyN K H _ _).kit (.inr (.inl rfl)), _, rfl, q⟩
    | _ => exact q
def sp_between (K : PySem.W.Frag) : Sp := fun vs H Q _ => ∃ lo hi v n, vs = [.int lo, .int hi, v] ∧ TyN K H v n ∧
  ∀ b : Bool, (∀ i, v = .int i → b = decide (lo ≤ i ∧ i ≤ hi)) → (n ≠ "int" → b = false) → Q (.bl b) H
theorem cal_between (T : Tx K mg) : Cal P w K mg base CX0 2 "is_int_between" ["least", "most", "value"] (sp_between K) := by
  have c_is_int := cal_is_int (P := P) (w := w) (base := base) T
  refine T.d_is_int_between.cal sc_is_int_between (fun vs H Q E h => ?_) (fun _ _ _ _ _ _ us hl => match us, hl with | [_, _, _], _ => rfl) (fun f cdv A outer s H vs Q E hr h => ⟨_, (pss_one (ps_ret (pe_and (pe_cal c_is_int (hr.mono (by decide)) pass0 (pa_cons (pv 2) pa_nil)) (pe_one (pe_chain op_le op_le (pv 0) (pv 2) (pv 1)))))), ?_⟩)
  · obtain ⟨lo, hi, v, n, rfl, _⟩ := h
    rfl
  · obtain ⟨lo, hi, v, n, rfl, ty, q⟩ := h
    refine ⟨v, rfl, v, n, rfl, ty, _, rfl, ?_⟩
    cases ty with
    | int i =>
      refine ⟨_, rfl, _, rfl, lo, i, rfl, rfl, _, rfl, ?_⟩
      by_cases h1 : lo ≤ i
      · rw [if_pos (decide_eq_true h1)]
        refine ⟨_, rfl, i, hi, rfl, rfl, q _ (fun j e => ?_) (fun z => absurd rfl z)⟩
        cases e
        simp [h1]
      · rw [if_neg (by simpa using h1)]
        refine q _ (fun j e => ?_) (fun z => absurd rfl z)
        cases e
        simp [h1]
    | _ => exact q false (fun j e => nomatch e) (fun _ => rfl)
def sp_is_parity : Sp := fun vs H Q _ => ∃ p : Pa, vs = [.str p.s] ∧ Q (.bl true) H
theorem cal_is_parity (T : Tx K mg) : Cal P w K mg base CX0 1 "is_parity" ["value"] sp_is_parity := by
  refine T.d_is_parity.cal sc_is_parity (fun vs H Q E h => ?_) (fun _ _ _ _ _ _ us hl => match us, hl with | [_], _ => rfl) (fun f cdv A outer s H vs Q E hr h => ⟨_, (pss_one (ps_ret (pe_and (pe_callB call_isi (by rfl) T.b_isinstance (by decide +kernel) (pa_cons (pv 0) (pa_cons (pe_bltn (v := .ty "str") (by rfl) T.b_str (by decide +kernel) rfl) pa_nil))) (pe_one (pe_cmpR op_in_seq (pv 0) (pe_glob (v := .ref (He.ga K "PARITIES")) rfl T.t_PARITIES rfl) (by rfl)))))), ?_⟩)
  · obtain ⟨p, rfl, _⟩ := h
    rfl
  · obtain ⟨p, rfl, q⟩ := h
    refine ⟨_, rfl, _, .ty "str", _, _, true, rfl, .ty _, (TyN.str _).x, ki, true, rfl, iteT ?_⟩
    refine ⟨_, rfl, _, _, rfl, .inr (T.v_PARITIES _), rfl, rfl, ?_⟩
    rw [pa_in]
    exact q
def sp_fits (K : PySem.W.Frag) : Sp := fun vs H Q _ => ∃ g b p s v n, vs = [g, v] ∧ IsSh K H g b p s ∧ TyN K H v n ∧
  ∀ r : Bool, (∀ i, v = .int i → r = decide (0 ≤ i ∧ i < 2 ^ b)) → (n ≠ "int" → r = false) → Q (.bl r) H
theorem cal_fits (T : Tx K mg) : Cal P w K mg base CX0 3 "fits" ["shape", "value"] (sp_fits K) := by
  have c_is_int_between := cal_between (P := P) (w := w) (base := base) T
  refine T.d_fits.cal sc_fits (fun vs H Q E h => ?_) (fun _ _ _ _ _ _ us hl => match us, hl with | [_, _], _ => rfl) (fun f cdv A outer s H vs Q E hr h => ⟨_, (pss_one (ps_ret (pe_cal c_is_int_between (hr.mono (by decide)) pass0 (pa_cons pe_int (pa_cons (pe_op op_sub (pe_op op_shl pe_int (pe_ix ix_tup (pv 0) pe_int (fun _ _ => rfl))) pe_int) (pa_cons (pv 1) pa_nil)))))), ?_⟩)
  · obtain ⟨g, b, p, s, v, n, rfl, _⟩ := h
    rfl
  · obtain ⟨g, b, p, s, v, n, rfl, ⟨t, rfl, sq, h1, h2, _⟩, ty, q⟩ := h
    refine ⟨_, rfl, t, _, 0, .int b, rfl, rfl, sq, rfl, 1, b, rfl, rfl, ⟨by omega, by omega, by decide⟩, _, _, rfl, rfl, v, rfl, 0, _, v, n, rfl, ty, fun r r1 r2 => q r (fun i e => ?_) r2⟩
    rw [r1 i e, Int.one_mul, Int.toNat_natCast]
    exact decide_eq_decide.mpr (by omega)
def sp_check_shape (K : PySem.W.Frag) : Sp := fun vs H Q _ => ∃ g b p s, vs = [g] ∧ IsSh K H g b p s ∧ Q .non H
theorem cal_check_shape (T : Tx K mg) : Cal P w K mg base CX0 3 "check_shape" ["shape"] (sp_check_shape K) := by
  have c_is_int_between := cal_between (P := P) (w := w) (base := base) T
  have c_is_parity := cal_is_parity (P := P) (w := w) (base := base) T
  refine T.d_check_shape.cal sc_check_shape (fun vs H Q E h => ?_) (fun _ _ _ _ _ _ us hl => match us, hl with | [_], _ => rfl) (fun f cdv A outer s H vs Q E hr h => ⟨_, (pss_cons (ps_if (PW.pt (pw_or (pt_not (pt_val (pe_callB call_isi (by rfl) T.b_isinstance (by decide +kernel) (pa_cons (pv 0) (pa_cons (pe_bltn (v := .ty "tuple") (by rfl) T.b_tuple (by decide +kernel) rfl) pa_nil))))) (pw_or1 (pt_cmpR op_ne (pe_callB call_len_seq (by rfl) T.b_len (by decide +kernel) (pa_cons (pv 0) pa_nil)) pe_int (nomark _))))) (pss_one ps_never) pss_nil)
      (pss_cons (ps_asg (pv 0) (pg_tup rfl (pgs_cons (pg_name (i := 1) sc_check_shape.nd rfl (Or.inl rfl)) (pgs_cons (pg_name (i := 2) sc_check_shape.nd rfl (Or.inl rfl)) (pgs_cons (pg_name (i := 3) sc_check_shape.nd rfl (Or.inl rfl)) pgs_nil)))))
      (pss_cons (ps_if (pt_not (pt_val (pe_cal c_is_int_between (hr.mono (by decide)) pass0 (pa_cons pe_int (pa_cons (pe_gi T.i_MOST_BITS) (pa_cons (pv 1) pa_nil)))))) (pss_one ps_never) pss_nil)
      (pss_cons (ps_if (pt_not (pt_val (pe_cal c_is_parity (hr.mono (by decide)) pass0 (pa_cons (pv 2) pa_nil)))) (pss_one ps_never) pss_nil)
      (pss_one (ps_if (pt_not (pt_val (pe_cal c_is_int_between (hr.mono (by decide)) pass0 (pa_cons pe_int (pa_cons (pe_gi T.i_MOST_STOPS) (pa_cons (pv 3) pa_nil)))))) (pss_one ps_never) pss_nil)))))), ?_⟩)
  · obtain ⟨g, b, p, s, rfl, _⟩ := h
    rfl
  · obtain ⟨g, b, p, s, rfl, ⟨t, rfl, sq, h1, h2, h3, h4⟩, q⟩ := h
    refine ⟨_, rfl, _, .ty "tuple", _, _, true, rfl, .ty _, (TyN.tup sq).x, ki, true, rfl, iteF ?_⟩
    refine ⟨_, rfl, t, _, rfl, .inr sq, rfl, _, rfl, iteNS rfl ?_⟩
    refine ⟨_, rfl, t, _, rfl, sq, rfl, _, _, rfl, _, _, rfl, _, _, rfl, rfl, ?_⟩
    refine ⟨_, rfl, 1, 9, _, "int", rfl, .int _, fun r r1 r2 => ⟨r, rfl, ?_⟩⟩
    have e1 : r = true := by
      rw [r1 _ rfl]
      exact decide_eq_true ⟨by omega, by omega⟩
    subst e1
    refine iteF ⟨_, rfl, p, rfl, true, rfl, iteF ?_⟩
    refine ⟨_, rfl, 1, 2, _, "int", rfl, .int _, fun r r1 r2 => ⟨r, rfl, ?_⟩⟩
    have e2 : r = true := by
      rw [r1 _ rfl]
      exact decide_eq_true ⟨by omega, by omega⟩
    subst e2
    exact iteF q
def sp_check_number (K : PySem.W.Frag) : Sp := fun vs H Q _ => ∃ g b p s i, vs = [g, .int i] ∧ IsSh K H g b p s ∧ 0 ≤ i ∧ i < 2 ^ b ∧ Q .non H
theorem cal_check_number (T : Tx K mg) : Cal P w K mg base CX0 4 "check_number" ["shape", "number"] (sp_check_number K) := by
  have c_fits := cal_fits (P := P) (w := w) (base := base) T
  refine T.d_check_number.cal sc_check_number (fun vs H Q E h => ?_) (fun _ _ _ _ _ _ us hl => match us, hl with | [_, _], _ => rfl) (fun f cdv A outer s H vs Q E hr h => ⟨_, (pss_one (ps_if (pt_not (pt_val (pe_cal c_fits (hr.mono (by decide)) pass0 (pa_cons (pv 0) (pa_cons (pv 1) pa_nil))))) (pss_one ps_never) pss_nil)), ?_⟩)
  · obtain ⟨g, b, p, s, i, rfl, _⟩ := h
    rfl
  · obtain ⟨g, b, p, s, i, rfl, sh, h1, h2, q⟩ := h
    refine ⟨_, rfl, _, rfl, g, b, p, s, _, "int", rfl, sh, .int i, fun r r1 r2 => ⟨r, rfl, ?_⟩⟩
    have e : r = true := by
      rw [r1 _ rfl]
      exact decide_eq_true ⟨h1, h2⟩
    subst e
    exact iteF q
def sp_bits (K : PySem.W.Frag) : Sp := fun vs H Q _ => ∃ g b p s x, vs = [g, .int x] ∧ IsSh K H g b p s ∧ 0 ≤ x ∧ RetL ((bits b x).map V.int) H Q
theorem cal_bits (T : Tx K mg) : Cal P w K mg base CX0 1 "_bits_of" ["shape", "number"] (sp_bits K) := by
  refine T.d_bits_of.cal sc_bits_of (fun vs H Q E h => ?_) (fun _ _ _ _ _ _ us hl => match us, hl with | [_, _], _ => rfl) (fun f cdv A outer s H vs Q E hr h => ⟨_, (pss_one (ps_ret (pe_lc rfl sc_bits_of.nd (pi_range1 rfl T.b_range (pa_cons (pe_ix ix_tup (pv 0) pe_int (fun _ _ => rfl)) pa_nil)) (blkOk_by (own := [("at", 2)]) (N := ["shape", "number", "at"]) (sc := defScope s_bits_of) (by decide +kernel)) (fun _ _ _ _ _ => (pg_name (i := 2) sc_bits_of.nd rfl (Or.inl rfl))) (fun _ _ _ _ _ => pts_nil) (fun _ _ _ _ _ => (pe_op op_and (pe_op op_shr (pv 1) (pv 2)) pe_int))))), ?_⟩)
  · obtain ⟨g, b, p, s, x, rfl, _⟩ := h
    rfl
  · obtain ⟨g, b, p, s, x, rfl, ⟨t, rfl, sq, h1, h2, _⟩, hx, q⟩ := h
    refine ⟨_, rfl, t, _, 0, .int b, rfl, rfl, sq, rfl, b, rfl, by omega, by omega, fun D hD => ?_⟩
    refine lc_range (lo := 0) (n := (b : Int).toNat) (fun i H' => Ex H H' ∧ H' D = some (.lst ((bits i x).map V.int))) ⟨Ex.new hD, upd_same⟩ (fun i H' hi ⟨e1, e2⟩ => ?_) (fun H' ⟨e1, e2⟩ => ?_)
    · refine ⟨rfl, ?_⟩
      refine ⟨_, rfl, _, rfl, x, _, rfl, rfl, by omega, _, 1, rfl, rfl, _, e2, ?_, e1.mut hD, ?_⟩
      · rw [List.length_map, bits_len]
        exact small1000 (by omega)
      · rw [upd_same, bits_succ, List.map_append]
        have e3 : ((0 : Int) + (i : Int)).toNat = i := by omega
        have e4 : Builtin.bitAnd (x / 2 ^ ((0 : Int) + (i : Int)).toNat) 1 = x / 2 ^ i % 2 := by
          rw [e3, ← Int.fdiv_eq_ediv_of_nonneg x (Int.pow_nonneg (by decide)), Bits.bit_at, Int.fdiv_eq_ediv_of_nonneg x (Int.pow_nonneg (by decide))]
        exact congrArg (fun z => some (HO.lst (List.map V.int (bits i x) ++ [V.int z]))) e4
    · rw [Int.toNat_natCast] at e2
      exact q D H' hD e1 e2
def parV (b : Nat) (p : Pa) (x : Int) : V := match p with
  | .no => .non
  | .ev => .int ((bits b x).sum % 2)
  | .od => .int (1 - (bits b x).sum % 2)
def sp_parity (K : PySem.W.Frag) : Sp := fun vs H Q _ => ∃ g b p s x, vs = [g, .int x] ∧ IsSh K H g b p s ∧ 0 ≤ x ∧ x < 2 ^ b ∧ RetV (parV b p x) H Q
theorem body_parity (T : Tx K mg) : ∀ (f : Addr) (cdv : Value) (A : Around) (outer : List Env) (s : Shared) (H : Hp) (vs : List V) (Q : VK) (E : XK), Room 4 (A.deeper (envOfC "parity_of" (defScope s_parity_of) s.heap.objs.size f cdv)) → sp_parity K vs H Q E →
      ∃ t, PSs (cxOf CX0 P w K mg base ["shape", "number", "parity", "odd_ones"] "parity_of" (defScope s_parity_of) f cdv A outer s H E).nox (defBody s_parity_of) t ∧ t { nx := fun _ H' => Q .non H', rt := Q } (start ["shape", "number", "parity", "odd_ones"] vs) H := by
  have c_check_shape := cal_check_shape (P := P) (w := w) (base := base) T
  have c_check_number := cal_check_number (P := P) (w := w) (base := base) T
  have c_bits_of := cal_bits (P := P) (w := w) (base := base) T
  refine fun f cdv A outer s H vs Q E hr h => ⟨_, (pss_cons (ps_expr (pe_cal c_check_shape (hr.mono (by decide)) pass0 (pa_cons (pv 0) pa_nil)))
      (pss_cons (ps_expr (pe_cal c_check_number (hr.mono (by decide)) pass0 (pa_cons (pv 0) (pa_cons (pv 1) pa_nil))))
      (pss_cons (ps_set (i := 2) sc_parity_of.nd rfl (Or.inl rfl) (pe_ix ix_tup (pv 0) pe_int (fun _ _ => rfl)))
      (pss_cons (ps_if (pt_cmpR op_eq (pv 2) pe_str (nomark _)) (pss_one (ps_ret pe_non)) pss_nil)
      (pss_cons (ps_set (i := 3) sc_parity_of.nd rfl (Or.inl rfl) (pe_op op_mod (pe_callB (cr_sum rfl) (by rfl) T.b_sum (by decide +kernel) (pa_cons (pe_cal c_bits_of (hr.mono (by decide)) pass0 (pa_cons (pv 0) (pa_cons (pv 1) pa_nil))) pa_nil)) pe_int))
      (pss_one (ps_ret (pe_ifExp (pt_cmpR op_eq (pv 2) pe_str (nomark _)) (pv 3) (pe_op op_sub pe_int (pv 3)))))))))), ?_⟩
  · obtain ⟨g, b, p, s, x, rfl, sh, hx, hx2, q⟩ := h
    refine ⟨_, rfl, g, b, p, s, rfl, sh, _, rfl, _, rfl, g, b, p, s, x, rfl, sh, hx, hx2, ?_⟩
    obtain ⟨t, rfl, sq, h1, h2, h3, h4⟩ := id sh
    refine ⟨_, rfl, t, _, 1, .str p.s, rfl, rfl, sq, rfl, _, rfl, rfl, _, rfl, ?_⟩
    rw [no_is p]
    cases p with
    | no => exact iteT (q H (Ex.refl H))
    | ev =>
      refine iteF ⟨_, rfl, _, rfl, _, b, .ev, s, x, rfl, sh, hx, fun l H1 _ e1 hl => ?_⟩
      refine ⟨l, _, rfl, sq_of hl, _, _, rfl, rfl, (by show (0 : Int) < 2; decide), _, rfl, rfl, _, rfl, ?_⟩
      have e2 := ev_is' .ev
      refine (show (if decide (V.str Pa.ev.s = V.str "even") = true then _ else _) from ?_)
      rw [e2]
      exact iteT ⟨_, rfl, q H1 e1⟩
    | od =>
      refine iteF ⟨_, rfl, _, rfl, _, b, .od, s, x, rfl, sh, hx, fun l H1 _ e1 hl => ?_⟩
      refine ⟨l, _, rfl, sq_of hl, _, _, rfl, rfl, (by show (0 : Int) < 2; decide), _, rfl, rfl, _, rfl, ?_⟩
      have e2 := ev_is' .od
      refine (show (if decide (V.str Pa.od.s = V.str "even") = true then _ else _) from ?_)
      rw [e2]
      exact iteF ⟨_, rfl, _, _, rfl, rfl, q H1 e1⟩
theorem len_parity {vs H Q} {E : XK} (h : sp_parity K vs H Q E) : vs.length = (["shape", "number"] : List Str).length := by
  obtain ⟨g, b, p, s, x, rfl, _⟩ := h
  rfl
theorem cal_parity (T : Tx K mg) : Cal P w K mg base CX0 5 "parity_of" ["shape", "number"] (sp_parity K) :=
  T.d_parity_of.cal sc_parity_of (fun vs H Q E h => len_parity h) (fun _ _ _ _ _ _ us hl => match us, hl with | [_, _], _ => rfl) (body_parity T)
theorem cal_parityK (T : Tx K mg) : CalK P w K mg base CX0 5 "parity_of" ["number", "shape"] ["shape", "number"] (gPm [1, 0]) (sp_parity K) := by
  refine T.d_parity_of.calK (gPm [1, 0]) (fun kV doc pm an cdv ct us ws hl => ?_) (rel_gPm _) sc_parity_of (fun vs H Q E h => len_parity h) (body_parity T)
  match us, ws, hl with
  | [], [a, b], _ => rfl
theorem ref_non (a : Addr) : decide (V.ref a = V.non) = false := decide_eq_false (fun h => nomatch h)
def sp_frame (K : PySem.W.Frag) : Sp := fun vs H Q _ => ∃ g b p s x, vs = [g, .int x] ∧ IsSh K H g b p s ∧ 0 ≤ x ∧ x < 2 ^ b ∧ RetL ((frm b p s x).map V.int) H Q
theorem body_frame (T : Tx K mg) : ∀ (f : Addr) (cdv : Value) (A : Around) (outer : List Env) (s : Shared) (H : Hp) (vs : List V) (Q : VK) (E : XK), Room 5 (A.deeper (envOfC "frame_of" (defScope s_frame_of) s.heap.objs.size f cdv)) → sp_frame K vs H Q E →
      ∃ t, PSs (cxOf CX0 P w K mg base ["shape", "number", "parity_bit", "parity_bits", "stop_bits"] "frame_of" (defScope s_frame_of) f cdv A outer s H E).nox (defBody s_frame_of) t ∧ t { nx := fun _ H' => Q .non H', rt := Q } (start ["shape", "number", "parity_bit", "parity_bits", "stop_bits"] vs) H := by
  have c_parity_of := cal_parity (P := P) (w := w) (base := base) T
  have c_bits_of := cal_bits (P := P) (w := w) (base := base) T
  refine fun f cdv A outer s H vs Q E hr h => ⟨_, (pss_cons (ps_set (i := 2) sc_frame_of.nd rfl (Or.inl rfl) (pe_cal c_parity_of (hr.mono (by decide)) pass0 (pa_cons (pv 0) (pa_cons (pv 1) pa_nil))))
      (pss_cons (ps_set (i := 3) sc_frame_of.nd rfl (Or.inl rfl) (pe_ifExp (pt_cmpR op_isN (pv 2) pe_non (nomark _)) (pe_lst pa_nil) (pe_lst (pa_cons (pv 2) pa_nil))))
      (pss_cons (ps_set (i := 4) sc_frame_of.nd rfl (Or.inl rfl) (pe_op op_rep (pe_lst (pa_cons pe_int pa_nil)) (pe_ix ix_tup (pv 0) pe_int (fun _ _ => rfl))))
      (pss_one (ps_ret (pe_op op_cat (pe_op op_cat (pe_op op_cat (pe_lst (pa_cons pe_int pa_nil)) (pe_cal c_bits_of (hr.mono (by decide)) pass0 (pa_cons (pv 0) (pa_cons (pv 1) pa_nil)))) (pv 3)) (pv 4))))))), ?_⟩
  · obtain ⟨g, b, p, s, x, rfl, sh, hx, hx2, q⟩ := h
    refine ⟨_, rfl, _, rfl, g, b, p, s, x, rfl, sh, hx, hx2, fun H1 e1 => ?_⟩
    obtain ⟨t, rfl, sq, h1, h2, h3, h4⟩ := id sh
    -- parity_bits
    have rest : ∀ (H2 : Hp) (l : Addr), Ex H H2 → H2 l = some (.lst ((parL b p x).map V.int)) →
        (tSeq (tAsg (tOp rRep (tLst (tCons (tC (.int 1)) tNil)) (tOp (rIxT K) (tVar 0) (tC (.int 2)))) (gName 4))
          (tRet (tOp rCat (tOp rCat (tOp rCat (tLst (tCons (tC (.int 0)) tNil)) (tCall (sp_bits K) [] E0 (tCons (tVar 0) (tCons (tVar 1) tNil)))) (tVar 3)) (tVar 4))))
          { nx := fun _ H' => Q .non H', rt := Q } [some (.ref t), some (.int x), some (parV b p x), some (.ref l), none] H2 := by
      intro H2 l e2 hl
      refine ⟨by decide, fun a1 n1 => ⟨_, rfl, t, _, 2, .int s, rfl, rfl, ex_t (e2.trans (Ex.new n1)) sq, rfl, a1, s, _, rfl, rfl, upd_same, by omega, by omega, ?_, fun a2 n2 => ?_⟩⟩
      · show 1 * (s : Int).toNat ≤ sizeLine
        rw [Int.toNat_natCast, sizeLine_eq]
        omega
      have e3 := (e2.trans (Ex.new n1 (o := .lst [.int 1]))).trans (Ex.new n2 (o := .lst (List.replicate (s : Int).toNat [V.int 1]).flatten))
      refine ⟨by decide, fun a3 n3 => ?_⟩
      have e4 := e3.trans (Ex.new n3 (o := .lst [.int 0]))
      refine ⟨_, rfl, _, rfl, _, b, p, s, x, rfl, sh.ex e4, hx, fun a4 H5 n4 e5 h5 => ?_⟩
      have e6 := e4.trans e5
      refine ⟨a3, a4, _, _, rfl, rfl, e5 _ _ upd_same, h5, ?_, fun a5 n5 => ?_⟩
      · rw [List.length_map, bits_len, sizeLine_eq]
        show 1 + b ≤ _
        omega
      have hl2 : (upd H2 a1 (.lst [.int 1])) l = some (.lst ((parL b p x).map V.int)) := Ex.new n1 _ _ hl
      have hl3 := Ex.new n2 (o := .lst (List.replicate (s : Int).toNat [V.int 1]).flatten) _ _ hl2
      have hl4 := Ex.new n3 (o := .lst [.int 0]) _ _ hl3
      have hl5 := e5 _ _ hl4
      refine ⟨_, rfl, a5, l, _, _, rfl, rfl, upd_same, Ex.new n5 _ _ hl5, ?_, fun a6 n6 => ?_⟩
      · have := parL_len b p x
        rw [List.length_append, List.length_map, List.length_map, bits_len, sizeLine_eq]
        show 1 + b + _ ≤ _
        omega
      have hs2 : (upd (upd H2 a1 (.lst [.int 1])) a2 (.lst (List.replicate (s : Int).toNat [V.int 1]).flatten)) a2 = some (.lst (List.replicate (s : Int).toNat [V.int 1]).flatten) := upd_same
      have hs4 := Ex.new n3 (o := .lst [.int 0]) _ _ hs2
      have hs5 := e5 _ _ hs4
      have hs6 := Ex.new n5 (o := .lst ([V.int 0] ++ (bits b x).map V.int)) _ _ hs5
      have er : (List.replicate (s : Int).toNat [V.int 1]).flatten = (List.replicate s (1 : Int)).map V.int := by
        rw [Int.toNat_natCast, List.map_replicate]
        simp
      refine ⟨_, rfl, a6, a2, _, _, rfl, rfl, upd_same, Ex.new n6 _ _ hs6, ?_, fun a7 n7 => ?_⟩
      · have := parL_len b p x
        rw [er, List.length_append, List.length_append, List.length_map, List.length_map, List.length_map, bits_len, List.length_replicate, sizeLine_eq]
        show 1 + b + _ + s ≤ _
        omega
      have e7 := ((e6.trans (Ex.new n5 (o := .lst ([V.int 0] ++ (bits b x).map V.int)))).trans (Ex.new n6 (o := .lst ([V.int 0] ++ (bits b x).map V.int ++ (parL b p x).map V.int)))).trans
        (Ex.new n7 (o := .lst ([V.int 0] ++ (bits b x).map V.int ++ (parL b p x).map V.int ++ (List.replicate (s : Int).toNat [V.int 1]).flatten)))
      refine q a7 _ ?_ e7 ?_
      · exact fresh_back (((e6.trans (Ex.new n5 (o := .lst ([V.int 0] ++ (bits b x).map V.int)))).trans (Ex.new n6 (o := .lst ([V.int 0] ++ (bits b x).map V.int ++ (parL b p x).map V.int))))) n7
      · refine (upd_same).trans ?_
        rw [er]
        simp [frm, List.map_append]
    cases p with
    | no => exact ⟨_, rfl, rfl, _, rfl, Nat.zero_le _, fun l n => rest _ l (e1.trans (Ex.new n)) upd_same⟩
    | ev => exact ⟨_, rfl, rfl, _, rfl, _, rfl, (by decide : 1 ≤ sizeLine), fun l n => rest _ l (e1.trans (Ex.new n)) upd_same⟩
    | od => exact ⟨_, rfl, rfl, _, rfl, _, rfl, (by decide : 1 ≤ sizeLine), fun l n => rest _ l (e1.trans (Ex.new n)) upd_same⟩
theorem len_frame {vs H Q} {E : XK} (h : sp_frame K vs H Q E) : vs.length = (["shape", "number"] : List Str).length := by
  obtain ⟨g, b, p, s, x, rfl, _⟩ := h
  rfl
theorem cal_frame (T : Tx K mg) : Cal P w K mg base CX0 6 "frame_of" ["shape", "number"] (sp_frame K) :=
  T.d_frame_of.cal sc_frame_of (fun vs H Q E h => len_frame h) (fun _ _ _ _ _ _ us hl => match us, hl with | [_, _], _ => rfl) (body_frame T)
theorem cal_frameK (T : Tx K mg) : CalK P w K mg base CX0 6 "frame_of" ["number", "shape"] ["shape", "number"] (gPm [1, 0]) (sp_frame K) := by
  refine T.d_frame_of.calK (gPm [1, 0]) (fun kV doc pm an cdv ct us ws hl => ?_) (rel_gPm _) sc_frame_of (fun vs H Q E h => len_frame h) (body_frame T)
  match us, ws, hl with
  | [], [a, b], _ => rfl
end
end LW
namespace LW
open PySem PySem.Spec PyProof.Rows L2 Evl SB
section
variable {P : Program} {w : World} {K : PySem.W.Frag} {mg : Str → Option Value} {base : Heap}
/-! ### the law's draws -/
def sp_source (K : PySem.W.Frag) : Sp := fun vs H Q _ => ∃ (a : Addr) (ns : List Int) (i : Nat), vs = [.ref a, .int (i : Nat)] ∧ SqL K H a (ns.map V.int) ∧ i ≤ 1000 ∧ ∀ l H', H l = none → Ex H H' → Src H' l 0 → Q (.ref l) H'
theorem cal_source (T : Tx K mg) : Cal P w K mg base CX0 1 "_law_source" ["_law_script", "_law_at"] (sp_source K) := by
  refine T.d_law_source.cal sc_law_source (fun vs H Q E h => ?_) (fun _ _ _ _ _ _ us hl => match us, hl with | [_, _], _ => rfl) (fun f cdv A outer s H vs Q E hr h => ⟨_, (pss_cons (ps_set (i := 2) sc_law_source.nd rfl (Or.inl rfl) (pe_ifExp (pt_cmpR op_lt (pv 1) (pe_callB call_len_seq (by rfl) T.b_len (by decide +kernel) (pa_cons (pv 0) pa_nil)) (nomark _)) (pe_ix ix_list (pv 0) (pv 1) (fun _ _ => rfl)) pe_int))
      (pss_cons (ps_set (i := 3) sc_law_source.nd rfl (Or.inl rfl) (pe_ifExp (pt_cmpR op_ge (pe_callB call_abs (by rfl) T.b_abs (by decide +kernel) (pa_cons (pv 2) pa_nil)) (pe_op op_powB pe_int pe_int) (nomark _)) (pe_op op_sub (pe_callB call_abs (by rfl) T.b_abs (by decide +kernel) (pa_cons (pv 2) pa_nil)) (pe_op op_powB pe_int pe_int)) pe_int))
      (pss_one (ps_ret (pe_lst (pa_cons (pv 3) (pa_cons (pe_op op_add (pe_op op_mod (pe_callTy call_int1 (by rfl) T.b_int (by decide +kernel) (pa_cons (pv 2) pa_nil)) pe_int) (pe_op op_mul pe_int (pv 1))) (pa_cons pe_int pa_nil)))))))), ?_⟩)
  · obtain ⟨a, ns, i, rfl, _⟩ := h
    rfl
  · obtain ⟨a, ns, i, rfl, sq, hi, q⟩ := h
    refine seq_any (P := fun v => ∃ z : Int, v = .int z) (fun Q' k => ?_) ?_
    · refine ⟨_, rfl, _, rfl, a, _, rfl, .inl sq, _, _, rfl, rfl, _, rfl, ite2 (fun h => ?_) (fun _ => k _ ⟨0, rfl⟩)⟩
      have h1 : i < ns.length := by
        have h2 := of_decide_eq_true h
        rw [List.length_map] at h2
        omega
      have g : (ns.map V.int)[i]? = some (.int ns[i]) := by
        rw [List.getElem?_map, List.getElem?_eq_getElem h1]
        rfl
      exact ⟨_, rfl, _, rfl, a, _, _, _, rfl, rfl, sq, atI_nat g, k _ ⟨_, rfl⟩⟩
    rintro _ ⟨z, rfl⟩
    refine seq_any (P := fun v => ∃ z : Int, v = .int z) (fun Q' k => ?_) ?_
    · refine ⟨_, rfl, z, rfl, 10, 18, rfl, rfl, cpow10 18 (by decide) (by decide), _, _, rfl, rfl, _, rfl, ite2 (fun h => ?_) (fun _ => k _ ⟨0, rfl⟩)⟩
      exact ⟨_, rfl, z, rfl, 10, 18, rfl, rfl, cpow10 18 (by decide) (by decide), _, _, rfl, rfl, k _ ⟨_, rfl⟩⟩
    rintro _ ⟨y, rfl⟩
    refine ⟨_, rfl, _, rfl, .inl ⟨z, rfl, _, _, rfl, rfl, (by show (0 : Int) < 2305843009213693951; decide), _, rfl, _, _, rfl, rfl, .inl ⟨by decide, by decide⟩, _, _, rfl, rfl, (by show 3 ≤ sizeLine; decide), fun l nl => ?_⟩⟩
    refine q l _ nl (Ex.new nl) ⟨_, _, _, upd_same, ?_, ?_, Int.le_refl _, Int.le_refl _⟩
    · have h1 := Int.emod_nonneg z (show (2305843009213693951 : Int) ≠ 0 by decide)
      show 0 ≤ z % 2305843009213693951 + 1000003 * (i : Int)
      omega
    · have h1 := Int.emod_lt_of_pos z (show (0 : Int) < 2305843009213693951 by decide)
      show z % 2305843009213693951 + 1000003 * (i : Int) < 4611686018427387904
      omega
def sp_draw : Sp := fun vs H Q _ => ∃ (a : Addr) (m : Int) (n : Nat), vs = [.ref a, .int m] ∧ Src H a n ∧ n ≤ 1000000 ∧ 0 < m ∧ m < 2 ^ 200 ∧
  ∀ d H', 0 ≤ d → d < m → Src H' a (n + 1) → Kp a H H' → Q (.int d) H'
theorem cal_draw (T : Tx K mg) : Cal P w K mg base CX0 1 "_law_draw" ["_law_source_here", "_law_many"] sp_draw := by
  refine T.d_law_draw.cal sc_law_draw (fun vs H Q E h => ?_) (fun _ _ _ _ _ _ us hl => match us, hl with | [_, _], _ => rfl) (fun f cdv A outer s H vs Q E hr h => ⟨_, (pss_cons (ps_if (pt_cmpR op_gt (pe_ix ix_list (pv 0) pe_int (fun _ _ => rfl)) pe_int (nomark _)) (pss_cons (ps_set (i := 2) sc_law_draw.nd rfl (Or.inl rfl) (pe_op op_mod (pe_callTy call_int1 (by rfl) T.b_int (by decide +kernel) (pa_cons (pe_ix ix_list (pv 0) pe_int (fun _ _ => rfl)) pa_nil)) (pv 1)))
      (pss_cons (ps_asg (pe_op op_fdivW (pe_ix ix_list (pv 0) pe_int (fun _ _ => rfl)) (pv 1)) (pg_sub (pv 0) pe_int set_list))
      (pss_one (ps_ret (pv 2))))) pss_nil)
      (pss_cons (ps_asg (pe_op op_add (pe_ix ix_list (pv 0) pe_int (fun _ _ => rfl)) pe_int) (pg_sub (pv 0) pe_int set_list))
      (pss_cons (ps_set (i := 3) sc_law_draw.nd rfl (Or.inl rfl) (pe_op op_add (pe_ix ix_list (pv 0) pe_int (fun _ _ => rfl)) (pe_op op_mul pe_int (pe_ix ix_list (pv 0) pe_int (fun _ _ => rfl)))))
      (pss_cons (ps_set (i := 3) sc_law_draw.nd rfl (Or.inl rfl) (pe_op op_add (pe_op op_mod (pe_callTy call_int1 (by rfl) T.b_int (by decide +kernel) (pa_cons (pe_op op_powB (pv 3) pe_int) pa_nil)) (pe_op op_add (pe_op op_powB pe_int pe_int) pe_int)) (pe_op op_mul pe_int (pe_ix ix_list (pv 0) pe_int (fun _ _ => rfl)))))
      (pss_cons (ps_set (i := 3) sc_law_draw.nd rfl (Or.inl rfl) (pe_op op_mod (pe_callTy call_int1 (by rfl) T.b_int (by decide +kernel) (pa_cons (pe_op op_powB (pv 3) pe_int) pa_nil)) (pe_op op_add (pe_op op_powB pe_int pe_int) pe_int)))
      (pss_one (ps_ret (pe_op op_mod (pe_callTy call_int1 (by rfl) T.b_int (by decide +kernel) (pa_cons (pe_op op_fdivW (pv 3) pe_int) pa_nil)) (pv 1))))))))), ?_⟩)
  · obtain ⟨a, m, n, rfl, _⟩ := h
    rfl
  · obtain ⟨a, m, n, rfl, ⟨l, sd, c, hH, s0, s1, c0, c1⟩, hn, m0, m1, q⟩ := h
    have sq := sq_of (K := K) hH
    have wd : CDivW 0 m := wide_div (b := 200) m0 (by
      have e : (2 : Int) ^ 200 = ((2 ^ 200 : Nat) : Int) := by norm_cast
      omega) (by decide) (by decide)
    refine ⟨_, rfl, a, _, 0, _, rfl, rfl, sq, rfl, l, 0, rfl, rfl, _, rfl, ite2 (fun h => ?_) (fun _ => ?_)⟩
    · refine ⟨_, rfl, a, _, 0, _, rfl, rfl, sq, rfl, .inl ⟨l, rfl, _, rfl, _, _, rfl, rfl, m0, ?_⟩⟩
      refine ⟨_, rfl, a, _, 0, _, rfl, rfl, sq, rfl, _, rfl, _, _, rfl, rfl, wd, _, rfl, a, _, 0, 0, rfl, rfl, hH, rfl, ?_⟩
      exact ⟨_, rfl, q _ _ (Int.emod_nonneg l (by omega)) (Int.emod_lt_of_pos l m0) ⟨_, sd, c, upd_same, s0, s1, c0, by omega⟩ Kp.upd⟩
    · refine ⟨_, rfl, a, _, 2, _, rfl, rfl, sq, rfl, c, 1, rfl, rfl, _, rfl, a, _, 2, 2, rfl, rfl, hH, rfl, ?_⟩
      have h1 : (upd H a (.lst ([V.int l, .int sd, .int c].set 2 (.int (c + 1))))) a = some (.lst [.int l, .int sd, .int (c + 1)]) := upd_same
      have kp : Kp a H (upd H a (.lst ([V.int l, .int sd, .int c].set 2 (.int (c + 1))))) := Kp.upd
      generalize upd H a (.lst ([V.int l, .int sd, .int c].set 2 (.int (c + 1)))) = H1 at h1 kp
      have sq1 := sq_of (K := K) h1
      have src1 : Src H1 a (n + 1) := ⟨l, sd, c + 1, h1, s0, s1, by omega, by omega⟩
      refine ⟨_, rfl, a, _, 1, _, rfl, rfl, sq1, rfl, _, rfl, a, _, 2, _, rfl, rfl, sq1, rfl, _, _, rfl, rfl, .inl ⟨by decide, by decide⟩, _, _, rfl, rfl, ?_⟩
      have b1 : 0 ≤ sd + 2750159 * (c + 1) ∧ sd + 2750159 * (c + 1) < 2 ^ 250 := ⟨by omega, by omega⟩
      refine ⟨_, rfl, _, 3, rfl, rfl, cpow3 b1.1 b1.2, .inl ⟨_, rfl, 10, 38, rfl, rfl, cpow10 38 (by decide) (by decide), _, _, rfl, rfl, _, _, rfl, rfl, ?_, _, rfl, a, _, 2, _, rfl, rfl, sq1, rfl, _, _, rfl, rfl, .inl ⟨by decide, by decide⟩, _, _, rfl, rfl, ?_⟩⟩
      · show (0 : Int) < 10 ^ (38 : Int).toNat + 133
        decide
      have b2 : 0 ≤ (sd + 2750159 * (c + 1)) ^ (3 : Int).toNat % (10 ^ (38 : Int).toNat + 133) + 7368787 * (c + 1) ∧ (sd + 2750159 * (c + 1)) ^ (3 : Int).toNat % (10 ^ (38 : Int).toNat + 133) + 7368787 * (c + 1) < 2 ^ 250 := by
        have e : (10 : Int) ^ (38 : Int).toNat + 133 = 100000000000000000000000000000000000133 := by decide
        rw [e]
        generalize (sd + 2750159 * (c + 1)) ^ (3 : Int).toNat = u
        omega
      refine ⟨_, rfl, _, 3, rfl, rfl, cpow3 b2.1 b2.2, .inl ⟨_, rfl, 10, 41, rfl, rfl, cpow10 41 (by decide) (by decide), _, _, rfl, rfl, _, _, rfl, rfl, ?_, ?_⟩⟩
      · show (0 : Int) < 10 ^ (41 : Int).toNat + 217
        decide
      refine ⟨_, rfl, _, _, rfl, rfl, wide_div (b := 20) (by decide) (by decide) (by decide) (by decide), .inl ⟨_, rfl, _, rfl, _, _, rfl, rfl, m0, ?_⟩⟩
      exact q _ _ (Int.emod_nonneg _ (by omega)) (Int.emod_lt_of_pos _ m0) src1 kp
def sp_shape (K : PySem.W.Frag) : Sp := fun vs H Q _ => ∃ (a : Addr) (n : Nat), vs = [.ref a] ∧ Src H a n ∧ n ≤ 900000 ∧
  ∀ t b p s H', H t = none → Kp a H H' → Src H' a (n + 3) → H' t = some (.tup [.int (b : Nat), .str (Pa.s p), .int (s : Nat)]) → 1 ≤ b → b ≤ 9 → 1 ≤ s → s ≤ 2 → Q (.ref t) H'
theorem pa_at (d : Int) (h0 : 0 ≤ d) (h1 : d < 3) : ∃ p : Pa, atI [V.str "none", .str "even", .str "odd"] d = some (.str p.s) := by
  have : d = 0 ∨ d = 1 ∨ d = 2 := by omega
  rcases this with rfl | rfl | rfl
  · exact ⟨.no, rfl⟩
  · exact ⟨.ev, rfl⟩
  · exact ⟨.od, rfl⟩
theorem cal_shape (T : Tx K mg) : Cal P w K mg base CX0 2 "_law_shape" ["_law_source_here"] (sp_shape K) := by
  have c_law_draw := cal_draw (P := P) (w := w) (base := base) T
  refine T.d_law_shape.cal sc_law_shape (fun vs H Q E h => ?_) (fun _ _ _ _ _ _ us hl => match us, hl with | [_], _ => rfl) (fun f cdv A outer s H vs Q E hr h => ⟨_, (pss_cons (ps_set (i := 1) sc_law_shape.nd rfl (Or.inl rfl) (pe_ix ix_list (pe_lst (pa_cons pe_str (pa_cons pe_str (pa_cons pe_str pa_nil)))) (pe_cal c_law_draw (hr.mono (by decide)) pass0 (pa_cons (pv 0) (pa_cons pe_int pa_nil))) (fun _ _ => rfl)))
      (pss_one (ps_ret (pe_tup (pa_cons (pe_op op_add pe_int (pe_cal c_law_draw (hr.mono (by decide)) pass0 (pa_cons (pv 0) (pa_cons pe_int pa_nil)))) (pa_cons (pv 1) (pa_cons (pe_op op_add pe_int (pe_cal c_law_draw (hr.mono (by decide)) pass0 (pa_cons (pv 0) (pa_cons pe_int pa_nil)))) pa_nil))))))), ?_⟩)
  · obtain ⟨a, n, rfl, _⟩ := h
    rfl
  · obtain ⟨a, n, rfl, src, hn, q⟩ := h
    refine ⟨by decide, fun L nL => ?_⟩
    have L_a := src.ne nL
    refine ⟨_, rfl, a, 3, n, rfl, src.ex (Ex.new nL), by omega, by decide, by decide, fun d H1 d0 d1 src1 k1 => ?_⟩
    obtain ⟨p, hp⟩ := pa_at d d0 d1
    refine ⟨L, _, d, _, rfl, rfl, sq_of (k1 L _ L_a upd_same), hp, ?_⟩
    refine ⟨_, rfl, a, 9, n + 1, rfl, src1, by omega, by decide, by decide, fun d2 H2 d20 d21 src2 k2 => ⟨_, _, rfl, rfl, _, rfl, _, rfl, a, 2, n + 2, rfl, src2, by omega, by decide, by decide, fun d3 H3 d30 d31 src3 k3 => ⟨_, _, rfl, rfl, (by show 3 ≤ sizeLine; decide), fun t nt => ?_⟩⟩⟩
    have t_a := src3.ne nt
    obtain ⟨b, hb⟩ : ∃ b : Nat, 1 + d2 = (b : Int) := ⟨(1 + d2).toNat, by omega⟩
    obtain ⟨s, hs⟩ : ∃ s : Nat, 1 + d3 = (s : Int) := ⟨(1 + d3).toNat, by omega⟩
    have kk : Kp a H (upd H3 t (.tup [.int (1 + d2), .str p.s, .int (1 + d3)])) := (((Ex.kp (Ex.new nL)).trans k1).trans (k2.trans k3)).trans (Ex.kp (Ex.new nt))
    have ft : H t = none := Kp.free (((Ex.kp (Ex.new nL)).trans k1).trans (k2.trans k3)) nt t_a
    refine q t b p s _ ft kk (src3.ex (Ex.new nt)) ?_ (by omega) (by omega) (by omega) (by omega)
    rw [← hb, ← hs]
    exact upd_same
/-! ### the law's own frames -/
theorem cal_lframe (T : Tx K mg) : Cal P w K mg base CX0 1 "_law_frame" ["_law_form", "_law_code"] (sp_frame K) := by
  refine T.d_law_frame.cal sc_law_frame (fun vs H Q E h => ?_) (fun _ _ _ _ _ _ us hl => match us, hl with | [_, _], _ => rfl) (fun f cdv A outer s H vs Q E hr h => ⟨_, (pss_cons (ps_par (i := 2) (j := 3) (by rfl) sc_law_frame.nd rfl rfl (by decide) rfl rfl (pa_cons (pe_lst pa_nil) (pa_cons (pv 1) pa_nil)) (by rfl))
      (pss_cons (ps_for PassesOwn.never rfl (pi_range1 rfl T.b_range (pa_cons (pe_ix ix_tup (pv 0) pe_int (fun _ _ => rfl)) pa_nil)) (pg_name (i := 4) sc_law_frame.nd rfl (Or.inl rfl)) (pss_cons (ps_expr (pe_bm PySem.F.plainAttrs_list PySem.F.slot_list_append PySem.F.type_list_append mt_append (pv 2) (pa_cons (pe_op op_mod (pe_callTy call_int1 (by rfl) T.b_int (by decide +kernel) (pa_cons (pv 3) pa_nil)) pe_int) pa_nil)))
      (pss_one (ps_set (i := 3) sc_law_frame.nd rfl (Or.inl rfl) (pe_op op_fdivW (pv 3) pe_int)))))
      (Evl.pss_cut (ps_if (pt_cmpR op_eq (pe_ix ix_tup (pv 0) pe_int (fun _ _ => rfl)) pe_str (nomark _)) (pss_one (ps_expr (pe_bm PySem.F.plainAttrs_list PySem.F.slot_list_append PySem.F.type_list_append mt_append (pv 2) (pa_cons (pe_op op_mod (pe_callTy call_int1 (by rfl) T.b_int (by decide +kernel) (pa_cons (pe_callB (cr_sum rfl) (by rfl) T.b_sum (by decide +kernel) (pa_cons (pv 2) pa_nil)) pa_nil)) pe_int) pa_nil)))) (pss_one (ps_if (pt_cmpR op_eq (pe_ix ix_tup (pv 0) pe_int (fun _ _ => rfl)) pe_str (nomark _)) (pss_one (ps_expr (pe_bm PySem.F.plainAttrs_list PySem.F.slot_list_append PySem.F.type_list_append mt_append (pv 2) (pa_cons (pe_op op_sub pe_int (pe_op op_mod (pe_callTy call_int1 (by rfl) T.b_int (by decide +kernel) (pa_cons (pe_callB (cr_sum rfl) (by rfl) T.b_sum (by decide +kernel) (pa_cons (pv 2) pa_nil)) pa_nil)) pe_int)) pa_nil)))) pss_nil)))
      (pss_one (ps_ret (pe_op op_cat (pe_op op_cat (pe_lst (pa_cons pe_int pa_nil)) (pv 2)) (pe_op op_rep (pe_lst (pa_cons pe_int pa_nil)) (pe_ix ix_tup (pv 0) pe_int (fun _ _ => rfl))))))))), ?_⟩)
  · obtain ⟨g, b, p, s, x, rfl, _⟩ := h
    rfl
  · obtain ⟨g, b, p, s, x, rfl, ⟨t, rfl, sq, h1, h2, h3, h4⟩, hx, hx2, q⟩ := h
    refine ⟨Nat.zero_le _, fun L nL => ⟨_, rfl, _, _, rfl, ?_⟩⟩
    refine ⟨_, rfl, t, _, 0, .int b, rfl, rfl, ex_t (Ex.new nL) sq, rfl, b, rfl, by omega, by omega, ?_⟩
    refine for_range (lo := 0) (n := (b : Int).toNat) (fun i σ H1 => ∃ u, σ = [some (.ref t), some (.int x), some (.ref L), some (.int (x / 2 ^ i)), u] ∧ Ex H H1 ∧ H1 L = some (.lst ((bits i x).map V.int)))
      ⟨none, by simp [L2.start], Ex.new nL, upd_same⟩ ?_ ?_
    · rintro i σ H1 hi ⟨u, rfl, ex, hL⟩
      refine ⟨_, rfl, .inl ⟨rfl, _, sq_of hL⟩, _, rfl, .inl ⟨_, rfl, _, _, rfl, rfl, (by show (0 : Int) < 2; decide), L, _, _, rfl, rfl, hL, ?_, ?_⟩⟩
      · rw [List.length_map, bits_len]
        exact small1000 (by omega)
      refine ⟨_, rfl, _, _, rfl, rfl, wide_div (b := 3) (by decide) (by decide) (by decide) (by decide), ?_⟩
      refine ⟨some (.int (0 + (i : Int))), ?_, ex.mut nL, ?_⟩
      · rw [← div_step]
        rfl
      · rw [upd_same, bits_succ, List.map_append]
        rfl
    · rintro σ H1 ⟨u, rfl, ex, hL⟩
      rw [Int.toNat_natCast] at hL
      have sq1 := ex_t ex sq
      refine ⟨fun σ' H' => ∃ y u, σ' = [some (.ref t), some (.int x), some (.ref L), y, u] ∧ Ex H H' ∧ H' L = some (.lst ((bits b x ++ parL b p x).map V.int)), ?_, ?_⟩
      · have sm : (bits b x).length < sizeLine := by
          rw [bits_len]
          exact small1000 (by omega)
        have rd : ∀ H2, Ex H H2 → SqT K H2 t [.int b, .str p.s, .int s] := fun H2 e => ex_t e sq
        refine ⟨_, rfl, t, _, 1, .str p.s, rfl, rfl, sq1, rfl, rfl, _, rfl, ?_⟩
        rw [ev_is' p]
        cases p with
        | no =>
          refine iteF ⟨_, rfl, t, _, 1, .str Pa.no.s, rfl, rfl, sq1, rfl, rfl, _, rfl, ?_⟩
          rw [od_is .no]
          refine iteF ⟨_, _, rfl, ex, ?_⟩
          rw [hL]
          simp [parL]
        | ev =>
          refine iteT ⟨_, rfl, .inl ⟨rfl, _, sq_of hL⟩, _, rfl, L, _, rfl, sq_of hL, .inl ⟨_, rfl, _, _, rfl, rfl, (by show (0 : Int) < 2; decide), L, _, _, rfl, rfl, hL, by rw [List.length_map]; exact sm, ?_⟩⟩
          refine ⟨_, _, rfl, ex.mut nL, ?_⟩
          rw [upd_same, List.map_append]
          rfl
        | od =>
          refine iteF ⟨_, rfl, t, _, 1, .str Pa.od.s, rfl, rfl, sq1, rfl, rfl, _, rfl, ?_⟩
          rw [od_is .od]
          refine iteT ⟨_, rfl, .inl ⟨rfl, _, sq_of hL⟩, _, rfl, L, _, rfl, sq_of hL, .inl ⟨_, rfl, _, _, rfl, rfl, (by show (0 : Int) < 2; decide), _, _, rfl, rfl, L, _, _, rfl, rfl, hL, by rw [List.length_map]; exact sm, ?_⟩⟩
          refine ⟨_, _, rfl, ex.mut nL, ?_⟩
          rw [upd_same, List.map_append]
          rfl
      · rintro σ' H' ⟨y, u, rfl, ex', hL'⟩
        have pl := parL_len b p x
        have len1 : ((bits b x ++ parL b p x).map V.int).length ≤ 10 := by
          rw [List.length_map, List.length_append, bits_len]
          omega
        have mk : EvL (tOp rCat (tOp rCat (tLst (tCons (tC (.int 0)) tNil)) (tVar 2)) (tOp rRep (tLst (tCons (tC (.int 1)) tNil)) (tOp (rIxT K) (tVar 0) (tC (.int 2))))) [some (.ref t), some (.int x), some (.ref L), y, u] H'
            (([V.int 0] ++ (bits b x ++ parL b p x).map V.int) ++ (List.replicate (s : Int).toNat [V.int 1]).flatten) := by
          refine el_cat (evx_new (el_cat (evx_new (el_lst (ea_cons ev_c ea_nil) (by decide))) (evx_var rfl hL') ?_)) (evx_new (el_rep (evx_new (el_lst (ea_cons ev_c ea_nil) (by decide))) (ev_ixT (ev_var rfl) ev_c (ex_t ex' sq) rfl) (by omega) (by omega) ?_)) ?_
          · show 1 + _ ≤ _
            omega
          · show 1 * (s : Int).toNat ≤ _
            omega
          · rw [rep_one, List.length_append, List.length_map (as := List.replicate s (1 : Int)), List.length_replicate]
            show 1 + _ + _ ≤ _
            omega
        refine mk H' (Ex.refl H') _ fun l H2 nl e2 h2 => q l H2 (fresh_back ex' nl) (ex'.trans e2) ?_
        rw [h2, rep_one]
        simp [frm, List.map_append]
end
end LW
namespace LW
open PySem PySem.Spec PyProof.Rows L2 Evl SB
theorem lc_enum {K : PySem.W.Frag} {a : Addr} {xs : List V} {g : TG} {tt : TT} {te : TE} {vs : List Nat} {σ : L2.St} {H1 : Hp} {D : Addr} {Qd : Hp → Prop} (Pv : Nat → Hp → Prop) (h0 : Pv 0 (L2.upd H1 D (.lst [])))
    (hl : ∀ (i : Nat) (H : Hp), i ≤ xs.length → Pv i H → SqL K H a xs)
    (hs : ∀ (i : Nat) (x : V) (T : Addr) (H : Hp), xs[i]? = some x → Pv i H → H T = none →
      g (.ref T) (wipe σ vs) (L2.upd H T (.tup [.int (i : Nat), x])) fun σ2 H2 => wipe σ2 vs = wipe σ vs ∧ tt σ2 H2 fun b H3 => if b = true then te σ2 H3 fun y H4 => ∃ acc, H4 D = some (.lst acc) ∧ acc.length < sizeLine ∧ Pv (i + 1) (L2.upd H4 D (.lst (acc ++ [y]))) else Pv (i + 1) H3)
    (hd : ∀ H, Pv xs.length H → Qd H) :
    ∃ W : Nat → Nat → Hp → Prop, (∃ m, W 0 m (L2.upd H1 D (.lst []))) ∧ ∀ (i m : Nat) (H : Hp), W i m H →
      ((Ite K a).stop i H ∧ Qd H) ∨ ((Ite K a).go i H ∧ ∃ Nx : Hp → Prop, (∀ H', Nx H' → ∃ m', m' < m ∧ W (i + 1) m' H') ∧
        ∀ (x : V) (H' : Hp), (Ite K a).yld i H x H' → g x (wipe σ vs) H' fun σ2 H2 => wipe σ2 vs = wipe σ vs ∧ tt σ2 H2 fun b H3 => if b = true then te σ2 H3 fun y H4 => ∃ acc, H4 D = some (.lst acc) ∧ acc.length < sizeLine ∧ Nx (L2.upd H4 D (.lst (acc ++ [y]))) else Nx H3) := by
  refine ⟨fun i m H => m + i = xs.length ∧ Pv i H, ⟨xs.length, by omega, h0⟩, ?_⟩
  rintro i m H ⟨e, pv⟩
  have sq := hl i H (by omega) pv
  by_cases lt : i < xs.length
  · have hx : xs[i]? = some xs[i] := List.getElem?_eq_getElem lt
    refine .inr ⟨⟨xs, xs[i], sq, hx⟩, Pv (i + 1), fun H' p' => ⟨m - 1, by omega, by omega, p'⟩, ?_⟩
    intro v H' y
    obtain ⟨T, x, rfl, nT, rfl, fx⟩ := y
    exact hs i x T H (fx xs sq) pv nT
  · obtain rfl : i = xs.length := by omega
    exact .inl ⟨⟨xs, sq, Nat.le_refl _⟩, hd H pv⟩
/-- the number that levels tell, the least bit first -/
def wt (bs : List Int) : List Int := bs.mapIdx fun i x => x * 2 ^ i
def valB (bs : List Int) : Int := (wt bs).sum
theorem wt_len (bs : List Int) : (wt bs).length = bs.length := by simp [wt]
theorem wt_at {bs : List Int} {i : Nat} {x : Int} (h : bs[i]? = some x) : (wt bs)[i]? = some (x * 2 ^ i) := by simp [wt, h]
theorem valB_cons (x : Int) (bs : List Int) : valB (x :: bs) = x + 2 * valB bs := by
  have e : ∀ l : List Int, (l.mapIdx fun i y => y * 2 ^ (i + 1)).sum = 2 * (l.mapIdx fun i y => y * 2 ^ i).sum := by
    intro l
    have : (l.mapIdx fun i y => y * 2 ^ (i + 1)) = (l.mapIdx fun i y => y * (2 : Int) ^ i).map fun z => 2 * z := by
      refine List.ext_getElem (by simp) fun i h1 h2 => ?_
      simp only [List.getElem_mapIdx, List.getElem_map]
      rw [Int.pow_succ, Int.mul_comm (2 ^ i) 2, ← Int.mul_assoc, Int.mul_comm _ 2, Int.mul_assoc]
    rw [this]
    generalize (l.mapIdx fun i y => y * (2 : Int) ^ i) = m
    induction m with
    | nil => rfl
    | cons a m ih => simp only [List.map_cons, List.sum_cons, ih, Int.mul_add]
  unfold valB wt
  rw [List.mapIdx_cons, List.sum_cons]
  rw [show (x * 2 ^ 0 : Int) = x from by simp]
  rw [show (List.mapIdx (fun i x => x * 2 ^ (i + 1)) bs).sum = 2 * (List.mapIdx (fun i y => y * 2 ^ i) bs).sum from e bs]
theorem valB_lt : ∀ {bs : List Int}, (∀ x ∈ bs, x = 0 ∨ x = 1) → 0 ≤ valB bs ∧ valB bs < 2 ^ bs.length
  | [], _ => by simp [valB, wt]
  | x :: bs, h => by
    obtain ⟨h1, h2⟩ := valB_lt (bs := bs) fun y hy => h y (List.mem_cons_of_mem _ hy)
    rw [valB_cons, List.length_cons, Int.pow_succ]
    rcases h x (List.mem_cons_self ..) with rfl | rfl <;> omega
section
variable {P : Program} {w : World} {K : PySem.W.Frag} {mg : Str → Option Value} {base : Heap}
/-! ### levels of any kind -/
def sp_level (K : PySem.W.Frag) : Sp := fun vs H Q _ => ∃ v, vs = [v] ∧ Any K H v ∧ Q (.bl (okB 0 1 v)) H
theorem cal_level (T : Tx K mg) : Cal P w K mg base CX0 3 "is_level" ["value"] (sp_level K) := by
  have c_is_int_between := cal_between (P := P) (w := w) (base := base) T
  refine T.d_is_level.cal sc_is_level (fun vs H Q E h => ?_) (fun _ _ _ _ _ _ us hl => match us, hl with | [_], _ => rfl) (fun f cdv A outer s H vs Q E hr h => ⟨_, (pss_one (ps_ret (pe_cal c_is_int_between (hr.mono (by decide)) pass0 (pa_cons pe_int (pa_cons pe_int (pa_cons (pv 0) pa_nil)))))), ?_⟩)
  · obtain ⟨v, rfl, _⟩ := h
    rfl
  · obtain ⟨v, rfl, ⟨n, ty⟩, q⟩ := h
    refine ⟨_, rfl, 0, 1, v, n, rfl, ty, fun b r1 r2 => ?_⟩
    have e : b = okB 0 1 v := by
      cases ty with
      | int i => exact r1 i rfl
      | _ => exact r2 (by decide)
    rw [e]
    exact q
/-- what a value is, as a list -/
inductive AsLs (K : PySem.W.Frag) (H : Hp) (v : V) : Option (List V) → Prop where
  | no {n : String} (h : TyN K H v n) (hn : n ≠ "list") : AsLs K H v none
  | yes {a : Addr} {xs : List V} (e : v = .ref a) (h : SqL K H a xs) (all : ∀ x ∈ xs, Any K H x) (hl : xs.length ≤ 1000) : AsLs K H v (some xs)
def areL (m : Int) : Option (List V) → Bool
  | none => false
  | some xs => decide ((xs.length : Int) = m) && xs.all (okB 0 1)
def sp_are (K : PySem.W.Frag) : Sp := fun vs H Q _ => ∃ m v o, vs = [.int m, v] ∧ AsLs K H v o ∧ ∀ H', Ex H H' → Q (.bl (areL m o)) H'
theorem cal_are (T : Tx K mg) : Cal P w K mg base CX0 4 "_are_levels" ["many", "value"] (sp_are K) := by
  have c_is_level := cal_level (P := P) (w := w) (base := base) T
  refine T.d_are_levels.cal sc_are_levels (fun vs H Q E h => ?_) (fun _ _ _ _ _ _ us hl => match us, hl with | [_, _], _ => rfl) (fun f cdv A outer s H vs Q E hr h => ⟨_, (pss_cons (ps_if (PW.pt (pw_or (pt_not (pt_val (pe_callB call_isi (by rfl) T.b_isinstance (by decide +kernel) (pa_cons (pv 1) (pa_cons (pe_bltn (v := .ty "list") (by rfl) T.b_list (by decide +kernel) rfl) pa_nil))))) (pw_or1 (pt_cmpR op_ne (pe_callB call_len_seq (by rfl) T.b_len (by decide +kernel) (pa_cons (pv 1) pa_nil)) (pv 0) (nomark _))))) (pss_one (ps_ret pe_bl)) pss_nil)
      (pss_one (ps_ret (pe_callB (cr_all rfl) (by rfl) T.b_all (by decide +kernel) (pa_cons (pe_lc rfl sc_are_levels.nd (pi_list (pv 1)) (blkOk_by (own := [("level", 2)]) (N := ["many", "value", "level"]) (sc := defScope s_are_levels) (by decide +kernel)) (fun _ _ _ _ _ => (pg_name (i := 2) sc_are_levels.nd rfl (Or.inl rfl))) (fun _ _ _ _ _ => pts_nil) (fun _ _ _ _ _ => (pe_cal c_is_level (hr.mono (by decide)) pass0 (pa_cons (pv 2) pa_nil)))) pa_nil))))), ?_⟩)
  · obtain ⟨m, v, o, rfl, _⟩ := h
    rfl
  · obtain ⟨m, v, o, rfl, as, q⟩ := h
    cases as with
    | @no n ty hn =>
      refine ⟨_, rfl, v, .ty "list", _, _, false, rfl, .ty _, ty.x, ?_, _, rfl, iteT (q H (Ex.refl H))⟩
      exact (ty.kit (m := "list") (by simp)).trans (by simp [hn])
    | @yes a xs e sq all hl =>
      subst e
      refine ⟨_, rfl, _, .ty "list", _, _, true, rfl, .ty _, (TyN.lst sq).x, ki, true, rfl, iteF ?_⟩
      refine ⟨_, rfl, a, xs, rfl, .inl sq, _, rfl, ?_⟩
      refine ⟨rfl, _, rfl, ite2 (fun h => ?_) (fun h => ?_)⟩
      · have e : areL m (some xs) = false := by
          have h2 : ¬ ((xs.length : Int) = m) := by simpa using h
          simp [areL, h2]
        have z := q H (Ex.refl H)
        rw [e] at z
        exact z
      have hm : (xs.length : Int) = m := by simpa using h
      refine ⟨_, rfl, a, rfl, ⟨_, sq⟩, fun D hD => ?_⟩
      refine lc_list (K := K) (a := a) (xs := xs) (fun i H' => Ex H H' ∧ H' D = some (.lst (((xs.map (okB 0 1)).take i).map V.bl))) ⟨Ex.new hD, upd_same⟩ (fun i H' _ ⟨e, _⟩ => ex_l e sq) (fun i x H' hx ⟨e1, e2⟩ => ?_) (fun H' ⟨e1, e2⟩ => ?_)
      · refine ⟨rfl, ⟨_, rfl, x, rfl, (all x (List.mem_of_getElem? hx)).ex e1, _, e2, ?_, e1.mut hD, ?_⟩⟩
        · rw [List.length_map, List.length_take, List.length_map]
          exact small1000 (by omega)
        · rw [upd_same, List.take_add_one, List.map_append, List.getElem?_map, hx]
          rfl
      · refine ⟨D, xs.map (okB 0 1), rfl, sq_of ?_, ?_⟩
        · rw [e2, List.take_of_length_le (by simp)]
        · have e : areL m (some xs) = (xs.map (okB 0 1)).all id := by
            simp [areL, hm, List.all_map]
          rw [← e]
          exact q H' e1
def sp_size (K : PySem.W.Frag) : Sp := fun vs H Q _ => ∃ g b p s, vs = [g] ∧ IsSh K H g b p s ∧ Q (.int (sz b p s : Nat)) H
theorem cal_size (T : Tx K mg) : Cal P w K mg base CX0 4 "size_of" ["shape"] (sp_size K) := by
  have c_check_shape := cal_check_shape (P := P) (w := w) (base := base) T
  refine T.d_size_of.cal sc_size_of (fun vs H Q E h => ?_) (fun _ _ _ _ _ _ us hl => match us, hl with | [_], _ => rfl) (fun f cdv A outer s H vs Q E hr h => ⟨_, (pss_cons (ps_expr (pe_cal c_check_shape (hr.mono (by decide)) pass0 (pa_cons (pv 0) pa_nil)))
      (pss_cons (ps_asg (pv 0) (pg_tup rfl (pgs_cons (pg_name (i := 1) sc_size_of.nd rfl (Or.inl rfl)) (pgs_cons (pg_name (i := 2) sc_size_of.nd rfl (Or.inl rfl)) (pgs_cons (pg_name (i := 3) sc_size_of.nd rfl (Or.inl rfl)) pgs_nil)))))
      (pss_cons (ps_set (i := 4) sc_size_of.nd rfl (Or.inl rfl) (pe_ifExp (pt_cmpR op_eq (pv 2) pe_str (nomark _)) pe_int pe_int))
      (pss_one (ps_ret (pe_op op_add (pe_op op_add (pe_op op_add pe_int (pv 1)) (pv 4)) (pv 3))))))), ?_⟩)
  · obtain ⟨g, b, p, s, rfl, _⟩ := h
    rfl
  · obtain ⟨g, b, p, s, rfl, sh, q⟩ := h
    refine ⟨_, rfl, g, b, p, s, rfl, sh, ?_⟩
    obtain ⟨t, rfl, sq, h1, h2, h3, h4⟩ := id sh
    refine ⟨_, rfl, t, _, rfl, sq, rfl, _, _, rfl, _, _, rfl, _, _, rfl, rfl, ?_⟩
    refine ⟨_, rfl, rfl, _, rfl, ?_⟩
    rw [no_is p]
    have fin : ∀ z : Int, z = (plen p : Nat) → Q (.int (1 + (b : Int) + z + (s : Int))) H := fun z e => by
      have e2 : 1 + (b : Int) + z + (s : Int) = ((sz b p s : Nat) : Int) := by
        unfold sz
        omega
      rw [e2]
      exact q
    cases p with
    | no => exact iteT ⟨_, rfl, _, _, rfl, rfl, _, rfl, _, _, rfl, rfl, _, rfl, _, _, rfl, rfl, fin 0 rfl⟩
    | ev => exact iteF ⟨_, rfl, _, _, rfl, rfl, _, rfl, _, _, rfl, rfl, _, rfl, _, _, rfl, rfl, fin 1 rfl⟩
    | od => exact iteF ⟨_, rfl, _, _, rfl, rfl, _, rfl, _, _, rfl, rfl, _, rfl, _, _, rfl, rfl, fin 1 rfl⟩
/-! the number of a frame -/
def numV (b : Nat) (p : Pa) (s : Nat) (ns : List Int) : V := if PyData.eqv (.list (dI (frm b p s (valB ((ns.drop 1).take b))))) (.list (dI ns)) = true then .int (valB ((ns.drop 1).take b)) else .non
def unI : V → Int
  | .int i => i
  | _ => 0
/-- what number_of tells -/
def nbr (b : Nat) (p : Pa) (s : Nat) (o : Option (List V)) : V := match o with
  | none => .non
  | some xs => if areL (sz b p s : Nat) (some xs) = true then numV b p s (xs.map unI) else .non
theorem all_int {xs : List V} (h : xs.all (okB 0 1) = true) : xs = (xs.map unI).map V.int ∧ ∀ x ∈ xs.map unI, x = 0 ∨ x = 1 := by
  induction xs with
  | nil => exact ⟨rfl, fun x h => by cases h⟩
  | cons v xs ih =>
    simp only [List.all_cons, Bool.and_eq_true] at h
    obtain ⟨h1, h2⟩ := ih h.2
    cases v with
    | int i =>
      have h3 : 0 ≤ i ∧ i ≤ 1 := of_decide_eq_true h.1
      refine ⟨by rw [List.map_cons, List.map_cons, ← h1]; rfl, fun x hx => ?_⟩
      rcases List.mem_cons.mp hx with e | hx
      · rw [e]
        show i = 0 ∨ i = 1
        omega
      · exact h2 x hx
    | _ => exact absurd h.1 (by simp [okB])
theorem cut_1 (ns : List Int) (b : Nat) : cutV (ns.map V.int) (some 1) (some (1 + (b : Int))) = (((ns.drop 1).take b)).map V.int := by
  unfold cutV
  rw [show HT.sIx (ns.map V.int).length 0 (some 1) = min 1 (ns.map V.int).length from HT.sIx_nat _ _ 1, show (1 + (b : Int)) = ((1 + b : Nat) : Int) from by omega, HT.sIx_nat]
  rw [List.length_map, List.map_take, List.map_drop]
  by_cases h : 1 ≤ ns.length
  · rw [Nat.min_eq_left h]
    apply List.ext_getElem?
    intro i
    rw [List.getElem?_take, List.getElem?_take]
    by_cases c : i < b
    · by_cases c2 : i < min (1 + b) ns.length - 1
      · rw [if_pos c, if_pos c2]
      · rw [if_pos c, if_neg c2]
        symm
        rw [List.getElem?_eq_none_iff, List.length_drop, List.length_map]
        omega
    · rw [if_neg c, if_neg (by omega)]
  · have e : ns = [] := List.eq_nil_of_length_eq_zero (by omega)
    subst e
    simp
def sp_nbr (K : PySem.W.Frag) : Sp := fun vs H Q _ => ∃ g b p s v o, vs = [g, v] ∧ IsSh K H g b p s ∧ AsLs K H v o ∧ ∀ H', Ex H H' → Q (nbr b p s o) H'
theorem body_nbr (T : Tx K mg) : ∀ (f : Addr) (cdv : Value) (A : Around) (outer : List Env) (s : Shared) (H : Hp) (vs : List V) (Q : VK) (E : XK), Room 6 (A.deeper (envOfC "number_of" (defScope s_number_of) s.heap.objs.size f cdv)) → sp_nbr K vs H Q E →
      ∃ t, PSs (cxOf CX0 P w K mg base ["shape", "value", "bits", "number", "at", "bit"] "number_of" (defScope s_number_of) f cdv A outer s H E).nox (defBody s_number_of) t ∧ t { nx := fun _ H' => Q .non H', rt := Q } (start ["shape", "value", "bits", "number", "at", "bit"] vs) H := by
  have c_are_levels := cal_are (P := P) (w := w) (base := base) T
  have c_size_of := cal_size (P := P) (w := w) (base := base) T
  have c_frame_of := cal_frame (P := P) (w := w) (base := base) T
  refine fun f cdv A outer s H vs Q E hr h => ⟨_, (pss_cons (ps_if (pt_not (pt_val (pe_cal c_are_levels (hr.mono (by decide)) pass0 (pa_cons (pe_cal c_size_of (hr.mono (by decide)) pass0 (pa_cons (pv 0) pa_nil)) (pa_cons (pv 1) pa_nil))))) (pss_one (ps_ret pe_non)) pss_nil)
      (pss_cons (ps_set (i := 2) sc_number_of.nd rfl (Or.inl rfl) (pe_slice sl_list (pv 1) (po_some pe_int) (po_some (pe_op op_add pe_int (pe_ix ix_tup (pv 0) pe_int (fun _ _ => rfl))))))
      (pss_cons (ps_set (i := 3) sc_number_of.nd rfl (Or.inl rfl) (pe_callB (cr_sum rfl) (by rfl) T.b_sum (by decide +kernel) (pa_cons (pe_lc rfl sc_number_of.nd (pi_enum (by rfl) T.b_enumerate (pa_cons (pv 2) pa_nil)) (blkOk_by (own := [("at", 4), ("bit", 5)]) (N := ["shape", "value", "bits", "number", "at", "bit"]) (sc := defScope s_number_of) (by decide +kernel)) (fun _ _ _ _ _ => (pg_tupK (K0 := K) (n0 := 2) rfl rfl rfl (pgs_cons (pg_name (i := 4) sc_number_of.nd rfl (Or.inl rfl)) (pgs_cons (pg_name (i := 5) sc_number_of.nd rfl (Or.inl rfl)) pgs_nil)))) (fun _ _ _ _ _ => pts_nil) (fun _ _ _ _ _ => (pe_op op_shl (pv 5) (pv 4)))) pa_nil)))
      (pss_one (ps_ret (pe_ifExp (pt_cmpR (op_eqD hr.units) (pe_cal c_frame_of (hr.mono (by decide)) pass0 (pa_cons (pv 0) (pa_cons (pv 3) pa_nil))) (pv 1) (nomark _)) (pv 3) pe_non)))))), ?_⟩
  obtain ⟨g, b, p, s, v, o, rfl, sh, as, q⟩ := h
  refine ⟨_, rfl, g, b, p, s, rfl, sh, _, rfl, _, v, o, rfl, as, fun H1 e1 => ⟨_, rfl, ?_⟩⟩
  cases hA : areL (sz b p s : Nat) o with
  | false =>
    have e : nbr b p s o = .non := by
      cases o with
      | none => rfl
      | some xs => simp [nbr, hA]
    have z := q H1 e1
    rw [e] at z
    exact iteT z
  | true =>
    refine iteF ?_
    cases as with
    | no h hn => cases hA
    | @yes a xs e sq all hl =>
      subst e
      simp only [areL, Bool.and_eq_true] at hA
      have hlen : (xs.length : Int) = (sz b p s : Nat) := of_decide_eq_true hA.1
      obtain ⟨hx, h01⟩ := all_int hA.2
      have e : nbr b p s (some xs) = numV b p s (xs.map unI) := by
        have : areL (sz b p s : Nat) (some xs) = true := by simp only [areL, Bool.and_eq_true]; exact hA
        simp [nbr, this]
      rw [e] at q
      clear e hA
      generalize xs.map unI = ns at hx h01 q
      subst hx
      obtain ⟨t, rfl, st, b1, b9, s1, s2⟩ := id sh
      have sq1 := ex_l e1 sq
      refine ⟨_, rfl, 1, rfl, _, rfl, t, _, 0, .int b, rfl, rfl, ex_t e1 st, rfl, 1, b, rfl, rfl, 1 + (b : Int), rfl, a, _, rfl, sq1, fun B nB => ?_⟩
      rw [cut_1]
      have lb : ((ns.drop 1).take b).length = b := by
        rw [List.length_map] at hlen
        rw [List.length_take, List.length_drop]
        have h5 : ns.length = sz b p s := by omega
        unfold sz at h5
        omega
      have b01 : ∀ x ∈ (ns.drop 1).take b, x = 0 ∨ x = 1 := fun x hx => h01 x (List.mem_of_mem_drop (List.mem_of_mem_take hx))
      unfold numV at q
      generalize (ns.drop 1).take b = bs at lb b01 q ⊢
      have e2 : Ex H (upd H1 B (.lst (bs.map V.int))) := e1.trans (Ex.new nB)
      have hB : upd H1 B (.lst (bs.map V.int)) B = some (.lst (bs.map V.int)) := upd_same
      generalize upd H1 B (.lst (bs.map V.int)) = H2 at e2 hB ⊢
      refine ⟨_, rfl, B, _, rfl, sq_of hB, fun D nD => ?_⟩
      refine lc_enum (K := K) (a := B) (xs := bs.map V.int) (fun i H' => Ex H2 H' ∧ H' D = some (.lst (((wt bs).take i).map V.int))) ⟨Ex.new nD, upd_same⟩ (fun i H' _ ⟨e, _⟩ => sq_of (e _ _ hB)) (fun i x T1 H' hx ⟨e3, hD⟩ nT => ?_) (fun H' ⟨e3, hD⟩ => ?_)
      · obtain ⟨z, hz, rfl⟩ := ints_at hx
        have hi : i < b := by rw [← lb]; exact (List.getElem?_eq_some_iff.mp hz).1
        have z01 := b01 z (List.mem_of_getElem? hz)
        refine ⟨T1, _, rfl, .inl (.inl upd_same), rfl, _, _, rfl, _, _, rfl, rfl, rfl, ?_⟩
        refine ⟨_, rfl, _, rfl, z, (i : Int), rfl, rfl, ⟨by omega, by omega, ?_⟩, _, (Ex.new nT) _ _ hD, ?_, (e3.trans (Ex.new nT)).mut nD, ?_⟩
        · rcases z01 with rfl | rfl <;> decide
        · rw [List.length_map, List.length_take, wt_len]
          exact small1000 (by omega)
        · rw [upd_same, List.take_add_one, List.map_append, wt_at hz]
          rfl
      · obtain ⟨n0, n1⟩ := valB_lt b01
        rw [lb] at n1
        have hD2 : H' D = some (.lst ((wt bs).map V.int)) := by
          rw [hD, List.length_map, ← wt_len bs, List.take_length]
        refine ⟨D, wt bs, rfl, sq_of hD2, ?_⟩
        have ex3 : Ex H H' := e2.trans e3
        refine ⟨_, rfl, _, rfl, .ref t, b, p, s, valB bs, rfl, sh.ex ex3, n0, n1, fun F H5 nF e5 hF => ?_⟩
        have ex5 : Ex H H5 := ex3.trans e5
        refine ⟨_, rfl, .list (dI (frm b p s (valB bs))), .list (dI ns), .lst (sq_of hF) (dp_ints _), .lst (ex_l ex5 sq) (dp_ints _), dI_shaped _, dI_shaped _, _, rfl, ?_⟩
        have z := q H5 ex5
        cases he : PyData.eqv (.list (dI (frm b p s (valB bs)))) (.list (dI ns)) with
        | true =>
          rw [he, if_pos rfl] at z
          exact iteT ⟨_, rfl, z⟩
        | false =>
          rw [he, if_neg Bool.false_ne_true] at z
          exact iteF z
theorem len_nbr {vs H Q} {E : XK} (h : sp_nbr K vs H Q E) : vs.length = (["shape", "value"] : List Str).length := by
  obtain ⟨g, b, p, s, v, o, rfl, _⟩ := h
  rfl
theorem cal_nbr (T : Tx K mg) : Cal P w K mg base CX0 7 "number_of" ["shape", "value"] (sp_nbr K) :=
  T.d_number_of.cal sc_number_of (fun vs H Q E h => len_nbr h) (fun _ _ _ _ _ _ us hl => match us, hl with | [_, _], _ => rfl) (body_nbr T)
theorem cal_nbrK (T : Tx K mg) : CalK P w K mg base CX0 7 "number_of" ["value", "shape"] ["shape", "value"] (gPm [1, 0]) (sp_nbr K) := by
  refine T.d_number_of.calK (gPm [1, 0]) (fun kV doc pm an cdv ct us ws hl => ?_) (rel_gPm _) sc_number_of (fun vs H Q E h => len_nbr h) (body_nbr T)
  match us, ws, hl with
  | [], [a, b], _ => rfl
end
end LW
namespace LW
open PySem PySem.Spec PyProof.Rows L2 Evl SB
section
variable {P : Program} {w : World} {K : PySem.W.Frag} {mg : Str → Option Value} {base : Heap}
theorem cal_linteger (T : Tx K mg) : Cal P w K mg base CX0 1 "_law_is_integer" ["_law_thing"] (sp_is_int K) := by
  refine T.d_law_is_integer.cal sc_law_is_integer (fun vs H Q E h => ?_) (fun _ _ _ _ _ _ us hl => match us, hl with | [_], _ => rfl) (fun f cdv A outer s H vs Q E hr h => ⟨_, (pss_one (ps_ret (pe_and (pe_callB call_isi (by rfl) T.b_isinstance (by decide +kernel) (pa_cons (pv 0) (pa_cons (pe_bltn (v := .ty "int") (by rfl) T.b_int (by decide +kernel) rfl) pa_nil))) (pe_one (pe_not (pe_callB call_isi (by rfl) T.b_isinstance (by decide +kernel) (pa_cons (pv 0) (pa_cons (pe_bltn (v := .ty "bool") (by rfl) T.b_bool (by decide +kernel) rfl) pa_nil)))))))), ?_⟩)
  · obtain ⟨v, n, rfl, _⟩ := h
    rfl
  · obtain ⟨v, n, rfl, ty, q⟩ := h
    refine ⟨v, rfl, v, .ty "int", _, _, _, rfl, .ty _, ty.x, ty.kit (.inl rfl), _, rfl, ?_⟩
    cases ty with
    | int i => exact ⟨_, rfl, _, .ty "bool", _, _, _, rfl, .ty _, (TyN.int i : TyN K H _ _).x, (TyN.int i : TyN K H _ _).kit (.inr (.inl rfl)), _, rfl, q⟩
    | bl b => exact ⟨_, rfl, _, .ty "bool", _, _, _, rfl, .ty _, (TyN.bl b : TyN K H _ _).x, (TyN.bl b : TyN K H _ _).kit (.inr (.inl rfl)), _, rfl, q⟩
    | _ => exact q
theorem frm_sz (b : Nat) (p : Pa) (s : Nat) (x : Int) : (frm b p s x).length = sz b p s := by
  have h := frm_len b p s x
  have e : (parL b p x).length = plen p := by cases p <;> rfl
  unfold sz
  omega
theorem in01 (i : Int) : inV (.int i) [.int 0, .int 1] = okB 0 1 (.int i) := by
  by_cases h0 : i = 0
  · subst h0; decide +kernel
  by_cases h1 : i = 1
  · subst h1; decide +kernel
  have e : okB 0 1 (.int i) = false := decide_eq_false (by omega)
  rw [e]
  simp [inV, h0, h1]
  constructor <;> simp [eqV] <;> omega
theorem cal_lnbr (T : Tx K mg) : Cal P w K mg base CX0 7 "_law_number" ["_law_form", "_law_thing"] (sp_nbr K) := by
  have c_law_is_integer := cal_linteger (P := P) (w := w) (base := base) T
  have c_law_frame := cal_lframe (P := P) (w := w) (base := base) T
  refine T.d_law_number.cal sc_law_number (fun vs H Q E h => ?_) (fun _ _ _ _ _ _ us hl => match us, hl with | [_, _], _ => rfl) (fun f cdv A outer s H vs Q E hr h => ⟨_, (pss_cons (ps_if (PW.pt (pw_or (pt_not (pt_val (pe_callB call_isi (by rfl) T.b_isinstance (by decide +kernel) (pa_cons (pv 1) (pa_cons (pe_bltn (v := .ty "list") (by rfl) T.b_list (by decide +kernel) rfl) pa_nil))))) (pw_or1 (pt_cmpR op_ne (pe_callB call_len_seq (by rfl) T.b_len (by decide +kernel) (pa_cons (pv 1) pa_nil)) (pe_callB call_len_seq (by rfl) T.b_len (by decide +kernel) (pa_cons (pe_cal c_law_frame (hr.mono (by decide)) pass0 (pa_cons (pv 0) (pa_cons pe_int pa_nil))) pa_nil)) (nomark _))))) (pss_one (ps_ret pe_non)) pss_nil)
      (pss_cons (ps_asg (pe_tup (pa_cons pe_int (pa_cons pe_int pa_nil))) (pg_tup rfl (pgs_cons (pg_name (i := 2) sc_law_number.nd rfl (Or.inl rfl)) (pgs_cons (pg_name (i := 3) sc_law_number.nd rfl (Or.inl rfl)) pgs_nil))))
      (pss_cons (ps_for PassesOwn.never rfl (pi_list (pv 1)) (pg_name (i := 4) sc_law_number.nd rfl (Or.inl rfl)) (pss_one (ps_if (PW.pt (pw_or (pt_not (pt_val (pe_cal c_law_is_integer (hr.mono (by decide)) pass0 (pa_cons (pv 4) pa_nil)))) (pw_or1 (pt_cmpR op_notIn_seq (pv 4) (pe_tup (pa_cons pe_int (pa_cons pe_int pa_nil))) (by rfl))))) (pss_one (ps_ret pe_non)) pss_nil)))
      (pss_cons (ps_for PassesOwn.never rfl (pi_list (pe_slice sl_list (pv 1) (po_some pe_int) (po_some (pe_op op_add pe_int (pe_ix ix_tup (pv 0) pe_int (fun _ _ => rfl)))))) (pg_name (i := 4) sc_law_number.nd rfl (Or.inl rfl)) (pss_cons (ps_set (i := 2) sc_law_number.nd rfl (Or.inl rfl) (pe_op op_add (pv 2) (pe_op op_mul (pv 3) (pv 4))))
      (pss_one (ps_set (i := 3) sc_law_number.nd rfl (Or.inl rfl) (pe_op op_mul pe_int (pv 3))))))
      (pss_one (ps_ret (pe_ifExp (pt_cmpR (op_eqD hr.units) (pe_cal c_law_frame (hr.mono (by decide)) pass0 (pa_cons (pv 0) (pa_cons (pv 2) pa_nil))) (pv 1) (nomark _)) (pv 2) pe_non))))))), ?_⟩)
  · obtain ⟨g, b, p, s, v, o, rfl, _⟩ := h
    rfl
  · obtain ⟨g, b, p, s, v, o, rfl, sh, as, q⟩ := h
    cases as with
    | @no n ty hn =>
      refine ⟨_, rfl, v, .ty "list", _, _, false, rfl, .ty _, ty.x, ?_, _, rfl, iteT (q H (Ex.refl H))⟩
      exact (ty.kit (m := "list") (by simp)).trans (by simp [hn])
    | @yes a xs e sq all hl =>
      subst e
      refine ⟨_, rfl, _, .ty "list", _, _, true, rfl, .ty _, (TyN.lst sq).x, ki, true, rfl, iteF ?_⟩
      have p2 : (0 : Int) < 2 ^ b := Int.pow_pos (by decide)
      refine ⟨_, rfl, a, xs, rfl, .inl sq, _, rfl, g, b, p, s, 0, rfl, sh, Int.le_refl _, p2, fun F H1 nF e1 hF => ?_⟩
      refine ⟨F, _, rfl, .inl (sq_of hF), rfl, _, rfl, ?_⟩
      rw [List.length_map, frm_sz]
      have none_of : areL (sz b p s : Nat) (some xs) = false → ∀ H', Ex H H' → Q .non H' := fun h H' e => by
        have e2 : nbr b p s (some xs) = .non := by simp [nbr, h]
        rw [← e2]
        exact q H' e
      refine ite2 (fun h => none_of ?_ H1 e1) (fun h => ?_)
      · have h2 : ¬ ((xs.length : Int) = (sz b p s : Nat)) := by simpa using h
        simp [areL, h2]
      have hlen : (xs.length : Int) = (sz b p s : Nat) := by simpa using h
      have bad : ∀ x, x ∈ xs → okB 0 1 x = false → areL (sz b p s : Nat) (some xs) = false := fun x hx hb => by
        have e2 : xs.all (okB 0 1) = false := by
          cases h : xs.all (okB 0 1) with
          | false => rfl
          | true =>
            have := List.all_eq_true.mp h x hx
            rw [hb] at this
            cases this
        simp [areL, e2]
      refine ⟨(by show 2 ≤ sizeLine; decide), fun T0 nT0 => ⟨T0, _, rfl, .inl (.inl upd_same), rfl, _, _, rfl, _, _, rfl, rfl, ?_⟩⟩
      have e2 : Ex H (upd H1 T0 (.tup [.int 0, .int 1])) := e1.trans (Ex.new nT0)
      generalize upd H1 T0 (.tup [.int 0, .int 1]) = H2 at e2 ⊢
      refine ⟨_, rfl, a, rfl, ⟨_, ex_l e2 sq⟩, for_list (K := K) (a := a) (xs := xs) (fun i σ H3 => ∃ u, σ = [some g, some (.ref a), some (.int 0), some (.int 1), u] ∧ Ex H H3 ∧ (xs.take i).all (okB 0 1) = true) ⟨none, rfl, e2, rfl⟩ (fun i σ H3 _ ⟨_, _, e, _⟩ => ex_l e sq) ?_ ?_⟩
      · rintro i x σ H3 hx ⟨u, rfl, ex, ha⟩
        have hm := List.mem_of_getElem? hx
        obtain ⟨n, ty⟩ := (all x hm).ex ex
        refine ⟨_, rfl, x, n, rfl, ty, _, rfl, ?_⟩
        cases ty with
        | int j =>
          refine iteF ⟨_, rfl, (by show 2 ≤ sizeLine; decide), fun tp ntp => ?_⟩
          have ex4 : ∀ o, Ex H (upd H3 tp o) := fun o => ex.trans (Ex.new ntp)
          refine ⟨_, _, rfl, .inr (.inl (.inl upd_same)), rfl, rfl, _, rfl, ite2 (fun h3 => none_of (bad _ hm ?_) _ (ex4 _)) (fun h3 => ⟨_, rfl, ex4 _, ?_⟩)⟩
          · rw [← in01]
            simpa using h3
          · have h4 : okB 0 1 (.int j) = true := by
              rw [← in01]
              simpa using h3
            rw [List.take_add_one, hx, List.all_append, ha, Bool.true_and]
            show (okB 0 1 (.int j) && true) = true
            rw [h4]
            rfl
        | _ => exact iteT (none_of (bad _ hm rfl) _ ex)
      · rintro σ H3 ⟨u, rfl, ex, ha⟩
        rw [List.take_length] at ha
        obtain ⟨hx, h01⟩ := all_int ha
        have e : nbr b p s (some xs) = numV b p s (xs.map unI) := by
          have : areL (sz b p s : Nat) (some xs) = true := by simp [areL, hlen, ha]
          simp [nbr, this]
        rw [e] at q
        clear e bad none_of ha h all
        generalize xs.map unI = ns at hx h01 q
        subst hx
        obtain ⟨t, rfl, st, b1, b9, s1, s2⟩ := id sh
        refine ⟨_, rfl, 1, rfl, _, rfl, t, _, 0, .int b, rfl, rfl, ex_t ex st, rfl, 1, b, rfl, rfl, 1 + (b : Int), rfl, a, _, rfl, ex_l ex sq, fun B nB => ?_⟩
        rw [cut_1]
        have lb : ((ns.drop 1).take b).length = b := by
          rw [List.length_map] at hlen
          rw [List.length_take, List.length_drop]
          have h5 : ns.length = sz b p s := by omega
          unfold sz at h5
          omega
        have b01 : ∀ x ∈ (ns.drop 1).take b, x = 0 ∨ x = 1 := fun x hx => h01 x (List.mem_of_mem_drop (List.mem_of_mem_take hx))
        unfold numV at q
        generalize (ns.drop 1).take b = bs at lb b01 q ⊢
        have e4 : Ex H (upd H3 B (.lst (bs.map V.int))) := ex.trans (Ex.new nB)
        have hB : upd H3 B (.lst (bs.map V.int)) B = some (.lst (bs.map V.int)) := upd_same
        generalize upd H3 B (.lst (bs.map V.int)) = H4 at e4 hB ⊢
        refine ⟨B, rfl, ⟨_, sq_of hB⟩, for_list (K := K) (a := B) (xs := bs.map V.int) (fun i σ H5 => ∃ u, σ = [some (.ref t), some (.ref a), some (.int ((wt bs).take i).sum), some (.int (2 ^ i)), u] ∧ Ex H4 H5) ⟨_, rfl, Ex.refl H4⟩ (fun i σ H5 _ ⟨_, _, e⟩ => sq_of (e _ _ hB)) ?_ ?_⟩
        · rintro i x σ H5 hx ⟨u, rfl, e5⟩
          obtain ⟨z, hz, rfl⟩ := ints_at hx
          have hi : i < b := by rw [← lb]; exact (List.getElem?_eq_some_iff.mp hz).1
          have w0 : (0 : Int) < 2 ^ i := Int.pow_pos (by decide)
          have w1 : (2 : Int) ^ i ≤ 512 := by
            have h1 : (2 : Nat) ^ i ≤ 2 ^ 9 := Nat.pow_le_pow_right (by decide) (by omega)
            have e : (2 : Int) ^ i = ((2 ^ i : Nat) : Int) := by norm_cast
            omega
          refine ⟨_, rfl, _, rfl, _, rfl, _, _, rfl, rfl, .inl ⟨by omega, by omega⟩, _, _, rfl, rfl, ?_⟩
          refine ⟨_, rfl, _, _, rfl, rfl, .inl ⟨by decide, by decide⟩, ?_⟩
          refine ⟨some (.int z), ?_, e5⟩
          have s1 : ((wt bs).take (i + 1)).sum = ((wt bs).take i).sum + 2 ^ i * z := by
            rw [List.take_add_one, wt_at hz]
            simp [List.sum_append, Int.mul_comm]
          have s2 : (2 : Int) ^ (i + 1) = 2 * 2 ^ i := by rw [Int.pow_succ, Int.mul_comm]
          rw [s1, s2]
          rfl
        · rintro σ H5 ⟨u, rfl, e5⟩
          obtain ⟨n0, n1⟩ := valB_lt b01
          rw [lb] at n1
          rw [List.length_map, ← wt_len bs, List.take_length]
          have ex5 : Ex H H5 := e4.trans e5
          refine ⟨_, rfl, _, rfl, .ref t, b, p, s, valB bs, rfl, sh.ex ex5, n0, n1, fun F6 H6 nF6 e6 hF6 => ?_⟩
          have ex6 : Ex H H6 := ex5.trans e6
          refine ⟨_, rfl, .list (dI (frm b p s (valB bs))), .list (dI ns), .lst (sq_of hF6) (dp_ints _), .lst (ex_l ex6 sq) (dp_ints _), dI_shaped _, dI_shaped _, _, rfl, ?_⟩
          have z := q H6 ex6
          cases he : PyData.eqv (.list (dI (frm b p s (valB bs)))) (.list (dI ns)) with
          | true =>
            rw [he, if_pos rfl] at z
            exact iteT ⟨_, rfl, z⟩
          | false =>
            rw [he, if_neg Bool.false_ne_true] at z
            exact iteF z
end
end LW
namespace LW
open PySem PySem.Spec PyProof.Rows L2 Evl SB
section
variable {P : Program} {w : World} {K : PySem.W.Frag} {mg : Str → Option Value} {base : Heap}
theorem pow_512 {b : Nat} (h : b ≤ 9) : (0 : Int) < 2 ^ b ∧ (2 : Int) ^ b ≤ 512 := by
  refine ⟨Int.pow_pos (by decide), ?_⟩
  have h1 : (2 : Nat) ^ b ≤ 2 ^ 9 := Nat.pow_le_pow_right (by decide) h
  have e : (2 : Int) ^ b = ((2 ^ b : Nat) : Int) := by norm_cast
  omega
def InSh (b : Nat) (ns : List Int) : Prop := ∀ n ∈ ns, 0 ≤ n ∧ n < 2 ^ b
def sp_nums (K : PySem.W.Frag) : Sp := fun vs H Q _ => ∃ (a : Addr) (n : Nat) (g : V) (b : Nat) (p : Pa) (s : Nat), vs = [.ref a, g] ∧ Src H a n ∧ n ≤ 800000 ∧ IsSh K H g b p s ∧
  ∀ r ns H', H r = none → Kp a H H' → Src H' a (n + 8) → H' r = some (.lst (ns.map V.int)) → ns.length ≤ 16 → InSh b ns → Q (.ref r) H'
theorem cal_nums (T : Tx K mg) : Cal P w K mg base CX0 2 "_law_numbers" ["_law_source_here", "_law_form"] (sp_nums K) := by
  have c_law_draw := cal_draw (P := P) (w := w) (base := base) T
  refine T.d_law_numbers.cal sc_law_numbers (fun vs H Q E h => ?_) (fun _ _ _ _ _ _ us hl => match us, hl with | [_, _], _ => rfl) (fun f cdv A outer s H vs Q E hr h => ⟨_, (pss_cons (ps_set (i := 2) sc_law_numbers.nd rfl (Or.inr rfl) pe_int)
      (pss_cons (ps_for PassesOwn.never rfl (pi_range1 rfl T.b_range (pa_cons (pe_ix ix_tup (pv 1) pe_int (fun _ _ => rfl)) pa_nil)) (pg_name (i := 3) sc_law_numbers.nd rfl (Or.inl rfl)) (pss_one (ps_set (i := 2) sc_law_numbers.nd rfl (Or.inr rfl) (pe_op op_mul pe_int (pv 2)))))
      (pss_cons (ps_if (pt_cmpR op_le (pe_ix ix_tup (pv 1) pe_int (fun _ _ => rfl)) pe_int (nomark _)) (pss_one (ps_ret (pe_lc rfl sc_law_numbers.nd (pi_range1 rfl T.b_range (pa_cons (pv 2) pa_nil)) (blkOk_by (own := [("_law_code", 4)]) (N := ["_law_source_here", "_law_form", "_law_most", "_law_turn", "_law_code"]) (sc := defScope s_law_numbers) (by decide +kernel)) (fun _ _ _ _ _ => (pg_name (i := 4) sc_law_numbers.nd rfl (Or.inl rfl))) (fun _ _ _ _ _ => pts_nil) (fun _ _ _ _ _ => (pv 4))))) pss_nil)
      (pss_one (ps_ret (pe_op op_cat (pe_lst (pa_cons pe_int (pa_cons (pe_op op_sub (pv 2) pe_int) pa_nil))) (pe_lc rfl sc_law_numbers.nd (pi_range1 rfl T.b_range (pa_cons pe_int pa_nil)) (blkOk_by (own := [("_law_turn", 3)]) (N := ["_law_source_here", "_law_form", "_law_most", "_law_turn", "_law_code"]) (sc := defScope s_law_numbers) (by decide +kernel)) (fun _ _ _ _ _ => (pg_name (i := 3) sc_law_numbers.nd rfl (Or.inl rfl))) (fun _ _ _ _ _ => pts_nil) (fun _ _ _ _ _ => (pe_cal c_law_draw (hr.mono (by decide)) pass0 (pa_cons (pv 0) (pa_cons (pv 2) pa_nil))))))))))), ?_⟩)
  · obtain ⟨a, n, g, b, p, s, rfl, _⟩ := h
    rfl
  · obtain ⟨a, n, g, b, p, s, rfl, src, hn, ⟨t, rfl, st, b1, b9, s1, s2⟩, q⟩ := h
    obtain ⟨m0, m1⟩ := pow_512 b9
    have m2 : (512 : Int) < 2 ^ 200 := by decide
    refine ⟨_, rfl, t, _, 0, .int b, rfl, rfl, st, rfl, b, rfl, by omega, by omega, ?_⟩
    refine for_range (lo := 0) (n := (b : Int).toNat) (fun i σ H2 => ∃ u, σ = [some (.ref a), some (.ref t), some (.int (2 ^ i)), u, none] ∧ Ex H H2) ⟨none, by simp [L2.start], Ex.refl H⟩ ?_ ?_
    · rintro i σ H2 hi ⟨u, rfl, ex⟩
      refine ⟨_, rfl, _, _, rfl, rfl, .inl ⟨by decide, by decide⟩, ?_⟩
      refine ⟨some (.int (0 + (i : Int))), ?_, ex⟩
      rw [Int.pow_succ, Int.mul_comm]
      rfl
    rintro σ H2 ⟨u, rfl, ex⟩
    rw [Int.toNat_natCast]
    refine ⟨_, rfl, t, _, 0, .int b, rfl, rfl, ex_t ex st, rfl, b, 4, rfl, rfl, _, rfl, ite2 (fun h4 => ?_) (fun h4 => ?_)⟩
    · have h5 : (b : Int) ≤ 4 := of_decide_eq_true h4
      have m16 : (2 : Int) ^ b ≤ 16 := by
        have h1 : (2 : Nat) ^ b ≤ 2 ^ 4 := Nat.pow_le_pow_right (by decide) (by omega)
        have e : (2 : Int) ^ b = ((2 ^ b : Nat) : Int) := by norm_cast
        omega
      refine ⟨_, rfl, _, rfl, by omega, by omega, fun D nD => ?_⟩
      refine lc_range (lo := 0) (n := ((2 : Int) ^ b).toNat) (fun i H' => Ex H2 H' ∧ H' D = some (.lst (((List.range i).map fun j : Nat => (j : Int)).map V.int))) ⟨Ex.new nD, upd_same⟩ (fun i H' hi ⟨e1, e2⟩ => ?_) (fun H' ⟨e1, e2⟩ => ?_)
      · refine ⟨rfl, _, rfl, _, e2, ?_, e1.mut nD, ?_⟩
        · simp only [List.length_map, List.length_range]
          exact small1000 (by omega)
        · rw [upd_same, List.range_succ, List.map_append, List.map_append]
          simp
      · have ee := ex.trans e1
        refine q D _ H' (fresh_back ex nD) (Ex.kp ee) ((src.ex ee).mono (by omega)) e2 ?_ ?_
        · simp only [List.length_map, List.length_range]
          omega
        · intro x hx
          obtain ⟨j, hj, rfl⟩ := List.mem_map.mp hx
          have := List.mem_range.mp hj
          omega
    · refine ⟨_, rfl, _, _, rfl, rfl, (by show 2 ≤ sizeLine; decide), fun L nL => ⟨8, rfl, by decide, by decide, fun D nD => ?_⟩⟩
      have sr2 := src.ex ex
      have L_a : L ≠ a := sr2.ne nL
      have eL : ∀ o, Ex H2 (upd H2 L o) := fun o => Ex.new nL
      have D_a : D ≠ a := (sr2.ex (eL _)).ne nD
      have D_L : D ≠ L := fun z => by rw [z, upd_same] at nD; cases nD
      refine lc_range (lo := 0) (n := 8) (fun i H' => ∃ ds, Kp a H H' ∧ Src H' a (n + i) ∧ H' D = some (.lst (ds.map V.int)) ∧ ds.length = i ∧ InSh b ds ∧ H' L = some (.lst [.int 0, .int (2 ^ b - 1)]))
        ⟨[], Ex.kp ((ex.trans (eL _)).trans (Ex.new nD)), (sr2.ex (eL _)).ex (Ex.new nD), upd_same, rfl, (fun x hx => by cases hx), (Ex.new nD) _ _ upd_same⟩ (fun i H' hi ⟨ds, k1, r1, hD, hl, hin, hL⟩ => ?_) (fun H' ⟨ds, k1, r1, hD, hl, hin, hL⟩ => ?_)
      · refine ⟨rfl, _, rfl, _, rfl, a, _, n + i, rfl, r1, by omega, m0, by omega, fun d H6 d0 d1 r6 k6 => ⟨_, k6 D _ D_a hD, ?_, ds ++ [d], ?_, r6.upd D_a, ?_, ?_, ?_, ?_⟩⟩
        · rw [List.length_map]
          exact small1000 (by omega)
        · have fD : H D = none := fresh_back (ex.trans (eL _)) nD
          exact (k1.trans k6).mut fD
        · rw [upd_same, List.map_append]
          rfl
        · rw [List.length_append, hl]
          rfl
        · intro x hx
          rcases List.mem_append.mp hx with hx | hx
          · exact hin x hx
          · rw [List.mem_singleton.mp hx]
            exact ⟨d0, d1⟩
        · rw [upd_ne (Ne.symm D_L)]
          exact k6 L _ L_a hL
      · refine ⟨L, D, _, _, rfl, rfl, hL, hD, ?_, fun l nl => ?_⟩
        · rw [List.length_map, hl]
          show 10 ≤ sizeLine
          decide
        · refine q l ([0, 2 ^ b - 1] ++ ds) _ (Kp.free k1 nl (r1.ne nl)) (k1.trans (Ex.kp (Ex.new nl))) (r1.ex (Ex.new nl)) ?_ ?_ ?_
          · rw [upd_same, List.map_append]
            rfl
          · rw [List.length_append, hl]
            show 2 + 8 ≤ 16
            decide
          · intro x hx
            rcases List.mem_append.mp hx with hx | hx
            · simp only [List.mem_cons, List.not_mem_nil, or_false] at hx
              rcases hx with rfl | rfl <;> omega
            · exact hin x hx
end
end LW
namespace LW
open PySem PySem.Spec PyProof.Rows L2 Evl SB
section
variable {P : Program} {w : World} {K : PySem.W.Frag} {mg : Str → Option Value} {base : Heap}
/-! ### bent frames -/
/-- an item of a bent frame; the source at a and the list at L are others -/
inductive It (H : Hp) (a L : Addr) : V → Prop where
  | int (i : Int) (h : i.natAbs < 2 ^ 100) : It H a L (.int i)
  | bl (b : Bool) : It H a L (.bl b)
  | str : It H a L (.str "0")
  | non : It H a L .non
  | one {p : Addr} (h : H p = some (.lst [.int 1])) (ha : p ≠ a) (hL : p ≠ L) : It H a L (.ref p)
theorem It.kp {H H' : Hp} {a L : Addr} {v : V} (k : Kp a H H') (h : It H a L v) : It H' a L v := by
  cases h with
  | int i h => exact .int i h
  | bl b => exact .bl b
  | str => exact .str
  | non => exact .non
  | one h ha hL => exact .one (k _ _ ha h) ha hL
theorem It.set {H : Hp} {a L : Addr} {v : V} {o : HO} (h : It H a L v) : It (upd H L o) a L v := by
  cases h with
  | int i h => exact .int i h
  | bl b => exact .bl b
  | str => exact .str
  | non => exact .non
  | one h ha hL => exact .one (by rw [upd_ne hL]; exact h) ha hL
theorem It.moved {H : Hp} {a L L' : Addr} {v : V} (hL : H L' = none) (h : It H a L v) : It H a L' v := by
  cases h with
  | int i h => exact .int i h
  | bl b => exact .bl b
  | str => exact .str
  | non => exact .non
  | one h ha hL' => exact .one h ha (fun e => by rw [e, hL] at h; cases h)
theorem It.dp {K : PySem.W.Frag} {H : Hp} {a L : Addr} {v : V} (h : It H a L v) : ∃ d, Dp K H v d ∧ d.hasDict = false ∧ SeqAt.shaped d = true ∧ d.showable = true ∧ d.depth ≤ 1 ∧ d.shown.length ≤ 110 ∧ Any K H v := by
  cases h with
  | int i h =>
    refine ⟨_, .int i, rfl, ?_, ?_, ?_, ?_, _, .int i⟩
    · simp [SeqAt.shaped, PyData.canLay0, PyData.depth]
    · have hl : i.natAbs.log2 < 100 := int_log (by decide) h
      simp only [PyData.showable, decide_eq_true_eq]
      omega
    · simp [PyData.depth]
    · show (Str.ofString (toString i)).length ≤ 110
      rw [PySem.ofString_length]
      have hl : i.natAbs.log2 < 100 := int_log (by decide) h
      have := int_text_length_le (k := 100) (by decide) hl
      omega
  | bl b => cases b <;> exact ⟨_, .bl _, rfl, by decide +kernel, by decide +kernel, by decide +kernel, by decide +kernel, _, .bl _⟩
  | str => exact ⟨_, .str _, rfl, by decide +kernel, by decide +kernel, by decide +kernel, by decide +kernel, _, .str _⟩
  | non => exact ⟨_, .non, rfl, by decide +kernel, by decide +kernel, by decide +kernel, by decide +kernel, _, .non⟩
  | one h ha hL => exact ⟨.list [.int 1], .lst (.inl (.inl h)) (.cons (.int 1) .nil), rfl, by decide +kernel, by decide +kernel, by decide +kernel, by decide +kernel, _, .lst (.inl (.inl h))⟩
theorem kp_l {K : PySem.W.Frag} {H H' : Hp} {a f : Addr} {xs : List V} (k : Kp a H H') (ne : f ≠ a) (h : SqL K H f xs) : SqL K H' f xs := by
  rcases h with (h | ⟨o, h⟩) | h
  · exact .inl (.inl (k _ _ ne h))
  · exact .inl (.inr ⟨o, k _ _ ne h⟩)
  · exact .inr h
theorem ixN_nat {n j : Nat} (h : j < n) : ixN n (j : Int) = some j := by
  unfold ixN
  rw [if_pos (by omega), if_pos (by omega), Int.toNat_natCast]
theorem at_mem (xs : List V) {d : Int} (h0 : 0 ≤ d) (h1 : d < xs.length) : ∃ v, v ∈ xs ∧ atI xs d = some v := by
  obtain ⟨i, rfl⟩ := Int.eq_ofNat_of_zero_le h0
  have hi : i < xs.length := by omega
  exact ⟨xs[i], List.getElem_mem hi, atI_nat (List.getElem?_eq_getElem hi)⟩
theorem pickL {K : PySem.W.Frag} {a L : Addr} {n : Nat} {m : Int} {xs : List V} {H3 : Hp} {E : XK} {Q' : VK} (hm : m = (xs.length : Int)) (h0 : 0 < xs.length) (h1 : xs.length ≤ 1000) (hn : n ≤ 1000000) (src3 : Src H3 a n) (hL : H3 L = some (.lst xs)) (ne : L ≠ a)
    (k : ∀ v H', v ∈ xs → Kp a H3 H' → Src H' a (n + 1) → Q' v H') : sp_draw ([V.ref a, .int m] ++ []) H3 (fun d H5 => rIxL K (.ref L) d H5 Q') E := by
  subst hm
  refine ⟨a, _, n, rfl, src3, hn, by omega, ?_, fun d H5 d0 d1 src5 k5 => ?_⟩
  · have : (1000 : Int) < 2 ^ 200 := by decide
    omega
  obtain ⟨v, hv, hi⟩ := at_mem xs d0 d1
  exact ⟨L, _, d, _, rfl, rfl, sq_of (k5 L _ ne hL), hi, k v H5 hv k5 src5⟩
theorem cut_lo (xs : List V) (j : Nat) : cutV xs none (some (j : Int)) = xs.take j := by
  unfold cutV
  rw [HT.sIx_nat, HT.sIx_none, List.drop_zero, Nat.sub_zero]
  by_cases h : j ≤ xs.length
  · rw [Nat.min_eq_left h]
  · rw [Nat.min_eq_right (by omega), List.take_length, List.take_of_length_le (by omega)]
theorem cut_hi (xs : List V) (j : Nat) : cutV xs (some (j : Int)) none = xs.drop j := by
  unfold cutV
  rw [HT.sIx_nat, HT.sIx_none]
  by_cases h : j ≤ xs.length
  · rw [Nat.min_eq_left h, List.take_of_length_le (by rw [List.length_drop]; omega)]
  · rw [Nat.min_eq_right (by omega), List.drop_length, List.drop_eq_nil_of_le (by omega)]
    simp
/-- any value with what is asked of it -/
def Thg (K : PySem.W.Frag) (a : Addr) (H : Hp) (v : V) : Prop := ∃ o d, Shw d ∧ ∀ H', Kp a H H' → AsLs K H' v o ∧ DpD K H' v d
theorem itS {K : PySem.W.Frag} {H : Hp} {a L : Addr} {v : V} (h : It H a L v) : ∃ d, (∀ H', Kp a H H' → Dp K H' v d ∧ Any K H' v) ∧ d.hasDict = false ∧ d.showable = true ∧ d.depth ≤ 1 ∧ d.shown.length ≤ 110 := by
  cases h with
  | int i hi =>
    obtain ⟨d, e1, e2, e3, e4, e5, e6, e7⟩ := (It.int (H := H) (a := a) (L := L) i hi).dp (K := K)
    cases e1
    exact ⟨_, fun _ _ => ⟨.int i, _, .int i⟩, e2, e4, e5, e6⟩
  | bl b => cases b <;> exact ⟨_, fun _ _ => ⟨.bl _, _, .bl _⟩, rfl, by decide +kernel, by decide +kernel, by decide +kernel⟩
  | str => exact ⟨_, fun _ _ => ⟨.str _, _, .str _⟩, rfl, by decide +kernel, by decide +kernel, by decide +kernel⟩
  | non => exact ⟨_, fun _ _ => ⟨.non, _, .non⟩, rfl, by decide +kernel, by decide +kernel, by decide +kernel⟩
  | @one p h ha hL => exact ⟨.list [.int 1], fun H' k => ⟨.lst (.inl (.inl (k _ _ ha h))) (.cons (.int 1) .nil), _, .lst (.inl (.inl (k _ _ ha h)))⟩, rfl, by decide +kernel, by decide +kernel, by decide +kernel⟩
theorem items_dpS {K : PySem.W.Frag} {H : Hp} {a L : Addr} : ∀ {xs : List V}, (∀ x ∈ xs, It H a L x) → ∃ ds, (∀ H', Kp a H H' → DpAll K H' xs ds ∧ ∀ x ∈ xs, Any K H' x) ∧ PyData.hasDictAll ds = false ∧ PyData.showableAll ds = true ∧ PyData.depthAll ds ≤ 1 ∧ ((PyData.shownAll ds).map (·.length)).sum ≤ 110 * xs.length ∧ (PyData.shownAll ds).length = xs.length
  | [], _ => ⟨[], fun _ _ => ⟨.nil, fun x hx => by cases hx⟩, by simp [PyData.hasDictAll], by simp [PyData.showableAll], by simp [PyData.depthAll], by simp [PyData.shownAll], by simp [PyData.shownAll]⟩
  | x :: xs, h => by
    obtain ⟨ds, h1, h2, h3, h4, h5, h6⟩ := items_dpS (K := K) fun y hy => h y (List.mem_cons_of_mem _ hy)
    obtain ⟨d, e1, e2, e4, e5, e6⟩ := itS (K := K) (h x (List.mem_cons_self ..))
    refine ⟨d :: ds, fun H' k => ⟨.cons (e1 H' k).1 (h1 H' k).1, fun y hy => ?_⟩, by simp [PyData.hasDictAll, h2, e2], by simp [PyData.showableAll, h3, e4], ?_, ?_, ?_⟩
    · rcases List.mem_cons.mp hy with rfl | hy
      · exact (e1 H' k).2
      · exact (h1 H' k).2 y hy
    · simp only [PyData.depthAll]
      omega
    · simp only [PyData.shownAll, List.map_cons, List.sum_cons, List.length_cons]
      omega
    · simp only [PyData.shownAll, List.length_cons, h6]
theorem thg_items {K : PySem.W.Frag} {H : Hp} {a L p : Addr} {xs : List V} (pa : p ≠ a) (sq : H p = some (.lst xs)) (h : ∀ x ∈ xs, It H a L x) (hl : xs.length ≤ 1000) : Thg K a H (.ref p) := by
  obtain ⟨ds, h1, h2, h3, h4, h5, h6⟩ := items_dpS (K := K) h
  refine ⟨some xs, .list ds, ⟨?_, ?_, ?_⟩, fun H' k => ⟨.yes rfl (sq_of (k _ _ pa sq)) (h1 H' k).2 hl, .old (.lst (sq_of (k _ _ pa sq)) (h1 H' k).1) (by simpa [PyData.hasDict] using h2)⟩⟩
  · simpa [PyData.showable] using h3
  · simp only [PyData.depth]
    omega
  · simp only [PyData.shown]
    have := listText_len_le (PyData.shownAll ds)
    rw [sizeLine_eq]
    omega
theorem shw_t {ns : List Int} (h : ∀ n ∈ ns, n.natAbs < 2 ^ 200) (hl : ns.length ≤ 1000) : Shw (.tuple (dI ns)) ∧ (PyData.tuple (dI ns)).hasDict = false := by
  obtain ⟨h1, h2, h3, h4, h5⟩ := show_ints ns h
  refine ⟨⟨?_, ?_, ?_⟩, ?_⟩
  · simp only [PyData.showable, h1]
  · simp only [PyData.depth, h3]
    omega
  · simp only [PyData.shown]
    have := tupleText_len_le (PyData.shownAll (dI ns))
    rw [sizeLine_eq]
    omega
  · simp only [PyData.hasDict, h2]
theorem shw_ll {ns : List Int} (h : ∀ n ∈ ns, n.natAbs < 2 ^ 200) (hl : ns.length ≤ 1000) : Shw (.list [.list (dI ns)]) ∧ (PyData.list [.list (dI ns)]).hasDict = false := by
  obtain ⟨h1, h2, h3, h4, h5⟩ := show_ints ns h
  refine ⟨⟨?_, ?_, ?_⟩, ?_⟩
  · simp only [PyData.showable, PyData.showableAll, h1, Bool.and_self]
  · simp only [PyData.depth, PyData.depthAll, h3]
    omega
  · simp only [PyData.shown, PyData.shownAll]
    have h6 := listText_len_le (PyData.shownAll (dI ns))
    have h7 := listText_len_le [listText (PyData.shownAll (dI ns))]
    simp only [List.map_cons, List.map_nil, List.sum_cons, List.sum_nil, List.length_cons, List.length_nil] at h7
    rw [sizeLine_eq]
    omega
  · simp only [PyData.hasDict, PyData.hasDictAll, h2, Bool.or_self]
def sp_bent (K : PySem.W.Frag) : Sp := fun vs H Q _ => ∃ (a f : Addr) (n : Nat) (ns : List Int), vs = [.ref a, .ref f] ∧ Src H a n ∧ n ≤ 800000 ∧ SqL K H f (ns.map V.int) ∧ f ≠ a ∧ (∀ x ∈ ns, x = 0 ∨ x = 1) ∧ 1 ≤ ns.length ∧ ns.length ≤ 20 ∧
  ∀ v H', Kp a H H' → Src H' a (n + 20) → Thg K a H' v → Q v H'
theorem cal_bent (T : Tx K mg) : Cal P w K mg base CX0 2 "_law_bent" ["_law_source_here", "_law_frame_here"] (sp_bent K) := by
  have c_law_draw := cal_draw (P := P) (w := w) (base := base) T
  refine T.d_law_bent.cal sc_law_bent (fun vs H Q E h => ?_) (fun _ _ _ _ _ _ us hl => match us, hl with | [_, _], _ => rfl) (fun f cdv A outer s H vs Q E hr h => ⟨_, (pss_cons (ps_set (i := 2) sc_law_bent.nd rfl (Or.inl rfl) (pe_callTy call_list_of (by rfl) T.b_list (by decide +kernel) (pa_cons (pv 1) pa_nil)))
      (pss_cons (ps_for PassesOwn.never rfl (pi_range1 rfl T.b_range (pa_cons (pe_op op_add pe_int (pe_cal c_law_draw (hr.mono (by decide)) pass0 (pa_cons (pv 0) (pa_cons pe_int pa_nil)))) pa_nil)) (pg_name (i := 3) sc_law_bent.nd rfl (Or.inl rfl)) (pss_cons (ps_set (i := 4) sc_law_bent.nd rfl (Or.inl rfl) (pe_cal c_law_draw (hr.mono (by decide)) pass0 (pa_cons (pv 0) (pa_cons (pe_callB call_len_seq (by rfl) T.b_len (by decide +kernel) (pa_cons (pv 2) pa_nil)) pa_nil))))
      (pss_cons (ps_set (i := 5) sc_law_bent.nd rfl (Or.inl rfl) (pe_cal c_law_draw (hr.mono (by decide)) pass0 (pa_cons (pv 0) (pa_cons pe_int pa_nil))))
      (pss_one (ps_if (pt_cmpR op_lt (pv 5) pe_int (nomark _)) (pss_one (ps_asg (pe_ix ix_list (pe_lst (pa_cons pe_int (pa_cons pe_int pa_nil))) (pe_callTy call_int1 (by rfl) T.b_int (by decide +kernel) (pa_cons (pe_cmpR (op_eqD hr.units) (pe_ix ix_list (pv 2) (pv 4) (fun _ _ => rfl)) pe_int (nomark _)) pa_nil)) (fun _ _ => rfl)) (pg_sub (pv 2) (pv 4) set_list))) (pss_one (ps_if (pt_cmpR op_eq (pv 5) pe_int (nomark _)) (pss_one (ps_asg (pe_ix ix_list (pe_lst (pa_cons pe_bl (pa_cons pe_bl (pa_cons pe_int (pa_cons (pe_un un_neg pe_int) (pa_cons pe_str (pa_cons pe_non (pa_cons (pe_lst (pa_cons pe_int pa_nil)) (pa_cons (pe_op op_powB pe_int pe_int) pa_nil))))))))) (pe_cal c_law_draw (hr.mono (by decide)) pass0 (pa_cons (pv 0) (pa_cons pe_int pa_nil))) (fun _ _ => rfl)) (pg_sub (pv 2) (pv 4) set_list))) (pss_one (ps_if (PW.pt (pw_and (pt_cmpR op_eq (pv 5) pe_int (nomark _)) (pw_and1 (pt_cmpR op_gt (pe_callB call_len_seq (by rfl) T.b_len (by decide +kernel) (pa_cons (pv 2) pa_nil)) pe_int (nomark _))))) (pss_one (ps_set (i := 2) sc_law_bent.nd rfl (Or.inl rfl) (pe_op op_cat (pe_slice sl_list (pv 2) po_none (po_some (pv 4))) (pe_slice sl_list (pv 2) (po_some (pe_op op_add (pv 4) pe_int)) po_none)))) (pss_one (ps_set (i := 2) sc_law_bent.nd rfl (Or.inl rfl) (pe_op op_cat (pe_op op_cat (pe_slice sl_list (pv 2) po_none (po_some (pv 4))) (pe_lst (pa_cons (pe_cal c_law_draw (hr.mono (by decide)) pass0 (pa_cons (pv 0) (pa_cons pe_int pa_nil))) pa_nil))) (pe_slice sl_list (pv 2) (po_some (pv 4)) po_none)))))))))))))
      (pss_cons (ps_if (pt_cmpR op_eq (pe_cal c_law_draw (hr.mono (by decide)) pass0 (pa_cons (pv 0) (pa_cons pe_int pa_nil))) pe_int (nomark _)) (pss_one (ps_ret (pe_ix ix_list (pe_lst (pa_cons (pe_callTy call_tuple_of (by rfl) T.b_tuple (by decide +kernel) (pa_cons (pv 1) pa_nil)) (pa_cons pe_non (pa_cons pe_str (pa_cons pe_int (pa_cons (pe_lst pa_nil) (pa_cons pe_dnewK (pa_cons (pe_lst (pa_cons (pv 1) pa_nil)) (pa_cons pe_bl pa_nil))))))))) (pe_cal c_law_draw (hr.mono (by decide)) pass0 (pa_cons (pv 0) (pa_cons pe_int pa_nil))) (fun _ _ => rfl)))) pss_nil)
      (pss_one (ps_ret (pv 2)))))), ?_⟩)
  · obtain ⟨a, f, n, ns, rfl, _⟩ := h
    rfl
  · obtain ⟨a, f, n, ns, rfl, src, hn, sqf, fa, h01, l1, l2, q⟩ := h
    refine ⟨_, rfl, f, _, rfl, .inl sqf, fun PL0 nPL => ?_⟩
    have P0 : PL0 ≠ a := src.ne nPL
    have e1 : Ex H (upd H PL0 (.lst (ns.map V.int))) := Ex.new nPL
    have src1 := src.ex e1
    have hP0 : upd H PL0 (.lst (ns.map V.int)) PL0 = some (.lst (ns.map V.int)) := upd_same
    generalize upd H PL0 (.lst (ns.map V.int)) = H1 at e1 src1 hP0 ⊢
    refine ⟨_, rfl, a, 2, n, rfl, src1, by omega, by decide, by decide, fun d0 H2 d00 d01 src2 k2 => ?_⟩
    refine ⟨_, _, rfl, rfl, _, rfl, by omega, by omega, ?_⟩
    refine for_range (lo := 0) (n := (1 + d0).toNat) (fun i σ H3 => ∃ PL xs u1 u2 u3, σ = [some (.ref a), some (.ref f), some (.ref PL), u1, u2, u3] ∧ Kp a H H3 ∧ Src H3 a (n + 1 + 4 * i) ∧ H3 PL = some (.lst xs) ∧ (∀ x ∈ xs, It H3 a PL x) ∧ 1 ≤ xs.length ∧ xs.length ≤ 20 + i ∧ PL ≠ a ∧ H PL = none)
      ⟨PL0, _, none, none, none, rfl, (Ex.kp e1).trans k2, src2, k2 _ _ P0 hP0, ?_, ?_, ?_, P0, nPL⟩ ?_ ?_
    · intro x hx
      obtain ⟨z, hz, rfl⟩ := List.mem_map.mp hx
      rcases h01 z hz with rfl | rfl <;> exact .int _ (by decide)
    · rw [List.length_map]; exact l1
    · rw [List.length_map]; exact l2
    · rintro i σ H3 hi ⟨PL, xs, u1, u2, u3, rfl, kp3, src3, hPL, hit, x1, x2, Pa, fP⟩
      have i2 : i < 2 := by omega
      have m200 : (1000 : Int) < 2 ^ 200 := by decide
      refine ⟨_, rfl, _, rfl, PL, _, rfl, .inl (sq_of hPL), a, _, _, rfl, src3, by omega, by omega, by omega, fun d H4 d0 d1 src4 k4 => ?_⟩
      obtain ⟨j, rfl⟩ := Int.eq_ofNat_of_zero_le d0
      have hj : j < xs.length := by omega
      refine ⟨_, rfl, a, 6, _, rfl, src4, by omega, by decide, by decide, fun wy H5 w0 w1 src5 k5 => ?_⟩
      have hPL5 : H5 PL = some (.lst xs) := k5 _ _ Pa (k4 _ _ Pa hPL)
      have it5 : ∀ x ∈ xs, It H5 a PL x := fun x hx => ((hit x hx).kp k4).kp k5
      have kp5 : Kp a H H5 := (kp3.trans k4).trans k5
      refine ⟨_, rfl, _, _, rfl, rfl, _, rfl, ite2 (fun _ => ?_) (fun _ => ?_)⟩
      · have hv : xs[j]? = some xs[j] := List.getElem?_eq_getElem hj
        refine ⟨(by show 2 ≤ sizeLine; decide), fun q1 nQ => ?_⟩
        have eq1 : ∀ o, Ex H5 (upd H5 q1 o) := fun o => Ex.new nQ
        obtain ⟨dd, hd, _, hsh, _⟩ := ((it5 _ (List.getElem_mem hj)).kp (Ex.kp (eq1 (.lst [.int 1, .int 0])))).dp (K := K)
        refine ⟨_, rfl, _, rfl, PL, _, (j : Int), _, rfl, rfl, sq_of (eq1 _ _ _ hPL5), atI_nat hv, dd, .int 1, hd, .int 1, hsh, by decide +kernel, .inr ⟨_, rfl, ?_⟩⟩
        obtain ⟨z, hz, hat⟩ : ∃ z : Int, (z = 0 ∨ z = 1) ∧ atI [V.int 1, .int 0] (if PyData.eqv dd (.int 1) = true then 1 else 0) = some (.int z) := by
          cases PyData.eqv dd (.int 1)
          · exact ⟨1, .inr rfl, rfl⟩
          · exact ⟨0, .inl rfl, rfl⟩
        refine ⟨q1, _, _, _, rfl, rfl, sq_of upd_same, hat, _, rfl, _, rfl, PL, _, (j : Int), j, rfl, rfl, eq1 _ _ _ hPL5, ixN_nat hj, ?_⟩
        refine ⟨PL, _, _, _, _, rfl, (kp5.trans (Ex.kp (eq1 _))).mut fP, ((src5.ex (eq1 _)).upd Pa).mono (by omega), upd_same, fun x hx => ?_, ?_, ?_, Pa, fP⟩
        · refine It.set ?_
          rcases List.mem_or_eq_of_mem_set hx with hx | rfl
          · exact (it5 x hx).kp (Ex.kp (eq1 _))
          · exact .int z (by rcases hz with rfl | rfl <;> decide)
        · rw [List.length_set]; exact x1
        · rw [List.length_set]; omega
      refine ⟨_, rfl, rfl, _, rfl, ite2 (fun _ => ?_) (fun _ => ?_)⟩
      · have c20 : CPowB 10 20 := cpow10 20 (by decide) (by decide)
        refine ⟨1, rfl, (by show 1 ≤ sizeLine; decide), fun p1 n1 => ⟨10, 20, rfl, rfl, c20, (by show 8 ≤ sizeLine; decide), fun L8 n8 => ⟨_, rfl, ?_⟩⟩⟩
        have e2 : ∀ o, Ex H5 (upd (upd H5 p1 (.lst [.int 1])) L8 o) := fun o => (Ex.new n1).trans (Ex.new n8)
        have g1 : ∀ o, upd (upd H5 p1 (.lst [.int 1])) L8 o p1 = some (.lst [.int 1]) := fun o => (Ex.new n8) p1 _ upd_same
        have p1a : p1 ≠ a := src5.ne n1
        have p1P : p1 ≠ PL := fun z => by rw [z, hPL5] at n1; cases n1
        refine pickL (E := E0) (n := n + 1 + 4 * i + 2) rfl (by simp) (by simp) (by omega) ((src5.ex (e2 _)).mono (by omega)) upd_same ((src5.ex (Ex.new n1)).ne n8) (fun v H' hv kp sr => ?_)
        have hPL' : H' PL = some (.lst xs) := kp _ _ Pa (e2 _ _ _ hPL5)
        refine ⟨_, rfl, _, rfl, PL, _, (j : Int), j, rfl, rfl, hPL', ixN_nat hj, ?_⟩
        refine ⟨PL, _, _, _, _, rfl, ((kp5.trans (Ex.kp (e2 _))).trans kp).mut fP, (sr.upd Pa).mono (by omega), upd_same, fun x hx => ?_, ?_, ?_, Pa, fP⟩
        · refine It.set ?_
          rcases List.mem_or_eq_of_mem_set hx with hx | rfl
          · exact ((it5 x hx).kp (Ex.kp (e2 _))).kp kp
          · refine It.kp kp ?_
            simp only [List.mem_cons, List.not_mem_nil, or_false] at hv
            rcases hv with rfl | rfl | rfl | rfl | rfl | rfl | rfl | rfl
            all_goals first | exact .bl _ | exact .str | exact .non | exact .int _ (by decide) | exact .one (g1 _) p1a p1P
        · rw [List.length_set]; exact x1
        · rw [List.length_set]; omega
      refine ⟨_, rfl, rfl, _, rfl, ite2 (fun _ => ⟨_, rfl, PL, _, rfl, .inl (sq_of hPL5), _, _, rfl, rfl, _, rfl, ite2 (fun h => ?_) (fun _ => ?_)⟩) (fun _ => ?_)⟩
      · have cl := cut_lo xs j
        have ch := cut_hi xs (j + 1)
        have lx : 1 < xs.length := by
          have := of_decide_eq_true h
          omega
        refine ⟨_, rfl, _, rfl, _, rfl, PL, _, rfl, sq_of hPL5, fun q1 m1 => ?_⟩
        rw [cl]
        refine ⟨_, rfl, _, rfl, _, _, rfl, rfl, _, rfl, PL, _, rfl, sq_of ((Ex.new m1) _ _ hPL5), fun q2 m2 => ?_⟩
        rw [show ((j : Int) + 1) = ((j + 1 : Nat) : Int) from by omega, ch]
        refine ⟨q1, q2, _, _, rfl, rfl, (Ex.new m2) _ _ upd_same, upd_same, ?_, fun l nl => ?_⟩
        · rw [List.length_take, List.length_drop]
          exact sz_of (by omega)
        have eE : ∀ o, Ex H5 (upd (upd (upd H5 q1 (.lst (xs.take j))) q2 (.lst (xs.drop (j + 1)))) l o) := fun o => ((Ex.new m1).trans (Ex.new m2)).trans (Ex.new nl)
        have lne : l ≠ a := (src5.ex ((Ex.new m1).trans (Ex.new m2))).ne nl
        have fl : H l = none := Kp.free (kp5.trans (Ex.kp ((Ex.new m1).trans (Ex.new m2)))) nl lne
        have hl5 : H5 l = none := fresh_back ((Ex.new m1).trans (Ex.new m2)) nl
        refine ⟨l, _, _, _, _, rfl, kp5.trans (Ex.kp (eE _)), ((src5.ex (eE _)).mono (by omega)), upd_same, fun x hx => ?_, ?_, ?_, lne, fl⟩
        · have itx : It H5 a PL x := by
            rcases List.mem_append.mp hx with hx | hx
            · exact it5 x (List.mem_of_mem_take hx)
            · exact it5 x (List.mem_of_mem_drop hx)
          exact (itx.moved hl5).kp (Ex.kp (eE _))
        · rw [List.length_append, List.length_take, List.length_drop]
          omega
        · rw [List.length_append, List.length_take, List.length_drop]
          omega
      · have cl := cut_lo xs j
        have ch := cut_hi xs j
        refine ⟨_, rfl, _, rfl, _, rfl, PL, _, rfl, sq_of hPL5, fun q1 m1 => ?_⟩
        rw [cl]
        refine ⟨_, rfl, a, 2, _, rfl, src5.ex (Ex.new m1), by omega, by decide, by decide, fun e H6 e0 e1' src6 k6 => ⟨(by show 1 ≤ sizeLine; decide), fun q2 m2 => ?_⟩⟩
        have q1a : q1 ≠ a := src5.ne m1
        have hq1 : H6 q1 = some (.lst (xs.take j)) := k6 _ _ q1a upd_same
        have hPL6 : H6 PL = some (.lst xs) := k6 _ _ Pa ((Ex.new m1) _ _ hPL5)
        refine ⟨q1, q2, _, _, rfl, rfl, (Ex.new m2) _ _ hq1, upd_same, ?_, fun q3 m3 => ?_⟩
        · rw [List.length_take]
          exact sz_of (by show _ + 1 ≤ _; omega)
        refine ⟨_, rfl, _, rfl, _, rfl, PL, _, rfl, sq_of ((Ex.new m3) _ _ ((Ex.new m2) _ _ hPL6)), fun q4 m4 => ?_⟩
        rw [ch]
        refine ⟨q3, q4, _, _, rfl, rfl, (Ex.new m4) _ _ upd_same, upd_same, ?_, fun l nl => ?_⟩
        · rw [List.length_append, List.length_take, List.length_drop]
          exact sz_of (by show _ + 1 + _ ≤ _; omega)
        have eE : ∀ o, Ex H6 (upd (upd (upd (upd H6 q2 (.lst [.int e])) q3 (.lst (xs.take j ++ [.int e]))) q4 (.lst (xs.drop j))) l o) := fun o => ((Ex.new m2).trans (Ex.new m3)).trans ((Ex.new m4).trans (Ex.new nl))
        have k56 : Kp a H5 H6 := (Ex.kp (Ex.new m1)).trans k6
        have kpF := fun o => (kp5.trans k56).trans (Ex.kp (eE o))
        have lne : l ≠ a := ((src6.ex ((Ex.new m2).trans (Ex.new m3))).ex (Ex.new m4)).ne nl
        have fl : H l = none := Kp.free ((kp5.trans k56).trans (Ex.kp (((Ex.new m2).trans (Ex.new m3)).trans (Ex.new m4)))) nl lne
        have hl6 : H6 l = none := by
          cases hz : H6 l with
          | none => rfl
          | some o =>
            have := (((Ex.new m2).trans (Ex.new m3)).trans (Ex.new (o := .lst (xs.drop j)) m4)) l o hz
            rw [nl] at this
            cases this
        refine ⟨l, _, _, _, _, rfl, kpF _, ((src6.ex (eE _)).mono (by omega)), upd_same, fun x hx => ?_, ?_, ?_, lne, fl⟩
        · have itx : It H6 a PL x := by
            rcases List.mem_append.mp hx with hx | hx
            · rcases List.mem_append.mp hx with hx | hx
              · exact (it5 x (List.mem_of_mem_take hx)).kp k56
              · rw [List.mem_singleton.mp hx]
                exact .int e (by omega)
            · exact (it5 x (List.mem_of_mem_drop hx)).kp k56
          exact (itx.moved hl6).kp (Ex.kp (eE _))
        · rw [List.length_append, List.length_append]
          show 1 ≤ _ + 1 + _
          omega
        · rw [List.length_append, List.length_append, List.length_take, List.length_drop]
          show _ + 1 + _ ≤ _
          omega
      · have cl := cut_lo xs j
        have ch := cut_hi xs j
        refine ⟨_, rfl, _, rfl, _, rfl, PL, _, rfl, sq_of hPL5, fun q1 m1 => ?_⟩
        rw [cl]
        refine ⟨_, rfl, a, 2, _, rfl, src5.ex (Ex.new m1), by omega, by decide, by decide, fun e H6 e0 e1' src6 k6 => ⟨(by show 1 ≤ sizeLine; decide), fun q2 m2 => ?_⟩⟩
        have q1a : q1 ≠ a := src5.ne m1
        have hq1 : H6 q1 = some (.lst (xs.take j)) := k6 _ _ q1a upd_same
        have hPL6 : H6 PL = some (.lst xs) := k6 _ _ Pa ((Ex.new m1) _ _ hPL5)
        refine ⟨q1, q2, _, _, rfl, rfl, (Ex.new m2) _ _ hq1, upd_same, ?_, fun q3 m3 => ?_⟩
        · rw [List.length_take]
          exact sz_of (by show _ + 1 ≤ _; omega)
        refine ⟨_, rfl, _, rfl, _, rfl, PL, _, rfl, sq_of ((Ex.new m3) _ _ ((Ex.new m2) _ _ hPL6)), fun q4 m4 => ?_⟩
        rw [ch]
        refine ⟨q3, q4, _, _, rfl, rfl, (Ex.new m4) _ _ upd_same, upd_same, ?_, fun l nl => ?_⟩
        · rw [List.length_append, List.length_take, List.length_drop]
          exact sz_of (by show _ + 1 + _ ≤ _; omega)
        have eE : ∀ o, Ex H6 (upd (upd (upd (upd H6 q2 (.lst [.int e])) q3 (.lst (xs.take j ++ [.int e]))) q4 (.lst (xs.drop j))) l o) := fun o => ((Ex.new m2).trans (Ex.new m3)).trans ((Ex.new m4).trans (Ex.new nl))
        have k56 : Kp a H5 H6 := (Ex.kp (Ex.new m1)).trans k6
        have kpF := fun o => (kp5.trans k56).trans (Ex.kp (eE o))
        have lne : l ≠ a := ((src6.ex ((Ex.new m2).trans (Ex.new m3))).ex (Ex.new m4)).ne nl
        have fl : H l = none := Kp.free ((kp5.trans k56).trans (Ex.kp (((Ex.new m2).trans (Ex.new m3)).trans (Ex.new m4)))) nl lne
        have hl6 : H6 l = none := by
          cases hz : H6 l with
          | none => rfl
          | some o =>
            have := (((Ex.new m2).trans (Ex.new m3)).trans (Ex.new (o := .lst (xs.drop j)) m4)) l o hz
            rw [nl] at this
            cases this
        refine ⟨l, _, _, _, _, rfl, kpF _, ((src6.ex (eE _)).mono (by omega)), upd_same, fun x hx => ?_, ?_, ?_, lne, fl⟩
        · have itx : It H6 a PL x := by
            rcases List.mem_append.mp hx with hx | hx
            · rcases List.mem_append.mp hx with hx | hx
              · exact (it5 x (List.mem_of_mem_take hx)).kp k56
              · rw [List.mem_singleton.mp hx]
                exact .int e (by omega)
            · exact (it5 x (List.mem_of_mem_drop hx)).kp k56
          exact (itx.moved hl6).kp (Ex.kp (eE _))
        · rw [List.length_append, List.length_append]
          show 1 ≤ _ + 1 + _
          omega
        · rw [List.length_append, List.length_append, List.length_take, List.length_drop]
          show _ + 1 + _ ≤ _
          omega
    · rintro σ H3 ⟨PL, xs, u1, u2, u3, rfl, kp3, src3, hPL, hit, x1, x2, Pa, fP⟩
      have sr3 : Src H3 a (n + 13) := src3.mono (by omega)
      have lx : xs.length ≤ 22 := by omega
      refine ⟨_, rfl, a, 9, _, rfl, sr3, by omega, by decide, by decide, fun d H4 d0 d1 src4 k4 => ⟨rfl, _, rfl, ite2 (fun _ => ?_) (fun _ => ?_)⟩⟩
      · have sqf4 : SqL K H4 f (ns.map V.int) := kp_l (kp3.trans k4) fa sqf
        refine ⟨_, rfl, f, _, rfl, .inl ⟨sqf4, fun t nt => ⟨(by show 0 ≤ sizeLine; decide), fun b1 nb => fun c1 nc => ⟨_, rfl, (by show 1 ≤ sizeLine; decide), fun e1 ne => ⟨(by show 8 ≤ sizeLine; decide), fun L nL => ⟨_, rfl, ?_⟩⟩⟩⟩⟩⟩
        have x1 := fun o => Ex.new (o := o) nL
        have x2 := fun o => (Ex.new (o := .lst [.ref f]) ne).trans (x1 o)
        have x3 := fun o => (Ex.new (o := .dK []) nc).trans (x2 o)
        have x4 := fun o => (Ex.new (o := .lst []) nb).trans (x3 o)
        have x5 := fun o => (Ex.new (o := .tup (ns.map V.int)) nt).trans (x4 o)
        have ta : t ≠ a := src4.ne nt
        have s1 := src4.ex (Ex.new (o := .tup (ns.map V.int)) nt)
        have ba : b1 ≠ a := s1.ne nb
        have s2 := s1.ex (Ex.new (o := .lst []) nb)
        have ca : c1 ≠ a := s2.ne nc
        have s3 := s2.ex (Ex.new (o := .dK []) nc)
        have ea : e1 ≠ a := s3.ne ne
        have s4 := s3.ex (Ex.new (o := .lst [.ref f]) ne)
        have La : L ≠ a := s4.ne nL
        refine pickL (E := E0) (n := n + 14) rfl (by simp) (by simp) (by omega) (s4.ex (x1 _)) upd_same La (fun v H' hv kp sr => q v H' (((kp3.trans k4).trans (Ex.kp (x5 _))).trans kp) (sr.mono (by omega)) ?_)
        have gt := fun H'' (k : Kp a H' H'') => k t _ ta (kp t _ ta (x4 _ t _ upd_same))
        have gb := fun H'' (k : Kp a H' H'') => k b1 _ ba (kp b1 _ ba (x3 _ b1 _ upd_same))
        have gc := fun H'' (k : Kp a H' H'') => k c1 _ ca (kp c1 _ ca (x2 _ c1 _ upd_same))
        have ge := fun H'' (k : Kp a H' H'') => k e1 _ ea (kp e1 _ ea (x1 _ e1 _ upd_same))
        have sqf' : ∀ H'', Kp a H' H'' → SqL K H'' f (ns.map V.int) := fun H'' k => kp_l k fa (kp_l kp fa (ex_l (x5 _) sqf4))
        simp only [List.mem_cons, List.not_mem_nil, or_false] at hv
        have sm : ∀ z ∈ ns, z.natAbs < 2 ^ 200 := fun z hz => by rcases h01 z hz with rfl | rfl <;> decide
        rcases hv with rfl | rfl | rfl | rfl | rfl | rfl | rfl | rfl
        · exact ⟨none, .tuple (dI ns), (shw_t sm (by omega)).1, fun H'' k => ⟨.no (.tup (.inl (.inl (gt H'' k)))) (by decide), .old (.tup (.inl (.inl (gt H'' k))) (dp_ints _)) (shw_t sm (by omega)).2⟩⟩
        · exact ⟨none, _, ⟨by decide +kernel, by decide +kernel, by decide +kernel⟩, fun H'' k => ⟨.no .non (by decide), .old .non rfl⟩⟩
        · exact ⟨none, .str "010", ⟨by decide +kernel, by decide +kernel, by decide +kernel⟩, fun H'' k => ⟨.no (.str _) (by decide), .old (.str _) rfl⟩⟩
        · exact ⟨none, .int 5, ⟨by decide +kernel, by decide +kernel, by decide +kernel⟩, fun H'' k => ⟨.no (.int _) (by decide), .old (.int _) rfl⟩⟩
        · exact ⟨some [], .list [], ⟨by decide +kernel, by decide +kernel, by decide +kernel⟩, fun H'' k => ⟨.yes rfl (.inl (.inl (gb H'' k))) (fun x hx => by cases hx) (by decide), .old (.lst (.inl (.inl (gb H'' k))) .nil) rfl⟩⟩
        · exact ⟨none, .dict [], ⟨by decide +kernel, by decide +kernel, by decide +kernel⟩, fun H'' k => ⟨.no (.dct (gc H'' k)) (by decide), .dct0 (gc H'' k)⟩⟩
        · exact ⟨some [.ref f], .list [.list (dI ns)], (shw_ll sm (by omega)).1, fun H'' k => ⟨.yes rfl (.inl (.inl (ge H'' k))) (fun x hx => by rw [List.mem_singleton.mp hx]; exact ⟨_, .lst (sqf' H'' k)⟩) (by show 1 ≤ 1000; decide), .old (.lst (.inl (.inl (ge H'' k))) (.cons (.lst (sqf' H'' k) (dp_ints _)) .nil)) (shw_ll sm (by omega)).2⟩⟩
        · exact ⟨none, .bool true, ⟨by decide +kernel, by decide +kernel, by decide +kernel⟩, fun H'' k => ⟨.no (.bl _) (by decide), .old (.bl _) rfl⟩⟩
      · have hPL4 : H4 PL = some (.lst xs) := k4 _ _ Pa hPL
        have it4 : ∀ x ∈ xs, It H4 a PL x := fun x hx => (hit x hx).kp k4
        refine ⟨_, rfl, q _ H4 (kp3.trans k4) (src4.mono (by omega)) ?_⟩
        exact thg_items Pa hPL4 it4 (by omega)
end
end LW
namespace LW
open PySem PySem.Spec PyProof.Rows L2 Evl SB
/-! the mathematics of the comparison -/
theorem valB_bits : ∀ (b : Nat) (x : Int), 0 ≤ x → x < 2 ^ b → valB (bits b x) = x
  | 0, x, h0, h1 => by
    have : x = 0 := by simp at h1; omega
    subst this
    rfl
  | b + 1, x, h0, h1 => by
    have e : bits (b + 1) x = x % 2 :: bits b (x / 2) := by
      unfold bits
      rw [List.range_succ_eq_map, List.map_cons, List.map_map]
      refine congr (congrArg List.cons (by simp)) ?_
      refine List.map_congr_left fun i _ => ?_
      show x / 2 ^ (i + 1) % 2 = x / 2 / 2 ^ i % 2
      rw [Int.ediv_ediv_of_nonneg (by decide), Int.pow_succ, Int.mul_comm (2 ^ i) 2]
    rw [e, valB_cons, valB_bits b (x / 2) (by omega) (by rw [Int.pow_succ] at h1; omega)]
    omega
theorem frm_cut (b : Nat) (p : Pa) (s : Nat) (x : Int) : ((frm b p s x).drop 1).take b = bits b x := by
  unfold frm
  rw [List.drop_one, List.tail_cons, List.take_append_of_le_length (Nat.le_of_eq (bits_len b x).symm), List.take_of_length_le (Nat.le_of_eq (bits_len b x))]
theorem unI_ints (ns : List Int) : (ns.map V.int).map unI = ns := by
  rw [List.map_map]
  exact (List.map_congr_left fun _ _ => rfl).trans (List.map_id _)
theorem are_frm (b : Nat) (p : Pa) (s : Nat) (x : Int) : areL (sz b p s : Nat) (some ((frm b p s x).map V.int)) = true := by
  have h : (frm b p s x).all (fun z => okB 0 1 (V.int z)) = true := List.all_eq_true.mpr fun z hz => by
    rcases frm_01 hz with rfl | rfl <;> decide
  simp [areL, frm_sz, List.all_map]
  exact fun z hz => List.all_eq_true.mp h z hz
theorem nbr_frm {b : Nat} {p : Pa} {s : Nat} {x : Int} (h0 : 0 ≤ x) (h1 : x < 2 ^ b) : nbr b p s (some ((frm b p s x).map V.int)) = .int x := by
  have e : nbr b p s (some ((frm b p s x).map V.int)) = numV b p s (((frm b p s x).map V.int).map unI) := by
    show (if areL (sz b p s : Nat) (some ((frm b p s x).map V.int)) = true then _ else _) = _
    rw [are_frm, if_pos rfl]
  rw [e, unI_ints]
  unfold numV
  rw [frm_cut, valB_bits b x h0 h1, eqv_sh (dI_shaped _), if_pos rfl]
theorem par_at {b : Nat} {p : Pa} {s : Nat} {x : Int} (h : p ≠ .no) : ((frm b p s x).map V.int)[1 + b]? = some (parV b p x) := by
  cases p with
  | no => exact absurd rfl h
  | ev => simp [frm, parL, parV, bits_len, Nat.add_comm 1 b]
  | od => simp [frm, parL, parV, bits_len, Nat.add_comm 1 b]
theorem shw_i {i : Int} (h : i.natAbs < 2 ^ 200) : Shw (.int i) := by
  have hl : i.natAbs.log2 < 200 := int_log (by decide) h
  refine ⟨?_, ?_, ?_⟩
  · simp only [PyData.showable, decide_eq_true_eq]
    omega
  · simp [PyData.depth]
  · have ht : (Str.ofString (toString i)).length ≤ 201 := by
      rw [PySem.ofString_length]
      exact int_text_length_le (k := 200) (by decide) hl
    rw [sizeLine_eq]
    exact Nat.le_trans ht (by decide)
theorem parV_d (b : Nat) (p : Pa) (x : Int) : ∃ d, Shw d ∧ ∀ (K : PySem.W.Frag) (H : Hp), DpD K H (parV b p x) d := by
  have h2 : (2 : Nat) < 2 ^ 200 := by decide
  cases p with
  | no => exact ⟨.none, ⟨by decide +kernel, by decide +kernel, by decide +kernel⟩, fun _ _ => .old .non rfl⟩
  | ev => exact ⟨_, shw_i (i := (bits b x).sum % 2) (by omega), fun _ _ => .old (.int _) rfl⟩
  | od => exact ⟨_, shw_i (i := 1 - (bits b x).sum % 2) (by omega), fun _ _ => .old (.int _) rfl⟩
theorem nbr_d {b : Nat} {p : Pa} {s : Nat} (hb : b ≤ 9) (o : Option (List V)) : ∃ d, Shw d ∧ ∀ (K : PySem.W.Frag) (H : Hp), DpD K H (nbr b p s o) d := by
  have nn : ∃ d, Shw d ∧ ∀ (K : PySem.W.Frag) (H : Hp), DpD K H .non d := ⟨.none, ⟨by decide +kernel, by decide +kernel, by decide +kernel⟩, fun _ _ => .old .non rfl⟩
  cases o with
  | none => exact nn
  | some xs =>
    unfold nbr
    dsimp only
    split
    · rename_i hA
      simp only [areL, Bool.and_eq_true] at hA
      obtain ⟨_, h01⟩ := all_int hA.2
      have b01 : ∀ z ∈ ((xs.map unI).drop 1).take b, z = 0 ∨ z = 1 := fun z hz => h01 z (List.mem_of_mem_drop (List.mem_of_mem_take hz))
      obtain ⟨n0, n1⟩ := valB_lt b01
      have lb : (((xs.map unI).drop 1).take b).length ≤ b := by rw [List.length_take]; omega
      unfold numV
      split
      · have h3 : (2 : Int) ^ (((xs.map unI).drop 1).take b).length ≤ 512 := (pow_512 (Nat.le_trans lb hb)).2
        have h2 : (512 : Nat) < 2 ^ 200 := by decide
        exact ⟨_, shw_i (i := valB (((xs.map unI).drop 1).take b)) (by omega), fun _ _ => .old (.int _) rfl⟩
      · exact nn
    · exact nn
theorem shw_l {ns : List Int} (h : ∀ n ∈ ns, n.natAbs < 2 ^ 200) (hl : ns.length ≤ 1000) : Shw (.list (dI ns)) ∧ (PyData.list (dI ns)).hasDict = false := by
  obtain ⟨h1, h2, h3, h4⟩ := show_list h (Nat.le_trans hl (by decide))
  exact ⟨⟨h1, h3, h4⟩, h2⟩
theorem str_ne (x : Str) : (!decide (V.str x = V.str x)) = false := by rw [show decide (V.str x = V.str x) = true from decide_eq_true rfl]; rfl
end LW
namespace LW
open PySem PySem.Spec PyProof.Rows L2 Evl SB
section
variable {P : Program} {w : World} {K : PySem.W.Frag} {mg : Str → Option Value} {base : Heap}
def sp_right (K : PySem.W.Frag) : Sp := fun vs H Q _ => ∃ (a : Addr) (n : Nat) (g : V) (b : Nat) (p : Pa) (s : Nat) (x : Int), vs = [.ref a, g, .int x] ∧ Src H a n ∧ n ≤ 700000 ∧ IsSh K H g b p s ∧ 0 ≤ x ∧ x < 2 ^ b ∧ ∀ H', Kp a H H' → Src H' a (n + 40) → Q (.bl true) H'
theorem cal_right (T : Tx K mg) (TE : TxE P K mg) : CalG P w K mg base CX0 8 "_law_right" ["_law_source_here", "_law_form", "_law_code"] (sp_right K) := by
  have c_law_frame := cal_lframe (P := P) (w := w) (base := base) T
  have c_frame_of := cal_frame (P := P) (w := w) (base := base) T
  have c_parity_of := cal_parity (P := P) (w := w) (base := base) T
  have c_number_of := cal_nbr (P := P) (w := w) (base := base) T
  have c_law_number := cal_lnbr (P := P) (w := w) (base := base) T
  have c_law_bent := cal_bent (P := P) (w := w) (base := base) T
  refine T.d_law_right.calG sc_law_right (fun vs H Q E h => ?_) (fun _ _ _ _ _ _ us hl => match us, hl with | [_, _, _], _ => rfl) (fun f cdv A outer s H vs Q E hr hgd h => ⟨_, (pss_cons (ps_par (i := 3) (j := 4) (by rfl) sc_law_right.nd rfl rfl (by decide) rfl rfl (pa_cons (pe_cal c_law_frame (hr.mono (by decide)) pass0 (pa_cons (pv 1) (pa_cons (pv 2) pa_nil))) (pa_cons pe_non pa_nil)) (by rfl))
      (Evl.pss_cut (ps_if (pt_cmpR op_ne (pe_ix ix_tup (pv 1) pe_int (fun _ _ => rfl)) pe_str (nomark _)) (pss_one (ps_set (i := 4) sc_law_right.nd rfl (Or.inl rfl) (pe_ix ix_list (pv 3) (pe_op op_add pe_int (pe_ix ix_tup (pv 1) pe_int (fun _ _ => rfl))) (fun _ _ => rfl)))) pss_nil)
      (pss_cons (ps_set (i := 5) sc_law_right.nd rfl (Or.inl rfl) (pe_cal c_frame_of (hr.mono (by decide)) pass0 (pa_cons (pv 1) (pa_cons (pv 2) pa_nil))))
      (pss_cons (ps_if (PW.pt (pw_or (pt_cmpR op_ne (pe_callB (call_rd TE.sy hgd hr.units) (by rfl) T.b_repr (by decide +kernel) (pa_cons (pv 5) pa_nil)) (pe_callB (call_rd TE.sy hgd hr.units) (by rfl) T.b_repr (by decide +kernel) (pa_cons (pv 3) pa_nil)) (nomark _)) (pw_or1 (pt_cmpR op_ne (pe_callB (call_rd TE.sy hgd hr.units) (by rfl) T.b_repr (by decide +kernel) (pa_cons (pe_cal c_parity_of (hr.mono (by decide)) pass0 (pa_cons (pv 1) (pa_cons (pv 2) pa_nil))) pa_nil)) (pe_callB (call_rd TE.sy hgd hr.units) (by rfl) T.b_repr (by decide +kernel) (pa_cons (pv 4) pa_nil)) (nomark _))))) (pss_one (ps_ret pe_bl)) pss_nil)
      (pss_cons (ps_expr (pe_bm PySem.F.plainAttrs_list PySem.F.slot_list_append PySem.F.type_list_append mt_append (pv 5) (pa_cons pe_int pa_nil)))
      (pss_cons (ps_if (pt_cmpR op_ne (pe_callB (call_rd TE.sy hgd hr.units) (by rfl) T.b_repr (by decide +kernel) (pa_cons (pe_cal c_frame_of (hr.mono (by decide)) pass0 (pa_cons (pv 1) (pa_cons (pv 2) pa_nil))) pa_nil)) (pe_callB (call_rd TE.sy hgd hr.units) (by rfl) T.b_repr (by decide +kernel) (pa_cons (pv 3) pa_nil)) (nomark _)) (pss_one (ps_ret pe_bl)) pss_nil)
      (pss_cons (ps_set (i := 6) sc_law_right.nd rfl (Or.inl rfl) (pe_callTy call_list_of (by rfl) T.b_list (by decide +kernel) (pa_cons (pv 3) pa_nil)))
      (pss_cons (ps_if (PW.pt (pw_or (pt_cmpR op_ne (pe_callB (call_rd TE.sy hgd hr.units) (by rfl) T.b_repr (by decide +kernel) (pa_cons (pe_cal c_number_of (hr.mono (by decide)) pass0 (pa_cons (pv 1) (pa_cons (pv 6) pa_nil))) pa_nil)) (pe_callB (call_rd TE.sy hgd hr.units) (by rfl) T.b_repr (by decide +kernel) (pa_cons (pv 2) pa_nil)) (nomark _)) (pw_or1 (pt_cmpR (op_neD hr.units) (pv 6) (pv 3) (nomark _))))) (pss_one (ps_ret pe_bl)) pss_nil)
      (pss_cons (ps_for PassesOwn.never rfl (pi_tup (pe_tup (pa_cons (pe_cal c_law_bent (hr.mono (by decide)) pass0 (pa_cons (pv 0) (pa_cons (pv 3) pa_nil))) (pa_cons (pe_cal c_law_bent (hr.mono (by decide)) pass0 (pa_cons (pv 0) (pa_cons (pv 3) pa_nil))) (pa_cons (pv 5) pa_nil))))) (pg_name (i := 6) sc_law_right.nd rfl (Or.inl rfl)) (pss_cons (ps_set (i := 7) sc_law_right.nd rfl (Or.inl rfl) (pe_callB (call_rd TE.sy hgd hr.units) (by rfl) T.b_repr (by decide +kernel) (pa_cons (pv 6) pa_nil)))
      (pss_one (ps_if (PW.pt (pw_or (pt_cmpR op_ne (pe_callB (call_rd TE.sy hgd hr.units) (by rfl) T.b_repr (by decide +kernel) (pa_cons (pe_cal c_number_of (hr.mono (by decide)) pass0 (pa_cons (pv 1) (pa_cons (pv 6) pa_nil))) pa_nil)) (pe_callB (call_rd TE.sy hgd hr.units) (by rfl) T.b_repr (by decide +kernel) (pa_cons (pe_cal c_law_number (hr.mono (by decide)) pass0 (pa_cons (pv 1) (pa_cons (pv 6) pa_nil))) pa_nil)) (nomark _)) (pw_or1 (pt_cmpR op_ne (pe_callB (call_rd TE.sy hgd hr.units) (by rfl) T.b_repr (by decide +kernel) (pa_cons (pv 6) pa_nil)) (pv 7) (nomark _))))) (pss_one (ps_ret pe_bl)) pss_nil))))
      (pss_one (ps_ret pe_bl))))))))))), ?_⟩)
  · obtain ⟨a, n, g, b, p, s, x, rfl, _⟩ := h
    rfl
  · obtain ⟨a, n, g, b, p, s, x, rfl, src, hn, sh, x0, x1, q⟩ := h
    obtain ⟨t, rfl, st, b1, b9, s1, s2⟩ := id sh
    have sm : ∀ z ∈ frm b p s x, z.natAbs < 2 ^ 200 := fun z hz => by rcases frm_01 hz with rfl | rfl <;> decide
    have lf : (frm b p s x).length ≤ 20 := by
      have := frm_le b p s x
      omega
    obtain ⟨m0, m1⟩ := pow_512 b9
    have smx : x.natAbs < 2 ^ 200 := by
      have h2 : (512 : Nat) < 2 ^ 200 := by decide
      omega
    obtain ⟨sL, nL⟩ := shw_l sm (by omega)
    obtain ⟨dP, sP, hP⟩ := parV_d b p x
    have rpL : ∀ {H' : Hp} {F : Addr}, H' F = some (.lst ((frm b p s x).map V.int)) → DpD K H' (.ref F) (.list (dI (frm b p s x))) := fun h => .old (.lst (sq_of h) (dp_ints _)) nL
    -- due, parity = frame(form, code), None
    refine ⟨_, rfl, _, rfl, .ref t, b, p, s, x, rfl, sh, x0, x1, fun D H1 nD e1 hD => ⟨_, _, rfl, ?_⟩⟩
    have fD : H D = none := nD
    have D_a : D ≠ a := src.ne nD
    refine ⟨fun σ' H' => σ' = [some (.ref a), some (.ref t), some (.int x), some (.ref D), some (parV b p x), none, none, none] ∧ H' = H1, ?_, ?_⟩
    · refine ⟨_, rfl, t, _, 1, .str p.s, rfl, rfl, ex_t e1 st, rfl, rfl, _, rfl, ?_⟩
      rw [no_is p]
      cases p with
      | no => exact iteF ⟨rfl, rfl⟩
      | ev => exact iteT ⟨_, rfl, _, rfl, t, _, 0, .int b, rfl, rfl, ex_t e1 st, rfl, 1, b, rfl, rfl, D, _, _, _, rfl, rfl, sq_of hD, atI_i _ (1 + b) (by omega) (par_at (by simp)), rfl, rfl⟩
      | od => exact iteT ⟨_, rfl, _, rfl, t, _, 0, .int b, rfl, rfl, ex_t e1 st, rfl, 1, b, rfl, rfl, D, _, _, _, rfl, rfl, sq_of hD, atI_i _ (1 + b) (by omega) (par_at (by simp)), rfl, rfl⟩
    rintro σ' H1' ⟨rfl, he1⟩
    subst he1
    have anyL : ∀ (H' : Hp), ∀ y ∈ (frm b p s x).map V.int, Any K H' y := fun H' y hy => by
      obtain ⟨z, _, rfl⟩ := List.mem_map.mp hy
      exact ⟨_, .int z⟩
    -- found = frame_of(form, code); the first comparison
    refine ⟨_, rfl, _, rfl, .ref t, b, p, s, x, rfl, sh.ex e1, x0, x1, fun F H2 nF e2 hF => ?_⟩
    have F_D : F ≠ D := fun z => by rw [z, hD] at nF; cases nF
    have fF : H F = none := fresh_back e1 nF
    refine ⟨_, rfl, _, _, rfl, rpL hF, sL, _, rfl, _, _, rfl, rpL (e2 _ _ hD), sL, rfl, _, rfl, ?_⟩
    rw [str_ne]
    refine iteF ⟨_, rfl, _, rfl, .ref t, b, p, s, x, rfl, sh.ex (e1.trans e2), x0, x1, fun H3 e3 => ?_⟩
    refine ⟨_, dP, rfl, hP _ _, sP, _, rfl, _, dP, rfl, hP _ _, sP, rfl, _, rfl, ?_⟩
    rw [str_ne]
    refine iteF ?_
    -- found.append(0)
    have hF3 := e3 _ _ hF
    refine ⟨_, rfl, .inl ⟨rfl, _, sq_of hF3⟩, F, _, _, rfl, rfl, hF3, ?_, ?_⟩
    · rw [List.length_map]
      exact small1000 (by omega)
    have e4 : Ex H (upd H3 F (.lst ((frm b p s x).map V.int ++ [.int 0]))) := ((e1.trans e2).trans e3).mut fF
    have hD4 : upd H3 F (.lst ((frm b p s x).map V.int ++ [.int 0])) D = some (.lst ((frm b p s x).map V.int)) := by
      rw [upd_ne (Ne.symm F_D)]
      exact e3 _ _ (e2 _ _ hD)
    have hF4 : upd H3 F (.lst ((frm b p s x).map V.int ++ [.int 0])) F = some (.lst ((frm b p s x ++ [0]).map V.int)) := by
      rw [upd_same, List.map_append]
      rfl
    generalize upd H3 F (.lst ((frm b p s x).map V.int ++ [.int 0])) = H4 at e4 hD4 hF4 ⊢
    refine ⟨_, rfl, _, rfl, .ref t, b, p, s, x, rfl, sh.ex e4, x0, x1, fun F2 H5 nF2 e5 hF2 => ?_⟩
    refine ⟨_, _, rfl, rpL hF2, sL, _, rfl, _, _, rfl, rpL (e5 _ _ hD4), sL, rfl, _, rfl, ?_⟩
    rw [str_ne]
    refine iteF ?_
    -- thing = list(due)
    refine ⟨_, rfl, D, _, rfl, .inl (sq_of (e5 _ _ hD4)), fun Th nTh => ?_⟩
    have e6 : Ex H (upd H5 Th (.lst ((frm b p s x).map V.int))) := (e4.trans e5).trans (Ex.new nTh)
    have hTh : upd H5 Th (.lst ((frm b p s x).map V.int)) Th = some (.lst ((frm b p s x).map V.int)) := upd_same
    have hD6 : upd H5 Th (.lst ((frm b p s x).map V.int)) D = some (.lst ((frm b p s x).map V.int)) := (Ex.new nTh) _ _ (e5 _ _ hD4)
    have hF6 : upd H5 Th (.lst ((frm b p s x).map V.int)) F = some (.lst ((frm b p s x ++ [0]).map V.int)) := (Ex.new nTh) _ _ (e5 _ _ hF4)
    generalize upd H5 Th (.lst ((frm b p s x).map V.int)) = H6 at e6 hTh hD6 hF6 ⊢
    refine ⟨_, rfl, _, rfl, .ref t, b, p, s, .ref Th, some _, rfl, sh.ex e6, .yes rfl (sq_of hTh) (anyL _) (by rw [List.length_map]; omega), fun H7 e7 => ?_⟩
    rw [nbr_frm x0 x1]
    refine ⟨_, .int x, rfl, .old (.int x) rfl, shw_i smx, _, rfl, _, .int x, rfl, .old (.int x) rfl, shw_i smx, rfl, _, rfl, ?_⟩
    rw [str_ne]
    refine iteF ⟨_, rfl, _, rfl, .list (dI (frm b p s x)), .list (dI (frm b p s x)), .lst (sq_of (e7 _ _ hTh)) (dp_ints _), .lst (sq_of (e7 _ _ hD6)) (dp_ints _), dI_shaped _, dI_shaped _, _, rfl, ?_⟩
    rw [eqv_sh (dI_shaped _)]
    refine iteF ?_
    have e8 : Ex H H7 := e6.trans e7
    have src7 := src.ex e8
    -- the bent ones
    refine ⟨_, rfl, _, rfl, a, D, n, frm b p s x, rfl, src7, by omega, sq_of (e7 _ _ hD6), D_a, fun z hz => frm_01 hz, ?_, lf, fun v1 H8 k8 s8 th1 => ?_⟩
    · rw [frm_sz]
      unfold sz
      omega
    refine ⟨_, rfl, _, rfl, a, D, n + 20, frm b p s x, rfl, s8, by omega, sq_of (k8 _ _ D_a (e7 _ _ hD6)), D_a, fun z hz => frm_01 hz, ?_, lf, fun v2 H9 k9 s9 th2 => ?_⟩
    · rw [frm_sz]
      unfold sz
      omega
    have F_a : F ≠ a := (src.ex e1).ne nF
    have hF9 : H9 F = some (.lst ((frm b p s x ++ [0]).map V.int)) := k9 _ _ F_a (k8 _ _ F_a (e7 _ _ hF6))
    have th0 : Thg K a H9 (.ref F) := thg_items (L := F) F_a hF9 (fun y hy => by
      obtain ⟨z, hz, rfl⟩ := List.mem_map.mp hy
      rcases List.mem_append.mp hz with hz | hz
      · rcases frm_01 hz with rfl | rfl <;> exact .int _ (by decide)
      · rw [List.mem_singleton.mp hz]
        exact .int _ (by decide)) (by rw [List.length_map, List.length_append]; show _ + 1 ≤ 1000; omega)
    refine ⟨_, rfl, (by show 3 ≤ sizeLine; decide), fun Tt nT => ⟨Tt, rfl, ⟨_, .inl (.inl upd_same)⟩, ?_⟩⟩
    have eT : Ex H9 (upd H9 Tt (.tup [v1, v2, .ref F])) := Ex.new nT
    have hT : upd H9 Tt (.tup [v1, v2, .ref F]) Tt = some (.tup [v1, v2, .ref F]) := upd_same
    have kT : Kp a H (upd H9 Tt (.tup [v1, v2, .ref F])) := (((Ex.kp e8).trans k8).trans k9).trans (Ex.kp eT)
    have sT := s9.ex eT
    obtain ⟨y8, hy8⟩ := s8.at
    obtain ⟨y7, hy7⟩ := src7.at
    have shT : IsSh K (upd H9 Tt (.tup [v1, v2, .ref F])) (.ref t) b p s := (((sh.ex e8).kp k8 hy7).kp k9 hy8).ex eT
    have thS : ∀ y ∈ [v1, v2, .ref F], Thg K a (upd H9 Tt (.tup [v1, v2, .ref F])) y := by
      intro y hy
      simp only [List.mem_cons, List.not_mem_nil, or_false] at hy
      have up : ∀ {Ha : Hp} {v : V}, Kp a Ha (upd H9 Tt (.tup [v1, v2, .ref F])) → Thg K a Ha v → Thg K a (upd H9 Tt (.tup [v1, v2, .ref F])) v := fun k ⟨o, d, h1, h2⟩ => ⟨o, d, h1, fun H' k' => h2 H' (k.trans k')⟩
      rcases hy with rfl | rfl | rfl
      · exact up (k9.trans (Ex.kp eT)) th1
      · exact up (Ex.kp eT) th2
      · exact up (Ex.kp eT) th0
    generalize upd H9 Tt (.tup [v1, v2, .ref F]) = Hc at hT kT sT shT thS ⊢
    refine for_tup (K := K) (a := Tt) (xs := [v1, v2, .ref F]) (fun k σ H10 => ∃ u w, σ = [some (.ref a), some (.ref t), some (.int x), some (.ref D), some (parV b p x), some (.ref F), u, w] ∧ Ex Hc H10) ⟨_, _, rfl, Ex.refl Hc⟩ (fun k σ H10 _ ⟨_, _, _, e⟩ => .inl (.inl (e _ _ hT))) ?_ ?_
    · rintro k y σ H10 hy ⟨u, w, rfl, ex⟩
      obtain ⟨o, d, sd, hod⟩ := thS y (List.mem_of_getElem? hy)
      obtain ⟨dn, sn, hn⟩ := nbr_d (b := b) (p := p) (s := s) b9 o
      refine ⟨_, rfl, _, d, rfl, (hod H10 (Ex.kp ex)).2, sd, ?_⟩
      refine ⟨_, rfl, _, rfl, .ref t, b, p, s, y, o, rfl, shT.ex ex, (hod H10 (Ex.kp ex)).1, fun H11 e11 => ?_⟩
      have ex11 := ex.trans e11
      refine ⟨_, dn, rfl, hn _ _, sn, _, rfl, _, rfl, .ref t, b, p, s, y, o, rfl, shT.ex ex11, (hod H11 (Ex.kp ex11)).1, fun H12 e12 => ?_⟩
      have ex12 := ex11.trans e12
      refine ⟨_, dn, rfl, hn _ _, sn, rfl, _, rfl, ?_⟩
      rw [str_ne]
      refine iteF ⟨_, rfl, _, d, rfl, (hod H12 (Ex.kp ex12)).2, sd, _, rfl, rfl, _, rfl, ?_⟩
      rw [str_ne]
      exact iteF ⟨_, _, rfl, ex12⟩
    · rintro σ H10 ⟨u, w, rfl, ex⟩
      exact q H10 (kT.trans (Ex.kp ex)) ((sT.ex ex).mono (by omega))
end
end LW
namespace LW
open PySem PySem.Spec PyProof.Rows L2 Evl SB
section
variable {P : Program} {w : World} {K : PySem.W.Frag} {mg : Str → Option Value} {base : Heap}
def sp_law (K : PySem.W.Frag) : Sp := fun vs H Q _ => ∃ (a : Addr) (ns : List Int), vs = [.ref a] ∧ SqL K H a (ns.map V.int) ∧ ns.length ≤ 63 ∧ ∀ H', Q (.bl true) H'
theorem law_ok {fd : FuncData} (T : Tx K mg) (TE : TxE P K mg) (F : FunD K "law" "law" (defArgs s_law) (defBody s_law) (defScope s_law) [] [] (He.fAd K ("law", none)) fd) : FnG P w K mg base CX0 9 (He.fAd K ("law", none)) fd ["_law_script"] (sp_law K) := by
  have c_law_source := cal_source (P := P) (w := w) (base := base) T
  have c_law_shape := cal_shape (P := P) (w := w) (base := base) T
  have c_law_numbers := cal_nums (P := P) (w := w) (base := base) T
  have c_law_right := cal_right (w := w) (base := base) T TE
  have c_law_frame := cal_lframe (P := P) (w := w) (base := base) T
  have c_number_of := cal_nbr (P := P) (w := w) (base := base) T
  have c_law_number := cal_lnbr (P := P) (w := w) (base := base) T
  have c_frame_of_number_shape := cal_frameK (P := P) (w := w) (base := base) T
  have c_parity_of_number_shape := cal_parityK (P := P) (w := w) (base := base) T
  have c_number_of_value_shape := cal_nbrK (P := P) (w := w) (base := base) T
  refine FnG.body F sc_law (fun vs H Q E h => ?_) (fun cdv A outer s H vs Q E hr hgd h => ⟨_, PSs.nox ((pss_cons (ps_for PassesOwn.never rfl (pi_range1 rfl T.b_range (pa_cons (pe_callB (call_max2 rfl) (by rfl) T.b_max (by decide +kernel) (pa_cons pe_int (pa_cons (pe_callB (call_min2 rfl) (by rfl) T.b_min (by decide +kernel) (pa_cons pe_int (pa_cons (pe_callB call_len_seq (by rfl) T.b_len (by decide +kernel) (pa_cons (pv 0) pa_nil)) pa_nil))) pa_nil))) pa_nil)) (pg_name (i := 1) sc_law.nd rfl (Or.inl rfl)) (pss_cons (ps_set (i := 2) sc_law.nd rfl (Or.inl rfl) (pe_cal c_law_source (hr.mono (by decide)) pass0 (pa_cons (pv 0) (pa_cons (pv 1) pa_nil))))
      (pss_cons (ps_par (i := 3) (j := 4) (by rfl) sc_law.nd rfl rfl (by decide) rfl rfl (pa_cons (pe_cal c_law_shape (hr.mono (by decide)) pass0 (pa_cons (pv 2) pa_nil)) (pa_cons (pe_cal c_law_shape (hr.mono (by decide)) pass0 (pa_cons (pv 2) pa_nil)) pa_nil)) (by rfl))
      (pss_one (ps_for PassesOwn.never rfl (pi_list (pe_cal c_law_numbers (hr.mono (by decide)) pass0 (pa_cons (pv 2) (pa_cons (pv 3) pa_nil)))) (pg_name (i := 5) sc_law.nd rfl (Or.inl rfl)) (pss_cons (ps_if (pt_not (pt_val (pe_calG c_law_right (hr.mono (by decide)) hgd pass0 (pa_cons (pv 2) (pa_cons (pv 3) (pa_cons (pv 5) pa_nil)))))) (pss_one (ps_ret pe_bl)) pss_nil)
      (pss_cons (ps_set (i := 6) sc_law.nd rfl (Or.inl rfl) (pe_cal c_law_frame (hr.mono (by decide)) pass0 (pa_cons (pv 3) (pa_cons (pv 5) pa_nil))))
      (pss_one (ps_if (pt_cmpR op_ne (pe_callB (call_rd TE.sy hgd hr.units) (by rfl) T.b_repr (by decide +kernel) (pa_cons (pe_cal c_number_of (hr.mono (by decide)) pass0 (pa_cons (pv 4) (pa_cons (pv 6) pa_nil))) pa_nil)) (pe_callB (call_rd TE.sy hgd hr.units) (by rfl) T.b_repr (by decide +kernel) (pa_cons (pe_cal c_law_number (hr.mono (by decide)) pass0 (pa_cons (pv 4) (pa_cons (pv 6) pa_nil))) pa_nil)) (nomark _)) (pss_one (ps_ret pe_bl)) pss_nil)))))))))
      (pss_cons (ps_set (i := 7) sc_law.nd rfl (Or.inl rfl) (pe_calK c_frame_of_number_shape (hr.mono (by decide)) pass0 (pk_cons pe_int (pk_cons (pe_tup (pa_cons pe_int (pa_cons pe_str (pa_cons pe_int pa_nil)))) pk_nil))))
      (pss_cons (ps_if (PW.pt (pw_or (pt_cmpR (op_neD hr.units) (pv 7) (pe_lst (pa_cons pe_int (pa_cons pe_int (pa_cons pe_int (pa_cons pe_int (pa_cons pe_int (pa_cons pe_int (pa_cons pe_int pa_nil)))))))) (nomark _)) (pw_or1 (pt_cmpR op_ne (pe_calK c_parity_of_number_shape (hr.mono (by decide)) pass0 (pk_cons pe_int (pk_cons (pe_tup (pa_cons pe_int (pa_cons pe_str (pa_cons pe_int pa_nil)))) pk_nil))) pe_int (nomark _))))) (pss_one (ps_ret pe_bl)) pss_nil)
      (pss_one (ps_ret (pe_cmpR op_eq (pe_calK c_number_of_value_shape (hr.mono (by decide)) pass0 (pk_cons (pe_lst (pa_cons pe_int (pa_cons pe_int (pa_cons pe_int (pa_cons pe_int (pa_cons pe_int (pa_cons pe_int (pa_cons pe_int pa_nil)))))))) (pk_cons (pe_tup (pa_cons pe_int (pa_cons pe_str (pa_cons pe_int pa_nil)))) pk_nil))) pe_int (nomark _)))))))), ?_⟩)
  · obtain ⟨a, ns, rfl, _⟩ := h
    rfl
  · obtain ⟨a, ns, rfl, sq, hl, q⟩ := h
    refine ⟨_, rfl, a, _, rfl, .inl sq, _, _, rfl, _, _, rfl, _, rfl, ?_, ?_, ?_⟩
    · split <;> split <;> omega
    · split <;> split <;> omega
    have small : ∀ i : Nat, i < (if (if ((ns.map V.int).length : Int) < 12 then ((ns.map V.int).length : Int) else 12) > 1 then (if ((ns.map V.int).length : Int) < 12 then ((ns.map V.int).length : Int) else 12) else 1 : Int).toNat → i ≤ 12 := by
      intro i hi
      split at hi <;> (try split at hi) <;> omega
    have shp : ∀ {H' : Hp} {t : Addr} {b : Nat} {p : Pa} {s : Nat}, H' t = some (.tup [.int (b : Nat), .str p.s, .int (s : Nat)]) → 1 ≤ b → b ≤ 9 → 1 ≤ s → s ≤ 2 → IsSh K H' (.ref t) b p s := fun h h1 h2 h3 h4 => ⟨_, rfl, .inl (.inl h), h1, h2, h3, h4⟩
    refine for_range (lo := 0) (fun i σ H1 => ∃ u1 u2 u3 u4 u5 u6 u7, σ = [some (.ref a), u1, u2, u3, u4, u5, u6, u7] ∧ Ex H H1) ⟨none, none, none, none, none, none, none, rfl, Ex.refl H⟩ ?_ ?_
    · rintro i σ H1 hi ⟨u1, u2, u3, u4, u5, u6, u7, rfl, ex⟩
      have i8 := small i hi
      refine ⟨_, rfl, _, rfl, a, ns, i, by simp, ex_l ex sq, by omega, fun S H2 nS e2 src0 => ?_⟩
      have fS : H S = none := fresh_back ex nS
      have x2 : Ex H H2 := ex.trans e2
      refine ⟨_, rfl, S, 0, rfl, src0, by omega, fun t b p s H3 nt k1 r1 ht b1 b9 c1 c2 => ⟨_, rfl, S, 3, rfl, r1, by omega, fun t2 bb pp ss H4 nt2 k2 r2 ht2 bb1 bb9 cc1 cc2 => ⟨_, _, rfl, ?_⟩⟩⟩
      obtain ⟨y3, hS3⟩ := r1.at
      have sh4 : IsSh K H4 (.ref t) b p s := (shp ht b1 b9 c1 c2).kp k2 hS3
      have so4 : IsSh K H4 (.ref t2) bb pp ss := shp ht2 bb1 bb9 cc1 cc2
      obtain ⟨y4, hS4⟩ := r2.at
      refine ⟨_, rfl, _, rfl, S, 6, .ref t, b, p, s, rfl, r2, by omega, sh4, fun r cs H5 nr k3 r3 hr5 l16 inb => ⟨r, rfl, ⟨_, sq_of hr5⟩, ?_⟩⟩
      have r_S : r ≠ S := r2.ne nr
      have sh5 := sh4.kp k3 hS4
      have so5 := so4.kp k3 hS4
      obtain ⟨y5, hS5⟩ := r3.at
      refine for_list (K := K) (a := r) (xs := cs.map V.int) (fun k σ H6 => ∃ u5 u6, σ = [some (.ref a), some (.int (0 + (i : Int))), some (.ref S), some (.ref t), some (.ref t2), u5, u6, u7] ∧ Kp S H5 H6 ∧ Src H6 S (14 + 40 * k)) ⟨_, _, rfl, Kp.refl, r3⟩ (fun k σ H6 _ ⟨_, _, _, kk, _⟩ => sq_of (kk _ _ r_S hr5)) ?_ ?_
      · rintro k y σ H6 hy ⟨u5, u6, rfl, k6, r6⟩
        obtain ⟨z, hz, rfl⟩ := ints_at hy
        have hk : k < cs.length := (List.getElem?_eq_some_iff.mp hz).1
        obtain ⟨z0, z1⟩ := inb z (List.mem_of_getElem? hz)
        have sh6 := sh5.kp k6 hS5
        have so6 := so5.kp k6 hS5
        obtain ⟨y6, hS6⟩ := r6.at
        refine ⟨_, rfl, _, rfl, _, rfl, S, 14 + 40 * k, .ref t, b, p, s, z, rfl, r6, by omega, sh6, z0, z1, fun H7 k7 r7 => ⟨_, rfl, iteF ?_⟩⟩
        have sh7 := sh6.kp k7 hS6
        have so7 := so6.kp k7 hS6
        refine ⟨_, rfl, _, rfl, .ref t, b, p, s, z, rfl, sh7, z0, z1, fun Th H8 nTh e8 hTh => ?_⟩
        have lfr : ((frm b p s z).map V.int).length ≤ 1000 := by
          have := frm_le b p s z
          rw [List.length_map]
          omega
        have anyL : ∀ (H' : Hp), ∀ y ∈ (frm b p s z).map V.int, Any K H' y := fun H' y hy => by
          obtain ⟨z, _, rfl⟩ := List.mem_map.mp hy
          exact ⟨_, .int z⟩
        obtain ⟨dn, sn, hn⟩ := nbr_d (b := bb) (p := pp) (s := ss) bb9 (some ((frm b p s z).map V.int))
        refine ⟨_, rfl, _, rfl, .ref t2, bb, pp, ss, .ref Th, some _, rfl, so7.ex e8, .yes rfl (sq_of hTh) (anyL _) lfr, fun H9 e9 => ?_⟩
        refine ⟨_, dn, rfl, hn _ _, sn, _, rfl, _, rfl, .ref t2, bb, pp, ss, .ref Th, some _, rfl, so7.ex (e8.trans e9), .yes rfl (sq_of (e9 _ _ hTh)) (anyL _) lfr, fun H10 e10 => ?_⟩
        refine ⟨_, dn, rfl, hn _ _, sn, rfl, _, rfl, ?_⟩
        rw [str_ne]
        have eE := (e8.trans e9).trans e10
        exact iteF ⟨_, _, rfl, (k6.trans k7).trans (Ex.kp eE), (r7.ex eE).mono (by omega)⟩
      · rintro σ H6 ⟨u5, u6, rfl, k6, r6⟩
        exact ⟨_, _, _, _, _, _, _, rfl, Kp.new x2 (((k1.trans k2).trans k3).trans k6) fS⟩
    · rintro σ H1 ⟨u1, u2, u3, u4, u5, u6, u7, rfl, ex⟩
      have ef : frm 3 .od 2 5 = [0, 1, 0, 1, 1, 1, 1] := by decide +kernel
      have en : nbr 3 .od 2 (some (([0, 1, 0, 1, 1, 1, 1] : List Int).map V.int)) = .int 5 := by
        rw [← ef]
        exact nbr_frm (by decide) (by decide)
      refine ⟨(by show 3 ≤ sizeLine; decide), fun t nt => ⟨.ref t, 3, .od, 2, 5, rfl, shp (p := .od) upd_same (by omega) (by omega) (by omega) (by omega), by decide, by decide, fun F H2 nF e2 hF => ?_⟩⟩
      rw [ef] at hF
      refine ⟨_, rfl, (by show 7 ≤ sizeLine; decide), fun L nL => ⟨.list (dI [0, 1, 0, 1, 1, 1, 1]), .list (dI [0, 1, 0, 1, 1, 1, 1]), .lst (sq_of ((Ex.new nL) _ _ hF)) (dp_ints _), .lst (.inl (.inl upd_same)) (dp_ints [0, 1, 0, 1, 1, 1, 1]), dI_shaped _, dI_shaped _, _, rfl, ?_⟩⟩
      rw [eqv_sh (dI_shaped _)]
      refine iteF ⟨(by show 3 ≤ sizeLine; decide), fun t2 nt2 => ⟨.ref t2, 3, .od, 2, 5, rfl, shp (p := .od) upd_same (by omega) (by omega) (by omega) (by omega), by decide, by decide, fun H5 e5 => ⟨rfl, _, rfl, ?_⟩⟩⟩
      rw [show (!decide (parV 3 .od 5 = V.int 1)) = false from by decide +kernel]
      refine iteF ⟨(by show 7 ≤ sizeLine; decide), fun L2 nL2 => ⟨(by show 3 ≤ sizeLine; decide), fun t3 nt3 => ⟨.ref t3, 3, .od, 2, .ref L2, some (([0, 1, 0, 1, 1, 1, 1] : List Int).map V.int), rfl, shp (p := .od) upd_same (by omega) (by omega) (by omega) (by omega), .yes rfl (.inl (.inl ((Ex.new nt3) _ _ upd_same))) (fun y hy => ?_) (by decide), fun H6 e6 => ?_⟩⟩⟩
      · obtain ⟨z, _, rfl⟩ := List.mem_map.mp hy
        exact ⟨_, .int z⟩
      · rw [en]
        exact ⟨rfl, q _⟩
theorem law_facts {h : Heap} {fa : Addr} (X : K.In h) (hfa : mg ("law" : Str) = some (.ref fa)) (T : Tx K mg) (TE : TxE P K mg) :
    ∃ (K' : PySem.W.Frag) (fd : FuncData) (sp : Sp), K'.In h ∧ (∀ (s : Shared) (u : Value), BindsTo s fd ⟨[u], []⟩ [(("_law_script" : Str), u)]) ∧
        (∀ (H : Hp) (a : Addr) (ns : List Int), ns.length ≤ 63 → Only H → SqL K' H a (ns.map V.int) → sp [.ref a] H (fun v _ => v = .bl true) fun _ _ _ => False) ∧
        ∀ base : Heap, K'.In base → base.Ns mainGlobals mg → FnG P w K' mg base L2.CX0 9 fa fd ["_law_script"] sp := by
  obtain ⟨e, fd, F⟩ := T.d_law
  have e2 := hfa.symm.trans e
  cases e2
  exact ⟨K, fd, sp_law K, X, fun s u => FunD.bindsA (ps := ["_law_script"]) F (fun _ _ _ _ _ _ us hl => match us, hl with | [_], _ => rfl) s [u] rfl,
    fun H a ns hl _ hS => ⟨a, ns, rfl, hS, hl, fun _ => rfl⟩, fun base _ _ => law_ok T TE F⟩
end
end LW
namespace LW
open PySem PySem.Spec PyProof.Rows L2 Evl SB
def fnL : List He.DefD := [⟨("is_int", none), "is_int", "is_int", defArgs s_is_int, defBody s_is_int, defScope s_is_int, [], []⟩,
  ⟨("is_int_between", none), "is_int_between", "is_int_between", defArgs s_is_int_between, defBody s_is_int_between, defScope s_is_int_between, [], []⟩,
  ⟨("is_level", none), "is_level", "is_level", defArgs s_is_level, defBody s_is_level, defScope s_is_level, [], []⟩,
  ⟨("is_parity", none), "is_parity", "is_parity", defArgs s_is_parity, defBody s_is_parity, defScope s_is_parity, [], []⟩,
  ⟨("fits", none), "fits", "fits", defArgs s_fits, defBody s_fits, defScope s_fits, [], []⟩,
  ⟨("check_shape", none), "check_shape", "check_shape", defArgs s_check_shape, defBody s_check_shape, defScope s_check_shape, [], []⟩,
  ⟨("check_number", none), "check_number", "check_number", defArgs s_check_number, defBody s_check_number, defScope s_check_number, [], []⟩,
  ⟨("size_of", none), "size_of", "size_of", defArgs s_size_of, defBody s_size_of, defScope s_size_of, [], []⟩,
  ⟨("parity_of", none), "parity_of", "parity_of", defArgs s_parity_of, defBody s_parity_of, defScope s_parity_of, [], []⟩,
  ⟨("frame_of", none), "frame_of", "frame_of", defArgs s_frame_of, defBody s_frame_of, defScope s_frame_of, [], []⟩,
  ⟨("number_of", none), "number_of", "number_of", defArgs s_number_of, defBody s_number_of, defScope s_number_of, [], []⟩,
  ⟨("_bits_of", none), "_bits_of", "_bits_of", defArgs s_bits_of, defBody s_bits_of, defScope s_bits_of, [], []⟩,
  ⟨("_are_levels", none), "_are_levels", "_are_levels", defArgs s_are_levels, defBody s_are_levels, defScope s_are_levels, [], []⟩,
  ⟨("_law_source", none), "_law_source", "_law_source", defArgs s_law_source, defBody s_law_source, defScope s_law_source, [], []⟩,
  ⟨("_law_draw", none), "_law_draw", "_law_draw", defArgs s_law_draw, defBody s_law_draw, defScope s_law_draw, [], []⟩,
  ⟨("_law_shape", none), "_law_shape", "_law_shape", defArgs s_law_shape, defBody s_law_shape, defScope s_law_shape, [], []⟩,
  ⟨("_law_frame", none), "_law_frame", "_law_frame", defArgs s_law_frame, defBody s_law_frame, defScope s_law_frame, [], []⟩,
  ⟨("_law_is_integer", none), "_law_is_integer", "_law_is_integer", defArgs s_law_is_integer, defBody s_law_is_integer, defScope s_law_is_integer, [], []⟩,
  ⟨("_law_number", none), "_law_number", "_law_number", defArgs s_law_number, defBody s_law_number, defScope s_law_number, [], []⟩,
  ⟨("_law_numbers", none), "_law_numbers", "_law_numbers", defArgs s_law_numbers, defBody s_law_numbers, defScope s_law_numbers, [], []⟩,
  ⟨("_law_bent", none), "_law_bent", "_law_bent", defArgs s_law_bent, defBody s_law_bent, defScope s_law_bent, [], []⟩,
  ⟨("_law_right", none), "_law_right", "_law_right", defArgs s_law_right, defBody s_law_right, defScope s_law_right, [], []⟩,
  ⟨("law", none), "law", "law", defArgs s_law, defBody s_law, defScope s_law, [], []⟩]
def faL : List He.Fa := [.free "abs", .free "all", .free "bool", .free "enumerate", .free "int", .free "isinstance", .free "len", .free "list", .free "max", .free "min", .free "range", .free "repr", .free "str", .free "sum", .free "tuple", .glo "PARITIES", .int "MOST_BITS" 9, .int "MOST_STOPS" 2, .glo "is_int", .glo "is_int_between", .glo "is_level", .glo "is_parity", .glo "fits", .glo "check_shape", .glo "check_number", .glo "size_of", .glo "parity_of", .glo "frame_of", .glo "number_of", .glo "_bits_of", .glo "_are_levels", .glo "_law_source", .glo "_law_draw", .glo "_law_shape", .glo "_law_frame", .glo "_law_is_integer", .glo "_law_number", .glo "_law_numbers", .glo "_law_bent", .glo "_law_right", .glo "law"]
def exL (K : PySem.W.Frag) : Bool := (He.tupB K "PARITIES" [.str "none", .str "even", .str "odd"]) && (EXS.errB PySem.Challenge.pw_startbits_k02_frames_and_parity.main.file K "InvalidShape" "index" && (EXS.plnB K "InvalidNumber" && (sysB K && (true))))
def errL : List EXS.ErrD := [⟨"InvalidShape", "index", "wrong item of a shape: ", defArgs (inB (topS 3) 0), defBody (inB (topS 3) 0), defScope (inB (topS 3) 0)⟩]
theorem tx_of {w : World} {K : PySem.W.Frag} {h : Heap} {mg : Str → Option Value} (X : K.In h) (G : h.Ns mainGlobals mg) (c : He.SaysX faL fnL [] [] exL w h K) : Tx K mg := by
  have D := c.t.d
  have M := ((Bool.and_eq_true _ _).mp c.more).1
  exact {
    b_abs := He.free_ok X G (D.fact 0 (f := .free "abs") rfl),
    b_all := He.free_ok X G (D.fact 1 (f := .free "all") rfl),
    b_bool := He.free_ok X G (D.fact 2 (f := .free "bool") rfl),
    b_enumerate := He.free_ok X G (D.fact 3 (f := .free "enumerate") rfl),
    b_int := He.free_ok X G (D.fact 4 (f := .free "int") rfl),
    b_isinstance := He.free_ok X G (D.fact 5 (f := .free "isinstance") rfl),
    b_len := He.free_ok X G (D.fact 6 (f := .free "len") rfl),
    b_list := He.free_ok X G (D.fact 7 (f := .free "list") rfl),
    b_max := He.free_ok X G (D.fact 8 (f := .free "max") rfl),
    b_min := He.free_ok X G (D.fact 9 (f := .free "min") rfl),
    b_range := He.free_ok X G (D.fact 10 (f := .free "range") rfl),
    b_repr := He.free_ok X G (D.fact 11 (f := .free "repr") rfl),
    b_str := He.free_ok X G (D.fact 12 (f := .free "str") rfl),
    b_sum := He.free_ok X G (D.fact 13 (f := .free "sum") rfl),
    b_tuple := He.free_ok X G (D.fact 14 (f := .free "tuple") rfl),
    t_PARITIES := He.glo_ok X G (D.fact 15 (f := .glo "PARITIES") rfl),
    v_PARITIES := fun H => He.tupB_ok M H,
    i_MOST_BITS := He.int_ok X G (D.fact 16 (f := .int "MOST_BITS" 9) rfl),
    i_MOST_STOPS := He.int_ok X G (D.fact 17 (f := .int "MOST_STOPS" 2) rfl),
    d_is_int := ⟨He.glo_ok X G (D.fact 18 (f := .glo "is_int") rfl), D.def_ 0 rfl⟩,
    d_is_int_between := ⟨He.glo_ok X G (D.fact 19 (f := .glo "is_int_between") rfl), D.def_ 1 rfl⟩,
    d_is_level := ⟨He.glo_ok X G (D.fact 20 (f := .glo "is_level") rfl), D.def_ 2 rfl⟩,
    d_is_parity := ⟨He.glo_ok X G (D.fact 21 (f := .glo "is_parity") rfl), D.def_ 3 rfl⟩,
    d_fits := ⟨He.glo_ok X G (D.fact 22 (f := .glo "fits") rfl), D.def_ 4 rfl⟩,
    d_check_shape := ⟨He.glo_ok X G (D.fact 23 (f := .glo "check_shape") rfl), D.def_ 5 rfl⟩,
    d_check_number := ⟨He.glo_ok X G (D.fact 24 (f := .glo "check_number") rfl), D.def_ 6 rfl⟩,
    d_size_of := ⟨He.glo_ok X G (D.fact 25 (f := .glo "size_of") rfl), D.def_ 7 rfl⟩,
    d_parity_of := ⟨He.glo_ok X G (D.fact 26 (f := .glo "parity_of") rfl), D.def_ 8 rfl⟩,
    d_frame_of := ⟨He.glo_ok X G (D.fact 27 (f := .glo "frame_of") rfl), D.def_ 9 rfl⟩,
    d_number_of := ⟨He.glo_ok X G (D.fact 28 (f := .glo "number_of") rfl), D.def_ 10 rfl⟩,
    d_bits_of := ⟨He.glo_ok X G (D.fact 29 (f := .glo "_bits_of") rfl), D.def_ 11 rfl⟩,
    d_are_levels := ⟨He.glo_ok X G (D.fact 30 (f := .glo "_are_levels") rfl), D.def_ 12 rfl⟩,
    d_law_source := ⟨He.glo_ok X G (D.fact 31 (f := .glo "_law_source") rfl), D.def_ 13 rfl⟩,
    d_law_draw := ⟨He.glo_ok X G (D.fact 32 (f := .glo "_law_draw") rfl), D.def_ 14 rfl⟩,
    d_law_shape := ⟨He.glo_ok X G (D.fact 33 (f := .glo "_law_shape") rfl), D.def_ 15 rfl⟩,
    d_law_frame := ⟨He.glo_ok X G (D.fact 34 (f := .glo "_law_frame") rfl), D.def_ 16 rfl⟩,
    d_law_is_integer := ⟨He.glo_ok X G (D.fact 35 (f := .glo "_law_is_integer") rfl), D.def_ 17 rfl⟩,
    d_law_number := ⟨He.glo_ok X G (D.fact 36 (f := .glo "_law_number") rfl), D.def_ 18 rfl⟩,
    d_law_numbers := ⟨He.glo_ok X G (D.fact 37 (f := .glo "_law_numbers") rfl), D.def_ 19 rfl⟩,
    d_law_bent := ⟨He.glo_ok X G (D.fact 38 (f := .glo "_law_bent") rfl), D.def_ 20 rfl⟩,
    d_law_right := ⟨He.glo_ok X G (D.fact 39 (f := .glo "_law_right") rfl), D.def_ 21 rfl⟩,
    d_law := ⟨He.glo_ok X G (D.fact 40 (f := .glo "law") rfl), D.def_ 22 rfl⟩ }
theorem txe_of {w : World} {K : PySem.W.Frag} {h : Heap} {mg : Str → Option Value} (X : K.In h) (G : h.Ns mainGlobals mg) (c : EXS.SaysE faL fnL errL exL w h K) : TxE PySem.Challenge.pw_startbits_k02_frames_and_parity K mg := by
  have M := ((Bool.and_eq_true _ _).mp c.x.more).2
  have V := c.e
  obtain ⟨m0, M⟩ := (Bool.and_eq_true _ _).mp M
  obtain ⟨m1, M⟩ := (Bool.and_eq_true _ _).mp M
  obtain ⟨m2, M⟩ := (Bool.and_eq_true _ _).mp M
  obtain ⟨v0, V⟩ := List.cons.inj V
  exact {
    x_InvalidShape := EXS.err_ok (e := ⟨"InvalidShape", "index", "wrong item of a shape: ", defArgs (inB (topS 3) 0), defBody (inB (topS 3) 0), defScope (inB (topS 3) 0)⟩) X G (by decide +kernel) ⟨_, _, _, _, _, _, _, _, _, _, _, _, _, _, _, _, rfl, rfl, rfl, rfl, .inl rfl, by decide⟩ m0 v0,
    p_InvalidNumber := EXS.pln_ok X G m1,
    sy := sys_ok m2 }
def looseL : List Str := (["LineError", "InvalidNumber", "InvalidShape", "PARITIES", "MOST_BITS", "MOST_STOPS", "is_int", "is_int_between", "is_level", "is_parity", "fits", "check_shape", "check_number", "size_of", "parity_of", "frame_of", "number_of", "_bits_of", "_are_levels", "_law_source", "_law_draw", "_law_shape", "_law_frame", "_law_is_integer", "_law_number", "_law_numbers", "_law_bent", "_law_right"] : List Str)
abbrev RW : PySem.W.OpenRow := PySem.W.OpenLaw.row PySem.Challenge.rw_startbits_k02_frames_and_parity
abbrev hk : PySem.W.Hook := EXS.hookE 5 faL fnL errL exL
def obL (s : PySem.W.SharedT) : EXS.AlE := EXS.obsE 5 faL fnL errL exL (HandSHeadRun.getT s)
theorem obL_eq (s : PySem.W.SharedT) : obL s = hk.obs s.abs := EXS.obsE_eq (HandSHeadRun.getT_eq s)
theorem runL (w : World) : HandSHeadRun.RunEq RW (PySem.W.view RW.prog [32]) hk obL 6000 looseL w := by
  intro os
  kernel_rfl
end LW
open PySem PySem.W PySem.Calls PyProof.Rows
set_option maxHeartbeats 0 in
theorem PySem.Challenge.cw_startbits_k02_frames_and_parity_holds : PySem.Challenge.rw_startbits_k02_frames_and_parity.Holds := by
  w_on; o_law
  refine HandSHeadRun.head_any (r := OpenLaw.row PySem.Challenge.rw_startbits_k02_frames_and_parity) (q := view (OpenLaw.row PySem.Challenge.rw_startbits_k02_frames_and_parity).prog [32]) (H := LW.hk) (ob := LW.obL) (M := 6000) (loose := LW.looseL) (d := HandSHeadRun.topDef (OpenLaw.row PySem.Challenge.rw_startbits_k02_frames_and_parity).prog 32) (kwd := []) LW.obL_eq
    (by kernel_rfl) (fun s => by kernel_rfl) LW.runL (by kernel_rfl) (by kernel_rfl) (by kernel_rfl) (by rfl) (by first | assumption | decide +kernel) (by decide +kernel) ⟨rfl, rfl, rfl, rfl, rfl, by decide +kernel⟩ ?hw ?hc
  case hw => w_witness2
  case hc =>
    refine SB.walkG (l := PySem.Challenge.rw_startbits_k02_frames_and_parity) (n := 63) (k := 9) (x := "_law_script") (CX := L2.CX0) rfl (by decide) (by kernel_rfl) ⟨rfl, by decide, by decide⟩ ?F (fun _ _ _ _ z => z)
    intro w mg fa h Y G hmg0
    obtain ⟨K, KX, c⟩ := Y
    have hmg : mg ("law" : PySem.Str) = some (.ref fa) := by
      have e : (HandSHeadRun.topDef (OpenLaw.row PySem.Challenge.rw_startbits_k02_frames_and_parity).prog 32).name = ("law" : PySem.Str) := by kernel_rfl
      rw [← e]
      exact hmg0
    exact LW.law_facts KX hmg (LW.tx_of KX G c.x) (LW.txe_of KX G c)
