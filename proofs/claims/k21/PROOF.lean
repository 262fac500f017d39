import PyProof.Rows.All
import Wide.All
import OpenK.AllK
import Wide.FinOn
import PySem.Challenge.RW_startbits_k21_offsets
import HandS.ForMost
import HandS.Wide
import HandS.IsInst
import HandS.Defaults
import HandS.HeadHook2
import HandS.HeadHook4
import HandS.HeadEnd
import HandS.Head0
import HandS.Head1
import HandS.Head2
import PyProof.ReprRoads
import PyProof.ReprLen
import HandS.Evl
import HandS.Text
import HandS.Zip
import HandS.Style
import HandS.Conv
set_option Elab.async false
set_option linter.all false
set_option maxRecDepth 100000
set_option maxHeartbeats 4000000
namespace SB
open PySem PySem.Spec PyProof.Rows L2
/-! powers of wide ints -/
def CPowB (i j : Int) : Prop := 0 ≤ j ∧ ((i.natAbs.log2 : Int) + 1) * j ≤ 134217728
theorem bits_le (i : Int) : (Builtin.Int.intBits i : Int) ≤ (i.natAbs.log2 : Int) + 1 := by
  unfold Builtin.Int.intBits
  split <;> omega
theorem op_powB {X : Cx} : OpR X (binaryOp .Pow) (rI CPowB fun i j => .int (i ^ j.toNat)) :=
  opI fun i j _ _ _ _ _ hc q => by
    refine pow_int hc.1 ?_ q
    have h2 := hc.2
    have h3 := Int.mul_le_mul_of_nonneg_right (bits_le i) hc.1
    have e : (2 : Int) ^ 27 = 134217728 := by decide
    omega
/-! repr of data -/
def rRp (K : PySem.W.Frag) : List V → Hp → VK → Prop := fun xs H Q => ∃ v d, xs = [v] ∧ Dp K H v d ∧ d.showable = true ∧ d.hasDict = false ∧ d.depth ≤ 60 ∧ d.shown.length ≤ sizeLine ∧ Q (.str d.shown) H
theorem call_rp {X : Cx} (hg : X.A.guards = some []) (hu : X.A.units + 64 < cLine) : CallR X (.builtin "repr") (rRp X.K) := by
  intro pins s σ H xs us Q I r h
  obtain ⟨v, d, rfl, hd, h1, h2, h3, h4, q⟩ := h
  obtain ⟨u, rfl, ru⟩ := vals1 r
  cases hd with
  | non =>
    obtain rfl : u = Value.none := ru
    exact PySem.P.repr_of_none ⟨.str "None", H, I.tok _, ⟨_, rfl⟩, q⟩
  | bl b =>
    obtain rfl : u = Value.bool b := ru
    cases b with
    | true => exact PySem.P.repr_of_bool ⟨.str "True", H, I.tok _, ⟨_, rfl⟩, q⟩
    | false => exact PySem.P.repr_of_bool ⟨.str "False", H, I.tok _, ⟨_, rfl⟩, q⟩
  | int i =>
    obtain ⟨t, rfl⟩ := ru
    exact PySem.P.repr_of_int (of_decide_eq_true h1) ⟨.str (toString i), H, I.tok _, ⟨_, rfl⟩, q⟩
  | str x =>
    obtain ⟨t, rfl⟩ := ru
    exact PySem.P.repr_of_str ⟨.str (reprText x), H, I.tok _, ⟨_, rfl⟩, q⟩ h4
  | lst hs ha =>
    obtain ⟨as, rd⟩ := Dp.reads I _ _ u (.lst hs ha) ru
    cases (show u = Value.ref _ from ru)
    exact PySem.repr_of_reads' rd h1 (PyData.noDict_hsm h2) hg (by omega) (fun _ _ e => e) (fun h' u tk hk => ⟨.str _, H, I.kept hk, ⟨_, rfl⟩, q⟩) h4
  | tup hs ha =>
    obtain ⟨as, rd⟩ := Dp.reads I _ _ u (.tup hs ha) ru
    cases (show u = Value.ref _ from ru)
    exact PySem.repr_of_reads' rd h1 (PyData.noDict_hsm h2) hg (by omega) (fun _ _ e => e) (fun h' u tk hk => ⟨.str _, H, I.kept hk, ⟨_, rfl⟩, q⟩) h4
/-! defs that are run where no repr is under way: the promise holds for such surroundings alone -/
structure FnG (P : Program) (w : World) (K : PySem.W.Frag) (mg : Str → Option Value) (base : Heap) (CX : CXT) (k : Nat)
    (f : Addr) (fd : FuncData) (ps : List Str) (sp : Sp) : Prop where
  len : ∀ vs H Q E, sp vs H Q E → vs.length = ps.length
  go : ∀ (A : Around) (out : List Env) (s : Shared) (H : Hp) (ar : Args) (us : List Value) (vs : List V) (Q : VK) (E : XK),
    Room k A → A.guards = some [] → Env0 P w K mg base A out s H → BindsTo s fd ar (ps.zip us) → Vals vs us → sp vs H Q E →
    codeAny (model P w) A (.call (.ref f) ar) (CR CX out P w H s Q E) s
section
variable {P : Program} {w : World} {K : PySem.W.Frag} {mg : Str → Option Value} {base : Heap} {CX : CXT} {k : Nat}
  {f : Addr} {fd : FuncData} {ps : List Str} {sp : Sp}
theorem FnG.of (F : FnOk P w K mg base CX k f fd ps sp) : FnG P w K mg base CX k f fd ps sp :=
  ⟨F.len, fun A out s H ar us vs Q E r _ e b v h => F.run A out s H ar us vs Q E r e b v h⟩
theorem FnG.mono {j : Nat} (F : FnG P w K mg base CX j f fd ps sp) (h : j ≤ k) : FnG P w K mg base CX k f fd ps sp :=
  ⟨F.len, fun A out s H ar us vs Q E r g e b v z => F.go A out s H ar us vs Q E (r.mono h) g e b v z⟩
theorem FnG.body {x qual : Str} {params : Arguments} {bd : List Stmt} {scope : Scope} {dvs : List V} {kws : List (Str × V)} {N : List Str}
    (F : FunD K x qual params bd scope dvs kws f fd) (S : FnScope N ps scope) (len : ∀ vs H Q E, sp vs H Q E → vs.length = ps.length)
    (hb : ∀ (cdv : Value) (A : Around) (out : List Env) (s : Shared) (H : Hp) (vs : List V) (Q : VK) (E : XK),
      Room k (A.deeper (envOfC qual scope s.heap.objs.size f cdv)) → A.guards = some [] → sp vs H Q E →
      ∃ t, PSs (cxOf CX P w K mg base N qual scope f cdv A out s H E) bd t ∧ t { nx := fun _ H' => Q .non H', rt := Q } (start N vs) H) :
    FnG P w K mg base CX (k + 1) f fd ps sp := by
  obtain ⟨oc, od, dV, kV, doc, pm, an, cdv, ct, osl, rfl, lk, hcd, _, _⟩ := F.ex
  refine ⟨len, ?_⟩
  intro A out s H ar us vs Q E room gd e0 bnd vls pr
  have inS : K.In s.heap := e0.mod.kin.keeps fun b o z => (e0.bs b o z).1
  have nl : s.heap.NoLimit := e0.mod.nolimit.keeps fun b o z => (e0.bs b o z).1
  refine codeAny_call_function room.depth (inS _ _ lk) rfl S.co S.gen rfl (PySem.W.codeRec_of inS hcd) (bnd _ _ _ _ ?_)
  refine wpAny_newFunctionEnv_cells S.kind ?_ ?_
  · intro ⟨n, v⟩ hy
    cases S.par n (List.of_mem_zip hy).1 with
    | inl q => exact .inl q
    | inr q => exact .inr ⟨q, PySem.W.cellsFrom_some _ _ _ (.inl q)⟩
  intro env he s1 x
  subst he
  refine ⟨nl.keeps x.toInCall.keep, codeAny_func ?_⟩
  obtain ⟨t, der, rd⟩ := hb cdv A out s H vs Q E (room.deeper _) gd pr
  have I0 := inv_start (CX := CX) (P := P) (w := w) (K := K) (mg := mg) (base := base) (cd := cdv) (f := f) (E := E)
    (qual := qual) S room.hd e0 (len _ _ _ _ pr) vls x
  refine wpAny_mono (der.run [] s1 (start N vs) H _ I0 rd) ?_ (fun _ _ z => z)
  intro fl s' z
  cases fl with
  | ret u =>
    obtain ⟨v, σ', H', J, rv, q⟩ := z
    exact ⟨v, H', J.os, J.bare, J.base, J.hok, rv, q⟩
  | next =>
    obtain ⟨σ', H', J, q⟩ := z
    exact ⟨V.non, H', J.os, J.bare, J.base, J.hok, rfl, q⟩
  | brk =>
    obtain ⟨_, _, _, q⟩ := z
    exact q.elim
  | cont =>
    obtain ⟨_, _, _, q⟩ := z
    exact q.elim
end
section
variable {X : Cx} {CX : CXT} {k : Nat} {f : Addr} {fd : FuncData} {ps : List Str} {sp : Sp} {dvs : List V} {ds : List Value} {E : XK}
  {x : Str} {p pos : Pos} {e : Expr} {es : List Expr} {t : TA}
theorem runG {pins : List (Addr × Obj)} {σ : L2.St} {H : Hp} {s : Shared} {Q : VK} {us : List Value} {vs : List V}
    (F : FnG X.prog X.w X.K X.mg X.base CX k f fd ps sp) (hr : Room k X.A) (hg : X.A.guards = some []) (hb : Binds X.K fd ps ds) (hd : Vals dvs ds) (hx : Passes CX X E)
    (I : Inv X pins σ H s) (r : Vals vs us) (h : sp (vs ++ dvs) H Q E) : wpAny (model X.prog X.w) X.A (call (.ref f) us) (EP X pins σ Q) X.xe s := by
  have rr : Vals (vs ++ dvs) (us ++ ds) := r.append hd
  have ll : (us ++ ds).length = ps.length := rr.length.symm.trans (F.len _ _ _ _ h)
  have go := F.go X.A X.stack s H ⟨us, []⟩ (us ++ ds) (vs ++ dvs) Q E hr hg I.env0 (hb s us I.kIn ll) rr h
  refine wpAny_call (codeAny_mono go ?_)
  intro r s' z
  match r, z with
  | .error e, z => exact hx pins σ H s e s' I z
  | .ok (.ret u), z => exact I.after z
  | .ok .next, z => exact False.elim z
  | .ok .brk, z => exact False.elim z
  | .ok .cont, z => exact False.elim z
theorem pe_callG (F : FnG X.prog X.w X.K X.mg X.base CX k f fd ps sp) (hr : Room k X.A) (gd : X.A.guards = some []) (hg : Gl X x) (hm : X.mg x = some (.ref f))
    (hk : PySem.W.keepIn X.K (.ref f) = true) (hb : Binds X.K fd ps ds) (hd : Vals dvs ds) (hx : Passes CX X E)
    (ha : PA X (e :: es) t) (hdb : (x == ("__debug__" : Str)) = false := by decide)
    (he : starEach (e :: es) X.env = (false, eval e X.env) :: starEach es X.env := by rfl) (hpl : (backTo pos (starEach es X.env)).any (·.1) = false := by rfl) :
    PE X (.Call (.Name x p) (e :: es) [] pos) (tCall sp dvs E t) := by
  constructor
  intro pins s σ H Q I h
  refine wpAny_Call_Name_kw (ld_glob I hg hm ?_ hdb)
  refine PySem.W.callWith_K (h₀ := X.base) I.ok.mod.kin hk (thn (ha.run pos pins s σ H _ I h) ?_) he hpl
  intro us s1 ⟨vs, H1, I1, r, q⟩
  exact ⟨I1.kIn, runG F hr gd hb hd hx I1 r q⟩
end
/-! the end of a law over such a def -/
theorem callG {P : Program} {w : World} {K : PySem.W.Frag} {mg mb : Str → Option Value} {CX : CXT} {k : Nat} {fa a : Addr} {fd : FuncData} {x : Str} {sp : Sp} {s₁ : Shared}
    {vs : List Value} {ns : List Int}
    (KX : K.In s₁.heap) (hns : s₁.heap.Ns mainGlobals mg) (hb : s₁.heap.Ns builtinsNs mb) (hbb : ∀ x : Str, x ≠ "__name__" → mb x = bootBuiltins x) (hlim : s₁.heap.NoLimit) (hg : s₁.gens = #[])
    (ha : s₁.heap.get? a = some { cls := .type "list", data := .seq vs.toArray }) (hi : IntsAre vs ns) (hl : ns.length ≤ sizeLine) (hr : Room k callerA)
    (F : ∀ base : Heap, K.In base → base.Ns mainGlobals mg → FnG P w K mg base CX k fa fd [x] sp)
    (hbind : ∀ (s : Shared) (u : Value), BindsTo s fd ⟨[u], []⟩ [(x, u)])
    (hsp : ∀ H : Hp, Only H → SqL K H a (ns.map V.int) → sp [.ref a] H (fun v _ => v = .bl true) fun _ _ _ => False)
    (hCX : ∀ H e s', CX [] H s₁ (fun _ _ _ => False) e s' → False) :
    codeAny (model P w) callerA (.call (.ref fa) ⟨[.ref a], []⟩) (fun r s' => r = .ok (.ret (.bool true)) ∧ OldK s₁.heap s'.heap ∧ s'.os = s₁.os ∧ AllBare s'.gens) s₁ := by
  -- whatever is tracked at the entry is the script alone
  have main : ∀ T : Hp, Only T → SqL K T a (ns.map V.int) → HOk P w T s₁.heap → (∀ b, T b ≠ none → b = a ∧ K.lookup a = none) →
      codeAny (model P w) callerA (.call (.ref fa) ⟨[.ref a], []⟩) (fun r s' => r = .ok (.ret (.bool true)) ∧ OldK s₁.heap s'.heap ∧ s'.os = s₁.os ∧ AllBare s'.gens) s₁ := by
    intro T only sq hok alone
    have B : ∀ {b : Addr} {o : Obj}, s₁.heap.get? b = some o → T b = none → (hidT s₁.heap T).get? b = some o := fun e n => hidT_get e n
    have notD : ∀ {b : Addr} {o : Obj} {es : Array DictEntry} {n : Nat}, s₁.heap.get? b = some o → o.data = .dict es n → T b = none := by
      intro b o es n e d
      by_cases q : T b = none
      · exact q
      · have z := (alone b q).1
        subst z
        rw [ha] at e
        cases e
        cases (show Data.seq vs.toArray _ = Data.dict es n from d)
    have nsB : ∀ {b : Addr} {m : Str → Option Value}, s₁.heap.Ns b m → (hidT s₁.heap T).Ns b m :=
      fun ⟨o, es, n, e, d, r⟩ => ⟨o, es, n, B e (notD e d), d, r⟩
    have inB : K.In (hidT s₁.heap T) := by
      intro b o e
      refine B (KX b o e) ?_
      by_cases q : T b = none
      · exact q
      · obtain ⟨z1, z2⟩ := alone b q
        subst z1
        rw [z2] at e
        cases e
    have modB : Mod K mg (hidT s₁.heap T) := by
      obtain ⟨mc, l1, l2⟩ := hlim
      exact ⟨inB, nsB hns, ⟨mb, nsB hb, hbb⟩, mc, nsB l1, l2⟩
    have e0 : Env0 P w K mg (hidT s₁.heap T) callerA [] s₁ T := by
      refine ⟨rfl, modB, fun b o z => of_hidT z, Nat.le_of_eq (hidT_size _ _), trivial, ?_, hok, .of_eq hg⟩
      intro b z
      exact absurd (show b ∈ ([] : List Addr) from z) (by simp)
    have run := (F _ inB (nsB hns)).go callerA [] s₁ T ⟨[.ref a], []⟩ [.ref a] [.ref a] _ _ hr rfl e0 (hbind s₁ (.ref a)) (.cons rfl .nil) (hsp T only sq)
    refine codeAny_mono run ?_
    intro r s' z
    match r, z with
    | .error e, z => exact (hCX T e s' z).elim
    | .ok .next, z => exact False.elim z
    | .ok .brk, z => exact False.elim z
    | .ok .cont, z => exact False.elim z
    | .ok (.ret u), ⟨v, T', os, bare, un, hok', rel, q⟩ =>
      cases (show v = .bl true from q)
      cases (show u = Value.bool true from rel)
      refine ⟨rfl, OldK.of_keep ?_, os, bare⟩
      intro b o e
      cases q : T b with
      | none =>
        refine un.keep b o e q ?_ (by simp)
        intro z
        exact absurd (show b ∈ ([] : List Addr) from z) (by simp)
      | some u =>
        rcases only b with z | ⟨ob, ys, z⟩
        · rw [q] at z
          cases z
        · obtain ⟨e1, _⟩ := hok b _ z
          obtain ⟨e2, _⟩ := hok' b _ (un.frzs b ob _ z)
          rw [e] at e1
          cases e1
          exact e2
  cases hk : K.lookup a with
  | some o =>
    have e := KX a o hk
    rw [ha] at e
    cases e
    refine main (fun _ => none) (fun _ => .inl rfl) ?_ (fun b u z => nomatch (show (none : Option HO) = some u from z)) (fun b z => absurd rfl z)
    exact .inr ⟨_, vs.toArray, _, hk, rfl, rfl, rfl, by rw [List.size_toArray, hi.length]; exact hl, by simpa using vals_ints hi⟩
  | none =>
    obtain ⟨T, yes, no⟩ : ∃ T : Hp, (∀ b : Addr, b = a → T b = some (.frz { cls := .type "list", data := .seq vs.toArray } (.lst (ns.map V.int)))) ∧ (∀ b : Addr, b ≠ a → T b = none) :=
      ⟨fun c => if c = a then some (.frz { cls := .type "list", data := .seq vs.toArray } (.lst (ns.map V.int))) else none, fun b h => if_pos h, fun b h => if_neg h⟩
    refine main T ?_ (.inl (.inr ⟨_, yes a rfl⟩)) ?_ ?_
    · intro b
      by_cases h : b = a
      · exact .inr ⟨_, _, yes b h⟩
      · exact .inl (no b h)
    · intro b u z
      by_cases h : b = a
      · have z' := (yes b h).symm.trans z
        cases z'
        subst h
        exact ⟨ha, by rw [List.length_map]; exact hl, vs, _, vals_ints hi, ha⟩
      · have z' := (no b h).symm.trans z
        cases z'
    · intro b z
      by_cases h : b = a
      · exact ⟨h, hk⟩
      · exact absurd (no b h) z
theorem walkG {l : PySem.W.OpenLaw} {n k : Nat} {q : Program} {loose : List Str} {XP : (Str → Option Value) → Heap → Prop} {YP : World → Heap → Prop} {d : DefRec} {CX : CXT} {x : Str}
    (hn : l.most = some n) (hn2 : n ≤ sizeLine) (hdf : d.params.defaults = []) (hr : Room k callerA)
    (F : ∀ (w : World) (mg : Str → Option Value) (fa : Addr) (h : Heap), YP w h → h.Ns mainGlobals mg → mg d.name = some (.ref fa) →
      ∃ (K : PySem.W.Frag) (fd : FuncData) (sp : Sp), K.In h ∧ (∀ (s : Shared) (u : Value), BindsTo s fd ⟨[u], []⟩ [(x, u)]) ∧
        (∀ (H : Hp) (a : Addr) (ns : List Int), ns.length ≤ n → Only H → SqL K H a (ns.map V.int) → sp [.ref a] H (fun v _ => v = .bl true) fun _ _ _ => False) ∧
        ∀ base : Heap, K.In base → base.Ns mainGlobals mg → FnG l.prog w K mg base CX k fa fd [x] sp)
    (hCX : ∀ (H : Hp) (s : Shared) (e : Value) (s' : Shared), CX [] H s (fun _ _ _ => False) e s' → False) :
    PySem.W.WalkO q loose XP YP l.row.toRowW d [] (fun f vs => PySem.call f vs) := by
  apply Att.attach_call hn hdf
  intro w s₀ s₁ mg mb fa o pm cd doc a vs ns G Y ho hd hcd hmg hobj hints hlen hg
  obtain ⟨K, fd, sp, KX, bnd, say, prom⟩ := F w mg fa _ Y G.T.g hmg
  exact callG KX G.T.g G.T.b G.T.builtins G.T.nolimit hg hobj hints (Nat.le_trans hlen hn2) hr prom bnd (fun H hO hS => say H a ns hlen hO hS) (fun H e s' => hCX H s₁ e s')
end SB
namespace SB
open PySem PySem.Spec PyProof.Rows L2
/-! a def of the text, where it stands; what a caller has of it -/
def GInt (mg : Str → Option Value) (x : Str) (i : Int) : Prop := ∃ t, mg x = some (.int i t)
def Df (K : PySem.W.Frag) (mg : Str → Option Value) (x : Str) (st : Stmt) : Prop :=
  mg x = some (.ref (He.ga K x)) ∧ ∃ fd, FunD K x x (defArgs st) (defBody st) (defScope st) [] [] (He.fAd K (x, none)) fd
theorem pe_gi {X : Cx} {x : Str} {i : Int} {pos : Pos} (h : GInt X.mg x i) (hg : Gl X x := by rfl) (hdb : (x == ("__debug__" : Str)) = false := by decide) : PE X (.Name x pos) (tC (.int i)) := by
  obtain ⟨t, e⟩ := h
  exact pe_glob hg e ⟨_, rfl⟩ hdb
structure Cal (P : Program) (w : World) (K : PySem.W.Frag) (mg : Str → Option Value) (base : Heap) (CX : CXT) (k : Nat) (x : Str) (ps : List Str) (sp : Sp) : Prop where
  ex : ∃ f fd, mg x = some (.ref f) ∧ PySem.W.keepIn K (.ref f) = true ∧ Binds K fd ps [] ∧ FnOk P w K mg base CX k f fd ps sp
structure CalG (P : Program) (w : World) (K : PySem.W.Frag) (mg : Str → Option Value) (base : Heap) (CX : CXT) (k : Nat) (x : Str) (ps : List Str) (sp : Sp) : Prop where
  ex : ∃ f fd, mg x = some (.ref f) ∧ PySem.W.keepIn K (.ref f) = true ∧ Binds K fd ps [] ∧ FnG P w K mg base CX k f fd ps sp
/-- called by keywords alone -/
structure CalK (P : Program) (w : World) (K : PySem.W.Frag) (mg : Str → Option Value) (base : Heap) (CX : CXT) (k : Nat) (x : Str) (ks ps : List Str) (gV : List V → List V → List V) (sp : Sp) : Prop where
  ex : ∃ f fd g, mg x = some (.ref f) ∧ PySem.W.keepIn K (.ref f) = true ∧ KBinds K fd ps ks g gV ∧ FnOk P w K mg base CX k f fd ps sp
section
variable {X : Cx} {CX : CXT} {k j : Nat} {ps ks : List Str} {sp : Sp} {E : XK} {x : Str} {p pos : Pos} {e : Expr} {es : List Expr} {kws : List Keyword} {t tk : TA} {gV : List V → List V → List V}
theorem pe_cal (F : Cal X.prog X.w X.K X.mg X.base CX k x ps sp) (hr : Room k X.A) (hx : Passes CX X E) (ha : PA X (e :: es) t) (hg : Gl X x := by rfl) (hdb : (x == ("__debug__" : Str)) = false := by decide)
    (he : starEach (e :: es) X.env = (false, eval e X.env) :: starEach es X.env := by rfl) (hpl : (backTo pos (starEach es X.env)).any (·.1) = false := by rfl) :
    PE X (.Call (.Name x p) (e :: es) [] pos) (tCall sp [] E t) := by
  obtain ⟨f, fd, e1, e2, e3, e4⟩ := F.ex
  exact pe_call e4 hr hg e1 e2 e3 .nil hx ha hdb he hpl
theorem pe_cal0 (F : Cal X.prog X.w X.K X.mg X.base CX k x ps sp) (hr : Room k X.A) (hx : Passes CX X E) (hg : Gl X x := by rfl) (hdb : (x == ("__debug__" : Str)) = false := by decide) :
    PE X (.Call (.Name x p) [] [] pos) (tCall sp [] E tNil) := by
  obtain ⟨f, fd, e1, e2, e3, e4⟩ := F.ex
  exact pe_call0 e4 hr hg e1 e2 e3 .nil hx hdb
theorem pe_calG (F : CalG X.prog X.w X.K X.mg X.base CX k x ps sp) (hr : Room k X.A) (gd : X.A.guards = some []) (hx : Passes CX X E) (ha : PA X (e :: es) t) (hg : Gl X x := by rfl) (hdb : (x == ("__debug__" : Str)) = false := by decide)
    (he : starEach (e :: es) X.env = (false, eval e X.env) :: starEach es X.env := by rfl) (hpl : (backTo pos (starEach es X.env)).any (·.1) = false := by rfl) :
    PE X (.Call (.Name x p) (e :: es) [] pos) (tCall sp [] E t) := by
  obtain ⟨f, fd, e1, e2, e3, e4⟩ := F.ex
  exact pe_callG e4 hr gd hg e1 e2 e3 .nil hx ha hdb he hpl
theorem pe_calK (F : CalK X.prog X.w X.K X.mg X.base CX k x ks ps gV sp) (hr : Room k X.A) (hx : Passes CX X E) (hkw : PK X kws tk) (hg : Gl X x := by rfl)
    (hall : (backToKw pos (keywordEach kws X.env)).all (·.1.isSome) = true := by rfl) (hks : (backToKw pos (keywordEach kws X.env)).filterMap (·.1) = ks := by rfl)
    (hdb : (x == ("__debug__" : Str)) = false := by decide)
    (hpl : ((backTo pos (starEach [] X.env)).any (·.1) || (backToKw pos (keywordEach kws X.env)).any (·.1.isNone)) = false := by rfl) :
    PE X (.Call (.Name x p) [] kws pos) (tCallK sp gV E tNil tk) := by
  obtain ⟨f, fd, g, e1, e2, e3, e4⟩ := F.ex
  constructor
  intro pins s σ H Q I h
  refine wpAny_Call_Name_kw (ld_glob I hg e1 ?_ hdb)
  refine PySem.W.callWith_KW0 (h₀ := X.base) I.ok.mod.kin e2 hall (thn (hkw.run pos pins s σ H _ I h) ?_) hpl
  intro ws s2 ⟨zs, H2, I2, rz, q2⟩
  refine ⟨I2.kIn, ?_⟩
  rw [hks]
  exact run_fnk (us := []) (vs := []) e4 hr e3 hx I2 .nil rz q2
end
section
variable {P : Program} {w : World} {K : PySem.W.Frag} {mg : Str → Option Value} {base : Heap}
theorem Df.cal {CX : CXT} {k : Nat} {x : Str} {st : Stmt} {N ps : List Str} {sp : Sp} (D : Df K mg x st) (S : FnScope N ps (defScope st)) (len : ∀ vs H Q E, sp vs H Q E → vs.length = ps.length)
    (hb : ∀ (kV doc pm : Value) (an : Option Addr) (cdv ct : Value) (us : List Value), us.length = ps.length → bindArgs (PySem.W.fnOf x x (defArgs st) (defBody st) (defScope st) .none kV doc pm an cdv ct) ⟨us, []⟩ = pure (ps.zip us))
    (body : ∀ (f : Addr) (cdv : Value) (A : Around) (outer : List Env) (s : Shared) (H : Hp) (vs : List V) (Q : VK) (E : XK), Room k (A.deeper (envOfC x (defScope st) s.heap.objs.size f cdv)) → sp vs H Q E →
      ∃ t, PSs (cxOf CX P w K mg base N x (defScope st) f cdv A outer s H E).nox (defBody st) t ∧ t { nx := fun _ H' => Q .non H', rt := Q } (start N vs) H) :
    Cal P w K mg base CX (k + 1) x ps sp := by
  obtain ⟨e, fd, F⟩ := D
  exact ⟨_, fd, e, F.kp, FunD.bindsN F hb, FunD.ok F S len (fun cdv A outer s H vs Q E hr h => let ⟨t, a, b⟩ := body _ cdv A outer s H vs Q E hr h; ⟨t, a.nox, b⟩)⟩
theorem Df.calG {CX : CXT} {k : Nat} {x : Str} {st : Stmt} {N ps : List Str} {sp : Sp} (D : Df K mg x st) (S : FnScope N ps (defScope st)) (len : ∀ vs H Q E, sp vs H Q E → vs.length = ps.length)
    (hb : ∀ (kV doc pm : Value) (an : Option Addr) (cdv ct : Value) (us : List Value), us.length = ps.length → bindArgs (PySem.W.fnOf x x (defArgs st) (defBody st) (defScope st) .none kV doc pm an cdv ct) ⟨us, []⟩ = pure (ps.zip us))
    (body : ∀ (f : Addr) (cdv : Value) (A : Around) (outer : List Env) (s : Shared) (H : Hp) (vs : List V) (Q : VK) (E : XK), Room k (A.deeper (envOfC x (defScope st) s.heap.objs.size f cdv)) → A.guards = some [] → sp vs H Q E →
      ∃ t, PSs (cxOf CX P w K mg base N x (defScope st) f cdv A outer s H E).nox (defBody st) t ∧ t { nx := fun _ H' => Q .non H', rt := Q } (start N vs) H) :
    CalG P w K mg base CX (k + 1) x ps sp := by
  obtain ⟨e, fd, F⟩ := D
  exact ⟨_, fd, e, F.kp, FunD.bindsN F hb, FnG.body F S len (fun cdv A outer s H vs Q E hr g h => let ⟨t, a, b⟩ := body _ cdv A outer s H vs Q E hr g h; ⟨t, a.nox, b⟩)⟩
/-- a def with the promise that its positional callers have, called by keywords -/
theorem Df.calK {CX : CXT} {k : Nat} {x : Str} {st : Stmt} {N ks ps : List Str} {sp : Sp} {gV : List V → List V → List V} (D : Df K mg x st)
    (g : List Value → List Value → List Value)
    (hb : ∀ (kV doc pm : Value) (an : Option Addr) (cdv ct : Value) (us ws : List Value), (g us ws).length = ps.length → bindArgs (PySem.W.fnOf x x (defArgs st) (defBody st) (defScope st) .none kV doc pm an cdv ct) ⟨us, ks.zip ws⟩ = pure (ps.zip (g us ws)))
    (rel : ∀ {vs : List V} {us : List Value} {zs : List V} {ws : List Value}, Vals vs us → Vals zs ws → Vals (gV vs zs) (g us ws))
    (S : FnScope N ps (defScope st)) (len : ∀ vs H Q E, sp vs H Q E → vs.length = ps.length)
    (body : ∀ (f : Addr) (cdv : Value) (A : Around) (outer : List Env) (s : Shared) (H : Hp) (vs : List V) (Q : VK) (E : XK), Room k (A.deeper (envOfC x (defScope st) s.heap.objs.size f cdv)) → sp vs H Q E →
      ∃ t, PSs (cxOf CX P w K mg base N x (defScope st) f cdv A outer s H E).nox (defBody st) t ∧ t { nx := fun _ H' => Q .non H', rt := Q } (start N vs) H) :
    CalK P w K mg base CX (k + 1) x ks ps gV sp := by
  obtain ⟨e, fd, F⟩ := D
  have F2 := F
  obtain ⟨oc, od, dV, kV, doc, pm, an, cdv, ct, osl, rfl, lk, hcd, hD, hK⟩ := F2.ex
  refine ⟨_, _, g, e, F.kp, ⟨fun s us ws _ l => ?_, rel⟩, FunD.ok F S len (fun cdv A outer s H vs Q E hr h => let ⟨t, a, b⟩ := body _ cdv A outer s H vs Q E hr h; ⟨t, a.nox, b⟩)⟩
  rcases hD with ⟨_, rfl⟩ | ⟨z, _⟩
  · exact .of_eq (hb kV doc pm an cdv ct us ws l)
  · exact absurd rfl z
end
/-! values by their types -/
inductive TyN (K : PySem.W.Frag) (H : Hp) : V → String → Prop where
  | non : TyN K H .non "NoneType"
  | bl (b : Bool) : TyN K H (.bl b) "bool"
  | int (i : Int) : TyN K H (.int i) "int"
  | str (x : Str) : TyN K H (.str x) "str"
  | lst {a : Addr} {xs : List V} (h : SqL K H a xs) : TyN K H (.ref a) "list"
  | tup {a : Addr} {xs : List V} (h : SqT K H a xs) : TyN K H (.ref a) "tuple"
  | dct {a : Addr} {kvs : List (Key × V)} (h : H a = some (.dK kvs)) : TyN K H (.ref a) "dict"
theorem TyN.x {K : PySem.W.Frag} {H : Hp} {v : V} {n : String} (h : TyN K H v n) : TyX K H v (.type n) := by
  cases h with
  | non => exact .base .non
  | bl b => exact .base (.bl b)
  | int i => exact .base (.int i)
  | str x => exact .base (.str x)
  | lst h =>
    rcases h with (h | ⟨o, h⟩) | ⟨o, its, n, h, c, _⟩
    · exact .base (.lst h)
    · exact .base (.frz h)
    · exact .kList h c
  | tup h =>
    rcases h with (h | ⟨o, h⟩) | ⟨o, its, n, h, c, _⟩
    · exact .base (.tup h)
    · exact .fTuple h
    · exact .kTuple h c
  | dct h => exact .base (.dK h)
theorem TyN.kit {K : PySem.W.Frag} {H : Hp} {v : V} {n m : String} (h : TyN K H v n) (hm : m = "int" ∨ m = "bool" ∨ m = "str" ∨ m = "list" ∨ m = "tuple") :
    PySem.W.kitOne K (.type n) (.type m) = some (decide (n = m ∨ n = "bool" ∧ m = "int")) := by
  cases h <;> (rcases hm with rfl | rfl | rfl | rfl | rfl) <;> exact kit_ty (by decide +kernel)
theorem same_upd {H : Hp} {p : Addr} {o : HO} (h : H p = none) : Same H (upd H p o) := fun b x e => by
  rw [upd_ne (ne_of_none e h)]
  exact e
end SB
namespace SB
open PySem PySem.Spec PyProof.Rows L2 Evl
/-! shapes, frames: the mathematics -/
inductive Pa where
  | no | ev | od
def Pa.s : Pa → Str
  | .no => "none"
  | .ev => "even"
  | .od => "odd"
def bits (b : Nat) (x : Int) : List Int := (List.range b).map fun i => x / 2 ^ i % 2
def parL (b : Nat) (p : Pa) (x : Int) : List Int := match p with
  | .no => []
  | .ev => [(bits b x).sum % 2]
  | .od => [1 - (bits b x).sum % 2]
def frm (b : Nat) (p : Pa) (s : Nat) (x : Int) : List Int := 0 :: (bits b x ++ (parL b p x ++ List.replicate s 1))
def frms (b : Nat) (p : Pa) (s : Nat) (ns : List Int) : List Int := (ns.map (frm b p s)).flatten
theorem bits_len (b : Nat) (x : Int) : (bits b x).length = b := by simp [bits]
theorem bits_succ (b : Nat) (x : Int) : bits (b + 1) x = bits b x ++ [x / 2 ^ b % 2] := by
  simp [bits, List.range_succ]
theorem parL_len (b : Nat) (p : Pa) (x : Int) : (parL b p x).length ≤ 1 := by cases p <;> simp [parL]
theorem frm_len (b : Nat) (p : Pa) (s : Nat) (x : Int) : (frm b p s x).length = 1 + b + (parL b p x).length + s := by
  simp [frm, bits_len]; omega
theorem frm_le (b : Nat) (p : Pa) (s : Nat) (x : Int) : (frm b p s x).length ≤ 2 + b + s := by
  have := frm_len b p s x
  have := parL_len b p x
  omega
theorem bits_01 {b : Nat} {x y : Int} (h : y ∈ bits b x) : y = 0 ∨ y = 1 := by
  unfold bits at h
  obtain ⟨i, _, rfl⟩ := List.mem_map.mp h
  omega
theorem frm_01 {b : Nat} {p : Pa} {s : Nat} {x y : Int} (h : y ∈ frm b p s x) : y = 0 ∨ y = 1 := by
  unfold frm at h
  rcases List.mem_cons.mp h with h | h
  · exact .inl h
  rcases List.mem_append.mp h with h | h
  · exact bits_01 h
  rcases List.mem_append.mp h with h | h
  · cases p with
    | no => cases h
    | ev =>
      have := List.mem_singleton.mp h
      omega
    | od =>
      have := List.mem_singleton.mp h
      omega
  · exact .inr (List.eq_of_mem_replicate h)
theorem frms_01 {b : Nat} {p : Pa} {s : Nat} {ns : List Int} {y : Int} (h : y ∈ frms b p s ns) : y = 0 ∨ y = 1 := by
  unfold frms at h
  obtain ⟨l, hl, hy⟩ := List.mem_flatten.mp h
  obtain ⟨x, _, rfl⟩ := List.mem_map.mp hl
  exact frm_01 hy
theorem frms_snoc (b : Nat) (p : Pa) (s : Nat) (ns : List Int) (n : Int) : frms b p s (ns ++ [n]) = frms b p s ns ++ frm b p s n := by simp [frms]
theorem frms_le (b : Nat) (p : Pa) (s : Nat) : ∀ ns : List Int, (frms b p s ns).length ≤ ns.length * (2 + b + s)
  | [] => by simp [frms]
  | n :: ns => by
    have h := frms_le b p s ns
    have h2 := frm_le b p s n
    have e : frms b p s (n :: ns) = frm b p s n ++ frms b p s ns := by simp [frms]
    rw [e, List.length_append, List.length_cons, Nat.add_mul]
    omega
theorem div_step (x : Int) (i : Nat) : x / 2 ^ i / 2 = x / 2 ^ (i + 1) := by
  rw [Int.pow_succ, Int.ediv_ediv_of_nonneg (Int.pow_nonneg (by decide))]
/-! data -/
def dI (ns : List Int) : List PyData := ns.map PyData.int
theorem dp_ints {K : PySem.W.Frag} {H : Hp} : ∀ ns : List Int, DpAll K H (ns.map V.int) (dI ns)
  | [] => .nil
  | n :: ns => .cons (.int n) (dp_ints ns)
theorem int_log {i : Int} {k : Nat} (hk : 0 < k) (h : i.natAbs < 2 ^ k) : i.natAbs.log2 < k := PySem.Flt.log2_lt_of hk h
/-- a list of small ints can be shown -/
theorem show_ints (ns : List Int) (h : ∀ n ∈ ns, n.natAbs < 2 ^ 200) : PyData.showableAll (dI ns) = true ∧ PyData.hasDictAll (dI ns) = false ∧ PyData.depthAll (dI ns) = 0 ∧
    ((PyData.shownAll (dI ns)).map (·.length)).sum ≤ 201 * ns.length ∧ (PyData.shownAll (dI ns)).length = ns.length := by
  induction ns with
  | nil => simp [dI, PyData.showableAll, PyData.hasDictAll, PyData.depthAll, PyData.shownAll]
  | cons n ns ih =>
    obtain ⟨h1, h2, h3, h4, h5⟩ := ih fun m hm => h m (List.mem_cons_of_mem _ hm)
    have hn := h n (List.mem_cons_self ..)
    have hl : n.natAbs.log2 < 200 := int_log (by decide) hn
    have ht : (Str.ofString (toString n)).length ≤ 201 := by
      rw [PySem.ofString_length]
      exact int_text_length_le (k := 200) (by decide) hl
    have e : dI (n :: ns) = PyData.int n :: dI ns := rfl
    rw [e]
    refine ⟨?_, ?_, ?_, ?_, ?_⟩
    · simp only [PyData.showableAll, PyData.showable, h1, Bool.and_true, decide_eq_true_eq]
      omega
    · simp only [PyData.hasDictAll, PyData.hasDict, h2, Bool.false_or]
    · simp only [PyData.depthAll, PyData.depth, h3]
      rfl
    · simp only [PyData.shownAll, PyData.shown, List.map_cons, List.sum_cons, List.length_cons]
      omega
    · simp only [PyData.shownAll, List.length_cons, h5]
theorem show_list {ns : List Int} (h : ∀ n ∈ ns, n.natAbs < 2 ^ 200) (hl : ns.length ≤ 10000) :
    (PyData.list (dI ns)).showable = true ∧ (PyData.list (dI ns)).hasDict = false ∧ (PyData.list (dI ns)).depth ≤ 60 ∧ (PyData.list (dI ns)).shown.length ≤ sizeLine := by
  obtain ⟨h1, h2, h3, h4, h5⟩ := show_ints ns h
  refine ⟨?_, ?_, ?_, ?_⟩
  · simp only [PyData.showable, h1]
  · simp only [PyData.hasDict, h2]
  · simp only [PyData.depth, h3]
    omega
  · simp only [PyData.shown]
    have := listText_len_le (PyData.shownAll (dI ns))
    rw [sizeLine_eq]
    omega
/-- the reading of repr(xs), xs a list of ints -/
theorem rp_list {K : PySem.W.Frag} {H : Hp} {a : Addr} {ns : List Int} {Q : VK} (hs : SqL K H a (ns.map V.int)) (h : ∀ n ∈ ns, n.natAbs < 2 ^ 200) (hl : ns.length ≤ 10000)
    (q : Q (.str (PyData.list (dI ns)).shown) H) : rRp K [.ref a] H Q := by
  obtain ⟨h1, h2, h3, h4⟩ := show_list h hl
  exact ⟨_, _, rfl, .lst hs (dp_ints ns), h1, h2, h3, h4, q⟩
/-! heaps -/
def Kp (a : Addr) (H H' : Hp) : Prop := ∀ b o, b ≠ a → H b = some o → H' b = some o
theorem Ex.kp {a : Addr} {H H' : Hp} (e : Ex H H') : Kp a H H' := fun b o _ h => e b o h
theorem Kp.trans {a : Addr} {H H1 H2 : Hp} (x : Kp a H H1) (y : Kp a H1 H2) : Kp a H H2 := fun b o n h => y b o n (x b o n h)
theorem Kp.refl {a : Addr} {H : Hp} : Kp a H H := fun _ _ _ h => h
theorem Kp.upd {a : Addr} {H : Hp} {o : HO} : Kp a H (upd H a o) := fun b u n h => by
  rw [upd_ne n]
  exact h
theorem Kp.tup {K : PySem.W.Frag} {a t : Addr} {H H' : Hp} {xs ys : List V} (k : Kp a H H') (ha : H a = some (.lst ys)) (h : SqT K H t xs) : SqT K H' t xs := by
  rcases h with (h | ⟨o, h⟩) | h
  · exact .inl (.inl (k t _ (fun e => by rw [e, ha] at h; cases h) h))
  · exact .inl (.inr ⟨o, k t _ (fun e => by rw [e, ha] at h; cases h) h⟩)
  · exact .inr h
theorem Kp.free {a p : Addr} {H H' : Hp} (k : Kp a H H') (hp : H' p = none) (ha : p ≠ a) : H p = none := by
  cases h : H p with
  | none => rfl
  | some o =>
    rw [k p o ha h] at hp
    cases hp
/-! shapes as values -/
def IsSh (K : PySem.W.Frag) (H : Hp) (v : V) (b : Nat) (p : Pa) (s : Nat) : Prop :=
  ∃ t, v = .ref t ∧ SqT K H t [.int b, .str p.s, .int s] ∧ 1 ≤ b ∧ b ≤ 9 ∧ 1 ≤ s ∧ s ≤ 2
theorem IsSh.ex {K : PySem.W.Frag} {H H' : Hp} {v : V} {b : Nat} {p : Pa} {s : Nat} (e : Ex H H') (h : IsSh K H v b p s) : IsSh K H' v b p s := by
  obtain ⟨t, e1, e2, r⟩ := h
  exact ⟨t, e1, ex_t e e2, r⟩
theorem IsSh.kp {K : PySem.W.Frag} {H H' : Hp} {v : V} {b : Nat} {p : Pa} {s : Nat} {a : Addr} {ys : List V} (e : Kp a H H') (ha : H a = some (.lst ys)) (h : IsSh K H v b p s) : IsSh K H' v b p s := by
  obtain ⟨t, e1, e2, r⟩ := h
  exact ⟨t, e1, e.tup ha e2, r⟩
theorem no_is (p : Pa) : decide (V.str p.s = V.str "none") = match p with | .no => true | _ => false := by cases p <;> decide +kernel
theorem ev_is' (p : Pa) : decide (V.str p.s = V.str "even") = match p with | .ev => true | _ => false := by cases p <;> decide +kernel
theorem od_is (p : Pa) : decide (V.str p.s = V.str "odd") = match p with | .od => true | _ => false := by cases p <;> decide +kernel
theorem pa_in (p : Pa) : inV (.str p.s) [.str "none", .str "even", .str "odd"] = true := by cases p <;> decide +kernel
theorem atI_i {xs : List V} {v : V} (i : Int) (j : Nat) (e : i = (j : Int)) (h : xs[j]? = some v) : atI xs i = some v := by
  rw [e]
  exact atI_nat h
/-! isinstance of the kinds -/
section
variable {K : PySem.W.Frag}
theorem ki {n m : String} {b : Bool} (h : kitB n m = some b := by decide +kernel) : PySem.W.kitOne K (.type n) (.type m) = some b := kit_ty h
end
/-! a draw's source -/
def Src (H : Hp) (a : Addr) (n : Nat) : Prop := ∃ l sd c : Int, H a = some (.lst [.int l, .int sd, .int c]) ∧ 0 ≤ sd ∧ sd < 4611686018427387904 ∧ 0 ≤ c ∧ c ≤ n
theorem Src.mono {H : Hp} {a : Addr} {n m : Nat} (h : Src H a n) (e : n ≤ m) : Src H a m := by
  obtain ⟨l, sd, c, h1, h2, h3, h4, h5⟩ := h
  exact ⟨l, sd, c, h1, h2, h3, h4, by omega⟩
theorem Src.ex {H H' : Hp} {a : Addr} {n : Nat} (h : Src H a n) (e : Ex H H') : Src H' a n := by
  obtain ⟨l, sd, c, h1, h2⟩ := h
  exact ⟨l, sd, c, e _ _ h1, h2⟩
theorem cpow3 {i : Int} (h0 : 0 ≤ i) (h : i < 2 ^ 250) : CPowB i 3 := by
  have h1 : i.natAbs < 2 ^ 250 := by
    have e : (2 : Int) ^ 250 = ((2 ^ 250 : Nat) : Int) := by norm_cast
    omega
  have h2 := int_log (by decide) h1
  exact ⟨by decide, by omega⟩
theorem cpow10 (k : Int) (h0 : 0 ≤ k) (h : k ≤ 1000) : CPowB 10 k := by
  refine ⟨h0, ?_⟩
  have e : ((10 : Int).natAbs.log2 : Int) + 1 = 4 := by decide
  rw [e]
  omega
end SB
namespace SB
open PySem PySem.Spec PyProof.Rows L2 Evl
/-! lists that are made of lists -/
def EvX (te : TE) (σ : L2.St) (H : Hp) (xs : List V) : Prop := ∀ H1, Ex H H1 → ∀ Q : VK, (∀ p H2, Ex H1 H2 → H2 p = some (.lst xs) → Q (.ref p) H2) → te σ H1 Q
section
variable {σ : L2.St} {H : Hp} {ta tb te : TE} {xs ys : List V} {K : PySem.W.Frag}
theorem evx_var {i : Nat} {a : Addr} (h : σ[i]? = some (some (.ref a))) (ha : H a = some (.lst xs)) : EvX (tVar i) σ H xs := fun H1 e Q q => ⟨_, h, q a H1 (Ex.refl H1) (e a _ ha)⟩
theorem evx_new (h : EvL te σ H xs) : EvX te σ H xs := fun H1 e Q q => h H1 e Q fun p H2 _ e2 h2 => q p H2 e2 h2
theorem el_cat (ha : EvX ta σ H xs) (hb : EvX tb σ H ys) (hl : xs.length + ys.length ≤ 100000) : EvL (tOp rCat ta tb) σ H (xs ++ ys) := fun H1 e Q q =>
  ha H1 e _ fun p H2 e2 h2 => hb H2 (e.trans e2) _ fun r H3 e3 h3 => ⟨p, r, xs, ys, rfl, rfl, e3 _ _ h2, h3, sz_of hl, fun l nl =>
    q l _ (fresh_back (e2.trans e3) nl) ((e2.trans e3).trans (Ex.new nl)) upd_same⟩
theorem el_rep {k : Int} (ha : EvX ta σ H xs) (hb : Ev tb σ H (.int k)) (h0 : -(2 ^ 63) ≤ k) (h1 : k < 2 ^ 63) (hl : xs.length * k.toNat ≤ 100000) : EvL (tOp rRep ta tb) σ H (List.replicate k.toNat xs).flatten := fun H1 e Q q =>
  ha H1 e _ fun p H2 e2 h2 => hb H2 (e.trans e2) _ fun H3 e3 => ⟨p, k, xs, rfl, rfl, e3 _ _ h2, h0, h1, sz_of hl, fun l nl =>
    q l _ (fresh_back (e2.trans e3) nl) ((e2.trans e3).trans (Ex.new nl)) upd_same⟩
theorem el_call {sp : Sp} {E : XK} {t : TA} {vs : List V} (ha : EvA t σ H vs) (h : ∀ H1, Ex H H1 → ∀ Q : VK, RetL xs H1 Q → sp (vs ++ []) H1 Q E) : EvL (tCall sp [] E t) σ H xs := fun H1 e Q q =>
  ha H1 e _ fun H2 e2 => h H2 (e.trans e2) Q fun p H3 n e3 h3 => q p H3 (fresh_back e2 n) (e2.trans e3) h3
theorem ev_call {sp : Sp} {E : XK} {t : TA} {vs : List V} {v : V} (ha : EvA t σ H vs) (h : ∀ H1, Ex H H1 → ∀ Q : VK, RetV v H1 Q → sp (vs ++ []) H1 Q E) : Ev (tCall sp [] E t) σ H v := fun H1 e Q q =>
  ha H1 e _ fun H2 e2 => h H2 (e.trans e2) Q fun H3 e3 => q H3 (e2.trans e3)
theorem ev_ixT {t : Addr} {i : Int} {v : V} (ha : Ev ta σ H (.ref t)) (hb : Ev tb σ H (.int i)) (h : SqT K H t xs) (hi : atI xs i = some v) : Ev (tOp (rIxT K) ta tb) σ H v := ev_op ha hb (rv_ixT h hi)
end
theorem rep_one (k : Nat) (i : Int) : (List.replicate (k : Int).toNat [V.int i]).flatten = (List.replicate k i).map V.int := by
  rw [Int.toNat_natCast, List.map_replicate]
  simp
theorem ints_at {ns : List Int} {i : Nat} {y : V} (hi : (ns.map V.int)[i]? = some y) : ∃ z, ns[i]? = some z ∧ y = V.int z := by
  rw [List.getElem?_map] at hi
  cases e : ns[i]? with
  | none =>
    rw [e] at hi
    cases hi
  | some z =>
    rw [e] at hi
    exact ⟨z, rfl, (Option.some.inj hi).symm⟩
theorem Kp.new {a : Addr} {H H1 H2 : Hp} (e : Ex H H1) (k : Kp a H1 H2) (h : H a = none) : Ex H H2 := fun b o hb =>
  k b o (ne_of_none hb h) (e b o hb)
theorem Src.at {H : Hp} {a : Addr} {n : Nat} (h : Src H a n) : ∃ ys, H a = some (.lst ys) := by
  obtain ⟨l, sd, c, e, _⟩ := h
  exact ⟨_, e⟩
theorem Src.ne {H : Hp} {a p : Addr} {n : Nat} (h : Src H a n) (hp : H p = none) : p ≠ a := by
  obtain ⟨ys, e⟩ := h.at
  exact fun z => by rw [z, e] at hp; cases hp
end SB
namespace SB
open PySem PySem.Spec PyProof.Rows L2 Evl
theorem seq_any {te : TE} {i : Nat} {u : TS} {D : L2.Ends} {σ : L2.St} {H : Hp} {P : V → Prop} (h : ∀ Q' : VK, (∀ v, P v → Q' v H) → te σ H Q') (k : ∀ v, P v → u D (σ.set i (some v)) H) :
    tSeq (tAsg te (gName i)) u D σ H := h _ k
end SB
namespace SB
open PySem PySem.Spec PyProof.Rows L2 Evl
theorem Kp.mut {a p : Addr} {H H' : Hp} {o : HO} (k : Kp a H H') (h : H p = none) : Kp a H (L2.upd H' p o) := fun b u n hb => by
  rw [upd_ne (ne_of_none hb h)]
  exact k b u n hb
theorem Src.upd {H : Hp} {a p : Addr} {n : Nat} {o : HO} (h : Src H a n) (ne : p ≠ a) : Src (L2.upd H p o) a n := by
  obtain ⟨l, sd, c, e, r⟩ := h
  refine ⟨l, sd, c, ?_, r⟩
  rw [upd_ne (Ne.symm ne)]
  exact e
end SB
namespace SB
open PySem PySem.Spec PyProof.Rows L2 Evl
/-- a loop over enumerate of a list -/
theorem for_enum {K : PySem.W.Frag} {a : Addr} {xs : List V} {g : TG} {tb : TS} {D : L2.Ends} {σ : L2.St} {H : Hp} (Pv : Nat → L2.St → Hp → Prop) (h0 : Pv 0 σ H)
    (hq : ∀ i σ H, i ≤ xs.length → Pv i σ H → SqL K H a xs)
    (hs : ∀ (i : Nat) (x : V) (T : Addr) (σ : L2.St) (H : Hp), xs[i]? = some x → Pv i σ H → H T = none →
      g (.ref T) σ (L2.upd H T (.tup [.int (i : Nat), x])) fun σ2 H2 => tb { D with nx := Pv (i + 1), ct := Pv (i + 1), bk := D.nx } σ2 H2)
    (hd : ∀ σ H, Pv xs.length σ H → D.nx σ H) :
    ∃ W : Nat → Nat → L2.St → Hp → Prop, (∃ m, W 0 m σ H) ∧ ∀ i m σ H, W i m σ H →
      ((Ite K a).stop i H ∧ D.nx σ H) ∨ ((Ite K a).go i H ∧ ∃ N : L2.St → Hp → Prop, (∀ σ' H', N σ' H' → ∃ m', m' < m ∧ W (i + 1) m' σ' H') ∧
        ∀ v H', (Ite K a).yld i H v H' → g v σ H' fun σ2 H2 => tb { D with nx := N, ct := N, bk := D.nx } σ2 H2) := by
  refine ⟨fun i m σ H => m + i = xs.length ∧ Pv i σ H, ⟨xs.length, by omega, h0⟩, ?_⟩
  rintro i m σ H ⟨e, pv⟩
  have sq := hq i σ H (by omega) pv
  by_cases lt : i < xs.length
  · have hx : xs[i]? = some xs[i] := List.getElem?_eq_getElem lt
    refine .inr ⟨⟨xs, xs[i], sq, hx⟩, Pv (i + 1), fun σ' H' p' => ⟨m - 1, by omega, by omega, p'⟩, ?_⟩
    intro v H' y
    obtain ⟨T, x, rfl, nT, rfl, fx⟩ := y
    exact hs i x T σ H (fx xs sq) pv nT
  · obtain rfl : i = xs.length := by omega
    exact .inl ⟨⟨xs, sq, Nat.le_refl _⟩, hd σ H pv⟩
/-! keyword calls: the values in the parameters' order -/
def gPm {α : Type} (perm : List Nat) (us ws : List α) : List α := if us.length = 0 ∧ ws.length = perm.length then perm.filterMap fun i => ws[i]? else []
theorem rel_pick {zs : List V} {ws : List Value} (r : Vals zs ws) : ∀ perm : List Nat, Vals (perm.filterMap fun i => zs[i]?) (perm.filterMap fun i => ws[i]?)
  | [] => .nil
  | i :: perm => by
    have ih := rel_pick r perm
    have hl := r.length
    rw [List.filterMap_cons, List.filterMap_cons]
    cases e : zs[i]? with
    | none =>
      have e2 : ws[i]? = none := by
        rw [List.getElem?_eq_none_iff] at e ⊢
        omega
      rw [e2]
      exact ih
    | some v =>
      obtain ⟨u, hu, rv⟩ := r.get e
      rw [hu]
      exact .cons rv ih
theorem rel_gPm (perm : List Nat) {vs : List V} {us : List Value} {zs : List V} {ws : List Value} (r : Vals vs us) (rz : Vals zs ws) : Vals (gPm perm vs zs) (gPm perm us ws) := by
  unfold gPm
  rw [r.length, rz.length]
  split
  · exact rel_pick rz perm
  · exact .nil
/-! where a line of levels changes: the level ahead of all is 1, the i-th level begins at T i -/
def pvl (ls : List Int) : Nat → Int
  | 0 => 1
  | i + 1 => ls.getD i 1
def ch (ls : List Int) (T : Nat → Int) : Nat → List Int
  | 0 => []
  | i + 1 => ch ls T i ++ (if ls.getD i 1 = pvl ls i then [] else [T i])
theorem ch_len (ls : List Int) (T : Nat → Int) : ∀ n, (ch ls T n).length ≤ n
  | 0 => Nat.le_refl _
  | n + 1 => by
    have := ch_len ls T n
    unfold ch
    rw [List.length_append]
    split
    · simp
      omega
    · simp
      omega
theorem ch_congr {ls : List Int} {T U : Nat → Int} : ∀ {n : Nat}, (∀ i, i < n → T i = U i) → ch ls T n = ch ls U n
  | 0, _ => rfl
  | n + 1, h => by
    unfold ch
    rw [ch_congr fun i hi => h i (by omega), h n (by omega)]
theorem ch_mem {ls : List Int} {T : Nat → Int} {y : Int} : ∀ {n : Nat}, y ∈ ch ls T n → ∃ i, i < n ∧ y = T i
  | 0, h => by cases h
  | n + 1, h => by
    unfold ch at h
    rcases List.mem_append.mp h with h | h
    · obtain ⟨i, hi, e⟩ := ch_mem h
      exact ⟨i, by omega, e⟩
    · split at h
      · cases h
      · exact ⟨n, by omega, List.mem_singleton.mp h⟩
/-- a line behind another one that ends at 1 -/
theorem ch_app {A B : List Int} {T : Nat → Int} (h1 : pvl A A.length = 1) : ∀ k, k ≤ B.length → ch (A ++ B) T (A.length + k) = ch A T A.length ++ ch B (fun i => T (A.length + i)) k
  | 0, _ => by
    have : ∀ n, n ≤ A.length → ch (A ++ B) T n = ch A T n := by
      intro n
      induction n with
      | zero => intro _; rfl
      | succ n ih =>
        intro hn
        unfold ch
        rw [ih (by omega)]
        have e1 : (A ++ B).getD n 1 = A.getD n 1 := by
          rw [List.getD_eq_getElem?_getD, List.getD_eq_getElem?_getD, List.getElem?_append_left (by omega)]
        have e2 : pvl (A ++ B) n = pvl A n := by
          cases n with
          | zero => rfl
          | succ m =>
            show (A ++ B).getD m 1 = A.getD m 1
            rw [List.getD_eq_getElem?_getD, List.getD_eq_getElem?_getD, List.getElem?_append_left (by omega)]
        rw [e1, e2]
    rw [Nat.add_zero, this A.length (Nat.le_refl _)]
    simp [ch]
  | k + 1, hk => by
    have ih := ch_app (A := A) (B := B) (T := T) h1 k (by omega)
    have e1 : (A ++ B).getD (A.length + k) 1 = B.getD k 1 := by
      rw [List.getD_eq_getElem?_getD, List.getD_eq_getElem?_getD, List.getElem?_append_right (by omega), Nat.add_sub_cancel_left]
    have e2 : pvl (A ++ B) (A.length + k) = pvl B k := by
      cases k with
      | zero =>
        rw [Nat.add_zero]
        show _ = 1
        rw [← h1]
        generalize hA : A.length = n
        cases n with
        | zero => rfl
        | succ m =>
          show (A ++ B).getD m 1 = A.getD m 1
          have hm : m < A.length := by omega
          rw [List.getD_eq_getElem?_getD, List.getD_eq_getElem?_getD, List.getElem?_append_left hm]
      | succ m =>
        show (A ++ B).getD (A.length + m) 1 = B.getD m 1
        rw [List.getD_eq_getElem?_getD, List.getD_eq_getElem?_getD, List.getElem?_append_right (by omega), Nat.add_sub_cancel_left]
    show ch (A ++ B) T (A.length + k) ++ (if (A ++ B).getD (A.length + k) 1 = pvl (A ++ B) (A.length + k) then [] else [T (A.length + k)]) = _
    rw [ih, e1, e2, List.append_assoc]
    rfl
def plen : Pa → Nat
  | .no => 0
  | _ => 1
def sz (b : Nat) (p : Pa) (s : Nat) : Nat := 1 + b + plen p + s
theorem frm_sz (b : Nat) (p : Pa) (s : Nat) (x : Int) : (frm b p s x).length = sz b p s := by
  rw [frm_len]
  cases p <;> rfl
/-- a frame ends at 1 -/
theorem frm_end {b : Nat} {p : Pa} {s : Nat} (x : Int) (hs : 1 ≤ s) : pvl (frm b p s x) (frm b p s x).length = 1 := by
  have hl := frm_len b p s x
  generalize hn : (frm b p s x).length = n at hl
  cases n with
  | zero => omega
  | succ m =>
    show (frm b p s x).getD m 1 = 1
    rw [List.getD_eq_getElem?_getD]
    unfold frm
    have hp : (parL b p x).length ≤ 1 := parL_len b p x
    rw [show m = ((bits b x).length + (parL b p x).length + (s - 1)) + 1 by rw [bits_len]; omega, List.getElem?_cons_succ, ← List.append_assoc, List.getElem?_append_right (by rw [List.length_append]; omega), List.length_append, Nat.add_sub_cancel_left,
      List.getElem?_replicate]
    rw [if_pos (by omega)]
    rfl
/-- a text's levels are sent from the ticks of its sending -/
def sig (b : Nat) (p : Pa) (s : Nat) (ln : Int) (snd : List (Int × Int)) : List Int := (snd.map fun q => ch (frm b p s q.2) (fun i => q.1 + (i : Int) * ln) (sz b p s)).flatten
def tks (n : Nat) (ln : Int) (snd : List (Int × Int)) : List Int := (snd.map fun q => (List.range n).map fun i : Nat => q.1 + (i : Int) * ln).flatten
theorem tks_len (n : Nat) (ln : Int) : ∀ snd : List (Int × Int), (tks n ln snd).length = snd.length * n
  | [] => by simp [tks]
  | q :: r => by
    have ih := tks_len n ln r
    have e : tks n ln (q :: r) = ((List.range n).map fun i : Nat => q.1 + (i : Int) * ln) ++ tks n ln r := by simp [tks]
    rw [e, List.length_append, ih, List.length_map, List.length_range, List.length_cons, Nat.add_mul]
    omega
theorem frms_sz (b : Nat) (p : Pa) (s : Nat) : ∀ ns : List Int, (frms b p s ns).length = ns.length * sz b p s
  | [] => by simp [frms]
  | n :: ns => by
    have ih := frms_sz b p s ns
    have e : frms b p s (n :: ns) = frm b p s n ++ frms b p s ns := by simp [frms]
    rw [e, List.length_append, ih, frm_sz, List.length_cons, Nat.add_mul]
    omega
theorem ch_sig {b : Nat} {p : Pa} {s : Nat} {ln : Int} (hs : 1 ≤ s) : ∀ snd : List (Int × Int), ch (frms b p s (snd.map (·.2))) (fun i => (tks (sz b p s) ln snd).getD i 0) (frms b p s (snd.map (·.2))).length = sig b p s ln snd
  | [] => rfl
  | q :: r => by
    have ih := ch_sig (b := b) (p := p) (s := s) (ln := ln) hs r
    have e1 : frms b p s ((q :: r).map (·.2)) = frm b p s q.2 ++ frms b p s (r.map (·.2)) := by simp [frms]
    have e2 : tks (sz b p s) ln (q :: r) = ((List.range (sz b p s)).map fun i : Nat => q.1 + (i : Int) * ln) ++ tks (sz b p s) ln r := by simp [tks]
    have e3 : sig b p s ln (q :: r) = ch (frm b p s q.2) (fun i => q.1 + (i : Int) * ln) (sz b p s) ++ sig b p s ln r := by simp [sig]
    rw [e1, List.length_append, ch_app (frm_end q.2 hs) _ (Nat.le_refl _), e3, ← ih, frm_sz]
    congr 1
    · refine ch_congr fun i hi => ?_
      show (tks (sz b p s) ln (q :: r)).getD i 0 = _
      rw [e2, List.getD_eq_getElem?_getD, List.getElem?_append_left (by simpa using hi), List.getElem?_map, List.getElem?_range hi]
      rfl
    · refine ch_congr fun i hi => ?_
      show (tks (sz b p s) ln (q :: r)).getD (sz b p s + i) 0 = _
      rw [e2, List.getD_eq_getElem?_getD, List.getElem?_append_right (by simp), List.length_map, List.length_range, Nat.add_sub_cancel_left, ← List.getD_eq_getElem?_getD]
/-! lists of pairs -/
def Snd (K : PySem.W.Frag) (H : Hp) (xs : List V) (snd : List (Int × Int)) : Prop := xs.length = snd.length ∧ ∀ (k : Nat) (x : V) (q : Int × Int), xs[k]? = some x → snd[k]? = some q → ∃ t, x = .ref t ∧ SqT K H t [.int q.1, .int q.2]
theorem Snd.ex {K : PySem.W.Frag} {H H' : Hp} {xs : List V} {snd : List (Int × Int)} (e : Ex H H') (h : Snd K H xs snd) : Snd K H' xs snd :=
  ⟨h.1, fun k x q h1 h2 => let ⟨t, a, b⟩ := h.2 k x q h1 h2; ⟨t, a, ex_t e b⟩⟩
theorem Snd.kp {K : PySem.W.Frag} {H H' : Hp} {a : Addr} {ys : List V} {xs : List V} {snd : List (Int × Int)} (e : Kp a H H') (ha : H a = some (.lst ys)) (h : Snd K H xs snd) : Snd K H' xs snd :=
  ⟨h.1, fun k x q h1 h2 => let ⟨t, u, b⟩ := h.2 k x q h1 h2; ⟨t, u, e.tup ha b⟩⟩
theorem Snd.nil {K : PySem.W.Frag} {H : Hp} : Snd K H [] [] := ⟨rfl, fun k x q h _ => by simp at h⟩
theorem Snd.snoc {K : PySem.W.Frag} {H : Hp} {xs : List V} {snd : List (Int × Int)} {t : Addr} {q : Int × Int} (h : Snd K H xs snd) (ht : SqT K H t [.int q.1, .int q.2]) : Snd K H (xs ++ [.ref t]) (snd ++ [q]) := by
  refine ⟨by rw [List.length_append, List.length_append, h.1]; rfl, fun k x q' h1 h2 => ?_⟩
  by_cases hk : k < xs.length
  · rw [List.getElem?_append_left hk] at h1
    rw [List.getElem?_append_left (by rw [← h.1]; exact hk)] at h2
    exact h.2 k x q' h1 h2
  · have hk2 : k = xs.length := by
      have := (List.getElem?_eq_some_iff.mp h1).1
      rw [List.length_append] at this
      simp at this
      omega
    subst hk2
    rw [List.getElem?_append_right (Nat.le_refl _), Nat.sub_self] at h1
    rw [h.1, List.getElem?_append_right (Nat.le_refl _), Nat.sub_self] at h2
    obtain rfl : V.ref t = x := Option.some.inj h1
    obtain rfl : q = q' := Option.some.inj h2
    exact ⟨t, rfl, ht⟩
def dP (snd : List (Int × Int)) : List PyData := snd.map fun q => PyData.tuple [.int q.1, .int q.2]
theorem Snd.dp {K : PySem.W.Frag} {H : Hp} : ∀ {xs : List V} {snd : List (Int × Int)}, Snd K H xs snd → DpAll K H xs (dP snd)
  | [], [], _ => .nil
  | [], q :: r, h => by have := h.1; simp at this
  | x :: xs, [], h => by have := h.1; simp at this
  | x :: xs, q :: r, h => by
    obtain ⟨t, rfl, ht⟩ := h.2 0 x q rfl rfl
    exact .cons (.tup ht (.cons (.int _) (.cons (.int _) .nil))) (Snd.dp ⟨by have := h.1; simpa using this, fun k y q' h1 h2 => h.2 (k + 1) y q' h1 h2⟩)
theorem dP_ok : ∀ snd : List (Int × Int), PyData.canLayAll0 (dP snd) = true ∧ PyData.depthAll (dP snd) ≤ 1
  | [] => ⟨rfl, Nat.zero_le _⟩
  | q :: r => by
    obtain ⟨h1, h2⟩ := dP_ok r
    have e : dP (q :: r) = PyData.tuple [.int q.1, .int q.2] :: dP r := rfl
    rw [e]
    refine ⟨?_, ?_⟩
    · simp only [PyData.canLayAll0, PyData.canLay0, h1, Bool.and_true]
    · simp only [PyData.depthAll, PyData.depth]
      omega
theorem dP_shaped (snd : List (Int × Int)) : SeqAt.shaped (.list (dP snd)) = true := by
  obtain ⟨h1, h2⟩ := dP_ok snd
  unfold SeqAt.shaped
  rw [Bool.and_eq_true]
  refine ⟨?_, decide_eq_true ?_⟩
  · simp only [PyData.canLay0, h1]
  · simp only [PyData.depth]
    omega
theorem dI_ok : ∀ ns : List Int, PyData.canLayAll0 (dI ns) = true ∧ PyData.depthAll (dI ns) ≤ 1
  | [] => ⟨rfl, Nat.zero_le _⟩
  | q :: r => by
    obtain ⟨h1, h2⟩ := dI_ok r
    have e : dI (q :: r) = PyData.int q :: dI r := rfl
    rw [e]
    refine ⟨?_, ?_⟩
    · simp only [PyData.canLayAll0, PyData.canLay0, h1, Bool.and_true]
    · simp only [PyData.depthAll, PyData.depth]
      omega
theorem dI_shaped (ns : List Int) : SeqAt.shaped (.list (dI ns)) = true := by
  obtain ⟨h1, h2⟩ := dI_ok ns
  unfold SeqAt.shaped
  rw [Bool.and_eq_true]
  refine ⟨?_, decide_eq_true ?_⟩
  · simp only [PyData.canLay0, h1]
  · simp only [PyData.depth]
    omega
theorem eqv_sh {d : PyData} (h : SeqAt.shaped d = true) : PyData.eqv d d = true := SeqAt.eqv_refl d (SeqAt.canLay_of_shaped h)
end SB
namespace SB
open PySem PySem.Spec PyProof.Rows L2 Evl
def Kp2 (a b : Addr) (H H' : Hp) : Prop := ∀ c o, c ≠ a → c ≠ b → H c = some o → H' c = some o
theorem Kp2.refl {a b : Addr} {H : Hp} : Kp2 a b H H := fun _ _ _ _ h => h
theorem Kp2.ex {a b : Addr} {H H1 H2 : Hp} (k : Kp2 a b H H1) (e : Ex H1 H2) : Kp2 a b H H2 := fun c o n1 n2 h => e c o (k c o n1 n2 h)
theorem Kp2.updA {a b : Addr} {H H1 : Hp} {o : HO} (k : Kp2 a b H H1) : Kp2 a b H (L2.upd H1 a o) := fun c u n1 n2 h => by
  rw [upd_ne n1]
  exact k c u n1 n2 h
theorem Kp2.updB {a b : Addr} {H H1 : Hp} {o : HO} (k : Kp2 a b H H1) : Kp2 a b H (L2.upd H1 b o) := fun c u n1 n2 h => by
  rw [upd_ne n2]
  exact k c u n1 n2 h
theorem Kp2.tup {K : PySem.W.Frag} {a b t : Addr} {H H' : Hp} {xs ys zs : List V} (k : Kp2 a b H H') (ha : H a = some (.lst ys)) (hb : H b = some (.lst zs)) (h : SqT K H t xs) : SqT K H' t xs := by
  rcases h with (h | ⟨o, h⟩) | h
  · exact .inl (.inl (k t _ (fun e => by rw [e, ha] at h; cases h) (fun e => by rw [e, hb] at h; cases h) h))
  · exact .inl (.inr ⟨o, k t _ (fun e => by rw [e, ha] at h; cases h) (fun e => by rw [e, hb] at h; cases h) h⟩)
  · exact .inr h
theorem Snd.kp2 {K : PySem.W.Frag} {H H' : Hp} {a b : Addr} {ys zs : List V} {xs : List V} {snd : List (Int × Int)} (e : Kp2 a b H H') (ha : H a = some (.lst ys)) (hb : H b = some (.lst zs)) (h : Snd K H xs snd) : Snd K H' xs snd :=
  ⟨h.1, fun k x q h1 h2 => let ⟨t, u, c⟩ := h.2 k x q h1 h2; ⟨t, u, e.tup ha hb c⟩⟩
theorem Kp2.kp {a b S : Addr} {H0 H H' : Hp} (k : Kp2 a b H H') (k0 : Kp S H0 H) (ha : H0 a = none) (hb : H0 b = none) : Kp S H0 H' := fun c o n h =>
  k c o (ne_of_none h ha) (ne_of_none h hb) (k0 c o n h)
theorem Src.kp2 {a b S : Addr} {n : Nat} {H H' : Hp} (h : Src H S n) (k : Kp2 a b H H') (ha : S ≠ a) (hb : S ≠ b) : Src H' S n := by
  obtain ⟨l, sd, c, e, r⟩ := h
  exact ⟨l, sd, c, k _ _ ha hb e, r⟩
theorem tks_snoc (n : Nat) (ln : Int) (snd : List (Int × Int)) (q : Int × Int) : tks n ln (snd ++ [q]) = tks n ln snd ++ (List.range n).map fun i : Nat => q.1 + (i : Int) * ln := by simp [tks]
end SB
namespace SB
open PySem PySem.Spec PyProof.Rows L2 Evl
/-- a target of several names in a list comprehension: its reading speaks of nothing that the block has of its own -/
theorem pg_tupK {X : Cx} {K0 : PySem.W.Frag} {n0 k : Nat} {elts : List Expr} {pos : Pos} {gs : TGs} (hK : X.K = K0) (hc : X.calm = true) (hn : (assignEach elts X.env).length = n0) (h : PGs X elts gs)
    (hst : List.findIdx? (fun x => x.fst) (assignEach elts X.env) = none := by rfl) : PG X (.Tuple elts k pos) (gTup K0 n0 gs) := by
  subst hK
  subst hn
  exact pg_tup hc h rfl hst
end SB
namespace SB
open PySem PySem.Spec PyProof.Rows L2 Evl
/-! a draw's source with a wider seed -/
def Pool (H : Hp) (a : Addr) (n : Nat) : Prop := ∃ l sd c : Int, H a = some (.lst [.int l, .int sd, .int c]) ∧ 0 ≤ sd ∧ sd < 1208925819614629174706176 ∧ 0 ≤ c ∧ c ≤ n
theorem Pool.mono {H : Hp} {a : Addr} {n m : Nat} (h : Pool H a n) (e : n ≤ m) : Pool H a m := by
  obtain ⟨l, sd, c, h1, h2, h3, h4, h5⟩ := h
  exact ⟨l, sd, c, h1, h2, h3, h4, by omega⟩
theorem Pool.ex {H H' : Hp} {a : Addr} {n : Nat} (h : Pool H a n) (e : Ex H H') : Pool H' a n := by
  obtain ⟨l, sd, c, h1, h2⟩ := h
  exact ⟨l, sd, c, e _ _ h1, h2⟩
theorem Pool.at {H : Hp} {a : Addr} {n : Nat} (h : Pool H a n) : ∃ ys, H a = some (.lst ys) := by
  obtain ⟨l, sd, c, e, _⟩ := h
  exact ⟨_, e⟩
theorem Pool.ne {H : Hp} {a p : Addr} {n : Nat} (h : Pool H a n) (hp : H p = none) : p ≠ a := by
  obtain ⟨ys, e⟩ := h.at
  exact fun z => by rw [z, e] at hp; cases hp
theorem Pool.upd {H : Hp} {a p : Addr} {n : Nat} {o : HO} (h : Pool H a n) (ne : p ≠ a) : Pool (L2.upd H p o) a n := by
  obtain ⟨l, sd, c, e, r⟩ := h
  refine ⟨l, sd, c, ?_, r⟩
  rw [upd_ne (Ne.symm ne)]
  exact e
/-! lists of related things -/
def LR {α : Type} (R : V → α → Prop) (xs : List V) (as : List α) : Prop := xs.length = as.length ∧ ∀ (k : Nat) (x : V) (a : α), xs[k]? = some x → as[k]? = some a → R x a
section
variable {α β : Type} {R S : V → α → Prop} {xs ys : List V} {as bs : List α}
theorem LR.nil : LR R [] [] := ⟨rfl, fun k x a h _ => by simp at h⟩
theorem LR.imp (h : LR R xs as) (f : ∀ x a, R x a → S x a) : LR S xs as := ⟨h.1, fun k x a h1 h2 => f x a (h.2 k x a h1 h2)⟩
theorem LR.snoc {y : V} {b : α} (h : LR R xs as) (hy : R y b) : LR R (xs ++ [y]) (as ++ [b]) := by
  refine ⟨by rw [List.length_append, List.length_append, h.1]; rfl, fun k x a h1 h2 => ?_⟩
  by_cases hk : k < xs.length
  · rw [List.getElem?_append_left hk] at h1
    rw [List.getElem?_append_left (by rw [← h.1]; exact hk)] at h2
    exact h.2 k x a h1 h2
  · have hk2 : k = xs.length := by
      have := (List.getElem?_eq_some_iff.mp h1).1
      rw [List.length_append] at this
      simp at this
      omega
    subst hk2
    rw [List.getElem?_append_right (Nat.le_refl _), Nat.sub_self] at h1
    rw [h.1, List.getElem?_append_right (Nat.le_refl _), Nat.sub_self] at h2
    obtain rfl : y = x := Option.some.inj h1
    obtain rfl : b = a := Option.some.inj h2
    exact hy
theorem LR.append (h : LR R xs as) (h' : LR R ys bs) : LR R (xs ++ ys) (as ++ bs) := by
  refine ⟨by rw [List.length_append, List.length_append, h.1, h'.1], fun k x a h1 h2 => ?_⟩
  by_cases hk : k < xs.length
  · rw [List.getElem?_append_left hk] at h1
    rw [List.getElem?_append_left (by rw [← h.1]; exact hk)] at h2
    exact h.2 k x a h1 h2
  · rw [List.getElem?_append_right (by omega)] at h1
    rw [List.getElem?_append_right (by rw [← h.1]; omega), ← h.1] at h2
    exact h'.2 _ x a h1 h2
theorem LR.get (h : LR R xs as) {k : Nat} {x : V} (hx : xs[k]? = some x) : ∃ a, as[k]? = some a ∧ R x a := by
  have hk := (List.getElem?_eq_some_iff.mp hx).1
  have e : as[k]? = some (as[k]'(by rw [← h.1]; exact hk)) := List.getElem?_eq_getElem _
  exact ⟨_, e, h.2 k x _ hx e⟩
theorem LR.get' (h : LR R xs as) {k : Nat} {a : α} (ha : as[k]? = some a) : ∃ x, xs[k]? = some x ∧ R x a := by
  have hk := (List.getElem?_eq_some_iff.mp ha).1
  have e : xs[k]? = some (xs[k]'(by rw [h.1]; exact hk)) := List.getElem?_eq_getElem _
  exact ⟨_, e, h.2 k _ a e ha⟩
end
def isI : V → Int → Prop := fun v i => v = .int i
theorem LR.ints : ∀ {xs : List V} {ns : List Int}, LR isI xs ns → xs = ns.map V.int
  | [], [], _ => rfl
  | [], _ :: _, h => by have := h.1; simp at this
  | _ :: _, [], h => by have := h.1; simp at this
  | x :: xs, n :: ns, h => by
    have h1 : x = .int n := h.2 0 x n rfl rfl
    have h2 : LR isI xs ns := ⟨by have := h.1; simpa using this, fun k y m a b => h.2 (k + 1) y m a b⟩
    rw [h1, h2.ints]
    rfl
theorem LR.of_ints (ns : List Int) : LR isI (ns.map V.int) ns := by
  refine ⟨List.length_map _, fun k x a h1 h2 => ?_⟩
  rw [List.getElem?_map, h2] at h1
  exact (Option.some.inj h1).symm
/-- what lasts while new things come and while a list is written -/
structure Lasts {α : Type} (R : Hp → V → α → Prop) : Prop where
  ex : ∀ {H H' : Hp} {v : V} {x : α}, Ex H H' → R H v x → R H' v x
  kp : ∀ {a : Addr} {H H' : Hp} {ys : List V} {v : V} {x : α}, Kp a H H' → H a = some (.lst ys) → R H v x → R H' v x
def RI : Hp → V → Int → Prop := fun _ => isI
theorem RI.lasts : Lasts RI := ⟨fun _ h => h, fun _ _ h => h⟩
/-- a tuple of whole numbers -/
def RT (K : PySem.W.Frag) : Hp → V → List Int → Prop := fun H v r => ∃ t, v = .ref t ∧ SqT K H t (r.map V.int)
theorem RT.lasts {K : PySem.W.Frag} : Lasts (RT K) := ⟨fun e ⟨t, h1, h2⟩ => ⟨t, h1, ex_t e h2⟩, fun k ha ⟨t, h1, h2⟩ => ⟨t, h1, k.tup ha h2⟩⟩
/-! comprehensions -/
theorem fm_congr {α β : Type} {f g : α → Option β} : ∀ {l : List α}, (∀ x ∈ l, f x = g x) → l.filterMap f = l.filterMap g
  | [], _ => rfl
  | x :: l, h => by
    rw [List.filterMap_cons, List.filterMap_cons, h x (List.mem_cons_self ..), fm_congr (l := l) fun y hy => h y (List.mem_cons_of_mem _ hy)]
theorem range_fm_succ {β : Type} (f : Nat → Option β) (i : Nat) : (List.range (i + 1)).filterMap f = (List.range i).filterMap f ++ (match f i with | none => [] | some b => [b]) := by
  rw [List.range_succ, List.filterMap_append]
  cases h : f i <;> simp [h]
theorem take_fm_succ {α β : Type} (f : α → Option β) {as : List α} {i : Nat} {a : α} (h : as[i]? = some a) : (as.take (i + 1)).filterMap f = (as.take i).filterMap f ++ (match f a with | none => [] | some b => [b]) := by
  rw [List.take_add_one, h, List.filterMap_append]
  cases h : f a <;> simp [h]
theorem lcR {β : Type} {R : Hp → V → β → Prop} (la : Lasts R) {lo : Int} {n : Nat} {g : TG} {tt : TT} {te : TE} {vs : List Nat} {σ : L2.St} {H : Hp} {D : Addr} {Qd : Hp → Prop} (hD : H D = none) (hn : n ≤ 100000) (f : Nat → Option β)
    (hs : ∀ (i : Nat) (H' : Hp), i < n → Ex H H' → ∀ (Kt : VK) (Kf : Hp → Prop), (∀ b y H4, f i = some b → Ex H' H4 → R H4 y b → Kt y H4) → (∀ H3, f i = none → Ex H' H3 → Kf H3) →
      g (.int (lo + i)) (wipe σ vs) H' fun σ2 H2 => wipe σ2 vs = wipe σ vs ∧ tt σ2 H2 fun b H3 => if b = true then te σ2 H3 Kt else Kf H3)
    (hd : ∀ H' xs, Ex H H' → H' D = some (.lst xs) → LR (R H') xs ((List.range n).filterMap f) → Qd H') :
    ∃ W : Nat → Nat → Hp → Prop, (∃ m, W 0 m (L2.upd H D (.lst []))) ∧ ∀ i m H, W i m H →
      ((Itr lo n).stop i H ∧ Qd H) ∨ ((Itr lo n).go i H ∧ ∃ Nx : Hp → Prop, (∀ H', Nx H' → ∃ m', m' < m ∧ W (i + 1) m' H') ∧ ∀ x H', (Itr lo n).yld i H x H' → g x (wipe σ vs) H' fun σ2 H2 => wipe σ2 vs = wipe σ vs ∧ tt σ2 H2 fun b H3 =>
        if b = true then te σ2 H3 fun y H4 => ∃ acc, H4 D = some (.lst acc) ∧ acc.length < sizeLine ∧ Nx (L2.upd H4 D (.lst (acc ++ [y]))) else Nx H3) := by
  refine lc_range (fun i H' => ∃ xs, Ex H H' ∧ H' D = some (.lst xs) ∧ LR (R H') xs ((List.range i).filterMap f)) ⟨[], Ex.new hD, upd_same, LR.nil⟩ (fun i H' hi ⟨xs, e, hL, lr⟩ => hs i H' hi e _ _ (fun b y H4 fb e4 r => ?_) fun H3 fb e3 => ?_) fun H' ⟨xs, e, h, lr⟩ => hd H' xs e h lr
  · have hL4 := e4 _ _ hL
    have hlen : xs.length ≤ i := by
      rw [lr.1]
      have := List.length_filterMap_le f (List.range i)
      rw [List.length_range] at this
      exact this
    refine ⟨xs, hL4, Nat.lt_of_le_of_lt (show xs.length ≤ 100000 by omega) (by decide), xs ++ [y], (e.trans e4).mut hD, upd_same, ?_⟩
    rw [range_fm_succ, fb]
    exact LR.snoc (lr.imp fun x a h => la.kp (a := D) Kp.upd hL4 (la.ex e4 h)) (la.kp (a := D) Kp.upd hL4 r)
  · refine ⟨xs, e.trans e3, e3 _ _ hL, ?_⟩
    rw [range_fm_succ, fb, List.append_nil]
    exact lr.imp fun x a h => la.ex e3 h
theorem lcL {α β : Type} {R0 : Hp → V → α → Prop} {R : Hp → V → β → Prop} (la0 : Lasts R0) (la : Lasts R) {K : PySem.W.Frag} {A : Addr} {xs : List V} {as : List α} {g : TG} {tt : TT} {te : TE} {vs : List Nat} {σ : L2.St} {H : Hp} {D : Addr} {Qd : Hp → Prop} (hD : H D = none)
    (sq : SqL K H A xs) (lr0 : LR (R0 H) xs as) (hn : xs.length ≤ 100000) (f : α → Option β)
    (hs : ∀ (i : Nat) (x : V) (a : α) (H' : Hp), as[i]? = some a → Ex H H' → R0 H' x a → ∀ (Kt : VK) (Kf : Hp → Prop), (∀ b y H4, f a = some b → Ex H' H4 → R H4 y b → Kt y H4) → (∀ H3, f a = none → Ex H' H3 → Kf H3) →
      g x (wipe σ vs) H' fun σ2 H2 => wipe σ2 vs = wipe σ vs ∧ tt σ2 H2 fun b H3 => if b = true then te σ2 H3 Kt else Kf H3)
    (hd : ∀ H' ys, Ex H H' → H' D = some (.lst ys) → LR (R H') ys (as.filterMap f) → Qd H') :
    ∃ W : Nat → Nat → Hp → Prop, (∃ m, W 0 m (L2.upd H D (.lst []))) ∧ ∀ i m H, W i m H →
      ((Itl K A).stop i H ∧ Qd H) ∨ ((Itl K A).go i H ∧ ∃ Nx : Hp → Prop, (∀ H', Nx H' → ∃ m', m' < m ∧ W (i + 1) m' H') ∧ ∀ x H', (Itl K A).yld i H x H' → g x (wipe σ vs) H' fun σ2 H2 => wipe σ2 vs = wipe σ vs ∧ tt σ2 H2 fun b H3 =>
        if b = true then te σ2 H3 fun y H4 => ∃ acc, H4 D = some (.lst acc) ∧ acc.length < sizeLine ∧ Nx (L2.upd H4 D (.lst (acc ++ [y]))) else Nx H3) := by
  refine lc_list (xs := xs) (fun i H' => ∃ ys, Ex H H' ∧ H' D = some (.lst ys) ∧ LR (R H') ys ((as.take i).filterMap f)) ⟨[], Ex.new hD, upd_same, LR.nil⟩ (fun i H' _ ⟨_, e, _⟩ => ex_l e sq) (fun i x H' hx ⟨ys, e, hL, lr⟩ => ?_) fun H' ⟨ys, e, h, lr⟩ => hd H' ys e h (by rw [lr0.1, List.take_length] at lr; exact lr)
  obtain ⟨a, ha, r0⟩ := lr0.get hx
  refine hs i x a H' ha e (la0.ex e r0) _ _ (fun b y H4 fb e4 r => ?_) fun H3 fb e3 => ?_
  · have hL4 := e4 _ _ hL
    have hlen : ys.length ≤ xs.length := by
      rw [lr.1, lr0.1]
      have h1 := List.length_filterMap_le f (as.take i)
      rw [List.length_take] at h1
      omega
    refine ⟨ys, hL4, Nat.lt_of_le_of_lt (show ys.length ≤ 100000 by omega) (by decide), ys ++ [y], (e.trans e4).mut hD, upd_same, ?_⟩
    rw [take_fm_succ f ha, fb]
    exact LR.snoc (lr.imp fun x a h => la.kp (a := D) Kp.upd hL4 (la.ex e4 h)) (la.kp (a := D) Kp.upd hL4 r)
  · refine ⟨ys, e.trans e3, e3 _ _ hL, ?_⟩
    rw [take_fm_succ f ha, fb, List.append_nil]
    exact lr.imp fun x a h => la.ex e3 h
/-- a list of related things, new -/
def RetR {α : Type} (R : Hp → V → α → Prop) (as : List α) (H : Hp) (Q : VK) : Prop := ∀ p H2 xs, H p = none → Ex H H2 → H2 p = some (.lst xs) → LR (R H2) xs as → Q (.ref p) H2
def RetU (xs : List V) (H : Hp) (Q : VK) : Prop := ∀ p H2, H p = none → Ex H H2 → H2 p = some (.tup xs) → Q (.ref p) H2
/-! greatest and least -/
def Mx (L : List Int) (m : Int) : Prop := m ∈ L ∧ ∀ y ∈ L, y ≤ m
def Mi (L : List Int) (m : Int) : Prop := m ∈ L ∧ ∀ y ∈ L, m ≤ y
theorem Mx.uniq {L : List Int} {m n : Int} (h : Mx L m) (h' : Mx L n) : m = n := Int.le_antisymm (h'.2 m h.1) (h.2 n h'.1)
theorem Mi.uniq {L : List Int} {m n : Int} (h : Mi L m) (h' : Mi L n) : m = n := Int.le_antisymm (h.2 n h'.1) (h'.2 m h.1)
theorem Mx.exists : ∀ {L : List Int}, L ≠ [] → ∃ m, Mx L m
  | [x], _ => ⟨x, List.mem_cons_self .., fun y hy => by rw [List.mem_singleton.mp hy]; exact Int.le_refl _⟩
  | x :: y :: r, _ => by
    obtain ⟨m, h1, h2⟩ := Mx.exists (L := y :: r) (by simp)
    by_cases h : m ≤ x
    · refine ⟨x, List.mem_cons_self .., fun z hz => ?_⟩
      rcases List.mem_cons.mp hz with rfl | hz
      · exact Int.le_refl _
      · exact Int.le_trans (h2 z hz) h
    · refine ⟨m, List.mem_cons_of_mem _ h1, fun z hz => ?_⟩
      rcases List.mem_cons.mp hz with rfl | hz
      · omega
      · exact h2 z hz
theorem Mi.exists : ∀ {L : List Int}, L ≠ [] → ∃ m, Mi L m
  | [x], _ => ⟨x, List.mem_cons_self .., fun y hy => by rw [List.mem_singleton.mp hy]; exact Int.le_refl _⟩
  | x :: y :: r, _ => by
    obtain ⟨m, h1, h2⟩ := Mi.exists (L := y :: r) (by simp)
    by_cases h : x ≤ m
    · refine ⟨x, List.mem_cons_self .., fun z hz => ?_⟩
      rcases List.mem_cons.mp hz with rfl | hz
      · exact Int.le_refl _
      · exact Int.le_trans h (h2 z hz)
    · refine ⟨m, List.mem_cons_of_mem _ h1, fun z hz => ?_⟩
      rcases List.mem_cons.mp hz with rfl | hz
      · omega
      · exact h2 z hz
/-! more data that can be shown -/
theorem rp_bl {K : PySem.W.Frag} {H : Hp} {b : Bool} {Q : VK} (q : Q (.str (PyData.bool b).shown) H) : rRp K [.bl b] H Q := by
  refine ⟨_, .bool b, rfl, .bl b, rfl, rfl, Nat.zero_le _, ?_, q⟩
  cases b <;> decide +kernel
theorem rp_non {K : PySem.W.Frag} {H : Hp} {Q : VK} (q : Q (.str PyData.none.shown) H) : rRp K [.non] H Q :=
  ⟨_, .none, rfl, .non, rfl, rfl, Nat.zero_le _, by decide +kernel, q⟩
theorem show_tup {ns : List Int} (h : ∀ n ∈ ns, n.natAbs < 2 ^ 200) (hl : ns.length ≤ 10000) :
    (PyData.tuple (dI ns)).showable = true ∧ (PyData.tuple (dI ns)).hasDict = false ∧ (PyData.tuple (dI ns)).depth ≤ 60 ∧ (PyData.tuple (dI ns)).shown.length ≤ sizeLine := by
  obtain ⟨h1, h2, h3, h4, h5⟩ := show_ints ns h
  refine ⟨?_, ?_, ?_, ?_⟩
  · simp only [PyData.showable, h1]
  · simp only [PyData.hasDict, h2]
  · simp only [PyData.depth, h3]
    omega
  · simp only [PyData.shown]
    have := tupleText_len_le (PyData.shownAll (dI ns))
    rw [sizeLine_eq]
    omega
theorem rp_tup {K : PySem.W.Frag} {H : Hp} {a : Addr} {ns : List Int} {Q : VK} (hs : SqT K H a (ns.map V.int)) (h : ∀ n ∈ ns, n.natAbs < 2 ^ 200) (hl : ns.length ≤ 10000)
    (q : Q (.str (PyData.tuple (dI ns)).shown) H) : rRp K [.ref a] H Q := by
  obtain ⟨h1, h2, h3, h4⟩ := show_tup h hl
  exact ⟨_, _, rfl, .tup hs (dp_ints ns), h1, h2, h3, h4, q⟩
end SB
namespace SB
open PySem PySem.Spec PyProof.Rows L2 Evl
/-! receivers, windows -/
def IsRc (K : PySem.W.Frag) (H : Hp) (v : V) (gr w s : Int) : Prop :=
  ∃ t, v = .ref t ∧ SqT K H t [.int gr, .int w, .int s] ∧ 1 ≤ gr ∧ 0 ≤ w ∧ 1 ≤ s ∧ gr < 1237940039285380274899124224 ∧ w < 1237940039285380274899124224 ∧ s < 1237940039285380274899124224
theorem IsRc.ex {K : PySem.W.Frag} {H H' : Hp} {v : V} {gr w s : Int} (e : Ex H H') (h : IsRc K H v gr w s) : IsRc K H' v gr w s := by
  obtain ⟨t, e1, e2, r⟩ := h
  exact ⟨t, e1, ex_t e e2, r⟩
theorem IsRc.kp {K : PySem.W.Frag} {H H' : Hp} {v : V} {gr w s : Int} {a : Addr} {ys : List V} (e : Kp a H H') (ha : H a = some (.lst ys)) (h : IsRc K H v gr w s) : IsRc K H' v gr w s := by
  obtain ⟨t, e1, e2, r⟩ := h
  exact ⟨t, e1, e.tup ha e2, r⟩
theorem sz_bd {K : PySem.W.Frag} {H : Hp} {g : V} {b : Nat} {p : Pa} {s : Nat} (h : IsSh K H g b p s) : 1 ≤ b ∧ b ≤ 9 ∧ 1 ≤ s ∧ s ≤ 2 ∧ s + 2 ≤ sz b p s ∧ sz b p s ≤ 13 := by
  obtain ⟨t, _, _, h1, h2, h3, h4⟩ := h
  have hp : plen p ≤ 1 := by cases p <;> simp [plen]
  unfold sz
  omega
/-- the windows of a shape whose frames have n places, the last s of them stops -/
def win (n s : Nat) : List (List Int) := (List.range (n - s)).map (fun i : Nat => [(i : Int), (i : Int), (i : Int) + 1]) ++ (List.range s).map fun i : Nat => [((n - s + i : Nat) : Int), ((n - s : Nat) : Int), (n : Int)]
theorem win_eq {n s : Nat} (h : s + 2 ≤ n ∧ n ≤ 13) : win n s = (List.range ((n : Int) - s).toNat).filterMap (fun i : Nat => some [(0 : Int) + (i : Nat), (0 : Int) + (i : Nat), (0 : Int) + (i : Nat) + 1]) ++
    (List.range ((n : Int) - ((n : Int) - s)).toNat).filterMap (fun i : Nat => some [(n : Int) - s + (i : Nat), (n : Int) - s, (n : Int)]) := by
  unfold win
  have e1 : ((n : Int) - s).toNat = n - s := by omega
  have e2 : ((n : Int) - ((n : Int) - s)).toNat = s := by omega
  rw [e1, e2, List.filterMap_eq_map', List.filterMap_eq_map']
  congr 1
  · refine List.map_congr_left fun i _ => ?_
    rw [Int.zero_add]
  · refine List.map_congr_left fun i hi => ?_
    have e3 : ((n - s + i : Nat) : Int) = (n : Int) - s + (i : Nat) := by omega
    have e4 : ((n - s : Nat) : Int) = (n : Int) - s := by omega
    rw [e3, e4]
theorem win_len {n s : Nat} (h : s ≤ n) : (win n s).length = n := by
  unfold win
  simp
  omega
theorem win_mem {n s : Nat} (h : s + 2 ≤ n) {r : List Int} : r ∈ win n s ↔ ∃ p f l : Nat, r = [(p : Int), (f : Int), (l : Int)] ∧ p < n ∧ ((p < n - s ∧ f = p ∧ l = p + 1) ∨ (n - s ≤ p ∧ f = n - s ∧ l = n)) := by
  unfold win
  rw [List.mem_append, List.mem_map, List.mem_map]
  constructor
  · rintro (⟨i, hi, rfl⟩ | ⟨i, hi, rfl⟩)
    · have := List.mem_range.mp hi
      exact ⟨i, i, i + 1, by simp, by omega, .inl ⟨by omega, rfl, rfl⟩⟩
    · have := List.mem_range.mp hi
      exact ⟨n - s + i, n - s, n, rfl, by omega, .inr ⟨by omega, rfl, rfl⟩⟩
  · rintro ⟨p, f, l, rfl, hp, ⟨h1, rfl, rfl⟩ | ⟨h1, h2, h3⟩⟩
    · exact .inl ⟨f, List.mem_range.mpr h1, by simp⟩
    · refine .inr ⟨p - (n - s), List.mem_range.mpr (by omega), ?_⟩
      have : n - s + (p - (n - s)) = p := by omega
      rw [this, h2, h3]
end SB
namespace SB
open PySem PySem.Spec PyProof.Rows L2 Evl
theorem set_comm_none {σ : L2.St} {i v : Nat} {x : Option V} (h : i ≠ v) : (σ.set i x).set v none = (σ.set v none).set i x := List.set_comm x none h
theorem wipe_set {σ : L2.St} {i : Nat} {x : Option V} : ∀ {vs : List Nat}, i ∈ vs → wipe (σ.set i x) vs = wipe σ vs
  | v :: vs, h => by
    show (wipe (σ.set i x) vs).set v none = (wipe σ vs).set v none
    by_cases e : i ∈ vs
    · rw [wipe_set e]
    · have ev : i = v := by
        rcases List.mem_cons.mp h with h | h
        · exact h
        · exact absurd h e
      subst ev
      have out : ∀ {vs : List Nat}, ¬ i ∈ vs → wipe (σ.set i x) vs = (wipe σ vs).set i x := by
        intro vs
        induction vs with
        | nil => intro _; rfl
        | cons u us ih =>
          intro hu
          show (wipe (σ.set i x) us).set u none = ((wipe σ us).set u none).set i x
          rw [ih fun z => hu (List.mem_cons_of_mem _ z), set_comm_none fun z => hu (by rw [z]; exact List.mem_cons_self ..)]
      rw [out e, List.set_set]
theorem wipe_wipe {σ : L2.St} (vs : List Nat) : wipe (wipe σ vs) vs = wipe σ vs := by
  have key : ∀ (us : List Nat), (∀ u ∈ us, u ∈ vs) → wipe (wipe σ us) vs = wipe σ vs := by
    intro us
    induction us with
    | nil => intro _; rfl
    | cons u us ih =>
      intro h
      show wipe ((wipe σ us).set u none) vs = wipe σ vs
      rw [wipe_set (h u (List.mem_cons_self ..)), ih fun z hz => h z (List.mem_cons_of_mem _ hz)]
  exact key vs fun _ h => h
/-- a comprehension over a list of tuples of three whole numbers -/
theorem lcL3 {β : Type} {R : Hp → V → β → Prop} (la : Lasts R) {K : PySem.W.Frag} {A : Addr} {xs : List V} {as : List (List Int)} {i j k : Nat} {tt : TT} {te : TE} {vs : List Nat} {σ : L2.St} {H : Hp} {D : Addr} {Qd : Hp → Prop} (hD : H D = none)
    (sq : SqL K H A xs) (lr0 : LR (RT K H) xs as) (hn : xs.length ≤ 100000) (f : List Int → Option β) (h3 : ∀ r ∈ as, ∃ x y z, r = [x, y, z]) (hi : i ∈ vs) (hj : j ∈ vs) (hk : k ∈ vs)
    (hs : ∀ (x y z : Int) (H' : Hp), [x, y, z] ∈ as → Ex H H' → ∀ (Kt : VK) (Kf : Hp → Prop), (∀ b v H4, f [x, y, z] = some b → Ex H' H4 → R H4 v b → Kt v H4) → (∀ H3, f [x, y, z] = none → Ex H' H3 → Kf H3) →
      tt ((((wipe σ vs).set i (some (.int x))).set j (some (.int y))).set k (some (.int z))) H' fun b H3 => if b = true then te ((((wipe σ vs).set i (some (.int x))).set j (some (.int y))).set k (some (.int z))) H3 Kt else Kf H3)
    (hd : ∀ H' ys, Ex H H' → H' D = some (.lst ys) → LR (R H') ys (as.filterMap f) → Qd H') :
    ∃ W : Nat → Nat → Hp → Prop, (∃ m, W 0 m (L2.upd H D (.lst []))) ∧ ∀ i1 m H, W i1 m H →
      ((Itl K A).stop i1 H ∧ Qd H) ∨ ((Itl K A).go i1 H ∧ ∃ Nx : Hp → Prop, (∀ H', Nx H' → ∃ m', m' < m ∧ W (i1 + 1) m' H') ∧ ∀ x H', (Itl K A).yld i1 H x H' → gTup K 3 (gCons (gName i) (gCons (gName j) (gCons (gName k) gNil))) x (wipe σ vs) H' fun σ2 H2 => wipe σ2 vs = wipe σ vs ∧ tt σ2 H2 fun b H3 =>
        if b = true then te σ2 H3 fun y H4 => ∃ acc, H4 D = some (.lst acc) ∧ acc.length < sizeLine ∧ Nx (L2.upd H4 D (.lst (acc ++ [y]))) else Nx H3) := by
  refine lcL (RT.lasts (K := K)) la hD sq lr0 hn f (fun n v r H' hr e r0 Kt Kf kt kf => ?_) hd
  obtain ⟨x, y, z, rfl⟩ := h3 r (List.mem_of_getElem? hr)
  obtain ⟨t, rfl, st⟩ := r0
  refine ⟨t, _, rfl, st, rfl, _, _, rfl, _, _, rfl, _, _, rfl, rfl, ?_, hs x y z H' (List.mem_of_getElem? hr) e Kt Kf kt kf⟩
  rw [wipe_set hk, wipe_set hj, wipe_set hi, wipe_wipe]
end SB
namespace SB
open PySem PySem.Spec PyProof.Rows L2 Evl
theorem sh_bl (b : Bool) : (PyData.bool b).shown.length ≤ sizeLine := by cases b <;> decide +kernel
end SB
namespace SB
open PySem PySem.Spec PyProof.Rows L2 Evl
/-! safe lengths: the mathematics -/
def r3 {α : Type} (k : Int → Int → Int → α) (d : α) : List Int → α
  | [a, b, c] => k a b c
  | _ => d
theorem r3_mk {α : Type} (k : Int → Int → Int → α) (d : α) (a b c : Int) : r3 k d [a, b, c] = k a b c := rfl
def ceilI (x l : Int) : Int := -((-x) / l)
theorem ceil_le {x l y : Int} (h : 0 < l) : ceilI x l ≤ y ↔ x ≤ y * l := by
  unfold ceilI
  have h1 := Int.le_ediv_iff_mul_le (a := -y) (b := -x) h
  rw [Int.neg_mul] at h1
  omega
theorem le_ceil {x l y : Int} (h : 0 < l) : y ≤ ceilI x l ↔ (y - 1) * l < x := by
  have := ceil_le (x := x) (y := y - 1) h
  omega
theorem ceil_bd {x l : Int} (h : 0 < l) (hx : 0 ≤ x) : 0 ≤ ceilI x l ∧ ceilI x l ≤ x := by
  constructor
  · refine (le_ceil h).mpr ?_
    omega
  · refine (ceil_le h).mpr ?_
    have := Int.mul_le_mul_of_nonneg_left (show 1 ≤ l by omega) hx
    omega
def lookI (gr w st p : Int) : Int := gr * (w + st * p)
def loL (n s : Nat) (gr w st : Int) : List Int := (win n s).map (r3 (fun p _ l => ceilI (gr * (w + st * p + 1)) l) 0)
def hiL (n s : Nat) (gr w st : Int) : List Int := (win n s).filterMap (r3 (fun p f _ => if 0 < f then some (lookI gr w st p / f) else none) none)
theorem loL_mem {n s : Nat} {gr w st y : Int} (h : s + 2 ≤ n) : y ∈ loL n s gr w st ↔ ∃ p f l : Nat, p < n ∧ ((p < n - s ∧ f = p ∧ l = p + 1) ∨ (n - s ≤ p ∧ f = n - s ∧ l = n)) ∧ y = ceilI (gr * (w + st * p + 1)) l := by
  unfold loL
  rw [List.mem_map]
  constructor
  · rintro ⟨r, hr, rfl⟩
    obtain ⟨p, f, l, rfl, h1, h2⟩ := (win_mem h).mp hr
    exact ⟨p, f, l, h1, h2, rfl⟩
  · rintro ⟨p, f, l, h1, h2, rfl⟩
    exact ⟨_, (win_mem h).mpr ⟨p, f, l, rfl, h1, h2⟩, rfl⟩
theorem hiL_mem {n s : Nat} {gr w st y : Int} (h : s + 2 ≤ n) : y ∈ hiL n s gr w st ↔ ∃ p f l : Nat, p < n ∧ ((p < n - s ∧ f = p ∧ l = p + 1) ∨ (n - s ≤ p ∧ f = n - s ∧ l = n)) ∧ 0 < f ∧ y = lookI gr w st p / (f : Int) := by
  unfold hiL
  rw [List.mem_filterMap]
  constructor
  · rintro ⟨r, hr, e⟩
    obtain ⟨p, f, l, rfl, h1, h2⟩ := (win_mem h).mp hr
    rw [r3_mk] at e
    split at e
    · rename_i hf
      exact ⟨p, f, l, h1, h2, by omega, (Option.some.inj e).symm⟩
    · cases e
  · rintro ⟨p, f, l, h1, h2, hf, rfl⟩
    refine ⟨_, (win_mem h).mpr ⟨p, f, l, rfl, h1, h2⟩, ?_⟩
    rw [r3_mk, if_pos (by omega)]
structure Clk (gr w st : Int) : Prop where
  g1 : 1 ≤ gr
  w0 : 0 ≤ w
  s1 : 1 ≤ st
theorem Clk.look0 {gr w st : Int} (c : Clk gr w st) (p : Nat) : 0 ≤ lookI gr w st p := by
  have h1 := c.g1
  have h2 := c.w0
  have h3 : 0 ≤ st * (p : Int) := Int.mul_nonneg (by have := c.s1; omega) (by omega)
  exact Int.mul_nonneg (by omega) (by omega)
theorem Clk.lookp {gr w st : Int} (c : Clk gr w st) (p : Nat) : (p : Int) ≤ lookI gr w st p := by
  have h1 := c.g1
  have h2 := c.w0
  have h3 : 1 * (p : Int) ≤ st * (p : Int) := Int.mul_le_mul_of_nonneg_right c.s1 (by omega)
  have h4 : 1 * (w + st * (p : Int)) ≤ gr * (w + st * (p : Int)) := Int.mul_le_mul_of_nonneg_right h1 (by omega)
  unfold lookI
  omega
theorem look_next (gr w st p : Int) : gr * (w + st * p + 1) = lookI gr w st p + gr := by
  unfold lookI
  rw [Int.mul_add, Int.mul_one]
/-- what the bounds say of a length -/
def Fits (n s : Nat) (gr w st x : Int) (p f l : Nat) : Prop := p < n ∧ ((p < n - s ∧ f = p ∧ l = p + 1) ∨ (n - s ≤ p ∧ f = n - s ∧ l = n))
theorem lo_iff {n s : Nat} {gr w st lo x : Int} (h : s + 2 ≤ n) (hs : 1 ≤ s) (m : Mx (loL n s gr w st) lo) : lo ≤ x ↔ ∀ p f l : Nat, p < n → ((p < n - s ∧ f = p ∧ l = p + 1) ∨ (n - s ≤ p ∧ f = n - s ∧ l = n)) → lookI gr w st p + gr ≤ x * l := by
  constructor
  · intro hx p f l h1 h2
    have h3 := m.2 _ ((loL_mem h).mpr ⟨p, f, l, h1, h2, rfl⟩)
    have hl : (0 : Int) < l := by omega
    have := (ceil_le hl).mp (Int.le_trans h3 hx)
    rw [look_next] at this
    exact this
  · intro hx
    obtain ⟨p, f, l, h1, h2, e⟩ := (loL_mem h).mp m.1
    have hl : (0 : Int) < l := by omega
    rw [e]
    refine (ceil_le hl).mpr ?_
    rw [look_next]
    exact hx p f l h1 h2
theorem hi_iff {n s : Nat} {gr w st hi x : Int} (h : s + 2 ≤ n) (c : Clk gr w st) (m : Mi (hiL n s gr w st) hi) : x ≤ hi ↔ ∀ p f l : Nat, p < n → ((p < n - s ∧ f = p ∧ l = p + 1) ∨ (n - s ≤ p ∧ f = n - s ∧ l = n)) → x * f ≤ lookI gr w st p := by
  constructor
  · intro hx p f l h1 h2
    by_cases hf : 0 < f
    · have h3 := m.2 _ ((hiL_mem h).mpr ⟨p, f, l, h1, h2, hf, rfl⟩)
      exact (Int.le_ediv_iff_mul_le (show (0 : Int) < f by omega)).mp (Int.le_trans hx h3)
    · obtain rfl : f = 0 := by omega
      have := c.look0 p
      rw [show ((0 : Nat) : Int) = 0 from rfl, Int.mul_zero]
      exact this
  · intro hx
    obtain ⟨p, f, l, h1, h2, hf, e⟩ := (hiL_mem h).mp m.1
    rw [e]
    exact (Int.le_ediv_iff_mul_le (show (0 : Int) < f by omega)).mpr (hx p f l h1 h2)
theorem lo_ge {n s : Nat} {gr w st lo : Int} (h : s + 2 ≤ n) (c : Clk gr w st) (m : Mx (loL n s gr w st) lo) : 1 ≤ lo := by
  have h1 := m.2 _ ((loL_mem h).mpr ⟨0, 0, 1, by omega, .inl ⟨by omega, rfl, rfl⟩, rfl⟩)
  refine Int.le_trans ((le_ceil (by decide)).mpr ?_) h1
  rw [look_next]
  have := c.look0 0
  have := c.g1
  omega
theorem hi_ge {n s : Nat} {gr w st hi : Int} (h : s + 2 ≤ n) (c : Clk gr w st) (m : Mi (hiL n s gr w st) hi) : 1 ≤ hi := by
  obtain ⟨p, f, l, h1, h2, hf, e⟩ := (hiL_mem h).mp m.1
  rw [e]
  refine (Int.le_ediv_iff_mul_le (show (0 : Int) < f by omega)).mpr ?_
  have := c.lookp p
  omega
theorem lo_ex {n s : Nat} (gr w st : Int) (h : s + 2 ≤ n) : ∃ lo, Mx (loL n s gr w st) lo := by
  refine Mx.exists fun z => ?_
  have h1 : ceilI (gr * (w + st * (0 : Nat) + 1)) (1 : Nat) ∈ loL n s gr w st := (loL_mem h).mpr ⟨0, 0, 1, by omega, .inl ⟨by omega, rfl, rfl⟩, rfl⟩
  rw [z] at h1
  cases h1
theorem hi_ex {n s : Nat} (gr w st : Int) (h : s + 2 ≤ n) : ∃ hi, Mi (hiL n s gr w st) hi := by
  refine Mi.exists fun z => ?_
  have h1 : lookI gr w st (1 : Nat) / ((1 : Nat) : Int) ∈ hiL n s gr w st := (hiL_mem h).mpr ⟨1, 1, 2, by omega, .inl ⟨by omega, rfl, rfl⟩, by omega, rfl⟩
  rw [z] at h1
  cases h1
/-- sizes -/
structure Clb (gr w st : Int) : Prop extends Clk gr w st where
  gb : gr < 1237940039285380274899124224
  wb : w < 1237940039285380274899124224
  sb : st < 1237940039285380274899124224
theorem IsRc.clb {K : PySem.W.Frag} {H : Hp} {v : V} {gr w s : Int} (h : IsRc K H v gr w s) : Clb gr w s := by
  obtain ⟨t, _, _, h1, h2, h3, h4, h5, h6⟩ := h
  exact ⟨⟨h1, h2, h3⟩, h4, h5, h6⟩
theorem Clb.sp {gr w st : Int} (c : Clb gr w st) {p : Nat} (hp : p ≤ 13) : 0 ≤ st * (p : Int) ∧ st * (p : Int) ≤ 13 * 1237940039285380274899124224 := by
  have h1 := c.s1
  have h2 := c.sb
  refine ⟨Int.mul_nonneg (by omega) (by omega), ?_⟩
  have h3 : st * (p : Int) ≤ st * 13 := Int.mul_le_mul_of_nonneg_left (by omega) (by omega)
  omega
theorem Clb.mul {gr w st x : Int} (c : Clb gr w st) (h0 : 0 ≤ x) (hx : x ≤ 20 * 1237940039285380274899124224) : 0 ≤ gr * x ∧ gr * x < 2 ^ 185 := by
  have h1 := c.g1
  have h2 := c.gb
  refine ⟨Int.mul_nonneg (by omega) (by omega), ?_⟩
  have h3 : gr * x ≤ 1237940039285380274899124224 * x := Int.mul_le_mul_of_nonneg_right (by omega) h0
  have h4 : (1237940039285380274899124224 : Int) * x ≤ 1237940039285380274899124224 * (20 * 1237940039285380274899124224) := Int.mul_le_mul_of_nonneg_left hx (by decide)
  have h5 : (1237940039285380274899124224 : Int) * (20 * 1237940039285380274899124224) < 2 ^ 185 := by decide
  omega
theorem Clb.look {gr w st : Int} (c : Clb gr w st) {p : Nat} (hp : p ≤ 13) : 0 ≤ lookI gr w st p ∧ lookI gr w st p < 2 ^ 185 := by
  have h1 := c.sp hp
  have h2 := c.w0
  have h3 := c.wb
  exact c.mul (by omega) (by omega)
theorem lo_lt {n s : Nat} {gr w st lo : Int} (h : s + 2 ≤ n ∧ n ≤ 13) (c : Clb gr w st) (m : Mx (loL n s gr w st) lo) : lo < 2 ^ 186 := by
  obtain ⟨p, f, l, h1, h2, e⟩ := (loL_mem h.1).mp m.1
  rw [e, look_next]
  have h3 := c.look (p := p) (by omega)
  have h4 := c.g1
  have h5 := c.gb
  have h6 := (ceil_bd (x := lookI gr w st p + gr) (show (0 : Int) < l by omega) (by omega)).2
  have h7 : (2 : Int) ^ 186 = 2 ^ 185 + 2 ^ 185 := by decide
  have h8 : (1237940039285380274899124224 : Int) < 2 ^ 185 := by decide
  omega
theorem hi_lt {n s : Nat} {gr w st hi : Int} (h : s + 2 ≤ n ∧ n ≤ 13) (c : Clb gr w st) (m : Mi (hiL n s gr w st) hi) : hi < 2 ^ 185 := by
  obtain ⟨p, f, l, h1, h2, hf, e⟩ := (hiL_mem h.1).mp m.1
  rw [e]
  have h3 := c.look (p := p) (by omega)
  have h4 : lookI gr w st p / (f : Int) ≤ lookI gr w st p := Int.ediv_le_self _ h3.1
  omega
/-- an offset's looks lie in their windows -/
def goodB (rs : List (List Int)) (gr w st x off : Int) : Bool := rs.all (r3 (fun p f l => decide (x * f ≤ off + gr * (w + st * p)) && decide (off + gr * (w + st * p) < x * l)) true)
theorem good_iff {n s : Nat} {gr w st x off : Int} (h : s + 2 ≤ n) : goodB (win n s) gr w st x off = true ↔ ∀ p f l : Nat, p < n → ((p < n - s ∧ f = p ∧ l = p + 1) ∨ (n - s ≤ p ∧ f = n - s ∧ l = n)) → x * f ≤ off + lookI gr w st p ∧ off + lookI gr w st p < x * l := by
  unfold goodB
  rw [List.all_eq_true]
  constructor
  · intro hx p f l h1 h2
    have := hx _ ((win_mem h).mpr ⟨p, f, l, rfl, h1, h2⟩)
    rw [r3_mk, Bool.and_eq_true, decide_eq_true_eq, decide_eq_true_eq] at this
    exact this
  · intro hx r hr
    obtain ⟨p, f, l, rfl, h1, h2⟩ := (win_mem h).mp hr
    rw [r3_mk, Bool.and_eq_true, decide_eq_true_eq, decide_eq_true_eq]
    exact hx p f l h1 h2
/-- all offsets are good just for the lengths between the bounds -/
theorem fine_iff {n s : Nat} {gr w st lo hi x : Int} (h : s + 2 ≤ n) (hs : 1 ≤ s) (c : Clk gr w st) (m : Mx (loL n s gr w st) lo) (m' : Mi (hiL n s gr w st) hi) :
    (∀ i : Nat, (i : Int) < gr → goodB (win n s) gr w st x (i : Int) = true) ↔ lo ≤ x ∧ x ≤ hi := by
  rw [lo_iff h hs m, hi_iff h c m']
  have g1 := c.g1
  constructor
  · intro hx
    constructor
    · intro p f l h1 h2
      have := ((good_iff h).mp (hx (gr - 1).toNat (by omega)) p f l h1 h2).2
      omega
    · intro p f l h1 h2
      have := ((good_iff h).mp (hx 0 (by omega)) p f l h1 h2).1
      omega
  · intro ⟨ha, hb⟩ i hi
    refine (good_iff h).mpr fun p f l h1 h2 => ?_
    have := ha p f l h1 h2
    have := hb p f l h1 h2
    omega
/-! the numbers of a stretch among those from 1 on -/
theorem given_between (lo hi : Int) : ∀ m : Nat, 1 ≤ lo → (List.range m).filterMap (fun i : Nat => if lo ≤ 1 + (i : Int) ∧ 1 + (i : Int) ≤ hi then some (1 + (i : Int)) else none) = (List.range (min (m : Int) hi - lo + 1).toNat).map fun i : Nat => lo + (i : Int)
  | 0, h => by
    have : (min ((0 : Nat) : Int) hi - lo + 1).toNat = 0 := by omega
    rw [this]
    rfl
  | m + 1, h => by
    rw [range_fm_succ, given_between lo hi m h]
    by_cases h1 : lo ≤ 1 + (m : Int) ∧ 1 + (m : Int) ≤ hi
    · rw [if_pos h1]
      have e : (min ((m + 1 : Nat) : Int) hi - lo + 1).toNat = (min (m : Int) hi - lo + 1).toNat + 1 := by omega
      rw [e, List.range_succ, List.map_append]
      congr 1
      show [1 + (m : Int)] = [lo + _]
      congr 1
      omega
    · rw [if_neg h1]
      have e : (min ((m + 1 : Nat) : Int) hi - lo + 1).toNat = (min (m : Int) hi - lo + 1).toNat := by omega
      rw [e, List.append_nil]
theorem str_ne_iff (x y : Str) : (!decide (V.str x = V.str y)) = !decide (x = y) := by
  congr 1
  exact decide_eq_decide.mpr ⟨fun h => by injection h, fun h => by rw [h]⟩
end SB
namespace SB
theorem win_three {n s : Nat} {r : List Int} (h : r ∈ win n s) : ∃ p f l : Int, r = [p, f, l] := by
  unfold win at h
  rw [List.mem_append, List.mem_map, List.mem_map] at h
  rcases h with ⟨i, hi, rfl⟩ | ⟨i, hi, rfl⟩
  · exact ⟨_, _, _, rfl⟩
  · exact ⟨_, _, _, rfl⟩
end SB
namespace SB
open PySem PySem.Spec PyProof.Rows L2 Evl
theorem inV_ints (x : Int) (ns : List Int) : inV (.int x) (ns.map V.int) = decide (x ∈ ns) := by
  unfold inV
  rw [List.any_map]
  induction ns with
  | nil => rfl
  | cons n ns ih =>
    rw [List.any_cons, ih]
    have e : ((fun y => eqV y (.int x)) ∘ V.int) n = decide (n = x) := rfl
    rw [e]
    by_cases h : n = x
    · subst h
      simp
    · have h' : ¬ x = n := fun z => h z.symm
      simp [h, h', List.mem_cons]
theorem flat_ints (ns : List Int) : (ns.map V.int).all flatV = true := by
  rw [List.all_map, List.all_eq_true]
  intro x _
  rfl
theorem eqv_nil (ns : List Int) : PyData.eqv (.list (dI ns)) (.list []) = ns.isEmpty := by
  cases ns with
  | nil => decide +kernel
  | cons n ns => rfl
/-! None, or a tuple of whole numbers -/
def optT (lo hi : Int) : Option (List Int) := if lo ≤ hi then some [lo, hi] else none
def IsO (K : PySem.W.Frag) (H : Hp) (v : V) : Option (List Int) → Prop
  | none => v = .non
  | some r => RT K H v r
theorem IsO.ex {K : PySem.W.Frag} {H H' : Hp} {v : V} {o : Option (List Int)} (e : Ex H H') (h : IsO K H v o) : IsO K H' v o := by
  cases o with
  | none => exact h
  | some r => exact RT.lasts.ex e h
theorem IsO.kp {K : PySem.W.Frag} {H H' : Hp} {v : V} {o : Option (List Int)} {a : Addr} {ys : List V} (e : Kp a H H') (ha : H a = some (.lst ys)) (h : IsO K H v o) : IsO K H' v o := by
  cases o with
  | none => exact h
  | some r => exact RT.lasts.kp e ha h
def optD : Option (List Int) → PyData
  | none => .none
  | some r => .tuple (dI r)
theorem IsO.dp {K : PySem.W.Frag} {H : Hp} {v : V} {o : Option (List Int)} (h : IsO K H v o) : Dp K H v (optD o) := by
  cases o with
  | none =>
    cases (show v = .non from h)
    exact .non
  | some r =>
    obtain ⟨t, rfl, ht⟩ := h
    exact .tup ht (dp_ints r)
def Ok200 (o : Option (List Int)) : Prop := ∀ r, o = some r → r.length ≤ 10 ∧ ∀ y ∈ r, y.natAbs < 2 ^ 200
theorem show_opt {o : Option (List Int)} (h : Ok200 o) : (optD o).showable = true ∧ (optD o).hasDict = false ∧ (optD o).depth ≤ 60 ∧ (optD o).shown.length ≤ sizeLine := by
  cases o with
  | none => exact ⟨rfl, rfl, Nat.zero_le _, by decide +kernel⟩
  | some r =>
    obtain ⟨h1, h2⟩ := h r rfl
    exact show_tup h2 (by omega)
theorem rp_opt {K : PySem.W.Frag} {H : Hp} {v : V} {o : Option (List Int)} {Q : VK} (h : IsO K H v o) (k : Ok200 o) (q : Q (.str (optD o).shown) H) : rRp K [v] H Q := by
  obtain ⟨h1, h2, h3, h4⟩ := show_opt k
  exact ⟨_, _, rfl, h.dp, h1, h2, h3, h4, q⟩
theorem ok_optT {lo hi : Int} (h1 : lo.natAbs < 2 ^ 200) (h2 : hi.natAbs < 2 ^ 200) : Ok200 (optT lo hi) := by
  intro r hr
  unfold optT at hr
  split at hr
  · cases hr
    refine ⟨by show 2 ≤ 10; omega, fun y hy => ?_⟩
    rcases List.mem_cons.mp hy with rfl | hy
    · exact h1
    · rw [List.mem_singleton.mp hy]
      exact h2
  · cases hr
theorem stretch_at {lo hi : Int} (h : lo ≤ hi) : ((List.range (hi - lo + 1).toNat).map fun i : Nat => lo + (i : Int)) = lo :: ((List.range (hi - lo).toNat).map fun i : Nat => lo + 1 + (i : Int)) := by
  have e : (hi - lo + 1).toNat = (hi - lo).toNat + 1 := by omega
  rw [e, List.range_succ_eq_map, List.map_cons, List.map_map]
  congr 1
  · simp
  · refine List.map_congr_left fun i _ => ?_
    show lo + ((i + 1 : Nat) : Int) = lo + 1 + (i : Int)
    omega
theorem stretch_end {lo hi : Int} (h : lo ≤ hi) : ((List.range (hi - lo + 1).toNat).map fun i : Nat => lo + (i : Int)) = ((List.range (hi - lo).toNat).map fun i : Nat => lo + (i : Int)) ++ [hi] := by
  have e : (hi - lo + 1).toNat = (hi - lo).toNat + 1 := by omega
  rw [e, List.range_succ, List.map_append]
  congr 1
  show [lo + (((hi - lo).toNat : Nat) : Int)] = [hi]
  congr 1
  omega
theorem stretch_mem {lo hi x : Int} : x ∈ ((List.range (hi - lo + 1).toNat).map fun i : Nat => lo + (i : Int)) ↔ lo ≤ x ∧ x ≤ hi := by
  rw [List.mem_map]
  constructor
  · rintro ⟨i, hi, rfl⟩
    have := List.mem_range.mp hi
    omega
  · intro h
    exact ⟨(x - lo).toNat, List.mem_range.mpr (by omega), by omega⟩
theorem stretch_nil {lo hi : Int} (h : ¬ lo ≤ hi) : ((List.range (hi - lo + 1).toNat).map fun i : Nat => lo + (i : Int)) = [] := by
  have e : (hi - lo + 1).toNat = 0 := by omega
  rw [e]
  rfl
end SB
namespace SB
open PySem PySem.Spec PyProof.Rows L2 Evl
/-! good offsets -/
def gdL (n s : Nat) (gr w st x : Int) : List Int := (win n s).map (r3 (fun p f _ => f * x - gr * (w + st * p)) 0)
def gdH (n s : Nat) (gr w st x : Int) : List Int := (win n s).map (r3 (fun p _ l => l * x - 1 - gr * (w + st * p)) 0)
theorem gdL_pos {n s : Nat} {gr w st x : Int} (h : s + 2 ≤ n) : 0 < (gdL n s gr w st x).length := by
  unfold gdL
  rw [List.length_map, win_len (by omega)]
  omega
theorem gdH_pos {n s : Nat} {gr w st x : Int} (h : s + 2 ≤ n) : 0 < (gdH n s gr w st x).length := by
  unfold gdH
  rw [List.length_map, win_len (by omega)]
  omega
theorem Mx.cons {a m k : Int} {L : List Int} (h : Mx (a :: L) k) (h' : Mx L m) : k = if a > m then a else m := by
  refine h.uniq ?_
  by_cases c : a > m
  · rw [if_pos c]
    refine ⟨List.mem_cons_self .., fun y hy => ?_⟩
    rcases List.mem_cons.mp hy with rfl | hy
    · exact Int.le_refl _
    · have := h'.2 y hy
      omega
  · rw [if_neg c]
    refine ⟨List.mem_cons_of_mem _ h'.1, fun y hy => ?_⟩
    rcases List.mem_cons.mp hy with rfl | hy
    · omega
    · exact h'.2 y hy
theorem Mi.cons {a m k : Int} {L : List Int} (h : Mi (a :: L) k) (h' : Mi L m) : k = if a < m then a else m := by
  refine h.uniq ?_
  by_cases c : a < m
  · rw [if_pos c]
    refine ⟨List.mem_cons_self .., fun y hy => ?_⟩
    rcases List.mem_cons.mp hy with rfl | hy
    · exact Int.le_refl _
    · have := h'.2 y hy
      omega
  · rw [if_neg c]
    refine ⟨List.mem_cons_of_mem _ h'.1, fun y hy => ?_⟩
    rcases List.mem_cons.mp hy with rfl | hy
    · omega
    · exact h'.2 y hy
/-- an offset is good just between the bounds -/
theorem gd_iff {n s : Nat} {gr w st x lo hi off : Int} (m1 : Mx (0 :: gdL n s gr w st x) lo) (m2 : Mi ((gr - 1) :: gdH n s gr w st x) hi) (h0 : 0 ≤ off) (h1 : off < gr) : goodB (win n s) gr w st x off = true ↔ lo ≤ off ∧ off ≤ hi := by
  unfold goodB
  rw [List.all_eq_true]
  constructor
  · intro hx
    constructor
    · rcases List.mem_cons.mp m1.1 with h | h
      · omega
      · unfold gdL at h
        obtain ⟨r, hr, e⟩ := List.mem_map.mp h
        obtain ⟨p, f, l, rfl⟩ := win_three hr
        have := hx _ hr
        rw [r3_mk, Bool.and_eq_true, decide_eq_true_eq, decide_eq_true_eq] at this
        rw [r3_mk, Int.mul_comm f x] at e
        omega
    · rcases List.mem_cons.mp m2.1 with h | h
      · omega
      · unfold gdH at h
        obtain ⟨r, hr, e⟩ := List.mem_map.mp h
        obtain ⟨p, f, l, rfl⟩ := win_three hr
        have := hx _ hr
        rw [r3_mk, Bool.and_eq_true, decide_eq_true_eq, decide_eq_true_eq] at this
        rw [r3_mk, Int.mul_comm l x] at e
        omega
  · intro ⟨ha, hb⟩ r hr
    obtain ⟨p, f, l, rfl⟩ := win_three hr
    have a1 := m1.2 _ (List.mem_cons_of_mem _ (List.mem_map.mpr ⟨_, hr, rfl⟩))
    have a2 := m2.2 _ (List.mem_cons_of_mem _ (List.mem_map.mpr ⟨_, hr, rfl⟩))
    rw [r3_mk, Int.mul_comm f x] at a1
    rw [r3_mk, Int.mul_comm l x] at a2
    rw [r3_mk, Bool.and_eq_true, decide_eq_true_eq, decide_eq_true_eq]
    omega
end SB
namespace SB
open PySem PySem.Spec PyProof.Rows L2 Evl
theorem sh_int {i : Int} (h : i.natAbs < 2 ^ 200) : (PyData.int i).showable = true ∧ (PyData.int i).shown.length ≤ sizeLine := by
  have hl : i.natAbs.log2 < 200 := int_log (by decide) h
  have ht : (Str.ofString (toString i)).length ≤ 201 := by
    rw [PySem.ofString_length]
    exact int_text_length_le (k := 200) (by decide) hl
  refine ⟨?_, ?_⟩
  · simp only [PyData.showable, decide_eq_true_eq]
    omega
  · show (Str.ofString (toString i)).length ≤ sizeLine
    rw [sizeLine_eq]
    omega
theorem nat_abs_lt {x : Int} {k : Nat} (h0 : 0 ≤ x) (h1 : x < 2 ^ k) : x.natAbs < 2 ^ k := by
  have e : (2 : Int) ^ k = ((2 ^ k : Nat) : Int) := by norm_cast
  omega
theorem emod_small {i g : Int} (h : 1 ≤ g) (hg : g < 1237940039285380274899124224) : (i % g).natAbs < 2 ^ 200 := by
  have h1 := Int.emod_nonneg i (show g ≠ 0 by omega)
  have h2 := Int.emod_lt_of_pos i (show 0 < g by omega)
  omega
end SB
namespace SB
open PySem PySem.Spec PyProof.Rows L2 Evl
theorem given_from (c lo hi : Int) : ∀ m : Nat, c ≤ lo → (List.range m).filterMap (fun i : Nat => if lo ≤ c + (i : Int) ∧ c + (i : Int) ≤ hi then some (c + (i : Int)) else none) = (List.range (min (c + (m : Int) - 1) hi - lo + 1).toNat).map fun i : Nat => lo + (i : Int)
  | 0, h => by
    have : (min (c + ((0 : Nat) : Int) - 1) hi - lo + 1).toNat = 0 := by omega
    rw [this]
    rfl
  | m + 1, h => by
    rw [range_fm_succ, given_from c lo hi m h]
    by_cases h1 : lo ≤ c + (m : Int) ∧ c + (m : Int) ≤ hi
    · rw [if_pos h1]
      have e : (min (c + ((m + 1 : Nat) : Int) - 1) hi - lo + 1).toNat = (min (c + (m : Int) - 1) hi - lo + 1).toNat + 1 := by omega
      rw [e, List.range_succ, List.map_append]
      congr 1
      show [c + (m : Int)] = [lo + _]
      congr 1
      omega
    · rw [if_neg h1]
      have e : (min (c + ((m + 1 : Nat) : Int) - 1) hi - lo + 1).toNat = (min (c + (m : Int) - 1) hi - lo + 1).toNat := by omega
      rw [e, List.append_nil]
theorem rgV_stretch (lo hi : Int) : rgV lo (hi + 1) = ((List.range (hi - lo + 1).toNat).map fun i : Nat => lo + (i : Int)).map V.int := by
  unfold rgV
  rw [List.map_map, show hi + 1 - lo = hi - lo + 1 by omega]
  rfl
theorem gd_ex {n s : Nat} (gr w st x : Int) : (∃ lo, Mx (0 :: gdL n s gr w st x) lo) ∧ ∃ hi, Mi ((gr - 1) :: gdH n s gr w st x) hi :=
  ⟨Mx.exists (by simp), Mi.exists (by simp)⟩
theorem gd_bd {n s : Nat} {gr w st x lo hi : Int} (h : s + 2 ≤ n ∧ n ≤ 13) (c : Clb gr w st) (x1 : 1 ≤ x) (x2 : x < 2 ^ 190) (m1 : Mx (0 :: gdL n s gr w st x) lo) (m2 : Mi ((gr - 1) :: gdH n s gr w st x) hi) :
    0 ≤ lo ∧ hi ≤ gr - 1 ∧ lo.natAbs < 2 ^ 200 ∧ hi.natAbs < 2 ^ 200 := by
  have l0 := m1.2 0 (List.mem_cons_self ..)
  have h0 := m2.2 (gr - 1) (List.mem_cons_self ..)
  have g1 := c.g1
  have gb := c.gb
  have p1 : (2 : Int) ^ 200 = ((2 ^ 200 : Nat) : Int) := by norm_cast
  have p2 : (13 : Int) * 2 ^ 190 + 2 ^ 185 < 2 ^ 200 := by decide
  have p3 : (1237940039285380274899124224 : Int) < 2 ^ 185 := by decide
  refine ⟨l0, h0, ?_, ?_⟩
  · rcases List.mem_cons.mp m1.1 with e | e
    · rw [e]
      decide
    · obtain ⟨r, hr, e⟩ := List.mem_map.mp e
      obtain ⟨p, f, l, rfl, h1, h2⟩ := (win_mem h.1).mp hr
      rw [r3_mk] at e
      have lk := c.look (p := p) (by omega)
      have e2 : lookI gr w st p = gr * (w + st * (p : Int)) := rfl
      have fx : (f : Int) * x ≤ 13 * x := Int.mul_le_mul_of_nonneg_right (by omega) (by omega)
      omega
  · rcases List.mem_cons.mp m2.1 with e | e
    · omega
    · obtain ⟨r, hr, e⟩ := List.mem_map.mp e
      obtain ⟨p, f, l, rfl, h1, h2⟩ := (win_mem h.1).mp hr
      rw [r3_mk] at e
      have lk := c.look (p := p) (by omega)
      have e2 : lookI gr w st p = gr * (w + st * (p : Int)) := rfl
      have fx : 0 ≤ (l : Int) * x := Int.mul_nonneg (by omega) (by omega)
      omega
end SB
namespace LW
open PySem PySem.Spec PyProof.Rows L2 Evl SB
def topS (i : Nat) : Stmt := PySem.Challenge.pw_startbits_k21_offsets.main.body.getD i (.Pass ⟨0, 0, 0, 0⟩)
abbrev s_is_int : Stmt := topS 11
abbrev s_is_int_from : Stmt := topS 12
abbrev s_is_int_between : Stmt := topS 13
abbrev s_is_parity : Stmt := topS 14
abbrev s_check_shape : Stmt := topS 15
abbrev s_check_int_from : Stmt := topS 16
abbrev s_check_length : Stmt := topS 17
abbrev s_check_receiver : Stmt := topS 18
abbrev s_check_first_phase : Stmt := topS 19
abbrev s_check_speed : Stmt := topS 20
abbrev s_size_of : Stmt := topS 22
abbrev s_windows_of : Stmt := topS 24
abbrev s_stretch : Stmt := topS 25
abbrev s_good_stretch : Stmt := topS 26
abbrev s_offset_of : Stmt := topS 28
abbrev s_good_offsets : Stmt := topS 29
abbrev s_check_text_at : Stmt := topS 30
abbrev s_offset_at : Stmt := topS 31
abbrev s_law_pool : Stmt := topS 33
abbrev s_law_draw : Stmt := topS 34
abbrev s_law_form : Stmt := topS 35
abbrev s_law_size : Stmt := topS 36
abbrev s_law_clock : Stmt := topS 37
abbrev s_law_rows : Stmt := topS 38
abbrev s_law_is_good : Stmt := topS 39
abbrev s_law_bounds : Stmt := topS 40
abbrev s_law_span : Stmt := topS 41
abbrev s_law_good : Stmt := topS 42
abbrev s_law_walked : Stmt := topS 43
abbrev s_law_offsets_right : Stmt := topS 44
abbrev s_law_ends_right : Stmt := topS 45
abbrev s_law_small : Stmt := topS 46
abbrev s_law : Stmt := topS 47
theorem sc_is_int : FnScope ["value"] ["value"] (defScope s_is_int) := ⟨rfl, rfl, rfl, by decide +kernel, rfl, by decide +kernel, by decide +kernel⟩
theorem sc_is_int_from : FnScope ["least", "value"] ["least", "value"] (defScope s_is_int_from) := ⟨rfl, rfl, rfl, by decide +kernel, rfl, by decide +kernel, by decide +kernel⟩
theorem sc_is_int_between : FnScope ["least", "most", "value"] ["least", "most", "value"] (defScope s_is_int_between) := ⟨rfl, rfl, rfl, by decide +kernel, rfl, by decide +kernel, by decide +kernel⟩
theorem sc_is_parity : FnScope ["value"] ["value"] (defScope s_is_parity) := ⟨rfl, rfl, rfl, by decide +kernel, rfl, by decide +kernel, by decide +kernel⟩
theorem sc_check_shape : FnScope ["shape", "bits", "parity", "stops"] ["shape"] (defScope s_check_shape) := ⟨rfl, rfl, rfl, by decide +kernel, rfl, by decide +kernel, by decide +kernel⟩
theorem sc_check_int_from : FnScope ["least", "number"] ["least", "number"] (defScope s_check_int_from) := ⟨rfl, rfl, rfl, by decide +kernel, rfl, by decide +kernel, by decide +kernel⟩
theorem sc_check_length : FnScope ["length"] ["length"] (defScope s_check_length) := ⟨rfl, rfl, rfl, by decide +kernel, rfl, by decide +kernel, by decide +kernel⟩
theorem sc_check_receiver : FnScope ["receiver", "grain", "wait", "step"] ["receiver"] (defScope s_check_receiver) := ⟨rfl, rfl, rfl, by decide +kernel, rfl, by decide +kernel, by decide +kernel⟩
theorem sc_check_first_phase : FnScope ["receiver", "phase"] ["receiver", "phase"] (defScope s_check_first_phase) := ⟨rfl, rfl, rfl, by decide +kernel, rfl, by decide +kernel, by decide +kernel⟩
theorem sc_check_speed : FnScope ["shape", "receiver", "length"] ["shape", "receiver", "length"] (defScope s_check_speed) := ⟨rfl, rfl, rfl, by decide +kernel, rfl, by decide +kernel, by decide +kernel⟩
theorem sc_size_of : FnScope ["shape", "bits", "parity", "stops", "parity_bits"] ["shape"] (defScope s_size_of) := ⟨rfl, rfl, rfl, by decide +kernel, rfl, by decide +kernel, by decide +kernel⟩
theorem sc_windows_of : FnScope ["shape", "size", "first_stop", "stops", "place"] ["shape"] (defScope s_windows_of) := ⟨rfl, rfl, rfl, by decide +kernel, rfl, by decide +kernel, by decide +kernel⟩
theorem sc_stretch : FnScope ["least", "greatest"] ["least", "greatest"] (defScope s_stretch) := ⟨rfl, rfl, rfl, by decide +kernel, rfl, by decide +kernel, by decide +kernel⟩
theorem sc_good_stretch : FnScope ["shape", "receiver", "length", "grain", "wait", "step", "windows", "least", "greatest", "place", "first", "behind", "_", "behind_start"] ["shape", "receiver", "length"] (defScope s_good_stretch) := ⟨rfl, rfl, rfl, by decide +kernel, rfl, by decide +kernel, by decide +kernel⟩
theorem sc_offset_of : FnScope ["shape", "receiver", "length", "phase", "index"] ["shape", "receiver", "length", "phase", "index"] (defScope s_offset_of) := ⟨rfl, rfl, rfl, by decide +kernel, rfl, by decide +kernel, by decide +kernel⟩
theorem sc_good_offsets : FnScope ["shape", "receiver", "length"] ["shape", "receiver", "length"] (defScope s_good_offsets) := ⟨rfl, rfl, rfl, by decide +kernel, rfl, by decide +kernel, by decide +kernel⟩
theorem sc_check_text_at : FnScope ["shape", "receiver", "length", "phase"] ["shape", "receiver", "length", "phase"] (defScope s_check_text_at) := ⟨rfl, rfl, rfl, by decide +kernel, rfl, by decide +kernel, by decide +kernel⟩
theorem sc_offset_at : FnScope ["shape", "receiver", "length", "phase", "index"] ["shape", "receiver", "length", "phase", "index"] (defScope s_offset_at) := ⟨rfl, rfl, rfl, by decide +kernel, rfl, by decide +kernel, by decide +kernel⟩
theorem sc_law_pool : FnScope ["_law_script", "_law_at", "_law_cell"] ["_law_script", "_law_at"] (defScope s_law_pool) := ⟨rfl, rfl, rfl, by decide +kernel, rfl, by decide +kernel, by decide +kernel⟩
theorem sc_law_draw : FnScope ["_law_pool_here", "_law_top", "_law_drawn", "_law_mixed"] ["_law_pool_here", "_law_top"] (defScope s_law_draw) := ⟨rfl, rfl, rfl, by decide +kernel, rfl, by decide +kernel, by decide +kernel⟩
theorem sc_law_form : FnScope ["_law_pool_here", "_law_top"] ["_law_pool_here", "_law_top"] (defScope s_law_form) := ⟨rfl, rfl, rfl, by decide +kernel, rfl, by decide +kernel, by decide +kernel⟩
theorem sc_law_size : FnScope ["_law_form_here"] ["_law_form_here"] (defScope s_law_size) := ⟨rfl, rfl, rfl, by decide +kernel, rfl, by decide +kernel, by decide +kernel⟩
theorem sc_law_clock : FnScope ["_law_pool_here", "_law_top", "_law_more", "_law_stride", "_law_pauses"] ["_law_pool_here", "_law_top", "_law_more"] (defScope s_law_clock) := ⟨rfl, rfl, rfl, by decide +kernel, rfl, by decide +kernel, by decide +kernel⟩
theorem sc_law_rows : FnScope ["_law_form_here", "_law_size_here", "_law_stop", "_law_rows_here", "_law_place"] ["_law_form_here"] (defScope s_law_rows) := ⟨rfl, rfl, rfl, by decide +kernel, rfl, by decide +kernel, by decide +kernel⟩
theorem sc_law_is_good : FnScope ["_law_form_here", "_law_clock_here", "_law_span_here", "_law_offset", "_law_place", "_law_first", "_law_last", "_law_look"] ["_law_form_here", "_law_clock_here", "_law_span_here", "_law_offset"] (defScope s_law_is_good) := ⟨rfl, rfl, rfl, by decide +kernel, rfl, by decide +kernel, by decide +kernel⟩
theorem sc_law_bounds : FnScope ["_law_form_here", "_law_clock_here", "_law_grid", "_law_pause", "_law_stride", "_law_least", "_law_greatest", "_law_place", "_law_first", "_law_last", "_law_look"] ["_law_form_here", "_law_clock_here"] (defScope s_law_bounds) := ⟨rfl, rfl, rfl, by decide +kernel, rfl, by decide +kernel, by decide +kernel⟩
theorem sc_law_span : FnScope ["_law_pool_here", "_law_form_here", "_law_clock_here", "_law_least", "_law_greatest", "_law_low", "_law_high", "_law_near", "_law_spans"] ["_law_pool_here", "_law_form_here", "_law_clock_here"] (defScope s_law_span) := ⟨rfl, rfl, rfl, by decide +kernel, rfl, by decide +kernel, by decide +kernel⟩
theorem sc_law_good : FnScope ["_law_form_here", "_law_clock_here", "_law_span_here", "_law_low", "_law_high", "_law_place", "_law_first", "_law_last", "_law_look"] ["_law_form_here", "_law_clock_here", "_law_span_here"] (defScope s_law_good) := ⟨rfl, rfl, rfl, by decide +kernel, rfl, by decide +kernel, by decide +kernel⟩
theorem sc_law_walked : FnScope ["_law_grid", "_law_start", "_law_begin", "_law_look"] ["_law_grid", "_law_start", "_law_begin"] (defScope s_law_walked) := ⟨rfl, rfl, rfl, by decide +kernel, rfl, by decide +kernel, by decide +kernel⟩
theorem sc_law_offsets_right : FnScope ["_law_pool_here", "_law_form_here", "_law_clock_here", "_law_span_here", "_law_is_small", "_law_grid", "_law_unit", "_law_start", "_law_spots", "_law_spot", "_law_due"] ["_law_pool_here", "_law_form_here", "_law_clock_here", "_law_span_here", "_law_is_small"] (defScope s_law_offsets_right) := ⟨rfl, rfl, rfl, by decide +kernel, rfl, by decide +kernel, by decide +kernel⟩
theorem sc_law_ends_right : FnScope ["_law_form_here", "_law_clock_here", "_law_span_here", "_law_low", "_law_high", "_law_due"] ["_law_form_here", "_law_clock_here", "_law_span_here"] (defScope s_law_ends_right) := ⟨rfl, rfl, rfl, by decide +kernel, rfl, by decide +kernel, by decide +kernel⟩
theorem sc_law_small : FnScope ["_law_pool_here", "_law_form_here", "_law_clock_here", "_law_span_here", "_law_good_here", "_law_due", "_law_offset"] ["_law_pool_here"] (defScope s_law_small) := ⟨rfl, rfl, rfl, by decide +kernel, rfl, by decide +kernel, by decide +kernel⟩
theorem sc_law : FnScope ["_law_script", "_law_at", "_law_pool_here", "_law_turn", "_law_top", "_law_more", "_law_form_here", "_law_clock_here", "_law_span_here", "_law_rows_here"] ["_law_script"] (defScope s_law) := ⟨rfl, rfl, rfl, by decide +kernel, rfl, by decide +kernel, by decide +kernel⟩
structure Tx (K : PySem.W.Frag) (mg : Str → Option Value) : Prop where
  b_abs : mg "abs" = none
  b_bool : mg "bool" = none
  b_int : mg "int" = none
  b_isinstance : mg "isinstance" = none
  b_len : mg "len" = none
  b_list : mg "list" = none
  b_max : mg "max" = none
  b_min : mg "min" = none
  b_range : mg "range" = none
  b_repr : mg "repr" = none
  b_str : mg "str" = none
  b_tuple : mg "tuple" = none
  t_PARITIES : mg "PARITIES" = some (.ref (He.ga K "PARITIES"))
  v_PARITIES : ∀ H, SqT K H (He.ga K "PARITIES") [.str "none", .str "even", .str "odd"]
  i_MOST_BITS : GInt mg "MOST_BITS" 9
  i_MOST_STOPS : GInt mg "MOST_STOPS" 2
  d_is_int : Df K mg "is_int" s_is_int
  d_is_int_from : Df K mg "is_int_from" s_is_int_from
  d_is_int_between : Df K mg "is_int_between" s_is_int_between
  d_is_parity : Df K mg "is_parity" s_is_parity
  d_check_shape : Df K mg "check_shape" s_check_shape
  d_check_int_from : Df K mg "check_int_from" s_check_int_from
  d_check_length : Df K mg "check_length" s_check_length
  d_check_receiver : Df K mg "check_receiver" s_check_receiver
  d_check_first_phase : Df K mg "check_first_phase" s_check_first_phase
  d_check_speed : Df K mg "check_speed" s_check_speed
  d_size_of : Df K mg "size_of" s_size_of
  d_windows_of : Df K mg "windows_of" s_windows_of
  d_stretch : Df K mg "stretch" s_stretch
  d_good_stretch : Df K mg "good_stretch" s_good_stretch
  d_offset_of : Df K mg "offset_of" s_offset_of
  d_good_offsets : Df K mg "good_offsets" s_good_offsets
  d_check_text_at : Df K mg "_check_text_at" s_check_text_at
  d_offset_at : Df K mg "_offset_at" s_offset_at
  d_law_pool : Df K mg "_law_pool" s_law_pool
  d_law_draw : Df K mg "_law_draw" s_law_draw
  d_law_form : Df K mg "_law_form" s_law_form
  d_law_size : Df K mg "_law_size" s_law_size
  d_law_clock : Df K mg "_law_clock" s_law_clock
  d_law_rows : Df K mg "_law_rows" s_law_rows
  d_law_is_good : Df K mg "_law_is_good" s_law_is_good
  d_law_bounds : Df K mg "_law_bounds" s_law_bounds
  d_law_span : Df K mg "_law_span" s_law_span
  d_law_good : Df K mg "_law_good" s_law_good
  d_law_walked : Df K mg "_law_walked" s_law_walked
  d_law_offsets_right : Df K mg "_law_offsets_right" s_law_offsets_right
  d_law_ends_right : Df K mg "_law_ends_right" s_law_ends_right
  d_law_small : Df K mg "_law_small" s_law_small
  d_law : Df K mg "law" s_law
section
variable {P : Program} {w : World} {K : PySem.W.Frag} {mg : Str → Option Value} {base : Heap}
def sp_is_int (K : PySem.W.Frag) : Sp := fun vs H Q _ => ∃ v n, vs = [v] ∧ TyN K H v n ∧ Q (.bl (decide (n = "int"))) H
theorem cal_is_int (T : Tx K mg) : Cal P w K mg base CX0 1 "is_int" ["value"] (sp_is_int K) := by
  refine T.d_is_int.cal sc_is_int (fun vs H Q E h => ?_) (fun _ _ _ _ _ _ us hl => match us, hl with | [_], _ => rfl) (fun f cdv A outer s H vs Q E hr h => ⟨_, (pss_one (ps_ret (pe_and (pe_callB call_isi (by rfl) T.b_isinstance (by decide +kernel) (pa_cons (pv 0) (pa_cons (pe_bltn (v := .ty "int") (by rfl) T.b_int (by decide +kernel) rfl) pa_nil))) (pe_one (pe_not (pe_callB call_isi (by rfl) T.b_isinstance (by decide +kernel) (pa_cons (pv 0) (pa_cons (pe_bltn (v := .ty "bool") (by rfl) T.b_bool (by decide +kernel) rfl) pa_nil)))))))), ?_⟩)
  · obtain ⟨v, n, rfl, _⟩ := h
    rfl
  · obtain ⟨v, n, rfl, ty, q⟩ := h
    refine ⟨v, rfl, v, .ty "int", _, _, _, rfl, .ty _, ty.x, ty.kit (.inl rfl), _, rfl, ?_⟩
    cases ty with
    | int i => exact ⟨_, rfl, _, .ty "bool", _, _, _, rfl, .ty _, (TyN.int i : TyN K H _ _).x, (TyN.int i : TyN K H _ _).kit (.inr (.inl rfl)), _, rfl, q⟩
    | bl b => exact ⟨_, rfl, _, .ty "bool", _, _, _, rfl, .ty _, (TyN.bl b : TyN K H _ _).x, (TyN.bl b : TyN K H _ _).kit (.inr (.inl rfl)), _, rfl, q⟩
    | _ => exact q
def sp_between (K : PySem.W.Frag) : Sp := fun vs H Q _ => ∃ lo hi v n, vs = [.int lo, .int hi, v] ∧ TyN K H v n ∧
  ∀ b : Bool, (∀ i, v = .int i → b = decide (lo ≤ i ∧ i ≤ hi)) → (n ≠ "int" → b = false) → Q (.bl b) H
theorem cal_between (T : Tx K mg) : Cal P w K mg base CX0 2 "is_int_between" ["least", "most", "value"] (sp_between K) := by
  have c_is_int := cal_is_int (P := P) (w := w) (base := base) T
  refine T.d_is_int_between.cal sc_is_int_between (fun vs H Q E h => ?_) (fun _ _ _ _ _ _ us hl => match us, hl with | [_, _, _], _ => rfl) (fun f cdv A outer s H vs Q E hr h => ⟨_, (pss_one (ps_ret (pe_and (pe_cal c_is_int (hr.mono (by decide)) pass0 (pa_cons (pv 2) pa_nil)) (pe_one (pe_chain op_le op_le (pv 0) (pv 2) (pv 1)))))), ?_⟩)
  · obtain ⟨lo, hi, v, n, rfl, _⟩ := h
    rfl
  · obtain ⟨lo, hi, v, n, rfl, ty, q⟩ := h
    refine ⟨v, rfl, v, n, rfl, ty, _, rfl, ?_⟩
    cases ty with
    | int i =>
      refine ⟨_, rfl, _, rfl, lo, i, rfl, rfl, _, rfl, ?_⟩
      by_cases h1 : lo ≤ i
      · rw [if_pos (decide_eq_true h1)]
        refine ⟨_, rfl, i, hi, rfl, rfl, q _ (fun j e => ?_) (fun z => absurd rfl z)⟩
        cases e
        simp [h1]
      · rw [if_neg (by simpa using h1)]
        refine q _ (fun j e => ?_) (fun z => absurd rfl z)
        cases e
        simp [h1]
    | _ => exact q false (fun j e => nomatch e) (fun _ => rfl)
def sp_is_parity : Sp := fun vs H Q _ => ∃ p : Pa, vs = [.str p.s] ∧ Q (.bl true) H
theorem cal_is_parity (T : Tx K mg) : Cal P w K mg base CX0 1 "is_parity" ["value"] sp_is_parity := by
  refine T.d_is_parity.cal sc_is_parity (fun vs H Q E h => ?_) (fun _ _ _ _ _ _ us hl => match us, hl with | [_], _ => rfl) (fun f cdv A outer s H vs Q E hr h => ⟨_, (pss_one (ps_ret (pe_and (pe_callB call_isi (by rfl) T.b_isinstance (by decide +kernel) (pa_cons (pv 0) (pa_cons (pe_bltn (v := .ty "str") (by rfl) T.b_str (by decide +kernel) rfl) pa_nil))) (pe_one (pe_cmpR op_in_seq (pv 0) (pe_glob (v := .ref (He.ga K "PARITIES")) rfl T.t_PARITIES rfl) (by rfl)))))), ?_⟩)
  · obtain ⟨p, rfl, _⟩ := h
    rfl
  · obtain ⟨p, rfl, q⟩ := h
    refine ⟨_, rfl, _, .ty "str", _, _, true, rfl, .ty _, (TyN.str _).x, ki, true, rfl, iteT ?_⟩
    refine ⟨_, rfl, _, _, rfl, .inr (T.v_PARITIES _), rfl, rfl, ?_⟩
    rw [pa_in]
    exact q
def sp_check_shape (K : PySem.W.Frag) : Sp := fun vs H Q _ => ∃ g b p s, vs = [g] ∧ IsSh K H g b p s ∧ Q .non H
theorem cal_check_shape (T : Tx K mg) : Cal P w K mg base CX0 3 "check_shape" ["shape"] (sp_check_shape K) := by
  have c_is_int_between := cal_between (P := P) (w := w) (base := base) T
  have c_is_parity := cal_is_parity (P := P) (w := w) (base := base) T
  refine T.d_check_shape.cal sc_check_shape (fun vs H Q E h => ?_) (fun _ _ _ _ _ _ us hl => match us, hl with | [_], _ => rfl) (fun f cdv A outer s H vs Q E hr h => ⟨_, (pss_cons (ps_if (PW.pt (pw_or (pt_not (pt_val (pe_callB call_isi (by rfl) T.b_isinstance (by decide +kernel) (pa_cons (pv 0) (pa_cons (pe_bltn (v := .ty "tuple") (by rfl) T.b_tuple (by decide +kernel) rfl) pa_nil))))) (pw_or1 (pt_cmpR op_ne (pe_callB call_len_seq (by rfl) T.b_len (by decide +kernel) (pa_cons (pv 0) pa_nil)) pe_int (nomark _))))) (pss_one ps_never) pss_nil)
      (pss_cons (ps_asg (pv 0) (pg_tup rfl (pgs_cons (pg_name (i := 1) sc_check_shape.nd rfl (Or.inl rfl)) (pgs_cons (pg_name (i := 2) sc_check_shape.nd rfl (Or.inl rfl)) (pgs_cons (pg_name (i := 3) sc_check_shape.nd rfl (Or.inl rfl)) pgs_nil)))))
      (pss_cons (ps_if (pt_not (pt_val (pe_cal c_is_int_between (hr.mono (by decide)) pass0 (pa_cons pe_int (pa_cons (pe_gi T.i_MOST_BITS) (pa_cons (pv 1) pa_nil)))))) (pss_one ps_never) pss_nil)
      (pss_cons (ps_if (pt_not (pt_val (pe_cal c_is_parity (hr.mono (by decide)) pass0 (pa_cons (pv 2) pa_nil)))) (pss_one ps_never) pss_nil)
      (pss_one (ps_if (pt_not (pt_val (pe_cal c_is_int_between (hr.mono (by decide)) pass0 (pa_cons pe_int (pa_cons (pe_gi T.i_MOST_STOPS) (pa_cons (pv 3) pa_nil)))))) (pss_one ps_never) pss_nil)))))), ?_⟩)
  · obtain ⟨g, b, p, s, rfl, _⟩ := h
    rfl
  · obtain ⟨g, b, p, s, rfl, ⟨t, rfl, sq, h1, h2, h3, h4⟩, q⟩ := h
    refine ⟨_, rfl, _, .ty "tuple", _, _, true, rfl, .ty _, (TyN.tup sq).x, ki, true, rfl, iteF ?_⟩
    refine ⟨_, rfl, t, _, rfl, .inr sq, rfl, _, rfl, iteNS rfl ?_⟩
    refine ⟨_, rfl, t, _, rfl, sq, rfl, _, _, rfl, _, _, rfl, _, _, rfl, rfl, ?_⟩
    refine ⟨_, rfl, 1, 9, _, "int", rfl, .int _, fun r r1 r2 => ⟨r, rfl, ?_⟩⟩
    have e1 : r = true := by
      rw [r1 _ rfl]
      exact decide_eq_true ⟨by omega, by omega⟩
    subst e1
    refine iteF ⟨_, rfl, p, rfl, true, rfl, iteF ?_⟩
    refine ⟨_, rfl, 1, 2, _, "int", rfl, .int _, fun r r1 r2 => ⟨r, rfl, ?_⟩⟩
    have e2 : r = true := by
      rw [r1 _ rfl]
      exact decide_eq_true ⟨by omega, by omega⟩
    subst e2
    exact iteF q
def sp_size (K : PySem.W.Frag) : Sp := fun vs H Q _ => ∃ g b p s, vs = [g] ∧ IsSh K H g b p s ∧ Q (.int (sz b p s : Nat)) H
theorem cal_size (T : Tx K mg) : Cal P w K mg base CX0 4 "size_of" ["shape"] (sp_size K) := by
  have c_check_shape := cal_check_shape (P := P) (w := w) (base := base) T
  refine T.d_size_of.cal sc_size_of (fun vs H Q E h => ?_) (fun _ _ _ _ _ _ us hl => match us, hl with | [_], _ => rfl) (fun f cdv A outer s H vs Q E hr h => ⟨_, (pss_cons (ps_expr (pe_cal c_check_shape (hr.mono (by decide)) pass0 (pa_cons (pv 0) pa_nil)))
      (pss_cons (ps_asg (pv 0) (pg_tup rfl (pgs_cons (pg_name (i := 1) sc_size_of.nd rfl (Or.inl rfl)) (pgs_cons (pg_name (i := 2) sc_size_of.nd rfl (Or.inl rfl)) (pgs_cons (pg_name (i := 3) sc_size_of.nd rfl (Or.inl rfl)) pgs_nil)))))
      (pss_cons (ps_set (i := 4) sc_size_of.nd rfl (Or.inl rfl) (pe_ifExp (pt_cmpR op_eq (pv 2) pe_str (nomark _)) pe_int pe_int))
      (pss_one (ps_ret (pe_op op_add (pe_op op_add (pe_op op_add pe_int (pv 1)) (pv 4)) (pv 3))))))), ?_⟩)
  · obtain ⟨g, b, p, s, rfl, _⟩ := h
    rfl
  · obtain ⟨g, b, p, s, rfl, sh, q⟩ := h
    refine ⟨_, rfl, g, b, p, s, rfl, sh, ?_⟩
    obtain ⟨t, rfl, sq, h1, h2, h3, h4⟩ := id sh
    refine ⟨_, rfl, t, _, rfl, sq, rfl, _, _, rfl, _, _, rfl, _, _, rfl, rfl, ?_⟩
    refine ⟨_, rfl, rfl, _, rfl, ?_⟩
    rw [no_is p]
    have fin : ∀ z : Int, z = (plen p : Nat) → Q (.int (1 + (b : Int) + z + (s : Int))) H := fun z e => by
      have e2 : 1 + (b : Int) + z + (s : Int) = ((sz b p s : Nat) : Int) := by
        unfold sz
        omega
      rw [e2]
      exact q
    cases p with
    | no => exact iteT ⟨_, rfl, _, _, rfl, rfl, _, rfl, _, _, rfl, rfl, _, rfl, _, _, rfl, rfl, fin 0 rfl⟩
    | ev => exact iteF ⟨_, rfl, _, _, rfl, rfl, _, rfl, _, _, rfl, rfl, _, rfl, _, _, rfl, rfl, fin 1 rfl⟩
    | od => exact iteF ⟨_, rfl, _, _, rfl, rfl, _, rfl, _, _, rfl, rfl, _, rfl, _, _, rfl, rfl, fin 1 rfl⟩
def sp_from (K : PySem.W.Frag) : Sp := fun vs H Q _ => ∃ lo v n, vs = [.int lo, v] ∧ TyN K H v n ∧ ∀ r : Bool, (∀ i, v = .int i → r = decide (lo ≤ i)) → (n ≠ "int" → r = false) → Q (.bl r) H
theorem cal_from (T : Tx K mg) : Cal P w K mg base CX0 2 "is_int_from" ["least", "value"] (sp_from K) := by
  have c_is_int := cal_is_int (P := P) (w := w) (base := base) T
  refine T.d_is_int_from.cal sc_is_int_from (fun vs H Q E h => ?_) (fun _ _ _ _ _ _ us hl => match us, hl with | [_, _], _ => rfl) (fun f cdv A outer s H vs Q E hr h => ⟨_, (pss_one (ps_ret (pe_and (pe_cal c_is_int (hr.mono (by decide)) pass0 (pa_cons (pv 1) pa_nil)) (pe_one (pe_cmpR op_ge (pv 1) (pv 0) (nomark _)))))), ?_⟩)
  · obtain ⟨lo, v, n, rfl, _⟩ := h
    rfl
  · obtain ⟨lo, v, n, rfl, ty, q⟩ := h
    refine ⟨v, rfl, v, n, rfl, ty, _, rfl, ?_⟩
    cases ty with
    | int i => exact ⟨_, rfl, _, rfl, i, lo, rfl, rfl, q _ (fun j e => by cases e; rfl) (fun z => absurd rfl z)⟩
    | _ => exact q false (fun j e => nomatch e) (fun _ => rfl)
def sp_check_length : Sp := fun vs H Q _ => ∃ i : Int, vs = [.int i] ∧ 1 ≤ i ∧ Q .non H
theorem cal_check_length (T : Tx K mg) : Cal P w K mg base CX0 3 "check_length" ["length"] sp_check_length := by
  have c_is_int_from := cal_from (P := P) (w := w) (base := base) T
  refine T.d_check_length.cal sc_check_length (fun vs H Q E h => ?_) (fun _ _ _ _ _ _ us hl => match us, hl with | [_], _ => rfl) (fun f cdv A outer s H vs Q E hr h => ⟨_, (pss_one (ps_if (pt_not (pt_val (pe_cal c_is_int_from (hr.mono (by decide)) pass0 (pa_cons pe_int (pa_cons (pv 0) pa_nil))))) (pss_one ps_never) pss_nil)), ?_⟩)
  · obtain ⟨i, rfl, _⟩ := h
    rfl
  · obtain ⟨i, rfl, hi, q⟩ := h
    refine ⟨_, rfl, 1, _, "int", rfl, .int i, fun r r1 r2 => ⟨r, rfl, ?_⟩⟩
    have e : r = true := by
      rw [r1 _ rfl]
      exact decide_eq_true hi
    subst e
    exact iteF q
def sp_check_receiver (K : PySem.W.Frag) : Sp := fun vs H Q _ => ∃ c gr w s, vs = [c] ∧ IsRc K H c gr w s ∧ Q .non H
theorem cal_check_receiver (T : Tx K mg) : Cal P w K mg base CX0 3 "check_receiver" ["receiver"] (sp_check_receiver K) := by
  have c_is_int_from := cal_from (P := P) (w := w) (base := base) T
  refine T.d_check_receiver.cal sc_check_receiver (fun vs H Q E h => ?_) (fun _ _ _ _ _ _ us hl => match us, hl with | [_], _ => rfl) (fun f cdv A outer s H vs Q E hr h => ⟨_, (pss_cons (ps_if (PW.pt (pw_or (pt_not (pt_val (pe_callB call_isi (by rfl) T.b_isinstance (by decide +kernel) (pa_cons (pv 0) (pa_cons (pe_bltn (v := .ty "tuple") (by rfl) T.b_tuple (by decide +kernel) rfl) pa_nil))))) (pw_or1 (pt_cmpR op_ne (pe_callB call_len_seq (by rfl) T.b_len (by decide +kernel) (pa_cons (pv 0) pa_nil)) pe_int (nomark _))))) (pss_one ps_never) pss_nil)
      (pss_cons (ps_asg (pv 0) (pg_tup rfl (pgs_cons (pg_name (i := 1) sc_check_receiver.nd rfl (Or.inl rfl)) (pgs_cons (pg_name (i := 2) sc_check_receiver.nd rfl (Or.inl rfl)) (pgs_cons (pg_name (i := 3) sc_check_receiver.nd rfl (Or.inl rfl)) pgs_nil)))))
      (pss_cons (ps_if (pt_not (pt_val (pe_cal c_is_int_from (hr.mono (by decide)) pass0 (pa_cons pe_int (pa_cons (pv 1) pa_nil))))) (pss_one ps_never) pss_nil)
      (pss_cons (ps_if (pt_not (pt_val (pe_cal c_is_int_from (hr.mono (by decide)) pass0 (pa_cons pe_int (pa_cons (pv 2) pa_nil))))) (pss_one ps_never) pss_nil)
      (pss_one (ps_if (pt_not (pt_val (pe_cal c_is_int_from (hr.mono (by decide)) pass0 (pa_cons pe_int (pa_cons (pv 3) pa_nil))))) (pss_one ps_never) pss_nil)))))), ?_⟩)
  · obtain ⟨c, gr, w, s, rfl, _⟩ := h
    rfl
  · obtain ⟨c, gr, w, s, rfl, ⟨t, rfl, sq, h1, h2, h3, _⟩, q⟩ := h
    refine ⟨_, rfl, _, .ty "tuple", _, _, true, rfl, .ty _, (TyN.tup sq).x, ki, true, rfl, iteF ?_⟩
    refine ⟨_, rfl, t, _, rfl, .inr sq, rfl, _, rfl, iteNS rfl ?_⟩
    refine ⟨_, rfl, t, _, rfl, sq, rfl, _, _, rfl, _, _, rfl, _, _, rfl, rfl, ?_⟩
    refine ⟨_, rfl, 1, _, "int", rfl, .int _, fun r r1 r2 => ⟨r, rfl, ?_⟩⟩
    have e1 : r = true := by
      rw [r1 _ rfl]
      exact decide_eq_true h1
    subst e1
    refine iteF ⟨_, rfl, 0, _, "int", rfl, .int _, fun r r1 r2 => ⟨r, rfl, ?_⟩⟩
    have e2 : r = true := by
      rw [r1 _ rfl]
      exact decide_eq_true h2
    subst e2
    refine iteF ⟨_, rfl, 1, _, "int", rfl, .int _, fun r r1 r2 => ⟨r, rfl, ?_⟩⟩
    have e3 : r = true := by
      rw [r1 _ rfl]
      exact decide_eq_true h3
    subst e3
    exact iteF q
def sp_check_speed (K : PySem.W.Frag) : Sp := fun vs H Q _ => ∃ g b p s c gr w st l, vs = [g, c, .int l] ∧ IsSh K H g b p s ∧ IsRc K H c gr w st ∧ 1 ≤ l ∧ Q .non H
theorem cal_check_speed (T : Tx K mg) : Cal P w K mg base CX0 4 "check_speed" ["shape", "receiver", "length"] (sp_check_speed K) := by
  have c_check_shape := cal_check_shape (P := P) (w := w) (base := base) T
  have c_check_receiver := cal_check_receiver (P := P) (w := w) (base := base) T
  have c_check_length := cal_check_length (P := P) (w := w) (base := base) T
  refine T.d_check_speed.cal sc_check_speed (fun vs H Q E h => ?_) (fun _ _ _ _ _ _ us hl => match us, hl with | [_, _, _], _ => rfl) (fun f cdv A outer s H vs Q E hr h => ⟨_, (pss_cons (ps_expr (pe_cal c_check_shape (hr.mono (by decide)) pass0 (pa_cons (pv 0) pa_nil)))
      (pss_cons (ps_expr (pe_cal c_check_receiver (hr.mono (by decide)) pass0 (pa_cons (pv 1) pa_nil)))
      (pss_one (ps_expr (pe_cal c_check_length (hr.mono (by decide)) pass0 (pa_cons (pv 2) pa_nil)))))), ?_⟩)
  · obtain ⟨g, b, p, s, c, gr, w, st, l, rfl, _⟩ := h
    rfl
  · obtain ⟨g, b, p, s, c, gr, w, st, l, rfl, sh, rc, hl, q⟩ := h
    exact ⟨_, rfl, g, b, p, s, rfl, sh, _, rfl, c, gr, w, st, rfl, rc, _, rfl, l, rfl, hl, q⟩
def sp_windows (K : PySem.W.Frag) : Sp := fun vs H Q _ => ∃ g b p s, vs = [g] ∧ IsSh K H g b p s ∧ RetR (RT K) (win (sz b p s) s) H Q
theorem cal_windows (T : Tx K mg) : Cal P w K mg base CX0 5 "windows_of" ["shape"] (sp_windows K) := by
  have c_size_of := cal_size (P := P) (w := w) (base := base) T
  refine T.d_windows_of.cal sc_windows_of (fun vs H Q E h => ?_) (fun _ _ _ _ _ _ us hl => match us, hl with | [_], _ => rfl) (fun f cdv A outer s H vs Q E hr h => ⟨_, (pss_cons (ps_set (i := 1) sc_windows_of.nd rfl (Or.inr rfl) (pe_cal c_size_of (hr.mono (by decide)) pass0 (pa_cons (pv 0) pa_nil)))
      (pss_cons (ps_set (i := 2) sc_windows_of.nd rfl (Or.inr rfl) (pe_op op_sub (pv 1) (pe_ix ix_tup (pv 0) pe_int (fun _ _ => rfl))))
      (pss_cons (ps_setLc (i := 3) rfl sc_windows_of.nd rfl rfl (sw_true rfl rfl rfl (by decide +kernel)) (pi_range2 rfl T.b_range (pa_cons (pv 2) (pa_cons (pv 1) pa_nil))) (blkOk_by (own := [("place", 4)]) (N := ["shape", "size", "first_stop", "stops", "place"]) (sc := defScope s_windows_of) (by decide +kernel)) (fun _ _ _ _ _ => (pg_name (i := 4) sc_windows_of.nd rfl (Or.inl rfl))) (fun _ _ _ _ _ => pts_nil) (fun _ _ _ _ _ => (pe_tup (pa_cons (pv 4) (pa_cons (pv 2) (pa_cons (pv 1) pa_nil))))))
      (pss_one (ps_ret (pe_op op_cat (pe_lc rfl sc_windows_of.nd (pi_range1 rfl T.b_range (pa_cons (pv 2) pa_nil)) (blkOk_by (own := [("place", 4)]) (N := ["shape", "size", "first_stop", "stops", "place"]) (sc := defScope s_windows_of) (by decide +kernel)) (fun _ _ _ _ _ => (pg_name (i := 4) sc_windows_of.nd rfl (Or.inl rfl))) (fun _ _ _ _ _ => pts_nil) (fun _ _ _ _ _ => (pe_tup (pa_cons (pv 4) (pa_cons (pv 4) (pa_cons (pe_op op_add (pv 4) pe_int) pa_nil)))))) (pv 3))))))), ?_⟩)
  · obtain ⟨g, b, p, s, rfl, _⟩ := h
    rfl
  · obtain ⟨g, b, p, s, rfl, sh, q⟩ := h
    refine ⟨_, rfl, g, b, p, s, rfl, sh, ?_⟩
    have z := sz_bd sh
    obtain ⟨t, rfl, sq, h1, h2, h3, h4⟩ := id sh
    refine ⟨_, rfl, _, rfl, t, _, 2, .int s, rfl, rfl, sq, rfl, _, _, rfl, rfl, ?_⟩
    refine ⟨_, rfl, _, rfl, _, _, rfl, ⟨by omega, by omega, by omega, by omega⟩, fun D nD => ?_⟩
    refine lcR (lo := _) (n := _) (H := H) (RT.lasts (K := K)) nD (by omega) (fun i => some [((sz b p s : Nat) : Int) - s + (i : Nat), ((sz b p s : Nat) : Int) - s, (sz b p s : Nat)]) (fun i H' hi e Kt Kf kt kf => ?_) (fun H' xs e hx lr => ?_)
    · refine ⟨rfl, ?_⟩
      exact ⟨_, rfl, _, rfl, _, rfl, (by show 3 ≤ sizeLine; decide), fun t nt => kt _ _ _ rfl (Ex.new nt) ⟨t, rfl, st_of upd_same⟩⟩
    have fD := nD
    refine ⟨_, rfl, _, rfl, by omega, by omega, fun D2 nD2 => ?_⟩
    refine lcR (lo := _) (n := _) (H := H') (RT.lasts (K := K)) nD2 (by omega) (fun i => some [(0 : Int) + (i : Nat), (0 : Int) + (i : Nat), (0 : Int) + (i : Nat) + 1]) (fun i H2 hi e2 Kt Kf kt kf => ?_) (fun H2 ys e2 hy lr2 => ?_)
    · refine ⟨rfl, ?_⟩
      exact ⟨_, rfl, _, rfl, _, rfl, _, _, rfl, rfl, (by show 3 ≤ sizeLine; decide), fun t nt => kt _ _ _ rfl (Ex.new nt) ⟨t, rfl, st_of upd_same⟩⟩
    have lr' : LR (RT K H2) xs _ := lr.imp fun x a h => RT.lasts.ex e2 h
    refine ⟨_, rfl, D2, D, _, _, rfl, rfl, hy, e2 _ _ hx, ?_, fun R nR => ?_⟩
    · have a1 := lr2.1
      have a2 := lr'.1
      have b1 := List.length_filterMap_le (fun i => some [(0 : Int) + (i : Nat), (0 : Int) + (i : Nat), (0 : Int) + (i : Nat) + 1]) (List.range (((sz b p s : Nat) : Int) - s).toNat)
      have b2 := List.length_filterMap_le (fun i => some [((sz b p s : Nat) : Int) - s + (i : Nat), ((sz b p s : Nat) : Int) - s, ((sz b p s : Nat) : Int)]) (List.range (((sz b p s : Nat) : Int) - (((sz b p s : Nat) : Int) - s)).toNat)
      rw [List.length_range] at b1 b2
      exact sz_of (by omega)
    · refine q R _ _ (fresh_back (e.trans e2) nR) ((e.trans e2).trans (Ex.new nR)) upd_same ?_
      have lr3 := (lr2.append lr').imp fun x a h => RT.lasts.ex (Ex.new nR (o := .lst (ys ++ xs))) h
      rw [win_eq z.2.2.2.2]
      exact lr3
def sp_stretch (K : PySem.W.Frag) : Sp := fun vs H Q _ => ∃ lo hi : Int, vs = [.int lo, .int hi] ∧ ∀ v H', Ex H H' → IsO K H' v (optT lo hi) → Q v H'
theorem cal_stretch (T : Tx K mg) : Cal P w K mg base CX0 1 "stretch" ["least", "greatest"] (sp_stretch K) := by
  refine T.d_stretch.cal sc_stretch (fun vs H Q E h => ?_) (fun _ _ _ _ _ _ us hl => match us, hl with | [_, _], _ => rfl) (fun f cdv A outer s H vs Q E hr h => ⟨_, (pss_one (ps_ret (pe_ifExp (pt_cmpR op_le (pv 0) (pv 1) (nomark _)) (pe_tup (pa_cons (pv 0) (pa_cons (pv 1) pa_nil))) pe_non))), ?_⟩)
  · obtain ⟨lo, hi, rfl, _⟩ := h
    rfl
  · obtain ⟨lo, hi, rfl, q⟩ := h
    refine ⟨_, rfl, _, rfl, lo, hi, rfl, rfl, _, rfl, ?_⟩
    refine ite2 (fun h => ?_) (fun h => ?_)
    · have h : lo ≤ hi := of_decide_eq_true h
      refine ⟨_, rfl, _, rfl, (by show 2 ≤ sizeLine; decide), fun t nt => q _ _ (Ex.new nt) ?_⟩
      unfold optT
      rw [if_pos h]
      exact ⟨t, rfl, st_of upd_same⟩
    · have h : ¬ lo ≤ hi := by simpa using h
      refine q _ _ (Ex.refl H) ?_
      unfold optT
      rw [if_neg h]
      rfl
def sp_check_int_from : Sp := fun vs H Q _ => ∃ lo i : Int, vs = [.int lo, .int i] ∧ lo ≤ i ∧ Q .non H
theorem cal_check_int_from (T : Tx K mg) : Cal P w K mg base CX0 3 "check_int_from" ["least", "number"] sp_check_int_from := by
  have c_is_int_from := cal_from (P := P) (w := w) (base := base) T
  refine T.d_check_int_from.cal sc_check_int_from (fun vs H Q E h => ?_) (fun _ _ _ _ _ _ us hl => match us, hl with | [_, _], _ => rfl) (fun f cdv A outer s H vs Q E hr h => ⟨_, (pss_one (ps_if (pt_not (pt_val (pe_cal c_is_int_from (hr.mono (by decide)) pass0 (pa_cons (pv 0) (pa_cons (pv 1) pa_nil))))) (pss_one ps_never) pss_nil)), ?_⟩)
  · obtain ⟨lo, i, rfl, _⟩ := h
    rfl
  · obtain ⟨lo, i, rfl, hi, q⟩ := h
    refine ⟨_, rfl, _, rfl, lo, _, "int", rfl, .int i, fun r r1 r2 => ⟨r, rfl, ?_⟩⟩
    have e : r = true := by
      rw [r1 _ rfl]
      exact decide_eq_true hi
    subst e
    exact iteF q
def sp_check_first_phase (K : PySem.W.Frag) : Sp := fun vs H Q _ => ∃ c gr w s i, vs = [c, .int i] ∧ IsRc K H c gr w s ∧ 0 ≤ i ∧ i < gr ∧ Q .non H
theorem cal_check_first_phase (T : Tx K mg) : Cal P w K mg base CX0 3 "check_first_phase" ["receiver", "phase"] (sp_check_first_phase K) := by
  have c_is_int_between := cal_between (P := P) (w := w) (base := base) T
  refine T.d_check_first_phase.cal sc_check_first_phase (fun vs H Q E h => ?_) (fun _ _ _ _ _ _ us hl => match us, hl with | [_, _], _ => rfl) (fun f cdv A outer s H vs Q E hr h => ⟨_, (pss_one (ps_if (pt_not (pt_val (pe_cal c_is_int_between (hr.mono (by decide)) pass0 (pa_cons pe_int (pa_cons (pe_op op_sub (pe_ix ix_tup (pv 0) pe_int (fun _ _ => rfl)) pe_int) (pa_cons (pv 1) pa_nil)))))) (pss_one ps_never) pss_nil)), ?_⟩)
  · obtain ⟨c, gr, w, s, i, rfl, _⟩ := h
    rfl
  · obtain ⟨c, gr, w, s, i, rfl, ⟨t, rfl, sq, h1, h2, h3, _⟩, i0, i1, q⟩ := h
    refine ⟨_, rfl, t, _, 0, .int gr, rfl, rfl, sq, rfl, _, _, rfl, rfl, _, rfl, 0, _, _, "int", rfl, .int i, fun r r1 r2 => ⟨r, rfl, ?_⟩⟩
    have e1 : r = true := by
      rw [r1 _ rfl]
      exact decide_eq_true ⟨i0, by omega⟩
    subst e1
    exact iteF q
def sp_check_text_at (K : PySem.W.Frag) : Sp := fun vs H Q _ => ∃ g b p s c gr w st l i, vs = [g, c, .int l, .int i] ∧ IsSh K H g b p s ∧ IsRc K H c gr w st ∧ 1 ≤ l ∧ 0 ≤ i ∧ i < gr ∧ Q .non H
theorem cal_check_text_at (T : Tx K mg) : Cal P w K mg base CX0 5 "_check_text_at" ["shape", "receiver", "length", "phase"] (sp_check_text_at K) := by
  have c_check_speed := cal_check_speed (P := P) (w := w) (base := base) T
  have c_check_first_phase := cal_check_first_phase (P := P) (w := w) (base := base) T
  refine T.d_check_text_at.cal sc_check_text_at (fun vs H Q E h => ?_) (fun _ _ _ _ _ _ us hl => match us, hl with | [_, _, _, _], _ => rfl) (fun f cdv A outer s H vs Q E hr h => ⟨_, (pss_cons (ps_expr (pe_cal c_check_speed (hr.mono (by decide)) pass0 (pa_cons (pv 0) (pa_cons (pv 1) (pa_cons (pv 2) pa_nil)))))
      (pss_one (ps_expr (pe_cal c_check_first_phase (hr.mono (by decide)) pass0 (pa_cons (pv 1) (pa_cons (pv 3) pa_nil)))))), ?_⟩)
  · obtain ⟨g, b, p, s, c, gr, w, st, l, i, rfl, _⟩ := h
    rfl
  · obtain ⟨g, b, p, s, c, gr, w, st, l, i, rfl, sh, rc, hl, i0, i1, q⟩ := h
    exact ⟨_, rfl, _, rfl, _, rfl, g, b, p, s, c, gr, w, st, l, rfl, sh, rc, hl, _, rfl, _, rfl, c, gr, w, st, i, rfl, rc, i0, i1, q⟩
def sp_offset_at (K : PySem.W.Frag) : Sp := fun vs H Q _ => ∃ g b p s c gr w st l i k, vs = [g, c, .int l, .int i, .int k] ∧ IsSh K H g b p s ∧ IsRc K H c gr w st ∧ l.natAbs < 2 ^ 400 ∧ k.natAbs < 2 ^ 400 ∧ Q (.int ((i - k * (sz b p s : Nat) * l) % gr)) H
theorem cal_offset_at (T : Tx K mg) : Cal P w K mg base CX0 5 "_offset_at" ["shape", "receiver", "length", "phase", "index"] (sp_offset_at K) := by
  have c_size_of := cal_size (P := P) (w := w) (base := base) T
  refine T.d_offset_at.cal sc_offset_at (fun vs H Q E h => ?_) (fun _ _ _ _ _ _ us hl => match us, hl with | [_, _, _, _, _], _ => rfl) (fun f cdv A outer s H vs Q E hr h => ⟨_, (pss_one (ps_ret (pe_op op_mod (pe_op op_sub (pv 3) (pe_op op_mulW (pe_op op_mulW (pv 4) (pe_cal c_size_of (hr.mono (by decide)) pass0 (pa_cons (pv 0) pa_nil))) (pv 2))) (pe_ix ix_tup (pv 1) pe_int (fun _ _ => rfl))))), ?_⟩)
  · obtain ⟨g, b, p, s, c, gr, w, st, l, i, k, rfl, _⟩ := h
    rfl
  · obtain ⟨g, b, p, s, c, gr, w, st, l, i, k, rfl, sh, rc, hl, hk, q⟩ := h
    have z := sz_bd sh
    obtain ⟨t, rfl, sq, g1, _⟩ := id rc
    have n1 : (((sz b p s : Nat) : Int)).natAbs < 2 ^ 10 := by omega
    have w1 : CMulW k ((sz b p s : Nat) : Int) := wide_mul (a := 400) (b := 10) hk n1 (by decide) (by decide) (by decide)
    have w2 : CMulW (k * ((sz b p s : Nat) : Int)) l := wide_mul (a := 410) (b := 400) (wide_lt hk n1) hl (by decide) (by decide) (by decide)
    exact ⟨_, rfl, _, rfl, _, rfl, g, b, p, s, rfl, sh, _, _, rfl, rfl, w1, _, rfl, _, _, rfl, rfl, w2, _, _, rfl, rfl, _, rfl, t, _, 0, .int gr, rfl, rfl, sq, rfl, _, _, rfl, rfl, (by omega), q⟩
def sp_offset_of (K : PySem.W.Frag) : Sp := fun vs H Q _ => ∃ g b p s c gr w st l i k, vs = [g, c, .int l, .int i, .int k] ∧ IsSh K H g b p s ∧ IsRc K H c gr w st ∧ 1 ≤ l ∧ l.natAbs < 2 ^ 400 ∧ 0 ≤ i ∧ i < gr ∧ 0 ≤ k ∧ k.natAbs < 2 ^ 400 ∧ Q (.int ((i - k * (sz b p s : Nat) * l) % gr)) H
theorem len_offset_of {vs H Q} {E : XK} (h : sp_offset_of K vs H Q E) : vs.length = (["shape", "receiver", "length", "phase", "index"] : List Str).length := by
  obtain ⟨g, b, p, s, c, gr, w, st, l, i, k, rfl, _⟩ := h
  rfl
theorem body_offset_of (T : Tx K mg) : ∀ (f : Addr) (cdv : Value) (A : Around) (outer : List Env) (s : Shared) (H : Hp) (vs : List V) (Q : VK) (E : XK), Room 5 (A.deeper (envOfC "offset_of" (defScope s_offset_of) s.heap.objs.size f cdv)) → sp_offset_of K vs H Q E →
      ∃ t, PSs (cxOf CX0 P w K mg base ["shape", "receiver", "length", "phase", "index"] "offset_of" (defScope s_offset_of) f cdv A outer s H E).nox (defBody s_offset_of) t ∧ t { nx := fun _ H' => Q .non H', rt := Q } (start ["shape", "receiver", "length", "phase", "index"] vs) H := by
  have c_check_text_at := cal_check_text_at (P := P) (w := w) (base := base) T
  have c_check_int_from := cal_check_int_from (P := P) (w := w) (base := base) T
  have c_offset_at := cal_offset_at (P := P) (w := w) (base := base) T
  refine fun f cdv A outer s H vs Q E hr h => ⟨_, (pss_cons (ps_expr (pe_cal c_check_text_at (hr.mono (by decide)) pass0 (pa_cons (pv 0) (pa_cons (pv 1) (pa_cons (pv 2) (pa_cons (pv 3) pa_nil))))))
      (pss_cons (ps_expr (pe_cal c_check_int_from (hr.mono (by decide)) pass0 (pa_cons pe_int (pa_cons (pv 4) pa_nil))))
      (pss_one (ps_ret (pe_cal c_offset_at (hr.mono (by decide)) pass0 (pa_cons (pv 0) (pa_cons (pv 1) (pa_cons (pv 2) (pa_cons (pv 3) (pa_cons (pv 4) pa_nil)))))))))), ?_⟩
  obtain ⟨g, b, p, s, c, gr, w, st, l, i, k, rfl, sh, rc, hl, hl2, i0, i1, k0, k1, q⟩ := h
  exact ⟨_, rfl, _, rfl, _, rfl, _, rfl, g, b, p, s, c, gr, w, st, l, i, rfl, sh, rc, hl, i0, i1, _, rfl, 0, k, rfl, k0, _, rfl, _, rfl, _, rfl, _, rfl, _, rfl, g, b, p, s, c, gr, w, st, l, i, k, rfl, sh, rc, hl2, k1, q⟩
theorem cal_offset_of (T : Tx K mg) : Cal P w K mg base CX0 6 "offset_of" ["shape", "receiver", "length", "phase", "index"] (sp_offset_of K) :=
  T.d_offset_of.cal sc_offset_of (fun vs H Q E h => len_offset_of h) (fun _ _ _ _ _ _ us hl => match us, hl with | [_, _, _, _, _], _ => rfl) (body_offset_of T)
theorem cal_offset_ofK (T : Tx K mg) : CalK P w K mg base CX0 6 "offset_of" ["index", "phase", "length", "receiver", "shape"] ["shape", "receiver", "length", "phase", "index"] (gPm [4, 3, 2, 1, 0]) (sp_offset_of K) := by
  refine T.d_offset_of.calK (gPm [4, 3, 2, 1, 0]) (fun kV doc pm an cdv ct us ws hl => ?_) (rel_gPm _) sc_offset_of (fun vs H Q E h => len_offset_of h) (body_offset_of T)
  match us, ws, hl with
  | [], [a, b, c, d, e], _ => rfl
end
end LW
namespace LW
open PySem PySem.Spec PyProof.Rows L2 Evl SB
section
variable {P : Program} {w : World} {K : PySem.W.Frag} {mg : Str → Option Value} {base : Heap}
def sp_good_stretch (K : PySem.W.Frag) : Sp := fun vs H Q _ => ∃ g b p s c gr w st x lo hi, vs = [g, c, .int x] ∧ IsSh K H g b p s ∧ IsRc K H c gr w st ∧ 1 ≤ x ∧ x.natAbs < 2 ^ 400 ∧ Mx (0 :: gdL (sz b p s) s gr w st x) lo ∧ Mi ((gr - 1) :: gdH (sz b p s) s gr w st x) hi ∧ ∀ v H', Ex H H' → IsO K H' v (optT lo hi) → Q v H'
theorem gs_lo {n s : Nat} {gr w st x : Int} : ((win n s).filterMap (r3 (fun p f l => some [f, l, gr * (w + st * p)]) none)).filterMap (r3 (fun f _ k => some (f * x - k)) none) = gdL n s gr w st x := by
  unfold gdL
  rw [List.filterMap_filterMap, ← List.filterMap_eq_map]
  refine fm_congr fun r hr => ?_
  obtain ⟨p, f, l, rfl⟩ := win_three hr
  rfl
theorem gs_hi {n s : Nat} {gr w st x : Int} : ((win n s).filterMap (r3 (fun p f l => some [f, l, gr * (w + st * p)]) none)).filterMap (r3 (fun _ l k => some (l * x - 1 - k)) none) = gdH n s gr w st x := by
  unfold gdH
  rw [List.filterMap_filterMap, ← List.filterMap_eq_map]
  refine fm_congr fun r hr => ?_
  obtain ⟨p, f, l, rfl⟩ := win_three hr
  rfl
theorem gs_mem {n s : Nat} {gr w st : Int} (h : s + 2 ≤ n) {r : List Int} (hr : r ∈ (win n s).filterMap (r3 (fun p f l => some [f, l, gr * (w + st * p)]) none)) : ∃ p f l : Nat, r = [(f : Int), (l : Int), gr * (w + st * (p : Int))] ∧ p < n ∧ ((p < n - s ∧ f = p ∧ l = p + 1) ∨ (n - s ≤ p ∧ f = n - s ∧ l = n)) := by
  obtain ⟨q, hq, e⟩ := List.mem_filterMap.mp hr
  obtain ⟨p, f, l, rfl, h1, h2⟩ := (win_mem h).mp hq
  exact ⟨p, f, l, (Option.some.inj e).symm, h1, h2⟩
theorem cal_good_stretch (T : Tx K mg) : Cal P w K mg base CX0 6 "good_stretch" ["shape", "receiver", "length"] (sp_good_stretch K) := by
  have c_windows_of := cal_windows (P := P) (w := w) (base := base) T
  have c_stretch := cal_stretch (P := P) (w := w) (base := base) T
  refine T.d_good_stretch.cal sc_good_stretch (fun vs H Q E h => ?_) (fun _ _ _ _ _ _ us hl => match us, hl with | [_, _, _], _ => rfl) (fun f cdv A outer s H vs Q E hr h => ⟨_, (pss_cons (ps_asg (pv 1) (pg_tup rfl (pgs_cons (pg_name (i := 3) sc_good_stretch.nd rfl (Or.inr rfl)) (pgs_cons (pg_name (i := 4) sc_good_stretch.nd rfl (Or.inr rfl)) (pgs_cons (pg_name (i := 5) sc_good_stretch.nd rfl (Or.inr rfl)) pgs_nil)))))
      (pss_cons (ps_setLc (i := 6) rfl sc_good_stretch.nd rfl rfl (sw_true rfl rfl rfl (by decide +kernel)) (pi_list (pe_cal c_windows_of (hr.mono (by decide)) pass0 (pa_cons (pv 0) pa_nil))) (blkOk_by (own := [("place", 9), ("first", 10), ("behind", 11)]) (N := ["shape", "receiver", "length", "grain", "wait", "step", "windows", "least", "greatest", "place", "first", "behind", "_", "behind_start"]) (sc := defScope s_good_stretch) (by decide +kernel)) (fun _ _ _ _ _ => (pg_tupK (K0 := K) (n0 := 3) rfl rfl rfl (pgs_cons (pg_name (i := 9) sc_good_stretch.nd rfl (Or.inl rfl)) (pgs_cons (pg_name (i := 10) sc_good_stretch.nd rfl (Or.inl rfl)) (pgs_cons (pg_name (i := 11) sc_good_stretch.nd rfl (Or.inl rfl)) pgs_nil))))) (fun _ _ _ _ _ => pts_nil) (fun _ _ _ _ _ => (pe_tup (pa_cons (pv 10) (pa_cons (pv 11) (pa_cons (pe_op op_mulW (pv 3) (pe_op op_add (pv 4) (pe_op op_mulW (pv 5) (pv 9)))) pa_nil))))))
      (pss_cons (ps_set (i := 7) sc_good_stretch.nd rfl (Or.inl rfl) (pe_callB (cr_max rfl) (by rfl) T.b_max (by decide +kernel) (pa_cons (pe_lc rfl sc_good_stretch.nd (pi_list (pv 6)) (blkOk_by (own := [("first", 10), ("_", 12), ("behind_start", 13)]) (N := ["shape", "receiver", "length", "grain", "wait", "step", "windows", "least", "greatest", "place", "first", "behind", "_", "behind_start"]) (sc := defScope s_good_stretch) (by decide +kernel)) (fun _ _ _ _ _ => (pg_tupK (K0 := K) (n0 := 3) rfl rfl rfl (pgs_cons (pg_name (i := 10) sc_good_stretch.nd rfl (Or.inl rfl)) (pgs_cons (pg_name (i := 12) sc_good_stretch.nd rfl (Or.inl rfl)) (pgs_cons (pg_name (i := 13) sc_good_stretch.nd rfl (Or.inl rfl)) pgs_nil))))) (fun _ _ _ _ _ => pts_nil) (fun _ _ _ _ _ => (pe_op op_sub (pe_op op_mulW (pv 10) (pv 2)) (pv 13)))) pa_nil)))
      (pss_cons (ps_set (i := 8) sc_good_stretch.nd rfl (Or.inl rfl) (pe_callB (cr_min rfl) (by rfl) T.b_min (by decide +kernel) (pa_cons (pe_lc rfl sc_good_stretch.nd (pi_list (pv 6)) (blkOk_by (own := [("_", 12), ("behind", 11), ("behind_start", 13)]) (N := ["shape", "receiver", "length", "grain", "wait", "step", "windows", "least", "greatest", "place", "first", "behind", "_", "behind_start"]) (sc := defScope s_good_stretch) (by decide +kernel)) (fun _ _ _ _ _ => (pg_tupK (K0 := K) (n0 := 3) rfl rfl rfl (pgs_cons (pg_name (i := 12) sc_good_stretch.nd rfl (Or.inl rfl)) (pgs_cons (pg_name (i := 11) sc_good_stretch.nd rfl (Or.inl rfl)) (pgs_cons (pg_name (i := 13) sc_good_stretch.nd rfl (Or.inl rfl)) pgs_nil))))) (fun _ _ _ _ _ => pts_nil) (fun _ _ _ _ _ => (pe_op op_sub (pe_op op_sub (pe_op op_mulW (pv 11) (pv 2)) pe_int) (pv 13)))) pa_nil)))
      (pss_one (ps_ret (pe_cal c_stretch (hr.mono (by decide)) pass0 (pa_cons (pe_callB (call_max2 rfl) (by rfl) T.b_max (by decide +kernel) (pa_cons (pv 7) (pa_cons pe_int pa_nil))) (pa_cons (pe_callB (call_min2 rfl) (by rfl) T.b_min (by decide +kernel) (pa_cons (pv 8) (pa_cons (pe_op op_sub (pv 3) pe_int) pa_nil))) pa_nil))))))))), ?_⟩)
  · obtain ⟨g, b, p, s, c, gr, w, st, x, lo, hi, rfl, _⟩ := h
    rfl
  · obtain ⟨g, b, p, s, c, gr, w, st, x, lo, hi, rfl, sh, rc, x1, x2, m1, m2, q⟩ := h
    have z := sz_bd sh
    have cl := rc.clb
    obtain ⟨t, rfl, sq, _⟩ := id rc
    refine ⟨_, rfl, t, _, rfl, sq, rfl, _, _, rfl, _, _, rfl, _, _, rfl, rfl, ?_⟩
    -- windows
    refine ⟨_, rfl, g, b, p, s, rfl, sh, fun wA H1 ws nw e1 hw lw => ⟨wA, rfl, ⟨_, sq_of hw⟩, fun D nD => ?_⟩⟩
    refine lcL3 (RT.lasts (K := K)) nD (sq_of hw) lw (by rw [lw.1, win_len (by omega)]; omega) (r3 (fun p f l => some [f, l, gr * (w + st * p)]) none) (fun r => win_three) (by decide) (by decide) (by decide) (fun y f l H2 hr e2 Kt Kf kt kf => ?_) (fun H2 ys e2 hy ly => ?_)
    · obtain ⟨pp, f, l, e, h1, h2⟩ := (win_mem z.2.2.2.2.1).mp hr
      cases e
      have b1 := cl.sp (p := pp) (by omega)
      have w0 := cl.w0
      have wb := cl.wb
      have wm : CMulW st (pp : Int) := wide_mul (a := 90) (b := 4) (by have := cl.s1; have := cl.sb; omega) (by omega) (by decide) (by decide) (by decide)
      have wm2 : CMulW gr (w + st * (pp : Int)) := wide_mul (a := 90) (b := 100) (by have := cl.g1; have := cl.gb; omega) (by omega) (by decide) (by decide) (by decide)
      refine ⟨_, rfl, _, rfl, _, rfl, _, rfl, _, rfl, _, rfl, _, _, rfl, rfl, wm, _, _, rfl, rfl, _, _, rfl, rfl, wm2, (by show 3 ≤ sizeLine; decide), fun u nu => ?_⟩
      exact kt _ _ _ rfl (Ex.new nu) ⟨u, rfl, st_of upd_same⟩
    have lll : ys.length ≤ 13 := by
      rw [ly.1]
      have := List.length_filterMap_le (r3 (fun p f l => some [f, l, gr * (w + st * p)]) none) (win (sz b p s) s)
      rw [win_len (by omega)] at this
      omega
    have l3 : ∀ r ∈ (win (sz b p s) s).filterMap (r3 (fun p f l => some [f, l, gr * (w + st * p)]) none), ∃ x y z, r = [x, y, z] := fun r hr => by
      obtain ⟨pp, f, l, e, _⟩ := gs_mem z.2.2.2.2.1 hr
      exact ⟨_, _, _, e⟩
    -- least
    refine ⟨_, rfl, D, rfl, ⟨_, sq_of hy⟩, fun D2 nD2 => ?_⟩
    refine lcL3 RI.lasts nD2 (sq_of hy) ly (by omega) (r3 (fun f _ k => some (f * x - k)) none) l3 (by decide) (by decide) (by decide) (fun f l k H3 hr e3 Kt Kf kt kf => ?_) (fun H3 zs e3 hz lz => ?_)
    · obtain ⟨pp, f, l, e, h1, h2⟩ := gs_mem z.2.2.2.2.1 hr
      cases e
      have wm : CMulW (f : Int) x := wide_mul (a := 10) (b := 400) (by omega) x2 (by decide) (by decide) (by decide)
      refine ⟨_, rfl, _, rfl, _, _, rfl, rfl, wm, _, rfl, _, _, rfl, rfl, ?_⟩
      exact kt _ _ _ rfl (Ex.refl _) rfl
    rw [gs_lo] at lz
    obtain rfl := lz.ints
    refine ⟨D2, _, rfl, sq_of hz, gdL_pos z.2.2.2.2.1, fun m hm hle => ?_⟩
    -- greatest
    refine ⟨_, rfl, D, rfl, ⟨_, sq_of (e3 _ _ hy)⟩, fun D3 nD3 => ?_⟩
    refine lcL3 RI.lasts nD3 (sq_of (e3 _ _ hy)) (ly.imp fun x a h => RT.lasts.ex e3 h) (by omega) (r3 (fun _ l k => some (l * x - 1 - k)) none) l3 (by decide) (by decide) (by decide) (fun f l k H4 hr e4 Kt Kf kt kf => ?_) (fun H4 zs e4 hz4 lz4 => ?_)
    · obtain ⟨pp, f, l, e, h1, h2⟩ := gs_mem z.2.2.2.2.1 hr
      cases e
      have wm : CMulW (l : Int) x := wide_mul (a := 10) (b := 400) (by omega) x2 (by decide) (by decide) (by decide)
      refine ⟨_, rfl, _, rfl, _, _, rfl, rfl, wm, _, _, rfl, rfl, _, rfl, _, _, rfl, rfl, ?_⟩
      exact kt _ _ _ rfl (Ex.refl _) rfl
    rw [gs_hi] at lz4
    obtain rfl := lz4.ints
    refine ⟨D3, _, rfl, sq_of hz4, gdH_pos z.2.2.2.2.1, fun m' hm' hle' => ?_⟩
    have i1 := m1.cons ⟨hm, hle⟩
    have i2 := m2.cons ⟨hm', hle'⟩
    refine ⟨_, rfl, _, _, rfl, _, rfl, _, rfl, _, _, rfl, rfl, _, _, rfl, ?_⟩
    refine ⟨_, _, rfl, fun v H5 e5 hv => q v H5 ((e1.trans e2).trans ((e3.trans e4).trans e5)) ?_⟩
    rw [← i1, ← i2] at hv
    exact hv
def sp_good_offsets (K : PySem.W.Frag) : Sp := sp_good_stretch K
theorem len_good_offsets {vs H Q} {E : XK} (h : sp_good_stretch K vs H Q E) : vs.length = (["shape", "receiver", "length"] : List Str).length := by
  obtain ⟨g, b, p, s, c, gr, w, st, x, lo, hi, rfl, _⟩ := h
  rfl
theorem body_good_offsets (T : Tx K mg) : ∀ (f : Addr) (cdv : Value) (A : Around) (outer : List Env) (s : Shared) (H : Hp) (vs : List V) (Q : VK) (E : XK), Room 6 (A.deeper (envOfC "good_offsets" (defScope s_good_offsets) s.heap.objs.size f cdv)) → sp_good_stretch K vs H Q E →
      ∃ t, PSs (cxOf CX0 P w K mg base ["shape", "receiver", "length"] "good_offsets" (defScope s_good_offsets) f cdv A outer s H E).nox (defBody s_good_offsets) t ∧ t { nx := fun _ H' => Q .non H', rt := Q } (start ["shape", "receiver", "length"] vs) H := by
  have c_check_speed := cal_check_speed (P := P) (w := w) (base := base) T
  have c_good_stretch := cal_good_stretch (P := P) (w := w) (base := base) T
  refine fun f cdv A outer s H vs Q E hr h => ⟨_, (pss_cons (ps_expr (pe_cal c_check_speed (hr.mono (by decide)) pass0 (pa_cons (pv 0) (pa_cons (pv 1) (pa_cons (pv 2) pa_nil)))))
      (pss_one (ps_ret (pe_cal c_good_stretch (hr.mono (by decide)) pass0 (pa_cons (pv 0) (pa_cons (pv 1) (pa_cons (pv 2) pa_nil))))))), ?_⟩
  obtain ⟨g, b, p, s, c, gr, w, st, x, lo, hi, rfl, sh, rc, x1, r⟩ := h
  exact ⟨_, rfl, _, rfl, _, rfl, g, b, p, s, c, gr, w, st, x, rfl, sh, rc, x1, _, rfl, _, rfl, _, rfl, g, b, p, s, c, gr, w, st, x, lo, hi, rfl, sh, rc, x1, r⟩
theorem cal_good_offsets (T : Tx K mg) : Cal P w K mg base CX0 7 "good_offsets" ["shape", "receiver", "length"] (sp_good_stretch K) :=
  T.d_good_offsets.cal sc_good_offsets (fun vs H Q E h => len_good_offsets h) (fun _ _ _ _ _ _ us hl => match us, hl with | [_, _, _], _ => rfl) (body_good_offsets T)
theorem cal_good_offsetsK (T : Tx K mg) : CalK P w K mg base CX0 7 "good_offsets" ["length", "receiver", "shape"] ["shape", "receiver", "length"] (gPm [2, 1, 0]) (sp_good_stretch K) := by
  refine T.d_good_offsets.calK (gPm [2, 1, 0]) (fun kV doc pm an cdv ct us ws hl => ?_) (rel_gPm _) sc_good_offsets (fun vs H Q E h => len_good_offsets h) (body_good_offsets T)
  match us, ws, hl with
  | [], [a, b, c], _ => rfl
end
end LW
namespace LW
open PySem PySem.Spec PyProof.Rows L2 Evl SB
section
variable {P : Program} {w : World} {K : PySem.W.Frag} {mg : Str → Option Value} {base : Heap}
def sp_limits (K : PySem.W.Frag) : Sp := fun vs H Q _ => ∃ g b p s c gr w st lo hi, vs = [g, c] ∧ IsSh K H g b p s ∧ IsRc K H c gr w st ∧ Mx (loL (sz b p s) s gr w st) lo ∧ Mi (hiL (sz b p s) s gr w st) hi ∧ RetU [.int lo, .int hi] H Q
def sp_pool (K : PySem.W.Frag) : Sp := fun vs H Q _ => ∃ (a : Addr) (ns : List Int) (i : Nat), vs = [.ref a, .int (i : Nat)] ∧ SqL K H a (ns.map V.int) ∧ i ≤ 1000 ∧ ∀ l H', H l = none → Ex H H' → Pool H' l 0 → Q (.ref l) H'
theorem cal_pool (T : Tx K mg) : Cal P w K mg base CX0 1 "_law_pool" ["_law_script", "_law_at"] (sp_pool K) := by
  refine T.d_law_pool.cal sc_law_pool (fun vs H Q E h => ?_) (fun _ _ _ _ _ _ us hl => match us, hl with | [_, _], _ => rfl) (fun f cdv A outer s H vs Q E hr h => ⟨_, (pss_cons (ps_set (i := 2) sc_law_pool.nd rfl (Or.inl rfl) (pe_ifExp (pt_cmpR op_lt (pv 1) (pe_callB call_len_seq (by rfl) T.b_len (by decide +kernel) (pa_cons (pv 0) pa_nil)) (nomark _)) (pe_ix ix_list (pv 0) (pv 1) (fun _ _ => rfl)) pe_int))
      (pss_one (ps_ret (pe_lst (pa_cons (pe_callB (call_max2 rfl) (by rfl) T.b_max (by decide +kernel) (pa_cons pe_int (pa_cons (pe_op op_sub (pe_callB call_abs (by rfl) T.b_abs (by decide +kernel) (pa_cons (pv 2) pa_nil)) (pe_op op_powB pe_int pe_int)) pa_nil))) (pa_cons (pe_op op_add (pe_op op_mod (pe_callTy call_int1 (by rfl) T.b_int (by decide +kernel) (pa_cons (pv 2) pa_nil)) (pe_op op_add (pe_op op_powB pe_int pe_int) pe_int)) (pe_op op_mul pe_int (pe_op op_add (pv 1) pe_int))) (pa_cons pe_int pa_nil))))))), ?_⟩)
  · obtain ⟨a, ns, i, rfl, _⟩ := h
    rfl
  · obtain ⟨a, ns, i, rfl, sq, hi, q⟩ := h
    refine seq_any (P := fun v => ∃ z : Int, v = .int z) (fun Q' k => ?_) ?_
    · refine ⟨_, rfl, _, rfl, a, _, rfl, .inl sq, _, _, rfl, rfl, _, rfl, ite2 (fun h => ?_) (fun _ => k _ ⟨0, rfl⟩)⟩
      have h1 : i < ns.length := by
        have h2 := of_decide_eq_true h
        rw [List.length_map] at h2
        omega
      have g : (ns.map V.int)[i]? = some (.int ns[i]) := by
        rw [List.getElem?_map, List.getElem?_eq_getElem h1]
        rfl
      exact ⟨_, rfl, _, rfl, a, _, _, _, rfl, rfl, sq, atI_nat g, k _ ⟨_, rfl⟩⟩
    rintro _ ⟨z, rfl⟩
    refine ⟨_, rfl, z, rfl, 10, 18, rfl, rfl, cpow10 18 (by decide) (by decide), _, _, rfl, rfl, _, _, rfl, ?_⟩
    refine ⟨_, rfl, .inl ⟨z, rfl, 10, 21, rfl, rfl, cpow10 21 (by decide) (by decide), _, _, rfl, rfl, _, _, rfl, rfl, ?_, _, rfl, _, _, rfl, rfl, _, _, rfl, rfl, .inl ⟨by decide, by decide⟩, _, _, rfl, rfl, (by show 3 ≤ sizeLine; decide), fun l nl => ?_⟩⟩
    · show (0 : Int) < 10 ^ (21 : Int).toNat + 117
      decide
    have e : (10 : Int) ^ (21 : Int).toNat + 117 = 1000000000000000000117 := by decide
    refine q l _ nl (Ex.new nl) ⟨_, _, _, upd_same, ?_, ?_, Int.le_refl _, Int.le_refl _⟩
    · rw [e]
      omega
    · rw [e]
      omega
def sp_draw : Sp := fun vs H Q _ => ∃ (a : Addr) (m : Int) (n : Nat), vs = [.ref a, .int m] ∧ Pool H a n ∧ n ≤ 1000000 ∧ 0 < m ∧ m < 2 ^ 200 ∧
  ∀ d H', 0 ≤ d → d < m → Pool H' a (n + 1) → Kp a H H' → Q (.int d) H'
theorem cal_draw (T : Tx K mg) : Cal P w K mg base CX0 1 "_law_draw" ["_law_pool_here", "_law_top"] sp_draw := by
  refine T.d_law_draw.cal sc_law_draw (fun vs H Q E h => ?_) (fun _ _ _ _ _ _ us hl => match us, hl with | [_, _], _ => rfl) (fun f cdv A outer s H vs Q E hr h => ⟨_, (pss_cons (ps_if (pt_cmpR op_gt (pe_ix ix_list (pv 0) pe_int (fun _ _ => rfl)) pe_int (nomark _)) (pss_cons (ps_set (i := 2) sc_law_draw.nd rfl (Or.inl rfl) (pe_op op_mod (pe_callTy call_int1 (by rfl) T.b_int (by decide +kernel) (pa_cons (pe_ix ix_list (pv 0) pe_int (fun _ _ => rfl)) pa_nil)) (pv 1)))
      (pss_cons (ps_asg (pe_op op_fdivW (pe_ix ix_list (pv 0) pe_int (fun _ _ => rfl)) (pv 1)) (pg_sub (pv 0) pe_int set_list))
      (pss_one (ps_ret (pv 2))))) pss_nil)
      (pss_cons (ps_asg (pe_op op_add (pe_ix ix_list (pv 0) pe_int (fun _ _ => rfl)) pe_int) (pg_sub (pv 0) pe_int set_list))
      (pss_cons (ps_set (i := 3) sc_law_draw.nd rfl (Or.inl rfl) (pe_op op_mod (pe_callTy call_int1 (by rfl) T.b_int (by decide +kernel) (pa_cons (pe_op op_powB (pe_op op_add (pe_ix ix_list (pv 0) pe_int (fun _ _ => rfl)) (pe_op op_mul pe_int (pe_ix ix_list (pv 0) pe_int (fun _ _ => rfl)))) pe_int) pa_nil)) (pe_op op_add (pe_op op_powB pe_int pe_int) pe_int)))
      (pss_cons (ps_set (i := 3) sc_law_draw.nd rfl (Or.inl rfl) (pe_op op_mod (pe_callTy call_int1 (by rfl) T.b_int (by decide +kernel) (pa_cons (pe_op op_powB (pe_op op_add (pv 3) (pe_op op_mul pe_int (pe_ix ix_list (pv 0) pe_int (fun _ _ => rfl)))) pe_int) pa_nil)) (pe_op op_add (pe_op op_powB pe_int pe_int) pe_int)))
      (pss_one (ps_ret (pe_op op_mod (pe_callTy call_int1 (by rfl) T.b_int (by decide +kernel) (pa_cons (pe_op op_fdivW (pv 3) pe_int) pa_nil)) (pv 1)))))))), ?_⟩)
  · obtain ⟨a, m, n, rfl, _⟩ := h
    rfl
  · obtain ⟨a, m, n, rfl, ⟨l, sd, c, hH, s0, s1, c0, c1⟩, hn, m0, m1, q⟩ := h
    have sq := sq_of (K := K) hH
    have wd : CDivW 0 m := wide_div (b := 200) m0 (by
      have e : (2 : Int) ^ 200 = ((2 ^ 200 : Nat) : Int) := by norm_cast
      omega) (by decide) (by decide)
    refine ⟨_, rfl, a, _, 0, _, rfl, rfl, sq, rfl, l, 0, rfl, rfl, _, rfl, ite2 (fun h => ?_) (fun _ => ?_)⟩
    · refine ⟨_, rfl, a, _, 0, _, rfl, rfl, sq, rfl, .inl ⟨l, rfl, _, rfl, _, _, rfl, rfl, m0, ?_⟩⟩
      refine ⟨_, rfl, a, _, 0, _, rfl, rfl, sq, rfl, _, rfl, _, _, rfl, rfl, wd, _, rfl, a, _, 0, 0, rfl, rfl, hH, rfl, ?_⟩
      exact ⟨_, rfl, q _ _ (Int.emod_nonneg l (by omega)) (Int.emod_lt_of_pos l m0) ⟨_, sd, c, upd_same, s0, s1, c0, by omega⟩ Kp.upd⟩
    · refine ⟨_, rfl, a, _, 2, _, rfl, rfl, sq, rfl, c, 1, rfl, rfl, _, rfl, a, _, 2, 2, rfl, rfl, hH, rfl, ?_⟩
      have h1 : (upd H a (.lst ([V.int l, .int sd, .int c].set 2 (.int (c + 1))))) a = some (.lst [.int l, .int sd, .int (c + 1)]) := upd_same
      have kp : Kp a H (upd H a (.lst ([V.int l, .int sd, .int c].set 2 (.int (c + 1))))) := Kp.upd
      generalize upd H a (.lst ([V.int l, .int sd, .int c].set 2 (.int (c + 1)))) = H1 at h1 kp
      have sq1 := sq_of (K := K) h1
      have src1 : Pool H1 a (n + 1) := ⟨l, sd, c + 1, h1, s0, s1, by omega, by omega⟩
      have b1 : 0 ≤ sd + 524287 * (c + 1) ∧ sd + 524287 * (c + 1) < 2 ^ 250 := ⟨by omega, by omega⟩
      refine ⟨_, rfl, a, _, 1, _, rfl, rfl, sq1, rfl, _, rfl, a, _, 2, _, rfl, rfl, sq1, rfl, _, _, rfl, rfl, .inl ⟨by decide, by decide⟩, _, _, rfl, rfl, _, 3, rfl, rfl, cpow3 b1.1 b1.2, .inl ⟨_, rfl, 10, 44, rfl, rfl, cpow10 44 (by decide) (by decide), _, _, rfl, rfl, _, _, rfl, rfl, ?_, ?_⟩⟩
      · show (0 : Int) < 10 ^ (44 : Int).toNat + 31
        decide
      have b2 : 0 ≤ (sd + 524287 * (c + 1)) ^ (3 : Int).toNat % (10 ^ (44 : Int).toNat + 31) + 6700417 * (c + 1) ∧ (sd + 524287 * (c + 1)) ^ (3 : Int).toNat % (10 ^ (44 : Int).toNat + 31) + 6700417 * (c + 1) < 2 ^ 250 := by
        have e : (10 : Int) ^ (44 : Int).toNat + 31 = 100000000000000000000000000000000000000000031 := by decide
        rw [e]
        generalize (sd + 524287 * (c + 1)) ^ (3 : Int).toNat = u
        omega
      refine ⟨_, rfl, _, rfl, a, _, 2, _, rfl, rfl, sq1, rfl, _, _, rfl, rfl, .inl ⟨by decide, by decide⟩, _, _, rfl, rfl, _, 3, rfl, rfl, cpow3 b2.1 b2.2, .inl ⟨_, rfl, 10, 50, rfl, rfl, cpow10 50 (by decide) (by decide), _, _, rfl, rfl, _, _, rfl, rfl, ?_, ?_⟩⟩
      · show (0 : Int) < 10 ^ (50 : Int).toNat + 151
        decide
      refine ⟨_, rfl, _, _, rfl, rfl, wide_div (b := 20) (by decide) (by decide) (by decide) (by decide), .inl ⟨_, rfl, _, rfl, _, _, rfl, rfl, m0, ?_⟩⟩
      exact q _ _ (Int.emod_nonneg _ (by omega)) (Int.emod_lt_of_pos _ m0) src1 kp
def sp_form (K : PySem.W.Frag) : Sp := fun vs H Q _ => ∃ (a : Addr) (n : Nat) (m : Int), vs = [.ref a, .int m] ∧ Pool H a n ∧ n ≤ 900000 ∧ 1 ≤ m ∧ m ≤ 9 ∧
  ∀ t b p s H', H t = none → Kp a H H' → Pool H' a (n + 3) → IsSh K H' (.ref t) b p s → b ≤ m → Q (.ref t) H'
theorem pa_at (d : Int) (h0 : 0 ≤ d) (h1 : d < 3) : ∃ p : Pa, atI [V.str "none", .str "even", .str "odd"] d = some (.str p.s) := by
  have : d = 0 ∨ d = 1 ∨ d = 2 := by omega
  rcases this with rfl | rfl | rfl
  · exact ⟨.no, rfl⟩
  · exact ⟨.ev, rfl⟩
  · exact ⟨.od, rfl⟩
theorem cal_form (T : Tx K mg) : Cal P w K mg base CX0 2 "_law_form" ["_law_pool_here", "_law_top"] (sp_form K) := by
  have c_law_draw := cal_draw (P := P) (w := w) (base := base) T
  refine T.d_law_form.cal sc_law_form (fun vs H Q E h => ?_) (fun _ _ _ _ _ _ us hl => match us, hl with | [_, _], _ => rfl) (fun f cdv A outer s H vs Q E hr h => ⟨_, (pss_one (ps_ret (pe_tup (pa_cons (pe_op op_add pe_int (pe_cal c_law_draw (hr.mono (by decide)) pass0 (pa_cons (pv 0) (pa_cons (pv 1) pa_nil)))) (pa_cons (pe_ix ix_list (pe_lst (pa_cons pe_str (pa_cons pe_str (pa_cons pe_str pa_nil)))) (pe_cal c_law_draw (hr.mono (by decide)) pass0 (pa_cons (pv 0) (pa_cons pe_int pa_nil))) (fun _ _ => rfl)) (pa_cons (pe_op op_add pe_int (pe_cal c_law_draw (hr.mono (by decide)) pass0 (pa_cons (pv 0) (pa_cons pe_int pa_nil)))) pa_nil)))))), ?_⟩)
  · obtain ⟨a, n, m, rfl, _⟩ := h
    rfl
  · obtain ⟨a, n, m, rfl, src, hn, m1, m9, q⟩ := h
    refine ⟨_, rfl, _, rfl, a, m, n, rfl, src, by omega, by omega, by omega, fun d2 H1 d20 d21 src1 k1 => ⟨_, _, rfl, rfl, by decide, fun L nL => ?_⟩⟩
    have L_a := src1.ne nL
    refine ⟨_, rfl, a, 3, n + 1, rfl, src1.ex (Ex.new nL), by omega, by decide, by decide, fun d H2 d0 d1 src2 k2 => ?_⟩
    obtain ⟨p, hp⟩ := pa_at d d0 d1
    refine ⟨L, _, d, _, rfl, rfl, sq_of (k2 L _ L_a upd_same), hp, _, rfl, a, 2, n + 2, rfl, src2, by omega, by decide, by decide, fun d3 H3 d30 d31 src3 k3 => ⟨_, _, rfl, rfl, (by show 3 ≤ sizeLine; decide), fun t nt => ?_⟩⟩
    have t_a := src3.ne nt
    obtain ⟨b, hb⟩ : ∃ b : Nat, 1 + d2 = (b : Int) := ⟨(1 + d2).toNat, by omega⟩
    obtain ⟨s, hs⟩ : ∃ s : Nat, 1 + d3 = (s : Int) := ⟨(1 + d3).toNat, by omega⟩
    have kk : Kp a H (upd H3 t (.tup [.int (1 + d2), .str p.s, .int (1 + d3)])) := ((k1.trans (Ex.kp (Ex.new nL))).trans (k2.trans k3)).trans (Ex.kp (Ex.new nt))
    have ft : H t = none := Kp.free ((k1.trans (Ex.kp (Ex.new nL))).trans (k2.trans k3)) nt t_a
    refine q t b p s _ ft kk (src3.ex (Ex.new nt)) ⟨t, rfl, st_of ?_, by omega, by omega, by omega, by omega⟩ (by omega)
    rw [← hb, ← hs]
    exact upd_same
theorem cal_lsize (T : Tx K mg) : Cal P w K mg base CX0 1 "_law_size" ["_law_form_here"] (sp_size K) := by
  refine T.d_law_size.cal sc_law_size (fun vs H Q E h => ?_) (fun _ _ _ _ _ _ us hl => match us, hl with | [_], _ => rfl) (fun f cdv A outer s H vs Q E hr h => ⟨_, (pss_one (ps_ret (pe_op op_add (pe_op op_add (pe_op op_add pe_int (pe_ix ix_tup (pv 0) pe_int (fun _ _ => rfl))) (pe_callTy call_int1 (by rfl) T.b_int (by decide +kernel) (pa_cons (pe_cmpR op_ne (pe_ix ix_tup (pv 0) pe_int (fun _ _ => rfl)) pe_str (nomark _)) pa_nil))) (pe_ix ix_tup (pv 0) pe_int (fun _ _ => rfl))))), ?_⟩)
  · obtain ⟨g, b, p, s, rfl, _⟩ := h
    rfl
  · obtain ⟨g, b, p, s, rfl, ⟨t, rfl, sq, h1, h2, h3, h4⟩, q⟩ := h
    refine ⟨_, rfl, t, _, 0, .int b, rfl, rfl, sq, rfl, _, _, rfl, rfl, _, rfl, t, _, 1, .str p.s, rfl, rfl, sq, rfl, rfl, .inr ⟨_, rfl, ?_⟩⟩
    rw [no_is p]
    have fin : ∀ z : Int, z = (plen p : Nat) → Q (.int (1 + (b : Int) + z + (s : Int))) H := fun z e => by
      have e2 : 1 + (b : Int) + z + (s : Int) = ((sz b p s : Nat) : Int) := by
        unfold sz
        omega
      rw [e2]
      exact q
    cases p with
    | no => exact ⟨_, _, rfl, rfl, _, rfl, t, _, 2, .int s, rfl, rfl, sq, rfl, _, _, rfl, rfl, fin 0 rfl⟩
    | ev => exact ⟨_, _, rfl, rfl, _, rfl, t, _, 2, .int s, rfl, rfl, sq, rfl, _, _, rfl, rfl, fin 1 rfl⟩
    | od => exact ⟨_, _, rfl, rfl, _, rfl, t, _, 2, .int s, rfl, rfl, sq, rfl, _, _, rfl, rfl, fin 1 rfl⟩
def sp_clock (K : PySem.W.Frag) : Sp := fun vs H Q _ => ∃ (a : Addr) (n : Nat) (m r : Int), vs = [.ref a, .int m, .int r] ∧ Pool H a n ∧ n ≤ 900000 ∧ 1 ≤ m ∧ m ≤ 100000000000000000000000000 ∧ 1 ≤ r ∧ r ≤ 100000000000000000000000000 ∧
  ∀ t gr w s H', H t = none → Kp a H H' → Pool H' a (n + 4) → IsRc K H' (.ref t) gr w s → gr ≤ m → w ≤ 3 * r → s ≤ r → Q (.ref t) H'
theorem cal_clock (T : Tx K mg) : Cal P w K mg base CX0 2 "_law_clock" ["_law_pool_here", "_law_top", "_law_more"] (sp_clock K) := by
  have c_law_draw := cal_draw (P := P) (w := w) (base := base) T
  refine T.d_law_clock.cal sc_law_clock (fun vs H Q E h => ?_) (fun _ _ _ _ _ _ us hl => match us, hl with | [_, _, _], _ => rfl) (fun f cdv A outer s H vs Q E hr h => ⟨_, (pss_cons (ps_set (i := 3) sc_law_clock.nd rfl (Or.inl rfl) (pe_op op_add pe_int (pe_cal c_law_draw (hr.mono (by decide)) pass0 (pa_cons (pv 0) (pa_cons (pv 2) pa_nil)))))
      (pss_cons (ps_set (i := 4) sc_law_clock.nd rfl (Or.inl rfl) (pe_lst (pa_cons pe_int (pa_cons (pe_op op_sub (pv 3) pe_int) (pa_cons (pv 3) (pa_cons (pe_op op_fdivW (pv 3) pe_int) (pa_cons (pe_cal c_law_draw (hr.mono (by decide)) pass0 (pa_cons (pv 0) (pa_cons (pe_op op_mul pe_int (pv 2)) pa_nil))) (pa_cons (pe_op op_add (pe_op op_fdivW (pv 3) pe_int) pe_int) pa_nil))))))))
      (pss_one (ps_ret (pe_tup (pa_cons (pe_op op_add pe_int (pe_cal c_law_draw (hr.mono (by decide)) pass0 (pa_cons (pv 0) (pa_cons (pv 1) pa_nil)))) (pa_cons (pe_ix ix_list (pv 4) (pe_cal c_law_draw (hr.mono (by decide)) pass0 (pa_cons (pv 0) (pa_cons pe_int pa_nil))) (fun _ _ => rfl)) (pa_cons (pv 3) pa_nil)))))))), ?_⟩)
  · obtain ⟨a, n, m, r, rfl, _⟩ := h
    rfl
  · obtain ⟨a, n, m, r, rfl, src, hn, m1, m2, r1, r2, q⟩ := h
    refine ⟨_, rfl, _, rfl, a, r, n, rfl, src, by omega, by omega, by omega, fun d1 H1 d10 d11 src1 k1 => ⟨_, _, rfl, rfl, ?_⟩⟩
    -- pauses
    refine ⟨_, rfl, _, _, rfl, rfl, _, rfl, _, rfl, _, _, rfl, rfl, wide_div (b := 20) (by decide) (by decide) (by decide) (by decide), ?_⟩
    refine ⟨_, rfl, _, rfl, _, _, rfl, rfl, .inl ⟨by decide, by decide⟩, a, _, n + 1, rfl, src1, by omega, by omega, by omega, fun d2 H2 d20 d21 src2 k2 => ?_⟩
    refine ⟨_, rfl, _, _, rfl, rfl, wide_div (b := 20) (by decide) (by decide) (by decide) (by decide), _, _, rfl, rfl, (by show 6 ≤ sizeLine; decide), fun L nL => ?_⟩
    have L_a := src2.ne nL
    refine ⟨_, rfl, _, rfl, a, m, n + 2, rfl, src2.ex (Ex.new nL), by omega, by omega, by omega, fun d3 H3 d30 d31 src3 k3 => ⟨_, _, rfl, rfl, _, rfl, _, rfl, a, 6, n + 3, rfl, src3, by omega, by decide, by decide, fun d4 H4 d40 d41 src4 k4 => ?_⟩⟩
    have hL := k4 L _ L_a (k3 L _ L_a upd_same)
    obtain ⟨y, hy, y0, y1⟩ : ∃ y : Int, atI [V.int 0, .int (1 + d1 - 1), .int (1 + d1), .int ((1 + d1) / 2), .int d2, .int ((1 + d1) / 2 + 1)] d4 = some (.int y) ∧ 0 ≤ y ∧ y ≤ 3 * r := by
      have : d4 = 0 ∨ d4 = 1 ∨ d4 = 2 ∨ d4 = 3 ∨ d4 = 4 ∨ d4 = 5 := by omega
      rcases this with rfl | rfl | rfl | rfl | rfl | rfl
      · exact ⟨0, rfl, by decide, by omega⟩
      · exact ⟨_, rfl, by omega, by omega⟩
      · exact ⟨_, rfl, by omega, by omega⟩
      · exact ⟨_, rfl, by omega, by omega⟩
      · exact ⟨_, rfl, d20, by omega⟩
      · exact ⟨_, rfl, by omega, by omega⟩
    refine ⟨L, _, d4, _, rfl, rfl, sq_of hL, hy, _, rfl, (by show 3 ≤ sizeLine; decide), fun t nt => ?_⟩
    have t_a := src4.ne nt
    have kk : Kp a H H4 := ((k1.trans k2).trans (Ex.kp (Ex.new nL))).trans (k3.trans k4)
    exact q t (1 + d3) y (1 + d1) _ (Kp.free kk nt t_a) (kk.trans (Ex.kp (Ex.new nt))) (src4.ex (Ex.new nt)) ⟨t, rfl, st_of upd_same, by omega, y0, by omega, by omega, by omega, by omega⟩ (by omega) y1 (by omega)
theorem cal_lrows (T : Tx K mg) : Cal P w K mg base CX0 2 "_law_rows" ["_law_form_here"] (sp_windows K) := by
  have c_law_size := cal_lsize (P := P) (w := w) (base := base) T
  refine T.d_law_rows.cal sc_law_rows (fun vs H Q E h => ?_) (fun _ _ _ _ _ _ us hl => match us, hl with | [_], _ => rfl) (fun f cdv A outer s H vs Q E hr h => ⟨_, (pss_cons (ps_set (i := 1) sc_law_rows.nd rfl (Or.inr rfl) (pe_cal c_law_size (hr.mono (by decide)) pass0 (pa_cons (pv 0) pa_nil)))
      (pss_cons (ps_set (i := 2) sc_law_rows.nd rfl (Or.inr rfl) (pe_op op_sub (pv 1) (pe_ix ix_tup (pv 0) pe_int (fun _ _ => rfl))))
      (pss_cons (ps_setLc (i := 3) rfl sc_law_rows.nd rfl rfl (sw_true rfl rfl rfl (by decide +kernel)) (pi_range1 rfl T.b_range (pa_cons (pv 2) pa_nil)) (blkOk_by (own := [("_law_place", 4)]) (N := ["_law_form_here", "_law_size_here", "_law_stop", "_law_rows_here", "_law_place"]) (sc := defScope s_law_rows) (by decide +kernel)) (fun _ _ _ _ _ => (pg_name (i := 4) sc_law_rows.nd rfl (Or.inl rfl))) (fun _ _ _ _ _ => pts_nil) (fun _ _ _ _ _ => (pe_tup (pa_cons (pv 4) (pa_cons (pv 4) (pa_cons (pe_op op_add (pv 4) pe_int) pa_nil))))))
      (pss_one (ps_ret (pe_op op_cat (pv 3) (pe_lc rfl sc_law_rows.nd (pi_range2 rfl T.b_range (pa_cons (pv 2) (pa_cons (pv 1) pa_nil))) (blkOk_by (own := [("_law_place", 4)]) (N := ["_law_form_here", "_law_size_here", "_law_stop", "_law_rows_here", "_law_place"]) (sc := defScope s_law_rows) (by decide +kernel)) (fun _ _ _ _ _ => (pg_name (i := 4) sc_law_rows.nd rfl (Or.inl rfl))) (fun _ _ _ _ _ => pts_nil) (fun _ _ _ _ _ => (pe_tup (pa_cons (pv 4) (pa_cons (pv 2) (pa_cons (pv 1) pa_nil)))))))))))), ?_⟩)
  · obtain ⟨g, b, p, s, rfl, _⟩ := h
    rfl
  · obtain ⟨g, b, p, s, rfl, sh, q⟩ := h
    refine ⟨_, rfl, g, b, p, s, rfl, sh, ?_⟩
    have z := sz_bd sh
    obtain ⟨t, rfl, sq, h1, h2, h3, h4⟩ := id sh
    refine ⟨_, rfl, _, rfl, t, _, 2, .int s, rfl, rfl, sq, rfl, _, _, rfl, rfl, ?_⟩
    refine ⟨_, rfl, _, rfl, by omega, by omega, fun D2 nD2 => ?_⟩
    refine lcR (lo := _) (n := _) (H := H) (RT.lasts (K := K)) nD2 (by omega) (fun i => some [(0 : Int) + (i : Nat), (0 : Int) + (i : Nat), (0 : Int) + (i : Nat) + 1]) (fun i H2 hi e2 Kt Kf kt kf => ?_) (fun H2 ys e2 hy lr2 => ?_)
    · refine ⟨rfl, ?_⟩
      exact ⟨_, rfl, _, rfl, _, rfl, _, _, rfl, rfl, (by show 3 ≤ sizeLine; decide), fun t nt => kt _ _ _ rfl (Ex.new nt) ⟨t, rfl, st_of upd_same⟩⟩
    refine ⟨_, rfl, _, rfl, _, rfl, _, _, rfl, ⟨by omega, by omega, by omega, by omega⟩, fun D nD => ?_⟩
    refine lcR (lo := _) (n := _) (H := H2) (RT.lasts (K := K)) nD (by omega) (fun i => some [((sz b p s : Nat) : Int) - s + (i : Nat), ((sz b p s : Nat) : Int) - s, (sz b p s : Nat)]) (fun i H' hi e Kt Kf kt kf => ?_) (fun H' xs e hx lr => ?_)
    · refine ⟨rfl, ?_⟩
      exact ⟨_, rfl, _, rfl, _, rfl, (by show 3 ≤ sizeLine; decide), fun t nt => kt _ _ _ rfl (Ex.new nt) ⟨t, rfl, st_of upd_same⟩⟩
    have lr' : LR (RT K H') ys _ := lr2.imp fun x a h => RT.lasts.ex e h
    refine ⟨D2, D, _, _, rfl, rfl, e _ _ hy, hx, ?_, fun R nR => ?_⟩
    · have a1 := lr.1
      have a2 := lr'.1
      have b1 := List.length_filterMap_le (fun i => some [(0 : Int) + (i : Nat), (0 : Int) + (i : Nat), (0 : Int) + (i : Nat) + 1]) (List.range (((sz b p s : Nat) : Int) - s).toNat)
      have b2 := List.length_filterMap_le (fun i => some [((sz b p s : Nat) : Int) - s + (i : Nat), ((sz b p s : Nat) : Int) - s, ((sz b p s : Nat) : Int)]) (List.range (((sz b p s : Nat) : Int) - (((sz b p s : Nat) : Int) - s)).toNat)
      rw [List.length_range] at b1 b2
      exact sz_of (by omega)
    · refine q R _ _ (fresh_back (e2.trans e) nR) ((e2.trans e).trans (Ex.new nR)) upd_same ?_
      have lr3 := (lr'.append lr).imp fun x a h => RT.lasts.ex (Ex.new nR (o := .lst (ys ++ xs))) h
      rw [win_eq z.2.2.2.2]
      exact lr3
theorem cal_lbounds (T : Tx K mg) : Cal P w K mg base CX0 3 "_law_bounds" ["_law_form_here", "_law_clock_here"] (sp_limits K) := by
  have c_law_rows := cal_lrows (P := P) (w := w) (base := base) T
  refine T.d_law_bounds.cal sc_law_bounds (fun vs H Q E h => ?_) (fun _ _ _ _ _ _ us hl => match us, hl with | [_, _], _ => rfl) (fun f cdv A outer s H vs Q E hr h => ⟨_, (pss_cons (ps_asg (pv 1) (pg_tup rfl (pgs_cons (pg_name (i := 2) sc_law_bounds.nd rfl (Or.inl rfl)) (pgs_cons (pg_name (i := 3) sc_law_bounds.nd rfl (Or.inl rfl)) (pgs_cons (pg_name (i := 4) sc_law_bounds.nd rfl (Or.inl rfl)) pgs_nil)))))
      (pss_cons (ps_par (i := 5) (j := 6) (by rfl) sc_law_bounds.nd rfl rfl (by decide) rfl rfl (pa_cons (pe_lst pa_nil) (pa_cons (pe_lst pa_nil) pa_nil)) (by rfl))
      (pss_cons (ps_for PassesOwn.never rfl (pi_list (pe_cal c_law_rows (hr.mono (by decide)) pass0 (pa_cons (pv 0) pa_nil))) (pg_tup rfl (pgs_cons (pg_name (i := 7) sc_law_bounds.nd rfl (Or.inl rfl)) (pgs_cons (pg_name (i := 8) sc_law_bounds.nd rfl (Or.inl rfl)) (pgs_cons (pg_name (i := 9) sc_law_bounds.nd rfl (Or.inl rfl)) pgs_nil)))) (pss_cons (ps_set (i := 10) sc_law_bounds.nd rfl (Or.inl rfl) (pe_op op_mulW (pv 2) (pe_op op_add (pv 3) (pe_op op_mulW (pv 4) (pv 7)))))
      (pss_cons (ps_expr (pe_bm PySem.F.plainAttrs_list PySem.F.slot_list_append PySem.F.type_list_append mt_append (pv 5) (pa_cons (pe_un un_neg (pe_op op_fdivW (pe_un un_neg (pe_op op_add (pv 10) (pv 2))) (pv 9))) pa_nil)))
      (pss_one (ps_if (pt_cmpR op_gt (pv 8) pe_int (nomark _)) (pss_one (ps_expr (pe_bm PySem.F.plainAttrs_list PySem.F.slot_list_append PySem.F.type_list_append mt_append (pv 6) (pa_cons (pe_op op_fdivW (pv 10) (pv 8)) pa_nil)))) pss_nil)))))
      (pss_one (ps_ret (pe_tup (pa_cons (pe_callB (cr_max rfl) (by rfl) T.b_max (by decide +kernel) (pa_cons (pv 5) pa_nil)) (pa_cons (pe_callB (cr_min rfl) (by rfl) T.b_min (by decide +kernel) (pa_cons (pv 6) pa_nil)) pa_nil)))))))), ?_⟩)
  · obtain ⟨g, b, p, s, c, gr, w, st, lo, hi, rfl, _⟩ := h
    rfl
  · obtain ⟨g, b, p, s, c, gr, w, st, lo, hi, rfl, sh, rc, m1, m2, q⟩ := h
    have z := sz_bd sh
    have cl := rc.clb
    obtain ⟨t, rfl, sq, _⟩ := id rc
    refine ⟨_, rfl, t, _, rfl, sq, rfl, _, _, rfl, _, _, rfl, _, _, rfl, rfl, ?_⟩
    refine ⟨Nat.zero_le _, fun L nL => ⟨Nat.zero_le _, fun G nG => ⟨_, _, rfl, ?_⟩⟩⟩
    have L_G : L ≠ G := fun z => by rw [← z, upd_same] at nG; cases nG
    have e0 : Ex H (upd (upd H L (.lst [])) G (.lst [])) := (Ex.new nL).trans (Ex.new nG)
    have hL0 : (upd (upd H L (.lst [])) G (.lst [])) L = some (.lst []) := Ex.new nG _ _ upd_same
    have hG0 : (upd (upd H L (.lst [])) G (.lst [])) G = some (.lst []) := upd_same
    have fG : H G = none := fresh_back (Ex.new nL) nG
    generalize upd (upd H L (.lst [])) G (.lst []) = H0 at e0 hL0 hG0
    refine ⟨_, rfl, g, b, p, s, rfl, sh.ex e0, fun wA H1 ws nw e1 hw lw => ⟨wA, rfl, ⟨_, sq_of hw⟩, ?_⟩⟩
    have w_L : wA ≠ L := fun z => by rw [z, hL0] at nw; cases nw
    have w_G : wA ≠ G := fun z => by rw [z, hG0] at nw; cases nw
    have kL : ∀ {H' : Hp}, Kp2 L G H1 H' → LR (RT K H') ws (win (sz b p s) s) → True := fun _ _ => trivial
    refine for_list (K := K) (a := wA) (xs := ws) (fun i σ H2 => ∃ u1 u2 u3 u4, σ = [some g, some (.ref t), some (.int gr), some (.int w), some (.int st), some (.ref L), some (.ref G), u1, u2, u3, u4] ∧ Kp2 L G H1 H2 ∧
        H2 L = some (.lst ((((win (sz b p s) s).take i).map (r3 (fun p _ l => ceilI (gr * (w + st * p + 1)) l) 0)).map V.int)) ∧ H2 G = some (.lst ((((win (sz b p s) s).take i).filterMap (r3 (fun p f _ => if 0 < f then some (lookI gr w st p / f) else none) none)).map V.int)))
      ⟨none, none, none, none, rfl, Kp2.refl, e1 _ _ hL0, e1 _ _ hG0⟩ (fun i σ H2 _ ⟨_, _, _, _, _, k, _⟩ => sq_of (k wA _ w_L w_G hw)) ?_ ?_
    · rintro i x σ H2 hx ⟨u1, u2, u3, u4, rfl, k2, hL, hG⟩
      obtain ⟨r, hr, r0⟩ := lw.get hx
      have hi := (List.getElem?_eq_some_iff.mp hr).1
      rw [win_len (by omega)] at hi
      obtain ⟨pp, f, l, rfl, h1, h2⟩ := (win_mem z.2.2.2.2.1).mp (List.mem_of_getElem? hr)
      obtain ⟨tt, rfl, st3⟩ := r0
      have st3' : SqT K H2 tt _ := k2.tup (e1 _ _ hL0) (e1 _ _ hG0) st3
      refine ⟨tt, _, rfl, st3', rfl, _, _, rfl, _, _, rfl, _, _, rfl, rfl, ?_⟩
      have b1 := cl.sp (p := pp) (by omega)
      have w0 := cl.w0
      have wb := cl.wb
      have g1 := cl.g1
      have gb := cl.gb
      have lk := cl.look (p := pp) (by omega)
      refine ⟨_, rfl, _, rfl, _, rfl, _, rfl, _, _, rfl, rfl, wide_mul (a := 90) (b := 4) (by have := cl.s1; have := cl.sb; omega) (by omega) (by decide) (by decide) (by decide), _, _, rfl, rfl, _, _, rfl, rfl, wide_mul (a := 90) (b := 100) (by omega) (by omega) (by decide) (by decide) (by decide), ?_⟩
      refine ⟨_, rfl, .inl ⟨rfl, _, sq_of hL⟩, _, rfl, _, rfl, _, _, rfl, rfl, _, rfl, _, rfl, _, _, rfl, rfl, wide_div (b := 10) (by omega) (by omega) (by decide) (by decide), _, rfl, L, _, _, rfl, rfl, hL, ?_, ?_⟩
      · rw [List.length_map, List.length_map, List.length_take]
        exact small1000 (by omega)
      have eL : ∀ y : Int, y = ceilI (gr * (w + st * (pp : Int) + 1)) (l : Int) → (((((win (sz b p s) s).take i).map (r3 (fun p _ l => ceilI (gr * (w + st * p + 1)) l) 0)).map V.int) ++ [V.int y]) = ((((win (sz b p s) s).take (i + 1)).map (r3 (fun p _ l => ceilI (gr * (w + st * p + 1)) l) 0)).map V.int) := by
        rintro y rfl
        rw [List.take_add_one, hr, List.map_append, List.map_append]
        rfl
      have hL3 : (upd H2 L (.lst (((((win (sz b p s) s).take i).map (r3 (fun p _ l => ceilI (gr * (w + st * p + 1)) l) 0)).map V.int) ++ [V.int (-(-(gr * (w + st * (pp : Int)) + gr) / (l : Int)))]))) L = some (.lst ((((win (sz b p s) s).take (i + 1)).map (r3 (fun p _ l => ceilI (gr * (w + st * p + 1)) l) 0)).map V.int)) := by
        rw [upd_same, eL _ ?_]
        unfold ceilI
        rw [look_next]
        rfl
      have hG3 : (upd H2 L (.lst (((((win (sz b p s) s).take i).map (r3 (fun p _ l => ceilI (gr * (w + st * p + 1)) l) 0)).map V.int) ++ [V.int (-(-(gr * (w + st * (pp : Int)) + gr) / (l : Int)))]))) G = some (.lst ((((win (sz b p s) s).take i).filterMap (r3 (fun p f _ => if 0 < f then some (lookI gr w st p / f) else none) none)).map V.int)) := by
        rw [upd_ne (Ne.symm L_G)]
        exact hG
      have k3 : Kp2 L G H1 (upd H2 L (.lst (((((win (sz b p s) s).take i).map (r3 (fun p _ l => ceilI (gr * (w + st * p + 1)) l) 0)).map V.int) ++ [V.int (-(-(gr * (w + st * (pp : Int)) + gr) / (l : Int)))]))) := k2.updA
      refine (show _ from ?_)
      generalize upd H2 L (.lst (((((win (sz b p s) s).take i).map (r3 (fun p _ l => ceilI (gr * (w + st * p + 1)) l) 0)).map V.int) ++ [V.int (-(-(gr * (w + st * (pp : Int)) + gr) / (l : Int)))])) = H3 at hL3 hG3 k3
      refine ⟨_, rfl, _, _, rfl, rfl, _, rfl, ite2 (fun hf => ?_) (fun hf => ?_)⟩
      · have hf : (0 : Int) < f := of_decide_eq_true hf
        refine ⟨_, rfl, .inl ⟨rfl, _, sq_of hG3⟩, _, rfl, _, rfl, _, _, rfl, rfl, wide_div (b := 10) hf (by omega) (by decide) (by decide), G, _, _, rfl, rfl, hG3, ?_, ?_⟩
        · rw [List.length_map]
          have := List.length_filterMap_le (r3 (fun p f _ => if 0 < f then some (lookI gr w st p / f) else none) none) ((win (sz b p s) s).take i)
          rw [List.length_take] at this
          exact small1000 (by omega)
        · refine ⟨_, _, _, _, rfl, k3.updB, ?_, ?_⟩
          · rw [upd_ne L_G]
            exact hL3
          · rw [upd_same, take_fm_succ _ hr, r3_mk, if_pos hf, List.map_append]
            rfl
      · have hf : ¬ (0 : Int) < f := by simpa using hf
        refine ⟨_, _, _, _, rfl, k3, hL3, ?_⟩
        rw [take_fm_succ _ hr, r3_mk, if_neg hf, List.append_nil]
        exact hG3
    · rintro σ H2 ⟨u1, u2, u3, u4, rfl, k2, hL, hG⟩
      have e2 : ws.length = (win (sz b p s) s).length := lw.1
      rw [e2, List.take_length] at hL hG
      refine ⟨_, rfl, L, _, rfl, sq_of hL, ?_, fun m hm hle => ?_⟩
      · exact List.length_pos_of_mem m1.1
      obtain rfl := Mx.uniq ⟨hm, hle⟩ m1
      refine ⟨_, rfl, G, _, rfl, sq_of hG, ?_, fun m hm hle => ?_⟩
      · exact List.length_pos_of_mem m2.1
      obtain rfl := Mi.uniq ⟨hm, hle⟩ m2
      refine ⟨(by show 2 ≤ sizeLine; decide), fun R nR => ?_⟩
      have e3 : Ex H H2 := fun a o ha => k2 a o (ne_of_none ha nL) (ne_of_none ha fG) ((e0.trans e1) a o ha)
      exact q R _ (fresh_back e3 nR) (e3.trans (Ex.new nR)) upd_same
def sp_lgood (K : PySem.W.Frag) : Sp := fun vs H Q _ => ∃ g b p s c gr w st x off, vs = [g, c, .int x, .int off] ∧ IsSh K H g b p s ∧ IsRc K H c gr w st ∧ x.natAbs < 2 ^ 400 ∧ ∀ H', Ex H H' → Q (.bl (goodB (win (sz b p s) s) gr w st x off)) H'
theorem all_take_false {α : Type} {f : α → Bool} {l : List α} {i : Nat} {a : α} (h : l[i]? = some a) (ha : f a = false) : l.all f = false := by
  rw [List.all_eq_false]
  exact ⟨a, List.mem_of_getElem? h, by rw [ha]; decide⟩
theorem all_take_succ {α : Type} {f : α → Bool} {l : List α} {i : Nat} {a : α} (h : l[i]? = some a) (ha : f a = true) (hi : (l.take i).all f = true) : (l.take (i + 1)).all f = true := by
  rw [List.take_add_one, h, List.all_append, hi]
  simp [ha]
theorem cal_lgood (T : Tx K mg) : Cal P w K mg base CX0 3 "_law_is_good" ["_law_form_here", "_law_clock_here", "_law_span_here", "_law_offset"] (sp_lgood K) := by
  have c_law_rows := cal_lrows (P := P) (w := w) (base := base) T
  refine T.d_law_is_good.cal sc_law_is_good (fun vs H Q E h => ?_) (fun _ _ _ _ _ _ us hl => match us, hl with | [_, _, _, _], _ => rfl) (fun f cdv A outer s H vs Q E hr h => ⟨_, (pss_cons (ps_for PassesOwn.never rfl (pi_list (pe_cal c_law_rows (hr.mono (by decide)) pass0 (pa_cons (pv 0) pa_nil))) (pg_tup rfl (pgs_cons (pg_name (i := 4) sc_law_is_good.nd rfl (Or.inl rfl)) (pgs_cons (pg_name (i := 5) sc_law_is_good.nd rfl (Or.inl rfl)) (pgs_cons (pg_name (i := 6) sc_law_is_good.nd rfl (Or.inl rfl)) pgs_nil)))) (pss_cons (ps_set (i := 7) sc_law_is_good.nd rfl (Or.inl rfl) (pe_op op_add (pv 3) (pe_op op_mulW (pe_ix ix_tup (pv 1) pe_int (fun _ _ => rfl)) (pe_op op_add (pe_ix ix_tup (pv 1) pe_int (fun _ _ => rfl)) (pe_op op_mulW (pe_ix ix_tup (pv 1) pe_int (fun _ _ => rfl)) (pv 4))))))
      (pss_one (ps_if (pt_not (pt_chain op_le op_lt (pe_op op_mulW (pv 2) (pv 5)) (pv 7) (pe_op op_mulW (pv 2) (pv 6)))) (pss_one (ps_ret pe_bl)) pss_nil))))
      (pss_one (ps_ret pe_bl))), ?_⟩)
  · obtain ⟨g, b, p, s, c, gr, w, st, x, off, rfl, _⟩ := h
    rfl
  · obtain ⟨g, b, p, s, c, gr, w, st, x, off, rfl, sh, rc, hx, q⟩ := h
    have z := sz_bd sh
    have cl := rc.clb
    obtain ⟨t, rfl, sq, _⟩ := id rc
    refine ⟨_, rfl, g, b, p, s, rfl, sh, fun wA H1 ws nw e1 hw lw => ⟨wA, rfl, ⟨_, sq_of hw⟩, ?_⟩⟩
    refine for_list (K := K) (a := wA) (xs := ws) (fun i σ H2 => ∃ u1 u2 u3 u4, σ = [some g, some (.ref t), some (.int x), some (.int off), u1, u2, u3, u4] ∧ Ex H1 H2 ∧ ((win (sz b p s) s).take i).all (r3 (fun p f l => decide (x * f ≤ off + gr * (w + st * p)) && decide (off + gr * (w + st * p) < x * l)) true) = true)
      ⟨none, none, none, none, rfl, Ex.refl H1, rfl⟩ (fun i σ H2 _ ⟨_, _, _, _, _, e, _⟩ => sq_of (e _ _ hw)) ?_ ?_
    · rintro i y σ H2 hy ⟨u1, u2, u3, u4, rfl, e2, ok⟩
      obtain ⟨r, hr, r0⟩ := lw.get hy
      obtain ⟨pp, f, l, rfl, h1, h2⟩ := (win_mem z.2.2.2.2.1).mp (List.mem_of_getElem? hr)
      obtain ⟨tt, rfl, st3⟩ := r0
      refine ⟨tt, _, rfl, ex_t e2 st3, rfl, _, _, rfl, _, _, rfl, _, _, rfl, rfl, ?_⟩
      have sq2 := ex_t (e1.trans e2) sq
      have b1 := cl.sp (p := pp) (by omega)
      have w0 := cl.w0
      have wb := cl.wb
      have g1 := cl.g1
      have gb := cl.gb
      refine ⟨_, rfl, _, rfl, t, _, 0, _, rfl, rfl, sq2, rfl, _, rfl, t, _, 1, _, rfl, rfl, sq2, rfl, _, rfl, t, _, 2, _, rfl, rfl, sq2, rfl, _, rfl, _, _, rfl, rfl, wide_mul (a := 90) (b := 4) (by have := cl.s1; have := cl.sb; omega) (by omega) (by decide) (by decide) (by decide), _, _, rfl, rfl, _, _, rfl, rfl, wide_mul (a := 90) (b := 100) (by omega) (by omega) (by decide) (by decide) (by decide), _, _, rfl, rfl, ?_⟩
      refine ⟨_, rfl, _, rfl, _, _, rfl, rfl, wide_mul (a := 400) (b := 10) hx (by omega) (by decide) (by decide) (by decide), _, rfl, _, _, rfl, rfl, _, rfl, ?_⟩
      have no : (decide (x * f ≤ off + gr * (w + st * pp)) && decide (off + gr * (w + st * pp) < x * l)) = false → Q (.bl false) H2 := fun hn => by
        have := q H2 (e1.trans e2)
        have gf : goodB (win (sz b p s) s) gr w st x off = false := all_take_false hr hn
        rw [gf] at this
        exact this
      refine ite2 (fun h => ?_) (fun h => ?_)
      · have h : x * f ≤ off + gr * (w + st * pp) := of_decide_eq_true h
        refine ⟨_, rfl, _, rfl, _, _, rfl, rfl, wide_mul (a := 400) (b := 10) hx (by omega) (by decide) (by decide) (by decide), _, _, rfl, rfl, _, rfl, ?_⟩
        by_cases h3 : off + gr * (w + st * pp) < x * l
        · refine (show (if (!decide (off + gr * (w + st * pp) < x * l)) = true then _ else _) from ?_)
          rw [decide_eq_true h3]
          refine iteF ⟨_, _, _, _, rfl, e2, all_take_succ hr ?_ ok⟩
          rw [r3_mk, decide_eq_true h, decide_eq_true h3]
          rfl
        · refine (show (if (!decide (off + gr * (w + st * pp) < x * l)) = true then _ else _) from ?_)
          rw [decide_eq_false h3]
          refine iteT (no ?_)
          rw [decide_eq_false h3, Bool.and_false]
      · have h : ¬ x * f ≤ off + gr * (w + st * pp) := by simpa using h
        refine ⟨false, rfl, iteT (no ?_)⟩
        rw [decide_eq_false h]
        rfl
    · rintro σ H2 ⟨u1, u2, u3, u4, rfl, e2, ok⟩
      have el : ws.length = (win (sz b p s) s).length := lw.1
      rw [el, List.take_length] at ok
      have := q H2 (e1.trans e2)
      have gf : goodB (win (sz b p s) s) gr w st x off = true := ok
      rw [gf] at this
      exact this
def sp_span (K : PySem.W.Frag) : Sp := fun vs H Q _ => ∃ (a : Addr) (n : Nat) (g : V) (b : Nat) (p : Pa) (s : Nat) (c : V) (gr w st : Int), vs = [.ref a, g, c] ∧ Pool H a n ∧ n ≤ 900000 ∧ IsSh K H g b p s ∧ IsRc K H c gr w st ∧
  ∀ x H', Kp a H H' → Pool H' a (n + 5) → 1 ≤ x → x < 2 ^ 190 → Q (.int x) H'
theorem cal_span (T : Tx K mg) : Cal P w K mg base CX0 4 "_law_span" ["_law_pool_here", "_law_form_here", "_law_clock_here"] (sp_span K) := by
  have c_law_draw := cal_draw (P := P) (w := w) (base := base) T
  have c_law_bounds := cal_lbounds (P := P) (w := w) (base := base) T
  refine T.d_law_span.cal sc_law_span (fun vs H Q E h => ?_) (fun _ _ _ _ _ _ us hl => match us, hl with | [_, _, _], _ => rfl) (fun f cdv A outer s H vs Q E hr h => ⟨_, (pss_cons (ps_asg (pe_cal c_law_bounds (hr.mono (by decide)) pass0 (pa_cons (pv 1) (pa_cons (pv 2) pa_nil))) (pg_tup rfl (pgs_cons (pg_name (i := 3) sc_law_span.nd rfl (Or.inl rfl)) (pgs_cons (pg_name (i := 4) sc_law_span.nd rfl (Or.inl rfl)) pgs_nil))))
      (pss_cons (ps_par (i := 5) (j := 6) (by rfl) sc_law_span.nd rfl rfl (by decide) rfl rfl (pa_cons (pe_callB (call_min2 rfl) (by rfl) T.b_min (by decide +kernel) (pa_cons (pv 3) (pa_cons (pv 4) pa_nil))) (pa_cons (pe_callB (call_max2 rfl) (by rfl) T.b_max (by decide +kernel) (pa_cons (pv 3) (pa_cons (pv 4) pa_nil))) pa_nil)) (by rfl))
      (pss_cons (ps_set (i := 7) sc_law_span.nd rfl (Or.inl rfl) (pe_cal c_law_draw (hr.mono (by decide)) pass0 (pa_cons (pv 0) (pa_cons pe_int pa_nil))))
      (pss_cons (ps_set (i := 8) sc_law_span.nd rfl (Or.inl rfl) (pe_lst (pa_cons (pe_op op_sub (pe_op op_sub (pv 5) pe_int) (pv 7)) (pa_cons (pe_op op_add (pe_op op_add (pv 6) pe_int) (pv 7)) (pa_cons (pe_op op_sub (pv 5) (pv 7)) (pa_cons (pe_op op_add (pv 6) (pv 7)) (pa_cons (pe_op op_add (pv 5) (pe_cal c_law_draw (hr.mono (by decide)) pass0 (pa_cons (pv 0) (pa_cons (pe_op op_add (pe_op op_sub (pv 6) (pv 5)) pe_int) pa_nil)))) pa_nil)))))))
      (pss_cons (ps_set (i := 8) sc_law_span.nd rfl (Or.inl rfl) (pe_op op_cat (pv 8) (pe_lst (pa_cons (pe_op op_add pe_int (pe_cal c_law_draw (hr.mono (by decide)) pass0 (pa_cons (pv 0) (pa_cons (pe_op op_mulW pe_int (pv 6)) pa_nil)))) (pa_cons (pe_op op_add (pe_op op_add (pv 6) pe_int) (pe_cal c_law_draw (hr.mono (by decide)) pass0 (pa_cons (pv 0) (pa_cons (pe_ix ix_tup (pv 2) pe_int (fun _ _ => rfl)) pa_nil)))) (pa_cons (pe_op op_mulW (pe_ix ix_tup (pv 2) pe_int (fun _ _ => rfl)) (pe_ix ix_tup (pv 2) pe_int (fun _ _ => rfl))) pa_nil))))))
      (pss_one (ps_ret (pe_callB (call_max2 rfl) (by rfl) T.b_max (by decide +kernel) (pa_cons pe_int (pa_cons (pe_ix ix_list (pv 8) (pe_cal c_law_draw (hr.mono (by decide)) pass0 (pa_cons (pv 0) (pa_cons pe_int pa_nil))) (fun _ _ => rfl)) pa_nil)))))))))), ?_⟩)
  · obtain ⟨a, n, g, b, p, s, c, gr, w, st, rfl, _⟩ := h
    rfl
  · obtain ⟨a, n, g, b, p, s, c, gr, w, st, rfl, src, hn, sh, rc, q⟩ := h
    have z := sz_bd sh
    have cl := rc.clb
    obtain ⟨y0, hy0⟩ := src.at
    obtain ⟨t, rfl, sq, _⟩ := id rc
    have sqk : ∀ {H' : Hp}, Kp a H H' → SqT K H' t [.int gr, .int w, .int st] := fun k => k.tup hy0 sq
    obtain ⟨lo, m1⟩ := lo_ex gr w st z.2.2.2.2.1
    obtain ⟨hi, m2⟩ := hi_ex (n := sz b p s) (s := s) gr w st z.2.2.2.2.1
    have lo1 := lo_ge z.2.2.2.2.1 cl.toClk m1
    have hi1 := hi_ge z.2.2.2.2.1 cl.toClk m2
    have lob := lo_lt z.2.2.2.2 cl m1
    have hib := hi_lt z.2.2.2.2 cl m2
    have p1 : (2 : Int) ^ 187 + 2 ^ 187 = 2 ^ 188 := by decide
    have p2 : (2 : Int) ^ 186 + 2 ^ 186 = 2 ^ 187 := by decide
    have p3 : (2 : Int) ^ 185 + 2 ^ 185 = 2 ^ 186 := by decide
    have p4 : (1237940039285380274899124224 : Int) < 2 ^ 185 := by decide
    have p5 : (2 : Int) ^ 188 + 2 ^ 188 ≤ 2 ^ 190 := by decide
    have p6 : (2 : Int) ^ 190 < 2 ^ 200 := by decide
    have g1 := cl.g1
    have gb := cl.gb
    have s1 := cl.s1
    have sb := cl.sb
    refine ⟨_, rfl, _, rfl, g, b, p, s, _, gr, w, st, lo, hi, rfl, sh, rc, m1, m2, fun R H1 nR e1 hR => ⟨R, _, rfl, st_of hR, rfl, _, _, rfl, _, _, rfl, rfl, ?_⟩⟩
    have k1 : Kp a H H1 := Ex.kp e1
    have src1 := src.ex e1
    refine ⟨_, rfl, _, rfl, _, _, rfl, _, rfl, _, rfl, _, _, rfl, _, _, rfl, ?_⟩
    have hl : 1 ≤ (if hi < lo then hi else lo) ∧ (if hi < lo then hi else lo) ≤ (if hi > lo then hi else lo) ∧ (if hi > lo then hi else lo) < 2 ^ 186 := by
      split <;> split <;> omega
    dsimp only
    generalize (if hi < lo then hi else lo) = low at hl ⊢
    generalize (if hi > lo then hi else lo) = high at hl ⊢
    obtain ⟨l1, l2, l3⟩ := hl
    refine ⟨_, rfl, a, 3, n, rfl, src1, by omega, by decide, by decide, fun d H2 d0 d1 src2 k2 => ?_⟩
    refine ⟨_, rfl, _, _, rfl, rfl, _, rfl, _, _, rfl, rfl, _, rfl, _, _, rfl, rfl, _, rfl, _, _, rfl, rfl, _, rfl, _, rfl, _, _, rfl, rfl, _, rfl, _, rfl, _, _, rfl, rfl, _, rfl, _, rfl, _, rfl, _, rfl, _, _, rfl, rfl, _, _, rfl, rfl, a, _, n + 1, rfl, src2, by omega, by omega, by omega, fun d2 H3 d20 d21 src3 k3 => ⟨_, _, rfl, rfl, (by show 5 ≤ sizeLine; decide), fun L nL => ?_⟩⟩
    have L_a := src3.ne nL
    have eL := Ex.new nL (o := .lst [.int (low - 1 - d), .int (high + 1 + d), .int (low - d), .int (high + d), .int (low + d2)])
    have src3' := src3.ex eL
    have hL0 : (upd H3 L (.lst [.int (low - 1 - d), .int (high + 1 + d), .int (low - d), .int (high + d), .int (low + d2)])) L = some (.lst [.int (low - 1 - d), .int (high + 1 + d), .int (low - d), .int (high + d), .int (low + d2)]) := upd_same
    have k03 := ((k1.trans k2).trans k3).trans (Ex.kp eL)
    refine (show _ from ?_)
    generalize upd H3 L (.lst [.int (low - 1 - d), .int (high + 1 + d), .int (low - d), .int (high + d), .int (low + d2)]) = H3' at src3' hL0 k03
    have w1 : CMulW 2 high := wide_mul (a := 10) (b := 200) (by decide) (nat_abs_lt (by omega) (by omega)) (by decide) (by decide) (by decide)
    have w2 : CMulW gr st := wide_mul (a := 90) (b := 90) (by omega) (by omega) (by decide) (by decide) (by decide)
    refine ⟨_, rfl, _, rfl, _, rfl, _, _, rfl, rfl, w1, a, _, n + 2, rfl, src3', by omega, by omega, by omega, fun d3 H4 d30 d31 src4 k4 => ⟨_, _, rfl, rfl, ?_⟩⟩
    have k04 := k03.trans k4
    refine ⟨_, rfl, _, _, rfl, rfl, _, rfl, _, rfl, t, _, 0, .int gr, rfl, rfl, sqk k04, rfl, a, gr, n + 3, rfl, src4, by omega, by omega, by omega, fun d4 H5 d40 d41 src5 k5 => ⟨_, _, rfl, rfl, ?_⟩⟩
    have k05 := k04.trans k5
    refine ⟨_, rfl, t, _, 0, .int gr, rfl, rfl, sqk k05, rfl, _, rfl, t, _, 2, .int st, rfl, rfl, sqk k05, rfl, _, _, rfl, rfl, w2, (by show 3 ≤ sizeLine; decide), fun M nM => ?_⟩
    have hL5 := k5 L _ L_a (k4 L _ L_a hL0)
    have eM := Ex.new nM (o := .lst [.int (1 + d3), .int (high + 1 + d4), .int (gr * st)])
    refine ⟨L, M, _, _, rfl, rfl, eM _ _ hL5, upd_same, (by show 8 ≤ sizeLine; decide), fun S nS => ?_⟩
    have eS := Ex.new nS (o := .lst ([.int (low - 1 - d), .int (high + 1 + d), .int (low - d), .int (high + d), .int (low + d2)] ++ [.int (1 + d3), .int (high + 1 + d4), .int (gr * st)]))
    have src6 := src5.ex (eM.trans eS)
    have S_a := (src5.ex eM).ne nS
    have hS : (upd (upd H5 M (.lst [.int (1 + d3), .int (high + 1 + d4), .int (gr * st)])) S (.lst ([.int (low - 1 - d), .int (high + 1 + d), .int (low - d), .int (high + d), .int (low + d2)] ++ [.int (1 + d3), .int (high + 1 + d4), .int (gr * st)]))) S = some (.lst [.int (low - 1 - d), .int (high + 1 + d), .int (low - d), .int (high + d), .int (low + d2), .int (1 + d3), .int (high + 1 + d4), .int (gr * st)]) := upd_same
    have k06 := k05.trans (Ex.kp (eM.trans eS))
    refine (show _ from ?_)
    generalize upd (upd H5 M (.lst [.int (1 + d3), .int (high + 1 + d4), .int (gr * st)])) S (.lst ([.int (low - 1 - d), .int (high + 1 + d), .int (low - d), .int (high + d), .int (low + d2)] ++ [.int (1 + d3), .int (high + 1 + d4), .int (gr * st)])) = H6 at src6 hS k06
    refine ⟨_, rfl, _, rfl, a, 8, n + 4, rfl, src6, by omega, by decide, by decide, fun d5 H7 d50 d51 src7 k7 => ?_⟩
    have gs : gr * st < 2 ^ 190 := Int.lt_trans (cl.mul (x := st) (by omega) (by omega)).2 (by decide)
    obtain ⟨y, hy, y1⟩ : ∃ y : Int, atI [V.int (low - 1 - d), .int (high + 1 + d), .int (low - d), .int (high + d), .int (low + d2), .int (1 + d3), .int (high + 1 + d4), .int (gr * st)] d5 = some (.int y) ∧ y < 2 ^ 190 := by
      have : d5 = 0 ∨ d5 = 1 ∨ d5 = 2 ∨ d5 = 3 ∨ d5 = 4 ∨ d5 = 5 ∨ d5 = 6 ∨ d5 = 7 := by omega
      rcases this with rfl | rfl | rfl | rfl | rfl | rfl | rfl | rfl
      · exact ⟨_, rfl, by omega⟩
      · exact ⟨_, rfl, by omega⟩
      · exact ⟨_, rfl, by omega⟩
      · exact ⟨_, rfl, by omega⟩
      · exact ⟨_, rfl, by omega⟩
      · exact ⟨_, rfl, by omega⟩
      · exact ⟨_, rfl, by omega⟩
      · exact ⟨_, rfl, gs⟩
    refine ⟨S, _, d5, _, rfl, rfl, sq_of (k7 S _ S_a hS), hy, _, _, rfl, q _ _ (k06.trans k7) src7 ?_ ?_⟩
    · split <;> omega
    · split <;> omega
def sp_lgd (K : PySem.W.Frag) : Sp := fun vs H Q _ => ∃ g b p s c gr w st x lo hi, vs = [g, c, .int x] ∧ IsSh K H g b p s ∧ IsRc K H c gr w st ∧ x.natAbs < 2 ^ 200 ∧ Mx (0 :: gdL (sz b p s) s gr w st x) lo ∧ Mi ((gr - 1) :: gdH (sz b p s) s gr w st x) hi ∧ RetU [.int lo, .int hi] H Q
theorem cal_lgd (T : Tx K mg) : Cal P w K mg base CX0 3 "_law_good" ["_law_form_here", "_law_clock_here", "_law_span_here"] (sp_lgd K) := by
  have c_law_rows := cal_lrows (P := P) (w := w) (base := base) T
  refine T.d_law_good.cal sc_law_good (fun vs H Q E h => ?_) (fun _ _ _ _ _ _ us hl => match us, hl with | [_, _, _], _ => rfl) (fun f cdv A outer s H vs Q E hr h => ⟨_, (pss_cons (ps_par (i := 3) (j := 4) (by rfl) sc_law_good.nd rfl rfl (by decide) rfl rfl (pa_cons (pe_lst (pa_cons pe_int pa_nil)) (pa_cons (pe_lst (pa_cons (pe_op op_sub (pe_ix ix_tup (pv 1) pe_int (fun _ _ => rfl)) pe_int) pa_nil)) pa_nil)) (by rfl))
      (pss_cons (ps_for PassesOwn.never rfl (pi_list (pe_cal c_law_rows (hr.mono (by decide)) pass0 (pa_cons (pv 0) pa_nil))) (pg_tup rfl (pgs_cons (pg_name (i := 5) sc_law_good.nd rfl (Or.inl rfl)) (pgs_cons (pg_name (i := 6) sc_law_good.nd rfl (Or.inl rfl)) (pgs_cons (pg_name (i := 7) sc_law_good.nd rfl (Or.inl rfl)) pgs_nil)))) (pss_cons (ps_set (i := 8) sc_law_good.nd rfl (Or.inl rfl) (pe_op op_mulW (pe_ix ix_tup (pv 1) pe_int (fun _ _ => rfl)) (pe_op op_add (pe_ix ix_tup (pv 1) pe_int (fun _ _ => rfl)) (pe_op op_mulW (pe_ix ix_tup (pv 1) pe_int (fun _ _ => rfl)) (pv 5)))))
      (pss_cons (ps_expr (pe_bm PySem.F.plainAttrs_list PySem.F.slot_list_append PySem.F.type_list_append mt_append (pv 3) (pa_cons (pe_op op_sub (pe_op op_mulW (pv 2) (pv 6)) (pv 8)) pa_nil)))
      (pss_one (ps_expr (pe_bm PySem.F.plainAttrs_list PySem.F.slot_list_append PySem.F.type_list_append mt_append (pv 4) (pa_cons (pe_op op_sub (pe_op op_sub (pe_op op_mulW (pv 2) (pv 7)) pe_int) (pv 8)) pa_nil)))))))
      (pss_one (ps_ret (pe_tup (pa_cons (pe_callB (cr_max rfl) (by rfl) T.b_max (by decide +kernel) (pa_cons (pv 3) pa_nil)) (pa_cons (pe_callB (cr_min rfl) (by rfl) T.b_min (by decide +kernel) (pa_cons (pv 4) pa_nil)) pa_nil))))))), ?_⟩)
  · obtain ⟨g, b, p, s, c, gr, w, st, x, lo, hi, rfl, _⟩ := h
    rfl
  · obtain ⟨g, b, p, s, c, gr, w, st, x, lo, hi, rfl, sh, rc, hx, m1, m2, q⟩ := h
    have z := sz_bd sh
    have cl := rc.clb
    obtain ⟨t, rfl, sq, _⟩ := id rc
    refine ⟨(by show 1 ≤ sizeLine; decide), fun L nL => ⟨_, rfl, t, _, 0, .int gr, rfl, rfl, ex_t (Ex.new nL) sq, rfl, _, _, rfl, rfl, (by show 1 ≤ sizeLine; decide), fun G nG => ⟨_, _, rfl, ?_⟩⟩⟩
    have L_G : L ≠ G := fun z => by rw [← z, upd_same] at nG; cases nG
    have e0 : Ex H (upd (upd H L (.lst [.int 0])) G (.lst [.int (gr - 1)])) := (Ex.new nL).trans (Ex.new nG)
    have hL0 : (upd (upd H L (.lst [.int 0])) G (.lst [.int (gr - 1)])) L = some (.lst [.int 0]) := Ex.new nG _ _ upd_same
    have hG0 : (upd (upd H L (.lst [.int 0])) G (.lst [.int (gr - 1)])) G = some (.lst [.int (gr - 1)]) := upd_same
    have fG : H G = none := fresh_back (Ex.new nL) nG
    generalize upd (upd H L (.lst [.int 0])) G (.lst [.int (gr - 1)]) = H0 at e0 hL0 hG0
    refine ⟨_, rfl, g, b, p, s, rfl, sh.ex e0, fun wA H1 ws nw e1 hw lw => ⟨wA, rfl, ⟨_, sq_of hw⟩, ?_⟩⟩
    have w_L : wA ≠ L := fun z => by rw [z, hL0] at nw; cases nw
    have w_G : wA ≠ G := fun z => by rw [z, hG0] at nw; cases nw
    refine for_list (K := K) (a := wA) (xs := ws) (fun i σ H2 => ∃ u1 u2 u3 u4, σ = [some g, some (.ref t), some (.int x), some (.ref L), some (.ref G), u1, u2, u3, u4] ∧ Kp2 L G H1 H2 ∧
        H2 L = some (.lst (((0 : Int) :: ((win (sz b p s) s).take i).map (r3 (fun p f _ => f * x - gr * (w + st * p)) 0)).map V.int)) ∧ H2 G = some (.lst (((gr - 1) :: ((win (sz b p s) s).take i).map (r3 (fun p _ l => l * x - 1 - gr * (w + st * p)) 0)).map V.int)))
      ⟨none, none, none, none, rfl, Kp2.refl, e1 _ _ hL0, e1 _ _ hG0⟩ (fun i σ H2 _ ⟨_, _, _, _, _, k, _⟩ => sq_of (k wA _ w_L w_G hw)) ?_ ?_
    · rintro i y σ H2 hy ⟨u1, u2, u3, u4, rfl, k2, hL, hG⟩
      obtain ⟨r, hr, r0⟩ := lw.get hy
      have hi := (List.getElem?_eq_some_iff.mp hr).1
      rw [win_len (by omega)] at hi
      obtain ⟨pp, f, l, rfl, h1, h2⟩ := (win_mem z.2.2.2.2.1).mp (List.mem_of_getElem? hr)
      obtain ⟨tt, rfl, st3⟩ := r0
      have st3' : SqT K H2 tt _ := k2.tup (e1 _ _ hL0) (e1 _ _ hG0) st3
      have sq2 : SqT K H2 t _ := k2.tup (e1 _ _ hL0) (e1 _ _ hG0) (ex_t (e0.trans e1) sq)
      refine ⟨tt, _, rfl, st3', rfl, _, _, rfl, _, _, rfl, _, _, rfl, rfl, ?_⟩
      have b1 := cl.sp (p := pp) (by omega)
      have w0 := cl.w0
      have wb := cl.wb
      have g1 := cl.g1
      have gb := cl.gb
      have s1 := cl.s1
      have sb := cl.sb
      have wm1 : CMulW st (pp : Int) := wide_mul (a := 90) (b := 4) (by omega) (by omega) (by decide) (by decide) (by decide)
      have wm2 : CMulW gr (w + st * (pp : Int)) := wide_mul (a := 90) (b := 100) (by omega) (by omega) (by decide) (by decide) (by decide)
      have wm3 : CMulW x (f : Int) := wide_mul (a := 200) (b := 10) hx (by omega) (by decide) (by decide) (by decide)
      have wm4 : CMulW x (l : Int) := wide_mul (a := 200) (b := 10) hx (by omega) (by decide) (by decide) (by decide)
      refine ⟨_, rfl, t, _, 0, .int gr, rfl, rfl, sq2, rfl, _, rfl, t, _, 1, .int w, rfl, rfl, sq2, rfl, _, rfl, t, _, 2, .int st, rfl, rfl, sq2, rfl, _, rfl, _, _, rfl, rfl, wm1, _, _, rfl, rfl, _, _, rfl, rfl, wm2, ?_⟩
      refine ⟨_, rfl, .inl ⟨rfl, _, sq_of hL⟩, _, rfl, _, rfl, _, _, rfl, rfl, wm3, _, rfl, _, _, rfl, rfl, L, _, _, rfl, rfl, hL, ?_, ?_⟩
      · rw [List.length_map, List.length_cons, List.length_map, List.length_take]
        exact small1000 (by omega)
      have hG3 : ∀ o, (upd H2 L o) G = some (.lst (((gr - 1) :: ((win (sz b p s) s).take i).map (r3 (fun p _ l => l * x - 1 - gr * (w + st * p)) 0)).map V.int)) := fun o => by
        rw [upd_ne (Ne.symm L_G)]
        exact hG
      refine ⟨_, rfl, .inl ⟨rfl, _, sq_of (hG3 _)⟩, _, rfl, _, rfl, _, _, rfl, rfl, wm4, _, _, rfl, rfl, _, rfl, _, _, rfl, rfl, G, _, _, rfl, rfl, hG3 _, ?_, ?_⟩
      · rw [List.length_map, List.length_cons, List.length_map, List.length_take]
        exact small1000 (by omega)
      refine ⟨_, _, _, _, rfl, k2.updA.updB, ?_, ?_⟩
      · rw [upd_ne L_G, upd_same, List.take_add_one, hr, List.map_append, Int.mul_comm x]
        simp [r3_mk]
      · rw [upd_same, List.take_add_one, hr, List.map_append, Int.mul_comm x]
        simp [r3_mk]
    · rintro σ H2 ⟨u1, u2, u3, u4, rfl, k2, hL, hG⟩
      have e2 : ws.length = (win (sz b p s) s).length := lw.1
      rw [e2, List.take_length] at hL hG
      refine ⟨_, rfl, L, _, rfl, sq_of hL, ?_, fun m hm hle => ?_⟩
      · exact List.length_pos_of_mem m1.1
      obtain rfl := Mx.uniq ⟨hm, hle⟩ m1
      refine ⟨_, rfl, G, _, rfl, sq_of hG, ?_, fun m hm hle => ?_⟩
      · exact List.length_pos_of_mem m2.1
      obtain rfl := Mi.uniq ⟨hm, hle⟩ m2
      refine ⟨(by show 2 ≤ sizeLine; decide), fun R nR => ?_⟩
      have e3 : Ex H H2 := fun a o ha => k2 a o (ne_of_none ha nL) (ne_of_none ha fG) ((e0.trans e1) a o ha)
      exact q R _ (fresh_back e3 nR) (e3.trans (Ex.new nR)) upd_same
end
end LW
namespace LW
open PySem PySem.Spec PyProof.Rows L2 Evl SB
section
variable {P : Program} {w : World} {K : PySem.W.Frag} {mg : Str → Option Value} {base : Heap}
def sp_walked : Sp := fun vs H Q _ => ∃ gr i x : Int, vs = [.int gr, .int i, .int x] ∧ 1 ≤ gr ∧ 0 ≤ i ∧ i < gr ∧ 0 ≤ x ∧ Q (.int ((i - x) % gr)) H
theorem cal_walked (T : Tx K mg) : Cal P w K mg base CX0 1 "_law_walked" ["_law_grid", "_law_start", "_law_begin"] sp_walked := by
  refine T.d_law_walked.cal sc_law_walked (fun vs H Q E h => ?_) (fun _ _ _ _ _ _ us hl => match us, hl with | [_, _, _], _ => rfl) (fun f cdv A outer s H vs Q E hr h => ⟨_, (pss_cons (ps_set (i := 3) sc_law_walked.nd rfl (Or.inl rfl) (pv 1))
      (pss_cons (ps_while PassesOwn.never (pt_cmpR op_lt (pv 3) (pv 2) (nomark _)) (pss_one (ps_set (i := 3) sc_law_walked.nd rfl (Or.inl rfl) (pe_op op_add (pv 3) (pv 0)))))
      (pss_one (ps_ret (pe_op op_sub (pv 3) (pv 2)))))), ?_⟩)
  · obtain ⟨gr, i, x, rfl, _⟩ := h
    rfl
  · obtain ⟨gr, i, x, rfl, g1, i0, i1, x0, q⟩ := h
    refine ⟨_, rfl, ?_⟩
    refine ⟨fun m σ H1 => ∃ y k : Int, σ = [some (.int gr), some (.int i), some (.int x), some (.int y)] ∧ H1 = H ∧ y = i + k * gr ∧ (y < x + gr) ∧ 0 ≤ y ∧ m = (x + gr - y).toNat, ⟨_, i, 0, rfl, rfl, by omega, by omega, i0, rfl⟩, ?_⟩
    rintro m σ H1 ⟨y, k, rfl, rfl, e, h1, h2, rfl⟩
    refine ⟨_, rfl, _, rfl, _, _, rfl, rfl, _, rfl, ite2 (fun h => ?_) (fun h => ?_)⟩
    · have h : y < x := of_decide_eq_true h
      refine ⟨fun σ' H' => ∃ y' k' : Int, σ' = [some (.int gr), some (.int i), some (.int x), some (.int y')] ∧ H' = H1 ∧ y' = i + k' * gr ∧ y' < x + gr ∧ 0 ≤ y' ∧ y' = y + gr, ?_, ?_⟩
      · rintro σ' H' ⟨y', k', rfl, rfl, a1, a2, a3, a4⟩
        exact ⟨_, by omega, y', k', rfl, rfl, a1, a2, a3, rfl⟩
      · refine ⟨_, rfl, _, rfl, _, _, rfl, rfl, y + gr, k + 1, rfl, rfl, ?_, by omega, by omega, rfl⟩
        rw [Int.add_mul]
        omega
    · have h : ¬ y < x := fun z => h (decide_eq_true z)
      refine ⟨_, rfl, _, rfl, _, _, rfl, rfl, ?_⟩
      have e1 : y - x = (i - x) % gr := by
        have e2 : y - x = (y - x) % gr := (Int.emod_eq_of_lt (by omega) (by omega)).symm
        rw [e2, e, show i + k * gr - x = (i - x) + k * gr by omega, Int.add_mul_emod_self_right]
      refine (show Q (.int (y - x)) H1 from ?_)
      rw [e1]
      exact q
theorem str_dec (x : Str) : decide (V.str x = V.str x) = true := decide_eq_true rfl
theorem p10 : (10 : Int) ^ (29 : Int).toNat = 100000000000000000000000000000 := by decide
theorem p40 : (10 : Int) ^ (40 : Int).toNat = 10000000000000000000000000000000000000000 := by decide
def sp_oright (K : PySem.W.Frag) : Sp := fun vs H Q _ => ∃ (a : Addr) (n : Nat) (g : V) (b : Nat) (p : Pa) (s : Nat) (c : V) (gr w st x : Int) (sm : Bool), vs = [.ref a, g, c, .int x, .bl sm] ∧ Pool H a n ∧ n ≤ 800000 ∧ IsSh K H g b p s ∧ IsRc K H c gr w st ∧ 1 ≤ x ∧ x < 2 ^ 190 ∧
  ∀ H', Kp a H H' → Pool H' a (n + 10) → Q (.bl true) H'
theorem cal_oright (T : Tx K mg) : CalG P w K mg base CX0 7 "_law_offsets_right" ["_law_pool_here", "_law_form_here", "_law_clock_here", "_law_span_here", "_law_is_small"] (sp_oright K) := by
  have c_law_draw := cal_draw (P := P) (w := w) (base := base) T
  have c_law_size := cal_lsize (P := P) (w := w) (base := base) T
  have c_law_walked := cal_walked (P := P) (w := w) (base := base) T
  have c_offset_of := cal_offset_of (P := P) (w := w) (base := base) T
  have c_offset_of_index_phase_length_receiver_shape := cal_offset_ofK (P := P) (w := w) (base := base) T
  refine T.d_law_offsets_right.calG sc_law_offsets_right (fun vs H Q E h => ?_) (fun _ _ _ _ _ _ us hl => match us, hl with | [_, _, _, _, _], _ => rfl) (fun f cdv A outer s H vs Q E hr hgd h => ⟨_, (pss_cons (ps_par (i := 5) (j := 6) (by rfl) sc_law_offsets_right.nd rfl rfl (by decide) rfl rfl (pa_cons (pe_ix ix_tup (pv 2) pe_int (fun _ _ => rfl)) (pa_cons (pe_op op_mulW (pe_cal c_law_size (hr.mono (by decide)) pass0 (pa_cons (pv 1) pa_nil)) (pv 3)) pa_nil)) (by rfl))
      (pss_cons (ps_for PassesOwn.never rfl (pi_list (pe_lst (pa_cons pe_int (pa_cons (pe_op op_sub (pv 5) pe_int) (pa_cons (pe_cal c_law_draw (hr.mono (by decide)) pass0 (pa_cons (pv 0) (pa_cons (pv 5) pa_nil))) pa_nil))))) (pg_name (i := 7) sc_law_offsets_right.nd rfl (Or.inl rfl)) (pss_cons (ps_set (i := 8) sc_law_offsets_right.nd rfl (Or.inl rfl) (pe_lst (pa_cons pe_int (pa_cons pe_int (pa_cons pe_int (pa_cons pe_int (pa_cons (pe_cal c_law_draw (hr.mono (by decide)) pass0 (pa_cons (pv 0) (pa_cons pe_int pa_nil))) (pa_cons (pe_cal c_law_draw (hr.mono (by decide)) pass0 (pa_cons (pv 0) (pa_cons (pe_op op_powB pe_int pe_int) pa_nil))) (pa_cons (pe_cal c_law_draw (hr.mono (by decide)) pass0 (pa_cons (pv 0) (pa_cons (pe_op op_powB pe_int pe_int) pa_nil))) pa_nil)))))))))
      (pss_cons (ps_for PassesOwn.never rfl (pi_list (pv 8)) (pg_name (i := 9) sc_law_offsets_right.nd rfl (Or.inl rfl)) (pss_cons (ps_set (i := 10) sc_law_offsets_right.nd rfl (Or.inl rfl) (pe_callB (call_rp hgd hr.units) (by rfl) T.b_repr (by decide +kernel) (pa_cons (pe_op op_mod (pe_callTy call_int1 (by rfl) T.b_int (by decide +kernel) (pa_cons (pe_op op_sub (pv 7) (pe_op op_mulW (pv 9) (pv 6))) pa_nil)) (pv 5)) pa_nil)))
      (pss_one (ps_if (pt_cmpR op_ne (pe_callB (call_rp hgd hr.units) (by rfl) T.b_repr (by decide +kernel) (pa_cons (pe_cal c_offset_of (hr.mono (by decide)) pass0 (pa_cons (pv 1) (pa_cons (pv 2) (pa_cons (pv 3) (pa_cons (pv 7) (pa_cons (pv 9) pa_nil)))))) pa_nil)) (pv 10) (nomark _)) (pss_one (ps_ret pe_bl)) pss_nil))))
      (pss_cons (ps_if (pt_cmpR op_ne (pe_callB (call_rp hgd hr.units) (by rfl) T.b_repr (by decide +kernel) (pa_cons (pe_calK c_offset_of_index_phase_length_receiver_shape (hr.mono (by decide)) pass0 (pk_cons (pv 9) (pk_cons (pv 7) (pk_cons (pv 3) (pk_cons (pv 2) (pk_cons (pv 1) pk_nil)))))) pa_nil)) (pv 10) (nomark _)) (pss_one (ps_ret pe_bl)) pss_nil)
      (pss_one (ps_if (pt_val (pv 4)) (pss_one (ps_for PassesOwn.never rfl (pi_range1 rfl T.b_range (pa_cons pe_int pa_nil)) (pg_name (i := 9) sc_law_offsets_right.nd rfl (Or.inl rfl)) (pss_one (ps_if (pt_cmpR op_ne (pe_cal c_offset_of (hr.mono (by decide)) pass0 (pa_cons (pv 1) (pa_cons (pv 2) (pa_cons (pv 3) (pa_cons (pv 7) (pa_cons (pv 9) pa_nil)))))) (pe_cal c_law_walked (hr.mono (by decide)) pass0 (pa_cons (pv 5) (pa_cons (pv 7) (pa_cons (pe_op op_mulW (pv 9) (pv 6)) pa_nil)))) (nomark _)) (pss_one (ps_ret pe_bl)) pss_nil)))) pss_nil))))))
      (pss_one (ps_ret pe_bl)))), ?_⟩)
  · obtain ⟨a, n, g, b, p, s, c, gr, w, st, x, sm, rfl, _⟩ := h
    rfl
  · obtain ⟨a, n, g, b, p, s, c, gr, w, st, x, sm, rfl, src, hn, sh, rc, x1, x2, q⟩ := h
    have z := sz_bd sh
    have cl := rc.clb
    have g1 := cl.g1
    have gb := cl.gb
    obtain ⟨y0, hy0⟩ := src.at
    obtain ⟨t, rfl, sq, _⟩ := id rc
    have xn : x.natAbs < 2 ^ 190 := nat_abs_lt (by omega) x2
    have n10 : (((sz b p s : Nat) : Int)).natAbs < 2 ^ 10 := by omega
    have wm : CMulW ((sz b p s : Nat) : Int) x := wide_mul n10 xn (by decide) (by decide) (by decide)
    have un : (((sz b p s : Nat) : Int) * x).natAbs < 2 ^ 200 := wide_lt n10 xn
    have u0 : 0 ≤ ((sz b p s : Nat) : Int) * x := Int.mul_nonneg (by omega) (by omega)
    have x400 : x.natAbs < 2 ^ 400 := Nat.lt_of_lt_of_le xn (Nat.pow_le_pow_right (by decide) (by decide))
    have xz : ∀ k : Int, k * (sz b p s : Nat) * x = k * (((sz b p s : Nat) : Int) * x) := fun k => Int.mul_assoc _ _ _
    refine ⟨_, rfl, t, _, 0, .int gr, rfl, rfl, sq, rfl, _, rfl, g, b, p, s, rfl, sh, _, rfl, _, _, rfl, rfl, wm, _, _, rfl, ?_⟩
    refine ⟨_, rfl, _, _, rfl, rfl, _, rfl, _, rfl, a, gr, n, rfl, src, by omega, by omega, by omega, fun d H1 d0 d1 src1 k1 => ⟨(by show 3 ≤ sizeLine; decide), fun L nL => ?_⟩⟩
    have L_a := src1.ne nL
    have hL : (upd H1 L (.lst [.int 0, .int (gr - 1), .int d])) L = some (.lst ([0, gr - 1, d].map V.int)) := upd_same
    have k1' := k1.trans (Ex.kp (Ex.new nL (o := .lst [.int 0, .int (gr - 1), .int d])))
    have src1' := src1.ex (Ex.new nL (o := .lst [.int 0, .int (gr - 1), .int d]))
    refine (show _ from ?_)
    generalize upd H1 L (.lst [.int 0, .int (gr - 1), .int d]) = H2 at hL k1' src1'
    have ys_ok : ∀ y ∈ [0, gr - 1, d], 0 ≤ y ∧ y < gr := by
      intro y hy
      simp only [List.mem_cons, List.not_mem_nil, or_false] at hy
      rcases hy with rfl | rfl | rfl <;> omega
    have yl : [0, gr - 1, d].length = 3 := rfl
    generalize [0, gr - 1, d] = ys at hL ys_ok yl
    refine ⟨L, rfl, ⟨_, sq_of hL⟩, ?_⟩
    refine for_list (K := K) (a := L) (xs := ys.map V.int) (fun i σ H3 => ∃ v1 v2 v3 v4, σ = [some (.ref a), some g, some (.ref t), some (.int x), some (.bl sm), some (.int gr), some (.int (((sz b p s : Nat) : Int) * x)), v1, v2, v3, v4] ∧ Kp a H H3 ∧ Pool H3 a (n + 1 + 3 * i) ∧ H3 L = some (.lst (ys.map V.int)))
      ⟨none, none, none, none, rfl, k1', src1', hL⟩ (fun i σ H3 _ ⟨_, _, _, _, _, _, _, h⟩ => sq_of h) ?_ ?_
    · rintro i yv σ H3 hyv ⟨v1, v2, v3, v4, rfl, k3, src3, hL3⟩
      obtain ⟨y, hy, rfl⟩ := ints_at hyv
      have i3 := (List.getElem?_eq_some_iff.mp hy).1
      obtain ⟨yy0, yy1⟩ := ys_ok y (List.mem_of_getElem? hy)
      -- spots
      refine ⟨_, rfl, a, 1000, _, rfl, src3, by omega, by decide, by decide, fun d1 H4 d10 d11 src4 k4 => ?_⟩
      refine ⟨_, rfl, 10, 29, rfl, rfl, cpow10 29 (by decide) (by decide), a, _, _, rfl, src4, by omega, by rw [p10]; decide, by rw [p10]; decide, fun d2 H5 d20 d21 src5 k5 => ?_⟩
      refine ⟨_, rfl, 10, 40, rfl, rfl, cpow10 40 (by decide) (by decide), a, _, _, rfl, src5, by omega, by rw [p40]; decide, by rw [p40]; decide, fun d3 H6 d30 d31 src6 k6 => ⟨(by show 7 ≤ sizeLine; decide), fun S nS => ?_⟩⟩
      rw [p10] at d21
      rw [p40] at d31
      have hL6 := k6 L _ L_a (k5 L _ L_a (k4 L _ L_a hL3))
      have eS := Ex.new nS (o := .lst [.int 0, .int 1, .int 2, .int 59, .int d1, .int d2, .int d3])
      have hS : (upd H6 S (.lst [.int 0, .int 1, .int 2, .int 59, .int d1, .int d2, .int d3])) S = some (.lst ([0, 1, 2, 59, d1, d2, d3].map V.int)) := upd_same
      have hL7 := eS _ _ hL6
      have k7 := (((k3.trans k4).trans k5).trans k6).trans (Ex.kp eS)
      have src7 := src6.ex eS
      refine (show _ from ?_)
      generalize upd H6 S (.lst [.int 0, .int 1, .int 2, .int 59, .int d1, .int d2, .int d3]) = H7 at hS hL7 k7 src7
      have sh7 := sh.kp k7 hy0
      have rc7 := rc.kp k7 hy0
      have ks_ok : ∀ k ∈ [0, 1, 2, 59, d1, d2, d3], 0 ≤ k ∧ k < 10000000000000000000000000000000000000000 := by
        intro k hk
        simp only [List.mem_cons, List.not_mem_nil, or_false] at hk
        rcases hk with rfl | rfl | rfl | rfl | rfl | rfl | rfl <;> omega
      have kl : 0 < [0, 1, 2, 59, d1, d2, d3].length := by show 0 < 7; decide
      generalize [0, 1, 2, 59, d1, d2, d3] = ks at hS ks_ok kl
      have kw : ∀ k : Int, 0 ≤ k ∧ k < 10000000000000000000000000000000000000000 → k.natAbs < 2 ^ 140 := fun k h => by omega
      have kw4 : ∀ k : Int, 0 ≤ k ∧ k < 10000000000000000000000000000000000000000 → k.natAbs < 2 ^ 400 := fun k h => Nat.lt_of_lt_of_le (kw k h) (Nat.pow_le_pow_right (by decide) (by decide))
      have dS : ∀ k : Int, (PyData.int ((y - k * (((sz b p s : Nat) : Int) * x)) % gr)).showable = true ∧ (PyData.int ((y - k * (((sz b p s : Nat) : Int) * x)) % gr)).shown.length ≤ sizeLine := fun k => sh_int (emod_small g1 gb)
      refine ⟨_, rfl, S, rfl, ⟨_, sq_of hS⟩, ?_⟩
      refine for_list (K := K) (a := S) (xs := ks.map V.int) (fun j σ H8 => ∃ w3 w4, σ = [some (.ref a), some g, some (.ref t), some (.int x), some (.bl sm), some (.int gr), some (.int (((sz b p s : Nat) : Int) * x)), some (.int y), some (.ref S), w3, w4] ∧ Ex H7 H8 ∧ (j = 0 ∨ ∃ k : Int, k ∈ ks ∧ w3 = some (.int k) ∧ w4 = some (.str (PyData.int ((y - k * (((sz b p s : Nat) : Int) * x)) % gr)).shown)))
        ⟨v3, v4, rfl, Ex.refl _, .inl rfl⟩ (fun j σ H8 _ ⟨_, _, _, e, _⟩ => sq_of (e _ _ hS)) ?_ ?_
      · rintro j kv σ H8 hkv ⟨w3, w4, rfl, e8, _⟩
        obtain ⟨k, hk, rfl⟩ := ints_at hkv
        have hk2 := List.mem_of_getElem? hk
        have ko := ks_ok k hk2
        have wk : CMulW k (((sz b p s : Nat) : Int) * x) := wide_mul (kw k ko) un (by decide) (by decide) (by decide)
        refine ⟨_, rfl, _, rfl, _, rfl, _, _, rfl, rfl, wk, _, _, rfl, rfl, .inl ⟨_, rfl, _, rfl, _, _, rfl, rfl, (by omega), ?_⟩⟩
        refine ⟨_, _, rfl, .int _, (dS k).1, rfl, Nat.zero_le _, (dS k).2, ?_⟩
        refine ⟨_, rfl, _, rfl, _, rfl, _, rfl, _, rfl, _, b, p, s, _, gr, w, st, x, y, k, rfl, sh7.ex e8, rc7.ex e8, x1, x400, yy0, yy1, ko.1, kw4 k ko, ?_⟩
        rw [xz]
        refine ⟨_, _, rfl, .int _, (dS k).1, rfl, Nat.zero_le _, (dS k).2, _, rfl, rfl, _, rfl, iteNS rfl ⟨_, _, rfl, e8, .inr ⟨k, hk2, rfl, rfl⟩⟩⟩
      rintro σ H8 ⟨w3, w4, rfl, e8, hw⟩
      obtain ⟨k, hk2, rfl, rfl⟩ : ∃ k : Int, k ∈ ks ∧ w3 = some (.int k) ∧ w4 = some (.str (PyData.int ((y - k * (((sz b p s : Nat) : Int) * x)) % gr)).shown) := by
        rcases hw with h | h
        · rw [List.length_map] at h
          omega
        · exact h
      have ko := ks_ok k hk2
      refine ⟨_, rfl, _, rfl, _, rfl, _, rfl, _, rfl, _, b, p, s, _, gr, w, st, x, y, k, rfl, sh7.ex e8, rc7.ex e8, x1, x400, yy0, yy1, ko.1, kw4 k ko, ?_⟩
      rw [xz]
      refine ⟨_, _, rfl, .int _, (dS k).1, rfl, Nat.zero_le _, (dS k).2, _, rfl, rfl, _, rfl, iteNS rfl ?_⟩
      have k8 := k7.trans (Ex.kp e8)
      have src8 : Pool H8 a (n + 1 + 3 * (i + 1)) := (src7.ex e8).mono (by omega)
      have hL8 := e8 _ _ hL7
      refine ⟨_, rfl, sm, rfl, ?_⟩
      cases sm with
      | false => exact iteF ⟨_, _, _, _, rfl, k8, src8, hL8⟩
      | true =>
        refine iteT ⟨6, rfl, by decide, by decide, ?_⟩
        refine for_range (lo := 0) (n := (6 : Int).toNat) (fun j σ H9 => ∃ w3, σ = [some (.ref a), some g, some (.ref t), some (.int x), some (.bl true), some (.int gr), some (.int (((sz b p s : Nat) : Int) * x)), some (.int y), some (.ref S), w3, some (.str (PyData.int ((y - k * (((sz b p s : Nat) : Int) * x)) % gr)).shown)] ∧ H9 = H8) ⟨_, rfl, rfl⟩ ?_ ?_
        · rintro j σ H9 hj ⟨w3, rfl, rfl⟩
          have hj6 : j < 6 := hj
          have jo : (0 : Int) ≤ 0 + (j : Int) ∧ 0 + (j : Int) < 10000000000000000000000000000000000000000 := by omega
          have wk : CMulW (0 + (j : Int)) (((sz b p s : Nat) : Int) * x) := wide_mul (kw _ jo) un (by decide) (by decide) (by decide)
          refine ⟨_, rfl, _, rfl, _, rfl, _, rfl, _, rfl, _, b, p, s, _, gr, w, st, x, y, _, rfl, sh7.ex e8, rc7.ex e8, x1, x400, yy0, yy1, jo.1, kw4 _ jo, ?_⟩
          rw [xz]
          refine ⟨_, rfl, _, rfl, _, rfl, _, rfl, _, _, rfl, rfl, wk, gr, y, _, rfl, g1, yy0, yy1, Int.mul_nonneg jo.1 u0, rfl, _, rfl, iteNS rfl ⟨_, rfl, rfl⟩⟩
        · rintro σ H9 ⟨w3, rfl, rfl⟩
          exact ⟨_, _, _, _, rfl, k8, src8, hL8⟩
    · rintro σ H3 ⟨v1, v2, v3, v4, rfl, k3, src3, hL3⟩
      rw [List.length_map] at src3
      exact q H3 k3 (src3.mono (by omega))
end
end LW
namespace LW
open PySem PySem.Spec PyProof.Rows L2 Evl SB
section
variable {P : Program} {w : World} {K : PySem.W.Frag} {mg : Str → Option Value} {base : Heap}
def sp_ends (K : PySem.W.Frag) : Sp := fun vs H Q _ => ∃ (g : V) (b : Nat) (p : Pa) (s : Nat) (c : V) (gr w st x : Int), vs = [g, c, .int x] ∧ IsSh K H g b p s ∧ IsRc K H c gr w st ∧ 1 ≤ x ∧ x < 2 ^ 190 ∧ ∀ H', Ex H H' → Q (.bl true) H'
theorem cal_ends (T : Tx K mg) : CalG P w K mg base CX0 8 "_law_ends_right" ["_law_form_here", "_law_clock_here", "_law_span_here"] (sp_ends K) := by
  have c_law_good := cal_lgd (P := P) (w := w) (base := base) T
  have c_good_offsets := cal_good_offsets (P := P) (w := w) (base := base) T
  have c_good_offsets_length_receiver_shape := cal_good_offsetsK (P := P) (w := w) (base := base) T
  refine T.d_law_ends_right.calG sc_law_ends_right (fun vs H Q E h => ?_) (fun _ _ _ _ _ _ us hl => match us, hl with | [_, _, _], _ => rfl) (fun f cdv A outer s H vs Q E hr hgd h => ⟨_, (pss_cons (ps_asg (pe_cal c_law_good (hr.mono (by decide)) pass0 (pa_cons (pv 0) (pa_cons (pv 1) (pa_cons (pv 2) pa_nil)))) (pg_tup rfl (pgs_cons (pg_name (i := 3) sc_law_ends_right.nd rfl (Or.inl rfl)) (pgs_cons (pg_name (i := 4) sc_law_ends_right.nd rfl (Or.inl rfl)) pgs_nil))))
      (pss_cons (ps_set (i := 5) sc_law_ends_right.nd rfl (Or.inl rfl) pe_non)
      (Evl.pss_cut (ps_if (pt_cmpR op_le (pv 3) (pv 4) (nomark _)) (pss_one (ps_set (i := 5) sc_law_ends_right.nd rfl (Or.inl rfl) (pe_tup (pa_cons (pv 3) (pa_cons (pv 4) pa_nil))))) pss_nil)
      (pss_cons (ps_if (pt_cmpR op_ne (pe_callB (call_rp hgd hr.units) (by rfl) T.b_repr (by decide +kernel) (pa_cons (pe_cal c_good_offsets (hr.mono (by decide)) pass0 (pa_cons (pv 0) (pa_cons (pv 1) (pa_cons (pv 2) pa_nil)))) pa_nil)) (pe_callB (call_rp hgd hr.units) (by rfl) T.b_repr (by decide +kernel) (pa_cons (pv 5) pa_nil)) (nomark _)) (pss_one (ps_ret pe_bl)) pss_nil)
      (pss_one (ps_ret (pe_cmpR op_eq (pe_callB (call_rp hgd hr.units) (by rfl) T.b_repr (by decide +kernel) (pa_cons (pe_calK c_good_offsets_length_receiver_shape (hr.mono (by decide)) pass0 (pk_cons (pv 2) (pk_cons (pv 1) (pk_cons (pv 0) pk_nil)))) pa_nil)) (pe_callB (call_rp hgd hr.units) (by rfl) T.b_repr (by decide +kernel) (pa_cons (pv 5) pa_nil)) (nomark _)))))))), ?_⟩)
  · obtain ⟨g, b, p, s, c, gr, w, st, x, rfl, _⟩ := h
    rfl
  · obtain ⟨g, b, p, s, c, gr, w, st, x, rfl, sh, rc, x1, x2, q⟩ := h
    have z := sz_bd sh
    have cl := rc.clb
    obtain ⟨⟨lo, m1⟩, ⟨hi, m2⟩⟩ := gd_ex (n := sz b p s) (s := s) gr w st x
    obtain ⟨lo0, hi0, lo2, hi2⟩ := gd_bd z.2.2.2.2 cl x1 x2 m1 m2
    have xn : x.natAbs < 2 ^ 190 := nat_abs_lt (by omega) x2
    have x200 : x.natAbs < 2 ^ 200 := Nat.lt_of_lt_of_le xn (Nat.pow_le_pow_right (by decide) (by decide))
    have x400 : x.natAbs < 2 ^ 400 := Nat.lt_of_lt_of_le xn (Nat.pow_le_pow_right (by decide) (by decide))
    refine ⟨_, rfl, _, rfl, _, rfl, g, b, p, s, c, gr, w, st, x, lo, hi, rfl, sh, rc, x200, m1, m2, fun R H1 nR e1 hR => ?_⟩
    refine ⟨R, _, rfl, st_of hR, rfl, _, _, rfl, _, _, rfl, rfl, ?_⟩
    refine ⟨fun σ' H' => ∃ dd, σ' = [some g, some c, some (.int x), some (.int lo), some (.int hi), some dd] ∧ Ex H1 H' ∧ IsO K H' dd (optT lo hi), ?_, ?_⟩
    · refine ⟨_, rfl, _, rfl, _, _, rfl, rfl, _, rfl, ite2 (fun h => ?_) (fun h => ?_)⟩
      · have h : lo ≤ hi := of_decide_eq_true h
        refine ⟨_, rfl, _, rfl, (by show 2 ≤ sizeLine; decide), fun u nu => ⟨_, rfl, Ex.new nu, ?_⟩⟩
        unfold optT
        rw [if_pos h]
        exact ⟨u, rfl, st_of upd_same⟩
      · have h : ¬ lo ≤ hi := by simpa using h
        refine ⟨_, rfl, Ex.refl _, ?_⟩
        unfold optT
        rw [if_neg h]
        rfl
    rintro σ2 H2 ⟨dd, rfl, e2, hd⟩
    have e02 := e1.trans e2
    obtain ⟨w1, w2, w3, w4⟩ := show_opt (ok_optT (hi := hi) lo2 hi2)
    refine ⟨_, rfl, _, rfl, _, rfl, g, b, p, s, c, gr, w, st, x, lo, hi, rfl, sh.ex e02, rc.ex e02, x1, x400, m1, m2, fun v H3 e3 hv => ?_⟩
    refine ⟨_, _, rfl, hv.dp, w1, w2, w3, w4, _, rfl, _, _, rfl, (hd.ex e3).dp, w1, w2, w3, w4, rfl, _, rfl, iteNS rfl ?_⟩
    have e03 := e02.trans e3
    refine ⟨_, rfl, _, rfl, _, rfl, g, b, p, s, c, gr, w, st, x, lo, hi, rfl, sh.ex e03, rc.ex e03, x1, x400, m1, m2, fun v' H4 e4 hv' => ?_⟩
    refine ⟨_, _, rfl, hv'.dp, w1, w2, w3, w4, _, rfl, _, _, rfl, ((hd.ex e3).ex e4).dp, w1, w2, w3, w4, rfl, ?_⟩
    rw [str_dec]
    exact q H4 (e03.trans e4)
def sp_small (K : PySem.W.Frag) : Sp := fun vs H Q _ => ∃ (a : Addr) (n : Nat), vs = [.ref a] ∧ Pool H a n ∧ n ≤ 100000 ∧ ∀ H', Kp a H H' → Pool H' a (n + 100) → Q (.bl true) H'
theorem cal_small (T : Tx K mg) : CalG P w K mg base CX0 9 "_law_small" ["_law_pool_here"] (sp_small K) := by
  have c_law_form := cal_form (P := P) (w := w) (base := base) T
  have c_law_clock := cal_clock (P := P) (w := w) (base := base) T
  have c_law_span := cal_span (P := P) (w := w) (base := base) T
  have c_law_is_good := cal_lgood (P := P) (w := w) (base := base) T
  have c_good_offsets := cal_good_offsets (P := P) (w := w) (base := base) T
  have c_law_ends_right := cal_ends (P := P) (w := w) (base := base) T
  have c_law_offsets_right := cal_oright (P := P) (w := w) (base := base) T
  refine T.d_law_small.calG sc_law_small (fun vs H Q E h => ?_) (fun _ _ _ _ _ _ us hl => match us, hl with | [_], _ => rfl) (fun f cdv A outer s H vs Q E hr hgd h => ⟨_, (pss_cons (ps_asg (pe_tup (pa_cons (pe_cal c_law_form (hr.mono (by decide)) pass0 (pa_cons (pv 0) (pa_cons pe_int pa_nil))) (pa_cons (pe_cal c_law_clock (hr.mono (by decide)) pass0 (pa_cons (pv 0) (pa_cons pe_int (pa_cons pe_int pa_nil)))) pa_nil))) (pg_tup rfl (pgs_cons (pg_name (i := 1) sc_law_small.nd rfl (Or.inr rfl)) (pgs_cons (pg_name (i := 2) sc_law_small.nd rfl (Or.inr rfl)) pgs_nil))))
      (pss_cons (ps_set (i := 3) sc_law_small.nd rfl (Or.inr rfl) (pe_cal c_law_span (hr.mono (by decide)) pass0 (pa_cons (pv 0) (pa_cons (pv 1) (pa_cons (pv 2) pa_nil)))))
      (pss_cons (ps_setLc (i := 4) rfl sc_law_small.nd rfl rfl (sw_true rfl rfl rfl (by decide +kernel)) (pi_range1 rfl T.b_range (pa_cons (pe_ix ix_tup (pv 2) pe_int (fun _ _ => rfl)) pa_nil)) (blkOk_by (own := [("_law_offset", 6)]) (N := ["_law_pool_here", "_law_form_here", "_law_clock_here", "_law_span_here", "_law_good_here", "_law_due", "_law_offset"]) (sc := defScope s_law_small) (by decide +kernel)) (fun _ _ _ _ _ => (pg_name (i := 6) sc_law_small.nd rfl (Or.inl rfl))) (fun _ _ _ _ _ => (pts_one (pt_val (pe_cal c_law_is_good (hr.mono (by decide)) pass0 (pa_cons (pv 1) (pa_cons (pv 2) (pa_cons (pv 3) (pa_cons (pv 6) pa_nil)))))))) (fun _ _ _ _ _ => (pv 6)))
      (pss_cons (ps_set (i := 5) sc_law_small.nd rfl (Or.inl rfl) pe_non)
      (Evl.pss_cut (ps_if (pt_cmpR (op_neD hr.units) (pv 4) (pe_lst pa_nil) (nomark _)) (pss_one (ps_set (i := 5) sc_law_small.nd rfl (Or.inl rfl) (pe_tup (pa_cons (pe_ix ix_list (pv 4) pe_int (fun _ _ => rfl)) (pa_cons (pe_ix ix_list (pv 4) (pe_un un_neg pe_int) (fun _ _ => rfl)) pa_nil))))) pss_nil)
      (pss_cons (ps_if (pt_cmpR op_ne (pe_callB (call_rp hgd hr.units) (by rfl) T.b_repr (by decide +kernel) (pa_cons (pe_cal c_good_offsets (hr.mono (by decide)) pass0 (pa_cons (pv 1) (pa_cons (pv 2) (pa_cons (pv 3) pa_nil)))) pa_nil)) (pe_callB (call_rp hgd hr.units) (by rfl) T.b_repr (by decide +kernel) (pa_cons (pv 5) pa_nil)) (nomark _)) (pss_one (ps_ret pe_bl)) pss_nil)
      (Evl.pss_cut (ps_if (PW.pt (pw_and (pt_cmpR (op_neD hr.units) (pv 4) (pe_lst pa_nil) (nomark _)) (pw_and1 (pt_cmpR (op_neD hr.units) (pv 4) (pe_listRg rfl (by rfl) T.b_list (prg_2 (by rfl) T.b_range (pe_ix ix_list (pv 4) pe_int (fun _ _ => rfl)) (pe_op op_add (pe_ix ix_list (pv 4) (pe_un un_neg pe_int) (fun _ _ => rfl)) pe_int))) (nomark _))))) (pss_one (ps_ret pe_bl)) pss_nil)
      (pss_one (ps_ret (pe_and (pe_calG c_law_ends_right (hr.mono (by decide)) hgd pass0 (pa_cons (pv 1) (pa_cons (pv 2) (pa_cons (pv 3) pa_nil)))) (pe_one (pe_calG c_law_offsets_right (hr.mono (by decide)) hgd pass0 (pa_cons (pv 0) (pa_cons (pv 1) (pa_cons (pv 2) (pa_cons (pv 3) (pa_cons pe_bl pa_nil))))))))))))))))), ?_⟩)
  · obtain ⟨a, n, rfl, _⟩ := h
    rfl
  · obtain ⟨a, n, rfl, src, hn, q⟩ := h
    refine ⟨_, rfl, a, n, 9, rfl, src, by omega, by decide, by decide, fun tf b p s H1 nf k1 src1 sh b9 => ?_⟩
    obtain ⟨y1, hy1⟩ := src1.at
    refine ⟨_, rfl, a, _, 9, 12, rfl, src1, by omega, by decide, by decide, by decide, by decide, fun tc gr w st H2a nc k2a src2a rca gr6 w30 st10 => ⟨(by show 2 ≤ sizeLine; decide), fun tt ntt => ⟨tt, _, rfl, st_of upd_same, rfl, _, _, rfl, _, _, rfl, rfl, ?_⟩⟩⟩
    have ett := Ex.new ntt (o := .tup [.ref tf, .ref tc])
    have sh2 := (sh.kp k2a hy1).ex ett
    have rc := rca.ex ett
    have src2 := src2a.ex ett
    have k02 := (k1.trans k2a).trans (Ex.kp ett)
    clear sh rca src2a
    generalize upd H2a tt (.tup [.ref tf, .ref tc]) = H2 at sh2 rc src2 k02
    refine ⟨_, rfl, _, rfl, _, rfl, a, _, _, b, p, s, _, gr, w, st, rfl, src2, by omega, sh2, rc, fun x H3 k3 src3 x1 x2 => ?_⟩
    obtain ⟨y2, hy2⟩ := src2.at
    have sh3 := sh2.kp k3 hy2
    have rc3 := rc.kp k3 hy2
    have k03 := k02.trans k3
    have z := sz_bd sh3
    have cl := rc3.clb
    have g1 := cl.g1
    obtain ⟨⟨lo, m1⟩, ⟨hi, m2⟩⟩ := gd_ex (n := sz b p s) (s := s) gr w st x
    obtain ⟨lo0, hi0, lo2, hi2⟩ := gd_bd z.2.2.2.2 cl x1 x2 m1 m2
    have xn : x.natAbs < 2 ^ 190 := nat_abs_lt (by omega) x2
    have x400 : x.natAbs < 2 ^ 400 := Nat.lt_of_lt_of_le xn (Nat.pow_le_pow_right (by decide) (by decide))
    obtain ⟨_, e1, sqc, _⟩ := id rc3
    cases e1
    -- good
    refine ⟨_, rfl, tc, _, 0, .int gr, rfl, rfl, sqc, rfl, gr, rfl, by omega, by omega, fun D nD => ?_⟩
    refine lcR RI.lasts nD (by omega) (fun i : Nat => if lo ≤ 0 + (i : Int) ∧ 0 + (i : Int) ≤ hi then some (0 + (i : Int)) else none) (fun i H4 hi3 e3 Kt Kf kt kf => ?_) (fun H4 xs e3 hx lr => ?_)
    · refine ⟨rfl, ?_⟩
      refine ⟨_, rfl, _, rfl, _, rfl, _, rfl, _, b, p, s, _, gr, w, st, x, _, rfl, sh3.ex e3, rc3.ex e3, x400, fun H5 e4 => ⟨_, rfl, ?_⟩⟩
      have gi := gd_iff (off := 0 + (i : Int)) m1 m2 (by omega) (by omega)
      refine ite2 (fun h => ?_) (fun h => ?_)
      · exact ⟨_, rfl, kt _ _ _ (if_pos (gi.mp h)) e4 rfl⟩
      · exact kf _ (if_neg fun c => h (gi.mpr c)) e4
    obtain rfl := lr.ints
    rw [given_from 0 lo hi _ lo0, show min (0 + ((gr.toNat : Nat) : Int) - 1) hi = hi by omega] at hx
    have k4 : Kp a H H4 := k03.trans (Ex.kp e3)
    have src4 := src3.ex e3
    have sh4 := sh3.ex e3
    have rc4 := rc3.ex e3
    -- due
    refine ⟨fun σ' H' => ∃ d, σ' = [some (.ref a), some (.ref tf), some (.ref tc), some (.int x), some (.ref D), some d, none] ∧ Ex H4 H' ∧ IsO K H' d (optT lo hi), ?_, ?_⟩
    · refine ⟨_, rfl, Nat.zero_le _, fun E0 nE => ?_⟩
      have eE := Ex.new nE (o := .lst [])
      have hx' := eE _ _ hx
      have hE : (upd H4 E0 (.lst [])) E0 = some (.lst []) := upd_same
      generalize upd H4 E0 (.lst []) = H5 at eE hx' hE
      refine ⟨_, .list [], .lst (sq_of hx') (dp_ints _), .lst (sq_of hE) .nil, dI_shaped _, by decide +kernel, _, rfl, ?_⟩
      rw [eqv_nil]
      by_cases h : lo ≤ hi
      · rw [stretch_at h] at hx' ⊢
        refine (show (if (!false) = true then _ else _) from iteT ?_)
        refine ⟨_, rfl, D, _, 0, .int lo, rfl, rfl, sq_of hx', atI_i 0 0 rfl rfl, _, rfl, 1, rfl, D, _, -1, .int hi, rfl, rfl, sq_of hx', ?_, (by show 2 ≤ sizeLine; decide), fun u nu => ?_⟩
        · rw [← stretch_at h, stretch_end h, List.map_append]
          exact atI_last _ _
        · refine ⟨_, rfl, eE.trans (Ex.new nu), ?_⟩
          unfold optT
          rw [if_pos h]
          exact ⟨u, rfl, st_of upd_same⟩
      · rw [stretch_nil h] at hx' ⊢
        refine (show (if (!true) = true then _ else _) from iteF ?_)
        refine ⟨_, rfl, eE, ?_⟩
        unfold optT
        rw [if_neg h]
        rfl
    rintro σ5 H5 ⟨d, rfl, e5, hd⟩
    have sh5 := sh4.ex e5
    have rc5 := rc4.ex e5
    have hx5 := e5 _ _ hx
    obtain ⟨w1, w2, w3, w4⟩ := show_opt (ok_optT (hi := hi) lo2 hi2)
    refine ⟨_, rfl, _, rfl, _, rfl, _, b, p, s, _, gr, w, st, x, lo, hi, rfl, sh5, rc5, x1, x400, m1, m2, fun v H6 e6 hv => ?_⟩
    refine ⟨_, _, rfl, hv.dp, w1, w2, w3, w4, _, rfl, _, _, rfl, (hd.ex e6).dp, w1, w2, w3, w4, rfl, _, rfl, iteNS rfl ?_⟩
    have e46 := e5.trans e6
    have hx6 := e6 _ _ hx5
    -- if good != [] and good != list(range(..))
    refine ⟨fun σ' H' => σ' = [some (.ref a), some (.ref tf), some (.ref tc), some (.int x), some (.ref D), some d, none] ∧ Ex H4 H', ?_, ?_⟩
    · refine ⟨_, rfl, Nat.zero_le _, fun E0 nE => ?_⟩
      have eE := Ex.new nE (o := .lst [])
      have hx' := eE _ _ hx6
      have hE : (upd H6 E0 (.lst [])) E0 = some (.lst []) := upd_same
      generalize upd H6 E0 (.lst []) = H7 at eE hx' hE
      refine ⟨_, .list [], .lst (sq_of hx') (dp_ints _), .lst (sq_of hE) .nil, dI_shaped _, by decide +kernel, _, rfl, ?_⟩
      rw [eqv_nil]
      have e47 := e46.trans eE
      by_cases h : lo ≤ hi
      · have hx2 := hx'
        rw [stretch_at h] at hx'
        rw [show (((List.range (hi - lo + 1).toNat).map fun i : Nat => lo + (i : Int)).isEmpty) = false by rw [stretch_at h]; rfl]
        refine (show (if (!false) = true then _ else _) from iteT ?_)
        refine ⟨_, rfl, _, rfl, D, _, 0, .int lo, rfl, rfl, sq_of hx', atI_i 0 0 rfl rfl, _, rfl, 1, rfl, D, _, -1, .int hi, rfl, rfl, sq_of hx', ?_, _, _, rfl, rfl, lo, _, rfl, rfl, ⟨by omega, by omega, by omega, by omega, by omega⟩, fun G nG => ?_⟩
        · rw [← stretch_at h, stretch_end h, List.map_append]
          exact atI_last _ _
        have eG := Ex.new nG (o := .lst (rgV lo (hi + 1)))
        have hG : (upd H7 G (.lst (rgV lo (hi + 1)))) G = some (.lst (((List.range (hi - lo + 1).toNat).map fun i : Nat => lo + (i : Int)).map V.int)) := by
          rw [upd_same, rgV_stretch]
        refine ⟨_, _, .lst (sq_of (eG _ _ hx2)) (dp_ints _), .lst (sq_of hG) (dp_ints _), dI_shaped _, dI_shaped _, _, rfl, ?_⟩
        rw [eqv_sh (dI_shaped _)]
        exact iteF ⟨rfl, e47.trans eG⟩
      · rw [show (((List.range (hi - lo + 1).toNat).map fun i : Nat => lo + (i : Int)).isEmpty) = true by rw [stretch_nil h]; rfl]
        exact (show (if (!true) = true then _ else _) from iteF ⟨rfl, e47⟩)
    rintro σ7 H7 ⟨rfl, e7⟩
    have sh7 := sh4.ex e7
    have rc7 := rc4.ex e7
    refine ⟨_, rfl, _, rfl, _, rfl, _, b, p, s, _, gr, w, st, x, rfl, sh7, rc7, x1, x2, fun H8 e8 => ⟨true, rfl, iteT ?_⟩⟩
    refine ⟨_, rfl, _, rfl, _, rfl, _, rfl, a, _, _, b, p, s, _, gr, w, st, x, true, rfl, (src4.ex e7).ex e8, by omega, sh7.ex e8, rc7.ex e8, x1, x2, fun H9 k9 src9 => ?_⟩
    exact q H9 ((k4.trans (Ex.kp (e7.trans e8))).trans k9) (src9.mono (by omega))
def sp_law (K : PySem.W.Frag) : Sp := fun vs H Q _ => ∃ (a : Addr) (ns : List Int), vs = [.ref a] ∧ SqL K H a (ns.map V.int) ∧ ns.length ≤ 63 ∧ ∀ H', Q (.bl true) H'
theorem law_ok {fd : FuncData} (T : Tx K mg) (F : FunD K "law" "law" (defArgs s_law) (defBody s_law) (defScope s_law) [] [] (He.fAd K ("law", none)) fd) : FnG P w K mg base CX0 10 (He.fAd K ("law", none)) fd ["_law_script"] (sp_law K) := by
  have c_law_pool := cal_pool (P := P) (w := w) (base := base) T
  have c_law_small := cal_small (P := P) (w := w) (base := base) T
  have c_law_form := cal_form (P := P) (w := w) (base := base) T
  have c_law_clock := cal_clock (P := P) (w := w) (base := base) T
  have c_law_span := cal_span (P := P) (w := w) (base := base) T
  have c_law_ends_right := cal_ends (P := P) (w := w) (base := base) T
  have c_law_offsets_right := cal_oright (P := P) (w := w) (base := base) T
  have c_good_offsets := cal_good_offsets (P := P) (w := w) (base := base) T
  refine FnG.body F sc_law (fun vs H Q E h => ?_) (fun cdv A outer s H vs Q E hr hgd h => ⟨_, PSs.nox ((pss_cons (ps_for PassesOwn.never rfl (pi_range1 rfl T.b_range (pa_cons (pe_callB (call_max2 rfl) (by rfl) T.b_max (by decide +kernel) (pa_cons pe_int (pa_cons (pe_callB (call_min2 rfl) (by rfl) T.b_min (by decide +kernel) (pa_cons pe_int (pa_cons (pe_callB call_len_seq (by rfl) T.b_len (by decide +kernel) (pa_cons (pv 0) pa_nil)) pa_nil))) pa_nil))) pa_nil)) (pg_name (i := 1) sc_law.nd rfl (Or.inl rfl)) (pss_cons (ps_set (i := 2) sc_law.nd rfl (Or.inl rfl) (pe_cal c_law_pool (hr.mono (by decide)) pass0 (pa_cons (pv 0) (pa_cons (pv 1) pa_nil))))
      (pss_one (ps_for PassesOwn.never rfl (pi_range1 rfl T.b_range (pa_cons pe_int pa_nil)) (pg_name (i := 3) sc_law.nd rfl (Or.inl rfl)) (pss_cons (ps_if (pt_not (pt_val (pe_calG c_law_small (hr.mono (by decide)) hgd pass0 (pa_cons (pv 2) pa_nil)))) (pss_one (ps_ret pe_bl)) pss_nil)
      (pss_cons (ps_asg (pe_ix ix_list (pe_lst (pa_cons (pe_tup (pa_cons (pe_op op_powB pe_int pe_int) (pa_cons (pe_op op_powB pe_int pe_int) pa_nil))) (pa_cons (pe_tup (pa_cons (pe_op op_powB pe_int pe_int) (pa_cons pe_int pa_nil))) (pa_cons (pe_tup (pa_cons pe_int (pa_cons (pe_op op_powB pe_int pe_int) pa_nil))) (pa_cons (pe_tup (pa_cons (pe_op op_powB pe_int pe_int) (pa_cons (pe_op op_powB pe_int pe_int) pa_nil))) pa_nil))))) (pv 3) (fun _ _ => rfl)) (pg_tup rfl (pgs_cons (pg_name (i := 4) sc_law.nd rfl (Or.inl rfl)) (pgs_cons (pg_name (i := 5) sc_law.nd rfl (Or.inl rfl)) pgs_nil))))
      (pss_cons (ps_par (i := 6) (j := 7) (by rfl) sc_law.nd rfl rfl (by decide) rfl rfl (pa_cons (pe_cal c_law_form (hr.mono (by decide)) pass0 (pa_cons (pv 2) (pa_cons pe_int pa_nil))) (pa_cons (pe_cal c_law_clock (hr.mono (by decide)) pass0 (pa_cons (pv 2) (pa_cons (pv 4) (pa_cons (pv 5) pa_nil)))) pa_nil)) (by rfl))
      (pss_cons (ps_set (i := 8) sc_law.nd rfl (Or.inl rfl) (pe_cal c_law_span (hr.mono (by decide)) pass0 (pa_cons (pv 2) (pa_cons (pv 6) (pa_cons (pv 7) pa_nil)))))
      (pss_one (ps_if (PW.pt (pw_or (pt_not (pt_val (pe_calG c_law_ends_right (hr.mono (by decide)) hgd pass0 (pa_cons (pv 6) (pa_cons (pv 7) (pa_cons (pv 8) pa_nil)))))) (pw_or1 (pt_not (pt_val (pe_calG c_law_offsets_right (hr.mono (by decide)) hgd pass0 (pa_cons (pv 2) (pa_cons (pv 6) (pa_cons (pv 7) (pa_cons (pv 8) (pa_cons pe_bl pa_nil))))))))))) (pss_one (ps_ret pe_bl)) pss_nil))))))))))
      (pss_cons (ps_set (i := 6) sc_law.nd rfl (Or.inl rfl) (pe_tup (pa_cons pe_int (pa_cons pe_str (pa_cons pe_int pa_nil)))))
      (pss_cons (ps_set (i := 9) sc_law.nd rfl (Or.inl rfl) (pe_lst (pa_cons (pe_cal c_good_offsets (hr.mono (by decide)) pass0 (pa_cons (pv 6) (pa_cons (pe_tup (pa_cons pe_int (pa_cons pe_int (pa_cons pe_int pa_nil)))) (pa_cons pe_int pa_nil)))) (pa_cons (pe_cal c_good_offsets (hr.mono (by decide)) pass0 (pa_cons (pv 6) (pa_cons (pe_tup (pa_cons pe_int (pa_cons pe_int (pa_cons pe_int pa_nil)))) (pa_cons pe_int pa_nil)))) pa_nil))))
      (pss_cons (ps_set (i := 9) sc_law.nd rfl (Or.inl rfl) (pe_op op_cat (pv 9) (pe_lst (pa_cons (pe_cal c_good_offsets (hr.mono (by decide)) pass0 (pa_cons (pv 6) (pa_cons (pe_tup (pa_cons pe_int (pa_cons pe_int (pa_cons pe_int pa_nil)))) (pa_cons pe_int pa_nil)))) (pa_cons (pe_cal c_good_offsets (hr.mono (by decide)) pass0 (pa_cons (pv 6) (pa_cons (pe_tup (pa_cons pe_int (pa_cons pe_int (pa_cons pe_int pa_nil)))) (pa_cons pe_int pa_nil)))) pa_nil)))))
      (pss_one (ps_ret (pe_cmpR op_eq (pe_callB (call_rp hgd hr.units) (by rfl) T.b_repr (by decide +kernel) (pa_cons (pv 9) pa_nil)) pe_str (nomark _))))))))), ?_⟩)
  · obtain ⟨a, ns, rfl, _⟩ := h
    rfl
  · obtain ⟨a, ns, rfl, sq, hl, q⟩ := h
    refine ⟨_, rfl, a, _, rfl, .inl sq, _, _, rfl, _, _, rfl, _, rfl, ?_, ?_, ?_⟩
    · split <;> split <;> omega
    · split <;> split <;> omega
    have small : ∀ i : Nat, i < (if (if ((ns.map V.int).length : Int) < 3 then ((ns.map V.int).length : Int) else 3) > 1 then (if ((ns.map V.int).length : Int) < 3 then ((ns.map V.int).length : Int) else 3) else 1 : Int).toNat → i ≤ 8 := by
      intro i hi
      split at hi <;> (try split at hi) <;> omega
    refine for_range (lo := 0) (fun i σ H1 => ∃ u1 u2 u3 u4 u5 u6 u7 u8, σ = [some (.ref a), u1, u2, u3, u4, u5, u6, u7, u8, none] ∧ Ex H H1) ⟨none, none, none, none, none, none, none, none, rfl, Ex.refl H⟩ ?_ ?_
    · rintro i σ H1 hi ⟨u1, u2, u3, u4, u5, u6, u7, u8, rfl, ex⟩
      have i8 := small i hi
      refine ⟨_, rfl, _, rfl, a, ns, i, by simp, ex_l ex sq, by omega, fun S H2 nS e2 src0 => ?_⟩
      have fS : H S = none := fresh_back ex nS
      refine ⟨4, rfl, by decide, by decide, ?_⟩
      refine for_range (lo := 0) (n := (4 : Int).toNat) (fun j σ H3 => ∃ v3 v4 v5 v6 v7 v8, σ = [some (.ref a), some (.int (0 + (i : Int))), some (.ref S), v3, v4, v5, v6, v7, v8, none] ∧ Kp S H2 H3 ∧ Pool H3 S (200 * j)) ⟨u3, u4, u5, u6, u7, u8, rfl, Kp.refl, src0⟩ ?_ ?_
      · rintro j σ H3 hj ⟨v3, v4, v5, v6, v7, v8, rfl, k3, src3⟩
        have hj4 : j < 4 := hj
        refine ⟨_, rfl, S, _, rfl, src3, by omega, fun H4 k4 src4 => ⟨_, rfl, iteF ?_⟩⟩
        -- top, more
        refine ⟨10, 13, rfl, rfl, cpow10 13 (by decide) (by decide), 10, 13, rfl, rfl, cpow10 13 (by decide) (by decide), (by show 2 ≤ sizeLine; decide), fun t1 n1 => ?_⟩
        refine ⟨10, 26, rfl, rfl, cpow10 26 (by decide) (by decide), (by show 2 ≤ sizeLine; decide), fun t2 n2 => ?_⟩
        refine ⟨10, 26, rfl, rfl, cpow10 26 (by decide) (by decide), (by show 2 ≤ sizeLine; decide), fun t3 n3 => ?_⟩
        refine ⟨10, 20, rfl, rfl, cpow10 20 (by decide) (by decide), 10, 6, rfl, rfl, cpow10 6 (by decide) (by decide), (by show 2 ≤ sizeLine; decide), fun t4 n4 => ⟨(by show 4 ≤ sizeLine; decide), fun L nL => ?_⟩⟩
        have f1 := Ex.new n1 (o := .tup [.int (10 ^ (13 : Int).toNat), .int (10 ^ (13 : Int).toNat)])
        have f2 := Ex.new n2 (o := .tup [.int (10 ^ (26 : Int).toNat), .int 30])
        have f3 := Ex.new n3 (o := .tup [.int 4, .int (10 ^ (26 : Int).toNat)])
        have f4 := Ex.new n4 (o := .tup [.int (10 ^ (20 : Int).toNat), .int (10 ^ (6 : Int).toNat)])
        have f5 := Ex.new nL (o := .lst [.ref t1, .ref t2, .ref t3, .ref t4])
        have g4 := (f5 _ _ (upd_same (a := t4)))
        have g3 := f5 _ _ (f4 _ _ (upd_same (a := t3)))
        have g2 := f5 _ _ (f4 _ _ (f3 _ _ (upd_same (a := t2))))
        have g1 := f5 _ _ (f4 _ _ (f3 _ _ (f2 _ _ (upd_same (a := t1)))))
        have e0 := (((f1.trans f2).trans f3).trans f4).trans f5
        have hL : (upd (upd (upd (upd (upd H4 t1 (.tup [.int (10 ^ (13 : Int).toNat), .int (10 ^ (13 : Int).toNat)])) t2 (.tup [.int (10 ^ (26 : Int).toNat), .int 30])) t3 (.tup [.int 4, .int (10 ^ (26 : Int).toNat)])) t4 (.tup [.int (10 ^ (20 : Int).toNat), .int (10 ^ (6 : Int).toNat)])) L (.lst [.ref t1, .ref t2, .ref t3, .ref t4])) L = some (.lst [.ref t1, .ref t2, .ref t3, .ref t4]) := upd_same
        clear f1 f2 f3 f4 f5
        generalize upd (upd (upd (upd (upd H4 t1 (.tup [.int (10 ^ (13 : Int).toNat), .int (10 ^ (13 : Int).toNat)])) t2 (.tup [.int (10 ^ (26 : Int).toNat), .int 30])) t3 (.tup [.int 4, .int (10 ^ (26 : Int).toNat)])) t4 (.tup [.int (10 ^ (20 : Int).toNat), .int (10 ^ (6 : Int).toNat)])) L (.lst [.ref t1, .ref t2, .ref t3, .ref t4]) = H0 at g1 g2 g3 g4 e0 hL
        obtain ⟨y0, hy0⟩ := src4.at
        have src5 := src4.ex e0
        have ne : ∀ {t : Addr} {xs : List V}, H0 t = some (.tup xs) → t ≠ S := fun h z => by
          rw [z, e0 _ _ hy0] at h
          cases h
        obtain ⟨y, tp, mr, hy, ht, b1, b2, b3, b4⟩ : ∃ (y : Addr) (tp mr : Int), atI [V.ref t1, .ref t2, .ref t3, .ref t4] (0 + (j : Int)) = some (.ref y) ∧ H0 y = some (.tup [.int tp, .int mr]) ∧ 1 ≤ tp ∧ tp ≤ 100000000000000000000000000 ∧ 1 ≤ mr ∧ mr ≤ 100000000000000000000000000 := by
          have : j = 0 ∨ j = 1 ∨ j = 2 ∨ j = 3 := by omega
          rcases this with rfl | rfl | rfl | rfl
          · exact ⟨t1, _, _, rfl, g1, by decide, by decide, by decide, by decide⟩
          · exact ⟨t2, _, _, rfl, g2, by decide, by decide, by decide, by decide⟩
          · exact ⟨t3, _, _, rfl, g3, by decide, by decide, by decide, by decide⟩
          · exact ⟨t4, _, _, rfl, g4, by decide, by decide, by decide, by decide⟩
        refine ⟨_, rfl, L, _, _, _, rfl, rfl, sq_of hL, hy, y, _, rfl, st_of ht, rfl, _, _, rfl, _, _, rfl, rfl, ?_⟩
        have k1 := Ex.kp (a := S) e0
        have src1 := src5
        have k14 := (k3.trans k4).trans k1
        refine ⟨_, rfl, S, _, 9, rfl, src1, by omega, by decide, by decide, fun tf b p s H6 nf k6 src6 sh b9 => ?_⟩
        obtain ⟨z2, hz2⟩ := src6.at
        refine ⟨_, rfl, _, rfl, _, rfl, S, _, tp, mr, rfl, src6, by omega, b1, b2, b3, b4, fun tc gr w st H7 nc k7 src7 rc q1 q2 q3 => ⟨_, _, rfl, ?_⟩⟩
        have sh7 := sh.kp k7 hz2
        obtain ⟨y7, hy7⟩ := src7.at
        refine ⟨_, rfl, _, rfl, _, rfl, S, _, _, b, p, s, _, gr, w, st, rfl, src7, by omega, sh7, rc, fun x H8 k8 src8 x1 x2 => ?_⟩
        have sh8 := sh7.kp k8 hy7
        have rc8 := rc.kp k8 hy7
        refine ⟨_, rfl, _, rfl, _, rfl, _, b, p, s, _, gr, w, st, x, rfl, sh8, rc8, x1, x2, fun H9 e9 => ⟨_, rfl, iteF ?_⟩⟩
        refine ⟨_, rfl, _, rfl, _, rfl, _, rfl, S, _, _, b, p, s, _, gr, w, st, x, false, rfl, src8.ex e9, by omega, sh8.ex e9, rc8.ex e9, x1, x2, fun H10 k10 src10 => ⟨_, rfl, iteF ?_⟩⟩
        exact ⟨_, _, _, _, _, _, rfl, (((k14.trans k6).trans k7).trans k8).trans ((Ex.kp e9).trans k10), src10.mono (by omega)⟩
      · rintro σ H3 ⟨v3, v4, v5, v6, v7, v8, rfl, k3, src3⟩
        exact ⟨_, _, _, _, _, _, _, _, rfl, Kp.new (ex.trans e2) k3 fS⟩
    · rintro σ H1 ⟨u1, u2, u3, u4, u5, u6, u7, u8, rfl, ex⟩
      refine ⟨by decide, fun t1 nt1 => ?_⟩
      have ht : (upd H1 t1 (.tup [.int 8, .str "none", .int 1])) t1 = some (.tup [.int 8, .str "none", .int 1]) := upd_same
      refine (show _ from ?_)
      generalize upd H1 t1 (.tup [.int 8, .str "none", .int 1]) = H2 at ht
      have sh : IsSh K H2 (.ref t1) 8 .no 1 := ⟨t1, rfl, st_of ht, by decide, by decide, by decide, by decide⟩
      refine ⟨_, rfl, by decide, fun c1 nc1 => ?_⟩
      refine ⟨_, 8, .no, 1, .ref c1, 10, 8, 16, 169, 1, 9, rfl, sh.ex (Ex.new nc1), ⟨c1, rfl, st_of upd_same, by decide, by decide, by decide, by decide, by decide, by decide⟩, by decide, by decide, ⟨by decide +kernel, by decide +kernel⟩, ⟨by decide +kernel, by decide +kernel⟩, fun v1 H3 e3 hv1 => ?_⟩
      have x3 := (Ex.new nc1).trans e3
      refine ⟨_, rfl, by decide, fun c2 nc2 => ?_⟩
      refine ⟨_, 8, .no, 1, .ref c2, 7, 8, 16, 107, 0, 5, rfl, (sh.ex x3).ex (Ex.new nc2), ⟨c2, rfl, st_of upd_same, by decide, by decide, by decide, by decide, by decide, by decide⟩, by decide, by decide, ⟨by decide +kernel, by decide +kernel⟩, ⟨by decide +kernel, by decide +kernel⟩, fun v2 H4 e4 hv2 => ?_⟩
      have x4 := (Ex.new nc2).trans e4
      refine ⟨(by show 2 ≤ sizeLine; decide), fun L1 nL1 => ?_⟩
      have xL := Ex.new nL1 (o := .lst [v1, v2])
      have hL1 : (upd H4 L1 (.lst [v1, v2])) L1 = some (.lst [v1, v2]) := upd_same
      have hv1b := (hv1.ex x4).ex xL
      have hv2b := hv2.ex xL
      have shb := ((sh.ex x3).ex x4).ex xL
      generalize upd H4 L1 (.lst [v1, v2]) = H5 at hL1 hv1b hv2b shb
      refine ⟨_, rfl, _, rfl, by decide, fun c3 nc3 => ?_⟩
      refine ⟨_, 8, .no, 1, .ref c3, 1000, 8, 16, 16889, 1, 999, rfl, shb.ex (Ex.new nc3), ⟨c3, rfl, st_of upd_same, by decide, by decide, by decide, by decide, by decide, by decide⟩, by decide, by decide, ⟨by decide +kernel, by decide +kernel⟩, ⟨by decide +kernel, by decide +kernel⟩, fun v3 H6 e6 hv3 => ?_⟩
      have x6 := (Ex.new nc3).trans e6
      refine ⟨_, rfl, by decide, fun c4 nc4 => ?_⟩
      refine ⟨_, 8, .no, 1, .ref c4, 10, 8, 16, 80, 0, -721, rfl, (shb.ex x6).ex (Ex.new nc4), ⟨c4, rfl, st_of upd_same, by decide, by decide, by decide, by decide, by decide, by decide⟩, by decide, by decide, ⟨by decide +kernel, by decide +kernel⟩, ⟨by decide +kernel, by decide +kernel⟩, fun v4 H7 e7 hv4 => ?_⟩
      have x7 := (Ex.new nc4).trans e7
      refine ⟨(by show 2 ≤ sizeLine; decide), fun L2 nL2 => ?_⟩
      have x2 := Ex.new nL2 (o := .lst [v3, v4])
      refine ⟨L1, L2, _, _, rfl, rfl, x2 _ _ (x7 _ _ (x6 _ _ hL1)), upd_same, (by show 4 ≤ sizeLine; decide), fun L3 nL3 => ?_⟩
      have x3' := Ex.new nL3 (o := .lst ([v1, v2] ++ [v3, v4]))
      have w1 := hv1b.ex ((x6.trans x7).trans (x2.trans x3'))
      have w2 := hv2b.ex ((x6.trans x7).trans (x2.trans x3'))
      have w3 := hv3.ex (x7.trans (x2.trans x3'))
      have w4 := hv4.ex (x2.trans x3')
      have hL3 : (upd (upd H7 L2 (.lst [v3, v4])) L3 (.lst ([v1, v2] ++ [v3, v4]))) L3 = some (.lst [v1, v2, v3, v4]) := upd_same
      generalize upd (upd H7 L2 (.lst [v3, v4])) L3 (.lst ([v1, v2] ++ [v3, v4])) = H8 at w1 w2 w3 w4 hL3
      have dd : DpAll K H8 [v1, v2, v3, v4] [.tuple [.int 1, .int 9], .tuple [.int 0, .int 5], .tuple [.int 1, .int 999], .none] := .cons w1.dp (.cons w2.dp (.cons w3.dp (.cons w4.dp .nil)))
      refine ⟨_, rfl, _, _, rfl, .lst (sq_of hL3) dd, by decide +kernel, by decide +kernel, by decide +kernel, by decide +kernel, rfl, ?_⟩
      have es : decide (V.str (PyData.list [.tuple [.int 1, .int 9], .tuple [.int 0, .int 5], .tuple [.int 1, .int 999], .none]).shown = V.str "[(1, 9), (0, 5), (1, 999), None]") = true := by decide +kernel
      rw [es]
      exact q _
end
end LW
namespace LW
open PySem PySem.Spec PyProof.Rows L2 Evl SB
section
variable {P : Program} {w : World} {K : PySem.W.Frag} {mg : Str → Option Value} {base : Heap}
theorem law_facts {h : Heap} {fa : Addr} (X : K.In h) (hfa : mg ("law" : Str) = some (.ref fa)) (T : Tx K mg) :
    ∃ (K' : PySem.W.Frag) (fd : FuncData) (sp : Sp), K'.In h ∧ (∀ (s : Shared) (u : Value), BindsTo s fd ⟨[u], []⟩ [(("_law_script" : Str), u)]) ∧
        (∀ (H : Hp) (a : Addr) (ns : List Int), ns.length ≤ 63 → Only H → SqL K' H a (ns.map V.int) → sp [.ref a] H (fun v _ => v = .bl true) fun _ _ _ => False) ∧
        ∀ base : Heap, K'.In base → base.Ns mainGlobals mg → FnG P w K' mg base L2.CX0 10 fa fd ["_law_script"] sp := by
  obtain ⟨e, fd, F⟩ := T.d_law
  have e2 := hfa.symm.trans e
  cases e2
  exact ⟨K, fd, sp_law K, X, fun s u => FunD.bindsA (ps := ["_law_script"]) F (fun _ _ _ _ _ _ us hl => match us, hl with | [_], _ => rfl) s [u] rfl,
    fun H a ns hl _ hS => ⟨a, ns, rfl, hS, hl, fun _ => rfl⟩, fun base _ _ => law_ok T F⟩
end
def fnL : List He.DefD := [⟨("is_int", none), "is_int", "is_int", defArgs s_is_int, defBody s_is_int, defScope s_is_int, [], []⟩,
  ⟨("is_int_from", none), "is_int_from", "is_int_from", defArgs s_is_int_from, defBody s_is_int_from, defScope s_is_int_from, [], []⟩,
  ⟨("is_int_between", none), "is_int_between", "is_int_between", defArgs s_is_int_between, defBody s_is_int_between, defScope s_is_int_between, [], []⟩,
  ⟨("is_parity", none), "is_parity", "is_parity", defArgs s_is_parity, defBody s_is_parity, defScope s_is_parity, [], []⟩,
  ⟨("check_shape", none), "check_shape", "check_shape", defArgs s_check_shape, defBody s_check_shape, defScope s_check_shape, [], []⟩,
  ⟨("check_int_from", none), "check_int_from", "check_int_from", defArgs s_check_int_from, defBody s_check_int_from, defScope s_check_int_from, [], []⟩,
  ⟨("check_length", none), "check_length", "check_length", defArgs s_check_length, defBody s_check_length, defScope s_check_length, [], []⟩,
  ⟨("check_receiver", none), "check_receiver", "check_receiver", defArgs s_check_receiver, defBody s_check_receiver, defScope s_check_receiver, [], []⟩,
  ⟨("check_first_phase", none), "check_first_phase", "check_first_phase", defArgs s_check_first_phase, defBody s_check_first_phase, defScope s_check_first_phase, [], []⟩,
  ⟨("check_speed", none), "check_speed", "check_speed", defArgs s_check_speed, defBody s_check_speed, defScope s_check_speed, [], []⟩,
  ⟨("size_of", none), "size_of", "size_of", defArgs s_size_of, defBody s_size_of, defScope s_size_of, [], []⟩,
  ⟨("windows_of", none), "windows_of", "windows_of", defArgs s_windows_of, defBody s_windows_of, defScope s_windows_of, [], []⟩,
  ⟨("stretch", none), "stretch", "stretch", defArgs s_stretch, defBody s_stretch, defScope s_stretch, [], []⟩,
  ⟨("good_stretch", none), "good_stretch", "good_stretch", defArgs s_good_stretch, defBody s_good_stretch, defScope s_good_stretch, [], []⟩,
  ⟨("offset_of", none), "offset_of", "offset_of", defArgs s_offset_of, defBody s_offset_of, defScope s_offset_of, [], []⟩,
  ⟨("good_offsets", none), "good_offsets", "good_offsets", defArgs s_good_offsets, defBody s_good_offsets, defScope s_good_offsets, [], []⟩,
  ⟨("_check_text_at", none), "_check_text_at", "_check_text_at", defArgs s_check_text_at, defBody s_check_text_at, defScope s_check_text_at, [], []⟩,
  ⟨("_offset_at", none), "_offset_at", "_offset_at", defArgs s_offset_at, defBody s_offset_at, defScope s_offset_at, [], []⟩,
  ⟨("_law_pool", none), "_law_pool", "_law_pool", defArgs s_law_pool, defBody s_law_pool, defScope s_law_pool, [], []⟩,
  ⟨("_law_draw", none), "_law_draw", "_law_draw", defArgs s_law_draw, defBody s_law_draw, defScope s_law_draw, [], []⟩,
  ⟨("_law_form", none), "_law_form", "_law_form", defArgs s_law_form, defBody s_law_form, defScope s_law_form, [], []⟩,
  ⟨("_law_size", none), "_law_size", "_law_size", defArgs s_law_size, defBody s_law_size, defScope s_law_size, [], []⟩,
  ⟨("_law_clock", none), "_law_clock", "_law_clock", defArgs s_law_clock, defBody s_law_clock, defScope s_law_clock, [], []⟩,
  ⟨("_law_rows", none), "_law_rows", "_law_rows", defArgs s_law_rows, defBody s_law_rows, defScope s_law_rows, [], []⟩,
  ⟨("_law_is_good", none), "_law_is_good", "_law_is_good", defArgs s_law_is_good, defBody s_law_is_good, defScope s_law_is_good, [], []⟩,
  ⟨("_law_bounds", none), "_law_bounds", "_law_bounds", defArgs s_law_bounds, defBody s_law_bounds, defScope s_law_bounds, [], []⟩,
  ⟨("_law_span", none), "_law_span", "_law_span", defArgs s_law_span, defBody s_law_span, defScope s_law_span, [], []⟩,
  ⟨("_law_good", none), "_law_good", "_law_good", defArgs s_law_good, defBody s_law_good, defScope s_law_good, [], []⟩,
  ⟨("_law_walked", none), "_law_walked", "_law_walked", defArgs s_law_walked, defBody s_law_walked, defScope s_law_walked, [], []⟩,
  ⟨("_law_offsets_right", none), "_law_offsets_right", "_law_offsets_right", defArgs s_law_offsets_right, defBody s_law_offsets_right, defScope s_law_offsets_right, [], []⟩,
  ⟨("_law_ends_right", none), "_law_ends_right", "_law_ends_right", defArgs s_law_ends_right, defBody s_law_ends_right, defScope s_law_ends_right, [], []⟩,
  ⟨("_law_small", none), "_law_small", "_law_small", defArgs s_law_small, defBody s_law_small, defScope s_law_small, [], []⟩,
  ⟨("law", none), "law", "law", defArgs s_law, defBody s_law, defScope s_law, [], []⟩]
def faL : List He.Fa := [.free "abs", .free "bool", .free "int", .free "isinstance", .free "len", .free "list", .free "max", .free "min", .free "range", .free "repr", .free "str", .free "tuple", .glo "PARITIES", .int "MOST_BITS" 9, .int "MOST_STOPS" 2, .glo "is_int", .glo "is_int_from", .glo "is_int_between", .glo "is_parity", .glo "check_shape", .glo "check_int_from", .glo "check_length", .glo "check_receiver", .glo "check_first_phase", .glo "check_speed", .glo "size_of", .glo "windows_of", .glo "stretch", .glo "good_stretch", .glo "offset_of", .glo "good_offsets", .glo "_check_text_at", .glo "_offset_at", .glo "_law_pool", .glo "_law_draw", .glo "_law_form", .glo "_law_size", .glo "_law_clock", .glo "_law_rows", .glo "_law_is_good", .glo "_law_bounds", .glo "_law_span", .glo "_law_good", .glo "_law_walked", .glo "_law_offsets_right", .glo "_law_ends_right", .glo "_law_small", .glo "law"]
def exL (K : PySem.W.Frag) : Bool := He.tupB K "PARITIES" [.str "none", .str "even", .str "odd"]
theorem tx_of {w : World} {K : PySem.W.Frag} {h : Heap} {mg : Str → Option Value} (X : K.In h) (G : h.Ns mainGlobals mg) (c : He.SaysX faL fnL [] [] exL w h K) : Tx K mg := by
  have D := c.t.d
  have M := c.more
  exact {
    b_abs := He.free_ok X G (D.fact 0 (f := .free "abs") rfl),
    b_bool := He.free_ok X G (D.fact 1 (f := .free "bool") rfl),
    b_int := He.free_ok X G (D.fact 2 (f := .free "int") rfl),
    b_isinstance := He.free_ok X G (D.fact 3 (f := .free "isinstance") rfl),
    b_len := He.free_ok X G (D.fact 4 (f := .free "len") rfl),
    b_list := He.free_ok X G (D.fact 5 (f := .free "list") rfl),
    b_max := He.free_ok X G (D.fact 6 (f := .free "max") rfl),
    b_min := He.free_ok X G (D.fact 7 (f := .free "min") rfl),
    b_range := He.free_ok X G (D.fact 8 (f := .free "range") rfl),
    b_repr := He.free_ok X G (D.fact 9 (f := .free "repr") rfl),
    b_str := He.free_ok X G (D.fact 10 (f := .free "str") rfl),
    b_tuple := He.free_ok X G (D.fact 11 (f := .free "tuple") rfl),
    t_PARITIES := He.glo_ok X G (D.fact 12 (f := .glo "PARITIES") rfl),
    v_PARITIES := fun H => He.tupB_ok M H,
    i_MOST_BITS := He.int_ok X G (D.fact 13 (f := .int "MOST_BITS" 9) rfl),
    i_MOST_STOPS := He.int_ok X G (D.fact 14 (f := .int "MOST_STOPS" 2) rfl),
    d_is_int := ⟨He.glo_ok X G (D.fact 15 (f := .glo "is_int") rfl), D.def_ 0 rfl⟩,
    d_is_int_from := ⟨He.glo_ok X G (D.fact 16 (f := .glo "is_int_from") rfl), D.def_ 1 rfl⟩,
    d_is_int_between := ⟨He.glo_ok X G (D.fact 17 (f := .glo "is_int_between") rfl), D.def_ 2 rfl⟩,
    d_is_parity := ⟨He.glo_ok X G (D.fact 18 (f := .glo "is_parity") rfl), D.def_ 3 rfl⟩,
    d_check_shape := ⟨He.glo_ok X G (D.fact 19 (f := .glo "check_shape") rfl), D.def_ 4 rfl⟩,
    d_check_int_from := ⟨He.glo_ok X G (D.fact 20 (f := .glo "check_int_from") rfl), D.def_ 5 rfl⟩,
    d_check_length := ⟨He.glo_ok X G (D.fact 21 (f := .glo "check_length") rfl), D.def_ 6 rfl⟩,
    d_check_receiver := ⟨He.glo_ok X G (D.fact 22 (f := .glo "check_receiver") rfl), D.def_ 7 rfl⟩,
    d_check_first_phase := ⟨He.glo_ok X G (D.fact 23 (f := .glo "check_first_phase") rfl), D.def_ 8 rfl⟩,
    d_check_speed := ⟨He.glo_ok X G (D.fact 24 (f := .glo "check_speed") rfl), D.def_ 9 rfl⟩,
    d_size_of := ⟨He.glo_ok X G (D.fact 25 (f := .glo "size_of") rfl), D.def_ 10 rfl⟩,
    d_windows_of := ⟨He.glo_ok X G (D.fact 26 (f := .glo "windows_of") rfl), D.def_ 11 rfl⟩,
    d_stretch := ⟨He.glo_ok X G (D.fact 27 (f := .glo "stretch") rfl), D.def_ 12 rfl⟩,
    d_good_stretch := ⟨He.glo_ok X G (D.fact 28 (f := .glo "good_stretch") rfl), D.def_ 13 rfl⟩,
    d_offset_of := ⟨He.glo_ok X G (D.fact 29 (f := .glo "offset_of") rfl), D.def_ 14 rfl⟩,
    d_good_offsets := ⟨He.glo_ok X G (D.fact 30 (f := .glo "good_offsets") rfl), D.def_ 15 rfl⟩,
    d_check_text_at := ⟨He.glo_ok X G (D.fact 31 (f := .glo "_check_text_at") rfl), D.def_ 16 rfl⟩,
    d_offset_at := ⟨He.glo_ok X G (D.fact 32 (f := .glo "_offset_at") rfl), D.def_ 17 rfl⟩,
    d_law_pool := ⟨He.glo_ok X G (D.fact 33 (f := .glo "_law_pool") rfl), D.def_ 18 rfl⟩,
    d_law_draw := ⟨He.glo_ok X G (D.fact 34 (f := .glo "_law_draw") rfl), D.def_ 19 rfl⟩,
    d_law_form := ⟨He.glo_ok X G (D.fact 35 (f := .glo "_law_form") rfl), D.def_ 20 rfl⟩,
    d_law_size := ⟨He.glo_ok X G (D.fact 36 (f := .glo "_law_size") rfl), D.def_ 21 rfl⟩,
    d_law_clock := ⟨He.glo_ok X G (D.fact 37 (f := .glo "_law_clock") rfl), D.def_ 22 rfl⟩,
    d_law_rows := ⟨He.glo_ok X G (D.fact 38 (f := .glo "_law_rows") rfl), D.def_ 23 rfl⟩,
    d_law_is_good := ⟨He.glo_ok X G (D.fact 39 (f := .glo "_law_is_good") rfl), D.def_ 24 rfl⟩,
    d_law_bounds := ⟨He.glo_ok X G (D.fact 40 (f := .glo "_law_bounds") rfl), D.def_ 25 rfl⟩,
    d_law_span := ⟨He.glo_ok X G (D.fact 41 (f := .glo "_law_span") rfl), D.def_ 26 rfl⟩,
    d_law_good := ⟨He.glo_ok X G (D.fact 42 (f := .glo "_law_good") rfl), D.def_ 27 rfl⟩,
    d_law_walked := ⟨He.glo_ok X G (D.fact 43 (f := .glo "_law_walked") rfl), D.def_ 28 rfl⟩,
    d_law_offsets_right := ⟨He.glo_ok X G (D.fact 44 (f := .glo "_law_offsets_right") rfl), D.def_ 29 rfl⟩,
    d_law_ends_right := ⟨He.glo_ok X G (D.fact 45 (f := .glo "_law_ends_right") rfl), D.def_ 30 rfl⟩,
    d_law_small := ⟨He.glo_ok X G (D.fact 46 (f := .glo "_law_small") rfl), D.def_ 31 rfl⟩,
    d_law := ⟨He.glo_ok X G (D.fact 47 (f := .glo "law") rfl), D.def_ 32 rfl⟩ }
def looseL : List Str := (["LineError", "InvalidNumber", "InvalidPhase", "InvalidLength", "InvalidShape", "InvalidReceiver", "PARITIES", "MOST_BITS", "MOST_STOPS", "is_int", "is_int_from", "is_int_between", "is_parity", "check_shape", "check_int_from", "check_length", "check_receiver", "check_first_phase", "check_speed", "size_of", "windows_of", "stretch", "good_stretch", "offset_of", "good_offsets", "_check_text_at", "_offset_at", "_law_pool", "_law_draw", "_law_form"] : List Str) ++ (["_law_size", "_law_clock", "_law_rows", "_law_is_good", "_law_bounds", "_law_span", "_law_good", "_law_walked", "_law_offsets_right", "_law_ends_right", "_law_small"] : List Str)
abbrev RW : PySem.W.OpenRow := PySem.W.OpenLaw.row PySem.Challenge.rw_startbits_k21_offsets
abbrev hk : PySem.W.Hook := He.hookX 5 faL fnL [] [] exL
def obL (s : PySem.W.SharedT) : He.AlX := He.obsX 5 faL fnL [] [] exL (HandSHeadRun.getT s)
theorem obL_eq (s : PySem.W.SharedT) : obL s = hk.obs s.abs := He.obsX_eq (HandSHeadRun.getT_eq s)
theorem runL (w : World) : HandSHeadRun.RunEq RW (PySem.W.view RW.prog [47]) hk obL 6000 looseL w := by
  intro os
  kernel_rfl
end LW
open PySem PySem.W PySem.Calls PyProof.Rows
set_option maxHeartbeats 0 in
theorem PySem.Challenge.cw_startbits_k21_offsets_holds : PySem.Challenge.rw_startbits_k21_offsets.Holds := by
  w_on; o_law
  refine HandSHeadRun.head_any (r := OpenLaw.row PySem.Challenge.rw_startbits_k21_offsets) (q := view (OpenLaw.row PySem.Challenge.rw_startbits_k21_offsets).prog [47]) (H := LW.hk) (ob := LW.obL) (M := 6000) (loose := LW.looseL) (d := HandSHeadRun.topDef (OpenLaw.row PySem.Challenge.rw_startbits_k21_offsets).prog 47) (kwd := []) LW.obL_eq
    (by kernel_rfl) (fun s => by kernel_rfl) LW.runL (by kernel_rfl) (by kernel_rfl) (by kernel_rfl) (by rfl) (by first | assumption | decide +kernel) (by decide +kernel) ⟨rfl, rfl, rfl, rfl, rfl, by decide +kernel⟩ ?hw ?hc
  case hw => w_witness2
  case hc =>
    refine SB.walkG (l := PySem.Challenge.rw_startbits_k21_offsets) (n := 63) (k := 10) (x := "_law_script") (CX := L2.CX0) rfl (by decide) (by kernel_rfl) ⟨rfl, by decide, by decide⟩ ?F (fun _ _ _ _ z => z)
    intro w mg fa h Y G hmg0
    obtain ⟨K, KX, c⟩ := Y
    have hmg : mg ("law" : PySem.Str) = some (.ref fa) := by
      have e : (HandSHeadRun.topDef (OpenLaw.row PySem.Challenge.rw_startbits_k21_offsets).prog 47).name = ("law" : PySem.Str) := by kernel_rfl
      rw [← e]
      exact hmg0
    exact LW.law_facts KX hmg (LW.tx_of KX G c)
