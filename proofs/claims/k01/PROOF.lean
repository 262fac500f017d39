import PyProof.Rows.All
import Wide.All
import OpenK.AllK
import Wide.FinOn
import PySem.Challenge.RW_startbits_k01_shapes_judged
import HandS.ForMost
import HandS.Wide
import HandS.IsInst
import HandS.Defaults
import HandS.HeadHook2
import HandS.HeadHook4
import HandS.HeadEnd
import HandS.Head0
import HandS.Head1
import HandS.Head2
import PyProof.ReprRoads
import PyProof.ReprLen
import HandS.Evl
import HandS.Text
import HandS.Zip
import HandS.Style
import HandS.ForExc
import HandS.ExcInit
import KE.KExcLine
import HandS.ExcSuper
import HandS.TryOnly
import HandS.Dict
set_option Elab.async false
set_option linter.all false
set_option maxRecDepth 100000
set_option maxHeartbeats 4000000
namespace SB
open PySem PySem.Spec PyProof.Rows L2
/-! powers of wide ints -/
def CPowB (i j : Int) : Prop := 0 ≤ j ∧ ((i.natAbs.log2 : Int) + 1) * j ≤ 134217728
theorem bits_le (i : Int) : (Builtin.Int.intBits i : Int) ≤ (i.natAbs.log2 : Int) + 1 := by
  unfold Builtin.Int.intBits
  split <;> omega
theorem op_powB {X : Cx} : OpR X (binaryOp .Pow) (rI CPowB fun i j => .int (i ^ j.toNat)) :=
  opI fun i j _ _ _ _ _ hc q => by
    refine pow_int hc.1 ?_ q
    have h2 := hc.2
    have h3 := Int.mul_le_mul_of_nonneg_right (bits_le i) hc.1
    have e : (2 : Int) ^ 27 = 134217728 := by decide
    omega
/-! repr of data -/
def rRp (K : PySem.W.Frag) : List V → Hp → VK → Prop := fun xs H Q => ∃ v d, xs = [v] ∧ Dp K H v d ∧ d.showable = true ∧ d.hasDict = false ∧ d.depth ≤ 60 ∧ d.shown.length ≤ sizeLine ∧ Q (.str d.shown) H
theorem call_rp {X : Cx} (hg : X.A.guards = some []) (hu : X.A.units + 64 < cLine) : CallR X (.builtin "repr") (rRp X.K) := by
  intro pins s σ H xs us Q I r h
  obtain ⟨v, d, rfl, hd, h1, h2, h3, h4, q⟩ := h
  obtain ⟨u, rfl, ru⟩ := vals1 r
  cases hd with
  | non =>
    obtain rfl : u = Value.none := ru
    exact PySem.P.repr_of_none ⟨.str "None", H, I.tok _, ⟨_, rfl⟩, q⟩
  | bl b =>
    obtain rfl : u = Value.bool b := ru
    cases b with
    | true => exact PySem.P.repr_of_bool ⟨.str "True", H, I.tok _, ⟨_, rfl⟩, q⟩
    | false => exact PySem.P.repr_of_bool ⟨.str "False", H, I.tok _, ⟨_, rfl⟩, q⟩
  | int i =>
    obtain ⟨t, rfl⟩ := ru
    exact PySem.P.repr_of_int (of_decide_eq_true h1) ⟨.str (toString i), H, I.tok _, ⟨_, rfl⟩, q⟩
  | str x =>
    obtain ⟨t, rfl⟩ := ru
    exact PySem.P.repr_of_str ⟨.str (reprText x), H, I.tok _, ⟨_, rfl⟩, q⟩ h4
  | lst hs ha =>
    obtain ⟨as, rd⟩ := Dp.reads I _ _ u (.lst hs ha) ru
    cases (show u = Value.ref _ from ru)
    exact PySem.repr_of_reads' rd h1 (PyData.noDict_hsm h2) hg (by omega) (fun _ _ e => e) (fun h' u tk hk => ⟨.str _, H, I.kept hk, ⟨_, rfl⟩, q⟩) h4
  | tup hs ha =>
    obtain ⟨as, rd⟩ := Dp.reads I _ _ u (.tup hs ha) ru
    cases (show u = Value.ref _ from ru)
    exact PySem.repr_of_reads' rd h1 (PyData.noDict_hsm h2) hg (by omega) (fun _ _ e => e) (fun h' u tk hk => ⟨.str _, H, I.kept hk, ⟨_, rfl⟩, q⟩) h4
/-! defs that are run where no repr is under way: the promise holds for such surroundings alone -/
structure FnG (P : Program) (w : World) (K : PySem.W.Frag) (mg : Str → Option Value) (base : Heap) (CX : CXT) (k : Nat)
    (f : Addr) (fd : FuncData) (ps : List Str) (sp : Sp) : Prop where
  len : ∀ vs H Q E, sp vs H Q E → vs.length = ps.length
  go : ∀ (A : Around) (out : List Env) (s : Shared) (H : Hp) (ar : Args) (us : List Value) (vs : List V) (Q : VK) (E : XK),
    Room k A → A.guards = some [] → Env0 P w K mg base A out s H → BindsTo s fd ar (ps.zip us) → Vals vs us → sp vs H Q E →
    codeAny (model P w) A (.call (.ref f) ar) (CR CX out P w H s Q E) s
section
variable {P : Program} {w : World} {K : PySem.W.Frag} {mg : Str → Option Value} {base : Heap} {CX : CXT} {k : Nat}
  {f : Addr} {fd : FuncData} {ps : List Str} {sp : Sp}
theorem FnG.of (F : FnOk P w K mg base CX k f fd ps sp) : FnG P w K mg base CX k f fd ps sp :=
  ⟨F.len, fun A out s H ar us vs Q E r _ e b v h => F.run A out s H ar us vs Q E r e b v h⟩
theorem FnG.mono {j : Nat} (F : FnG P w K mg base CX j f fd ps sp) (h : j ≤ k) : FnG P w K mg base CX k f fd ps sp :=
  ⟨F.len, fun A out s H ar us vs Q E r g e b v z => F.go A out s H ar us vs Q E (r.mono h) g e b v z⟩
theorem FnG.body {x qual : Str} {params : Arguments} {bd : List Stmt} {scope : Scope} {dvs : List V} {kws : List (Str × V)} {N : List Str}
    (F : FunD K x qual params bd scope dvs kws f fd) (S : FnScope N ps scope) (len : ∀ vs H Q E, sp vs H Q E → vs.length = ps.length)
    (hb : ∀ (cdv : Value) (A : Around) (out : List Env) (s : Shared) (H : Hp) (vs : List V) (Q : VK) (E : XK),
      Room k (A.deeper (envOfC qual scope s.heap.objs.size f cdv)) → A.guards = some [] → sp vs H Q E →
      ∃ t, PSs (cxOf CX P w K mg base N qual scope f cdv A out s H E) bd t ∧ t { nx := fun _ H' => Q .non H', rt := Q } (start N vs) H) :
    FnG P w K mg base CX (k + 1) f fd ps sp := by
  obtain ⟨oc, od, dV, kV, doc, pm, an, cdv, ct, osl, rfl, lk, hcd, _, _⟩ := F.ex
  refine ⟨len, ?_⟩
  intro A out s H ar us vs Q E room gd e0 bnd vls pr
  have inS : K.In s.heap := e0.mod.kin.keeps fun b o z => (e0.bs b o z).1
  have nl : s.heap.NoLimit := e0.mod.nolimit.keeps fun b o z => (e0.bs b o z).1
  refine codeAny_call_function room.depth (inS _ _ lk) rfl S.co S.gen rfl (PySem.W.codeRec_of inS hcd) (bnd _ _ _ _ ?_)
  refine wpAny_newFunctionEnv_cells S.kind ?_ ?_
  · intro ⟨n, v⟩ hy
    cases S.par n (List.of_mem_zip hy).1 with
    | inl q => exact .inl q
    | inr q => exact .inr ⟨q, PySem.W.cellsFrom_some _ _ _ (.inl q)⟩
  intro env he s1 x
  subst he
  refine ⟨nl.keeps x.toInCall.keep, codeAny_func ?_⟩
  obtain ⟨t, der, rd⟩ := hb cdv A out s H vs Q E (room.deeper _) gd pr
  have I0 := inv_start (CX := CX) (P := P) (w := w) (K := K) (mg := mg) (base := base) (cd := cdv) (f := f) (E := E)
    (qual := qual) S room.hd e0 (len _ _ _ _ pr) vls x
  refine wpAny_mono (der.run [] s1 (start N vs) H _ I0 rd) ?_ (fun _ _ z => z)
  intro fl s' z
  cases fl with
  | ret u =>
    obtain ⟨v, σ', H', J, rv, q⟩ := z
    exact ⟨v, H', J.os, J.bare, J.base, J.hok, rv, q⟩
  | next =>
    obtain ⟨σ', H', J, q⟩ := z
    exact ⟨V.non, H', J.os, J.bare, J.base, J.hok, rfl, q⟩
  | brk =>
    obtain ⟨_, _, _, q⟩ := z
    exact q.elim
  | cont =>
    obtain ⟨_, _, _, q⟩ := z
    exact q.elim
end
section
variable {X : Cx} {CX : CXT} {k : Nat} {f : Addr} {fd : FuncData} {ps : List Str} {sp : Sp} {dvs : List V} {ds : List Value} {E : XK}
  {x : Str} {p pos : Pos} {e : Expr} {es : List Expr} {t : TA}
theorem runG {pins : List (Addr × Obj)} {σ : L2.St} {H : Hp} {s : Shared} {Q : VK} {us : List Value} {vs : List V}
    (F : FnG X.prog X.w X.K X.mg X.base CX k f fd ps sp) (hr : Room k X.A) (hg : X.A.guards = some []) (hb : Binds X.K fd ps ds) (hd : Vals dvs ds) (hx : Passes CX X E)
    (I : Inv X pins σ H s) (r : Vals vs us) (h : sp (vs ++ dvs) H Q E) : wpAny (model X.prog X.w) X.A (call (.ref f) us) (EP X pins σ Q) X.xe s := by
  have rr : Vals (vs ++ dvs) (us ++ ds) := r.append hd
  have ll : (us ++ ds).length = ps.length := rr.length.symm.trans (F.len _ _ _ _ h)
  have go := F.go X.A X.stack s H ⟨us, []⟩ (us ++ ds) (vs ++ dvs) Q E hr hg I.env0 (hb s us I.kIn ll) rr h
  refine wpAny_call (codeAny_mono go ?_)
  intro r s' z
  match r, z with
  | .error e, z => exact hx pins σ H s e s' I z
  | .ok (.ret u), z => exact I.after z
  | .ok .next, z => exact False.elim z
  | .ok .brk, z => exact False.elim z
  | .ok .cont, z => exact False.elim z
theorem pe_callG (F : FnG X.prog X.w X.K X.mg X.base CX k f fd ps sp) (hr : Room k X.A) (gd : X.A.guards = some []) (hg : Gl X x) (hm : X.mg x = some (.ref f))
    (hk : PySem.W.keepIn X.K (.ref f) = true) (hb : Binds X.K fd ps ds) (hd : Vals dvs ds) (hx : Passes CX X E)
    (ha : PA X (e :: es) t) (hdb : (x == ("__debug__" : Str)) = false := by decide)
    (he : starEach (e :: es) X.env = (false, eval e X.env) :: starEach es X.env := by rfl) (hpl : (backTo pos (starEach es X.env)).any (·.1) = false := by rfl) :
    PE X (.Call (.Name x p) (e :: es) [] pos) (tCall sp dvs E t) := by
  constructor
  intro pins s σ H Q I h
  refine wpAny_Call_Name_kw (ld_glob I hg hm ?_ hdb)
  refine PySem.W.callWith_K (h₀ := X.base) I.ok.mod.kin hk (thn (ha.run pos pins s σ H _ I h) ?_) he hpl
  intro us s1 ⟨vs, H1, I1, r, q⟩
  exact ⟨I1.kIn, runG F hr gd hb hd hx I1 r q⟩
end
/-! the end of a law over such a def -/
theorem callG {P : Program} {w : World} {K : PySem.W.Frag} {mg mb : Str → Option Value} {CX : CXT} {k : Nat} {fa a : Addr} {fd : FuncData} {x : Str} {sp : Sp} {s₁ : Shared}
    {vs : List Value} {ns : List Int}
    (KX : K.In s₁.heap) (hns : s₁.heap.Ns mainGlobals mg) (hb : s₁.heap.Ns builtinsNs mb) (hbb : ∀ x : Str, x ≠ "__name__" → mb x = bootBuiltins x) (hlim : s₁.heap.NoLimit) (hg : s₁.gens = #[])
    (ha : s₁.heap.get? a = some { cls := .type "list", data := .seq vs.toArray }) (hi : IntsAre vs ns) (hl : ns.length ≤ sizeLine) (hr : Room k callerA)
    (F : ∀ base : Heap, K.In base → base.Ns mainGlobals mg → FnG P w K mg base CX k fa fd [x] sp)
    (hbind : ∀ (s : Shared) (u : Value), BindsTo s fd ⟨[u], []⟩ [(x, u)])
    (hsp : ∀ H : Hp, Only H → SqL K H a (ns.map V.int) → sp [.ref a] H (fun v _ => v = .bl true) fun _ _ _ => False)
    (hCX : ∀ H e s', CX [] H s₁ (fun _ _ _ => False) e s' → False) :
    codeAny (model P w) callerA (.call (.ref fa) ⟨[.ref a], []⟩) (fun r s' => r = .ok (.ret (.bool true)) ∧ OldK s₁.heap s'.heap ∧ s'.os = s₁.os ∧ AllBare s'.gens) s₁ := by
  -- whatever is tracked at the entry is the script alone
  have main : ∀ T : Hp, Only T → SqL K T a (ns.map V.int) → HOk P w T s₁.heap → (∀ b, T b ≠ none → b = a ∧ K.lookup a = none) →
      codeAny (model P w) callerA (.call (.ref fa) ⟨[.ref a], []⟩) (fun r s' => r = .ok (.ret (.bool true)) ∧ OldK s₁.heap s'.heap ∧ s'.os = s₁.os ∧ AllBare s'.gens) s₁ := by
    intro T only sq hok alone
    have B : ∀ {b : Addr} {o : Obj}, s₁.heap.get? b = some o → T b = none → (hidT s₁.heap T).get? b = some o := fun e n => hidT_get e n
    have notD : ∀ {b : Addr} {o : Obj} {es : Array DictEntry} {n : Nat}, s₁.heap.get? b = some o → o.data = .dict es n → T b = none := by
      intro b o es n e d
      by_cases q : T b = none
      · exact q
      · have z := (alone b q).1
        subst z
        rw [ha] at e
        cases e
        cases (show Data.seq vs.toArray _ = Data.dict es n from d)
    have nsB : ∀ {b : Addr} {m : Str → Option Value}, s₁.heap.Ns b m → (hidT s₁.heap T).Ns b m :=
      fun ⟨o, es, n, e, d, r⟩ => ⟨o, es, n, B e (notD e d), d, r⟩
    have inB : K.In (hidT s₁.heap T) := by
      intro b o e
      refine B (KX b o e) ?_
      by_cases q : T b = none
      · exact q
      · obtain ⟨z1, z2⟩ := alone b q
        subst z1
        rw [z2] at e
        cases e
    have modB : Mod K mg (hidT s₁.heap T) := by
      obtain ⟨mc, l1, l2⟩ := hlim
      exact ⟨inB, nsB hns, ⟨mb, nsB hb, hbb⟩, mc, nsB l1, l2⟩
    have e0 : Env0 P w K mg (hidT s₁.heap T) callerA [] s₁ T := by
      refine ⟨rfl, modB, fun b o z => of_hidT z, Nat.le_of_eq (hidT_size _ _), trivial, ?_, hok, .of_eq hg⟩
      intro b z
      exact absurd (show b ∈ ([] : List Addr) from z) (by simp)
    have run := (F _ inB (nsB hns)).go callerA [] s₁ T ⟨[.ref a], []⟩ [.ref a] [.ref a] _ _ hr rfl e0 (hbind s₁ (.ref a)) (.cons rfl .nil) (hsp T only sq)
    refine codeAny_mono run ?_
    intro r s' z
    match r, z with
    | .error e, z => exact (hCX T e s' z).elim
    | .ok .next, z => exact False.elim z
    | .ok .brk, z => exact False.elim z
    | .ok .cont, z => exact False.elim z
    | .ok (.ret u), ⟨v, T', os, bare, un, hok', rel, q⟩ =>
      cases (show v = .bl true from q)
      cases (show u = Value.bool true from rel)
      refine ⟨rfl, OldK.of_keep ?_, os, bare⟩
      intro b o e
      cases q : T b with
      | none =>
        refine un.keep b o e q ?_ (by simp)
        intro z
        exact absurd (show b ∈ ([] : List Addr) from z) (by simp)
      | some u =>
        rcases only b with z | ⟨ob, ys, z⟩
        · rw [q] at z
          cases z
        · obtain ⟨e1, _⟩ := hok b _ z
          obtain ⟨e2, _⟩ := hok' b _ (un.frzs b ob _ z)
          rw [e] at e1
          cases e1
          exact e2
  cases hk : K.lookup a with
  | some o =>
    have e := KX a o hk
    rw [ha] at e
    cases e
    refine main (fun _ => none) (fun _ => .inl rfl) ?_ (fun b u z => nomatch (show (none : Option HO) = some u from z)) (fun b z => absurd rfl z)
    exact .inr ⟨_, vs.toArray, _, hk, rfl, rfl, rfl, by rw [List.size_toArray, hi.length]; exact hl, by simpa using vals_ints hi⟩
  | none =>
    obtain ⟨T, yes, no⟩ : ∃ T : Hp, (∀ b : Addr, b = a → T b = some (.frz { cls := .type "list", data := .seq vs.toArray } (.lst (ns.map V.int)))) ∧ (∀ b : Addr, b ≠ a → T b = none) :=
      ⟨fun c => if c = a then some (.frz { cls := .type "list", data := .seq vs.toArray } (.lst (ns.map V.int))) else none, fun b h => if_pos h, fun b h => if_neg h⟩
    refine main T ?_ (.inl (.inr ⟨_, yes a rfl⟩)) ?_ ?_
    · intro b
      by_cases h : b = a
      · exact .inr ⟨_, _, yes b h⟩
      · exact .inl (no b h)
    · intro b u z
      by_cases h : b = a
      · have z' := (yes b h).symm.trans z
        cases z'
        subst h
        exact ⟨ha, by rw [List.length_map]; exact hl, vs, _, vals_ints hi, ha⟩
      · have z' := (no b h).symm.trans z
        cases z'
    · intro b z
      by_cases h : b = a
      · exact ⟨h, hk⟩
      · exact absurd (no b h) z
theorem walkG {l : PySem.W.OpenLaw} {n k : Nat} {q : Program} {loose : List Str} {XP : (Str → Option Value) → Heap → Prop} {YP : World → Heap → Prop} {d : DefRec} {CX : CXT} {x : Str}
    (hn : l.most = some n) (hn2 : n ≤ sizeLine) (hdf : d.params.defaults = []) (hr : Room k callerA)
    (F : ∀ (w : World) (mg : Str → Option Value) (fa : Addr) (h : Heap), YP w h → h.Ns mainGlobals mg → mg d.name = some (.ref fa) →
      ∃ (K : PySem.W.Frag) (fd : FuncData) (sp : Sp), K.In h ∧ (∀ (s : Shared) (u : Value), BindsTo s fd ⟨[u], []⟩ [(x, u)]) ∧
        (∀ (H : Hp) (a : Addr) (ns : List Int), ns.length ≤ n → Only H → SqL K H a (ns.map V.int) → sp [.ref a] H (fun v _ => v = .bl true) fun _ _ _ => False) ∧
        ∀ base : Heap, K.In base → base.Ns mainGlobals mg → FnG l.prog w K mg base CX k fa fd [x] sp)
    (hCX : ∀ (H : Hp) (s : Shared) (e : Value) (s' : Shared), CX [] H s (fun _ _ _ => False) e s' → False) :
    PySem.W.WalkO q loose XP YP l.row.toRowW d [] (fun f vs => PySem.call f vs) := by
  apply Att.attach_call hn hdf
  intro w s₀ s₁ mg mb fa o pm cd doc a vs ns G Y ho hd hcd hmg hobj hints hlen hg
  obtain ⟨K, fd, sp, KX, bnd, say, prom⟩ := F w mg fa _ Y G.T.g hmg
  exact callG KX G.T.g G.T.b G.T.builtins G.T.nolimit hg hobj hints (Nat.le_trans hlen hn2) hr prom bnd (fun H hO hS => say H a ns hlen hO hS) (fun H e s' => hCX H s₁ e s')
end SB
namespace SB
open PySem PySem.Spec PyProof.Rows L2
/-! a def of the text, where it stands; what a caller has of it -/
def GInt (mg : Str → Option Value) (x : Str) (i : Int) : Prop := ∃ t, mg x = some (.int i t)
def Df (K : PySem.W.Frag) (mg : Str → Option Value) (x : Str) (st : Stmt) : Prop :=
  mg x = some (.ref (He.ga K x)) ∧ ∃ fd, FunD K x x (defArgs st) (defBody st) (defScope st) [] [] (He.fAd K (x, none)) fd
theorem pe_gi {X : Cx} {x : Str} {i : Int} {pos : Pos} (h : GInt X.mg x i) (hg : Gl X x := by rfl) (hdb : (x == ("__debug__" : Str)) = false := by decide) : PE X (.Name x pos) (tC (.int i)) := by
  obtain ⟨t, e⟩ := h
  exact pe_glob hg e ⟨_, rfl⟩ hdb
structure Cal (P : Program) (w : World) (K : PySem.W.Frag) (mg : Str → Option Value) (base : Heap) (CX : CXT) (k : Nat) (x : Str) (ps : List Str) (sp : Sp) : Prop where
  ex : ∃ f fd, mg x = some (.ref f) ∧ PySem.W.keepIn K (.ref f) = true ∧ Binds K fd ps [] ∧ FnOk P w K mg base CX k f fd ps sp
structure CalG (P : Program) (w : World) (K : PySem.W.Frag) (mg : Str → Option Value) (base : Heap) (CX : CXT) (k : Nat) (x : Str) (ps : List Str) (sp : Sp) : Prop where
  ex : ∃ f fd, mg x = some (.ref f) ∧ PySem.W.keepIn K (.ref f) = true ∧ Binds K fd ps [] ∧ FnG P w K mg base CX k f fd ps sp
/-- called by keywords alone -/
structure CalK (P : Program) (w : World) (K : PySem.W.Frag) (mg : Str → Option Value) (base : Heap) (CX : CXT) (k : Nat) (x : Str) (ks ps : List Str) (gV : List V → List V → List V) (sp : Sp) : Prop where
  ex : ∃ f fd g, mg x = some (.ref f) ∧ PySem.W.keepIn K (.ref f) = true ∧ KBinds K fd ps ks g gV ∧ FnOk P w K mg base CX k f fd ps sp
section
variable {X : Cx} {CX : CXT} {k j : Nat} {ps ks : List Str} {sp : Sp} {E : XK} {x : Str} {p pos : Pos} {e : Expr} {es : List Expr} {kws : List Keyword} {t tk : TA} {gV : List V → List V → List V}
theorem pe_cal (F : Cal X.prog X.w X.K X.mg X.base CX k x ps sp) (hr : Room k X.A) (hx : Passes CX X E) (ha : PA X (e :: es) t) (hg : Gl X x := by rfl) (hdb : (x == ("__debug__" : Str)) = false := by decide)
    (he : starEach (e :: es) X.env = (false, eval e X.env) :: starEach es X.env := by rfl) (hpl : (backTo pos (starEach es X.env)).any (·.1) = false := by rfl) :
    PE X (.Call (.Name x p) (e :: es) [] pos) (tCall sp [] E t) := by
  obtain ⟨f, fd, e1, e2, e3, e4⟩ := F.ex
  exact pe_call e4 hr hg e1 e2 e3 .nil hx ha hdb he hpl
theorem pe_cal0 (F : Cal X.prog X.w X.K X.mg X.base CX k x ps sp) (hr : Room k X.A) (hx : Passes CX X E) (hg : Gl X x := by rfl) (hdb : (x == ("__debug__" : Str)) = false := by decide) :
    PE X (.Call (.Name x p) [] [] pos) (tCall sp [] E tNil) := by
  obtain ⟨f, fd, e1, e2, e3, e4⟩ := F.ex
  exact pe_call0 e4 hr hg e1 e2 e3 .nil hx hdb
theorem pe_calG (F : CalG X.prog X.w X.K X.mg X.base CX k x ps sp) (hr : Room k X.A) (gd : X.A.guards = some []) (hx : Passes CX X E) (ha : PA X (e :: es) t) (hg : Gl X x := by rfl) (hdb : (x == ("__debug__" : Str)) = false := by decide)
    (he : starEach (e :: es) X.env = (false, eval e X.env) :: starEach es X.env := by rfl) (hpl : (backTo pos (starEach es X.env)).any (·.1) = false := by rfl) :
    PE X (.Call (.Name x p) (e :: es) [] pos) (tCall sp [] E t) := by
  obtain ⟨f, fd, e1, e2, e3, e4⟩ := F.ex
  exact pe_callG e4 hr gd hg e1 e2 e3 .nil hx ha hdb he hpl
theorem pe_calK (F : CalK X.prog X.w X.K X.mg X.base CX k x ks ps gV sp) (hr : Room k X.A) (hx : Passes CX X E) (hkw : PK X kws tk) (hg : Gl X x := by rfl)
    (hall : (backToKw pos (keywordEach kws X.env)).all (·.1.isSome) = true := by rfl) (hks : (backToKw pos (keywordEach kws X.env)).filterMap (·.1) = ks := by rfl)
    (hdb : (x == ("__debug__" : Str)) = false := by decide)
    (hpl : ((backTo pos (starEach [] X.env)).any (·.1) || (backToKw pos (keywordEach kws X.env)).any (·.1.isNone)) = false := by rfl) :
    PE X (.Call (.Name x p) [] kws pos) (tCallK sp gV E tNil tk) := by
  obtain ⟨f, fd, g, e1, e2, e3, e4⟩ := F.ex
  constructor
  intro pins s σ H Q I h
  refine wpAny_Call_Name_kw (ld_glob I hg e1 ?_ hdb)
  refine PySem.W.callWith_KW0 (h₀ := X.base) I.ok.mod.kin e2 hall (thn (hkw.run pos pins s σ H _ I h) ?_) hpl
  intro ws s2 ⟨zs, H2, I2, rz, q2⟩
  refine ⟨I2.kIn, ?_⟩
  rw [hks]
  exact run_fnk (us := []) (vs := []) e4 hr e3 hx I2 .nil rz q2
end
section
variable {P : Program} {w : World} {K : PySem.W.Frag} {mg : Str → Option Value} {base : Heap}
theorem Df.cal {CX : CXT} {k : Nat} {x : Str} {st : Stmt} {N ps : List Str} {sp : Sp} (D : Df K mg x st) (S : FnScope N ps (defScope st)) (len : ∀ vs H Q E, sp vs H Q E → vs.length = ps.length)
    (hb : ∀ (kV doc pm : Value) (an : Option Addr) (cdv ct : Value) (us : List Value), us.length = ps.length → bindArgs (PySem.W.fnOf x x (defArgs st) (defBody st) (defScope st) .none kV doc pm an cdv ct) ⟨us, []⟩ = pure (ps.zip us))
    (body : ∀ (f : Addr) (cdv : Value) (A : Around) (outer : List Env) (s : Shared) (H : Hp) (vs : List V) (Q : VK) (E : XK), Room k (A.deeper (envOfC x (defScope st) s.heap.objs.size f cdv)) → sp vs H Q E →
      ∃ t, PSs (cxOf CX P w K mg base N x (defScope st) f cdv A outer s H E).nox (defBody st) t ∧ t { nx := fun _ H' => Q .non H', rt := Q } (start N vs) H) :
    Cal P w K mg base CX (k + 1) x ps sp := by
  obtain ⟨e, fd, F⟩ := D
  exact ⟨_, fd, e, F.kp, FunD.bindsN F hb, FunD.ok F S len (fun cdv A outer s H vs Q E hr h => let ⟨t, a, b⟩ := body _ cdv A outer s H vs Q E hr h; ⟨t, a.nox, b⟩)⟩
theorem Df.calG {CX : CXT} {k : Nat} {x : Str} {st : Stmt} {N ps : List Str} {sp : Sp} (D : Df K mg x st) (S : FnScope N ps (defScope st)) (len : ∀ vs H Q E, sp vs H Q E → vs.length = ps.length)
    (hb : ∀ (kV doc pm : Value) (an : Option Addr) (cdv ct : Value) (us : List Value), us.length = ps.length → bindArgs (PySem.W.fnOf x x (defArgs st) (defBody st) (defScope st) .none kV doc pm an cdv ct) ⟨us, []⟩ = pure (ps.zip us))
    (body : ∀ (f : Addr) (cdv : Value) (A : Around) (outer : List Env) (s : Shared) (H : Hp) (vs : List V) (Q : VK) (E : XK), Room k (A.deeper (envOfC x (defScope st) s.heap.objs.size f cdv)) → A.guards = some [] → sp vs H Q E →
      ∃ t, PSs (cxOf CX P w K mg base N x (defScope st) f cdv A outer s H E).nox (defBody st) t ∧ t { nx := fun _ H' => Q .non H', rt := Q } (start N vs) H) :
    CalG P w K mg base CX (k + 1) x ps sp := by
  obtain ⟨e, fd, F⟩ := D
  exact ⟨_, fd, e, F.kp, FunD.bindsN F hb, FnG.body F S len (fun cdv A outer s H vs Q E hr g h => let ⟨t, a, b⟩ := body _ cdv A outer s H vs Q E hr g h; ⟨t, a.nox, b⟩)⟩
/-- a def with the promise that its positional callers have, called by keywords -/
theorem Df.calK {CX : CXT} {k : Nat} {x : Str} {st : Stmt} {N ks ps : List Str} {sp : Sp} {gV : List V → List V → List V} (D : Df K mg x st)
    (g : List Value → List Value → List Value)
    (hb : ∀ (kV doc pm : Value) (an : Option Addr) (cdv ct : Value) (us ws : List Value), (g us ws).length = ps.length → bindArgs (PySem.W.fnOf x x (defArgs st) (defBody st) (defScope st) .none kV doc pm an cdv ct) ⟨us, ks.zip ws⟩ = pure (ps.zip (g us ws)))
    (rel : ∀ {vs : List V} {us : List Value} {zs : List V} {ws : List Value}, Vals vs us → Vals zs ws → Vals (gV vs zs) (g us ws))
    (S : FnScope N ps (defScope st)) (len : ∀ vs H Q E, sp vs H Q E → vs.length = ps.length)
    (body : ∀ (f : Addr) (cdv : Value) (A : Around) (outer : List Env) (s : Shared) (H : Hp) (vs : List V) (Q : VK) (E : XK), Room k (A.deeper (envOfC x (defScope st) s.heap.objs.size f cdv)) → sp vs H Q E →
      ∃ t, PSs (cxOf CX P w K mg base N x (defScope st) f cdv A outer s H E).nox (defBody st) t ∧ t { nx := fun _ H' => Q .non H', rt := Q } (start N vs) H) :
    CalK P w K mg base CX (k + 1) x ks ps gV sp := by
  obtain ⟨e, fd, F⟩ := D
  have F2 := F
  obtain ⟨oc, od, dV, kV, doc, pm, an, cdv, ct, osl, rfl, lk, hcd, hD, hK⟩ := F2.ex
  refine ⟨_, _, g, e, F.kp, ⟨fun s us ws _ l => ?_, rel⟩, FunD.ok F S len (fun cdv A outer s H vs Q E hr h => let ⟨t, a, b⟩ := body _ cdv A outer s H vs Q E hr h; ⟨t, a.nox, b⟩)⟩
  rcases hD with ⟨_, rfl⟩ | ⟨z, _⟩
  · exact .of_eq (hb kV doc pm an cdv ct us ws l)
  · exact absurd rfl z
end
/-! values by their types -/
inductive TyN (K : PySem.W.Frag) (H : Hp) : V → String → Prop where
  | non : TyN K H .non "NoneType"
  | bl (b : Bool) : TyN K H (.bl b) "bool"
  | int (i : Int) : TyN K H (.int i) "int"
  | str (x : Str) : TyN K H (.str x) "str"
  | lst {a : Addr} {xs : List V} (h : SqL K H a xs) : TyN K H (.ref a) "list"
  | tup {a : Addr} {xs : List V} (h : SqT K H a xs) : TyN K H (.ref a) "tuple"
  | dct {a : Addr} {kvs : List (Key × V)} (h : H a = some (.dK kvs)) : TyN K H (.ref a) "dict"
theorem TyN.x {K : PySem.W.Frag} {H : Hp} {v : V} {n : String} (h : TyN K H v n) : TyX K H v (.type n) := by
  cases h with
  | non => exact .base .non
  | bl b => exact .base (.bl b)
  | int i => exact .base (.int i)
  | str x => exact .base (.str x)
  | lst h =>
    rcases h with (h | ⟨o, h⟩) | ⟨o, its, n, h, c, _⟩
    · exact .base (.lst h)
    · exact .base (.frz h)
    · exact .kList h c
  | tup h =>
    rcases h with (h | ⟨o, h⟩) | ⟨o, its, n, h, c, _⟩
    · exact .base (.tup h)
    · exact .fTuple h
    · exact .kTuple h c
  | dct h => exact .base (.dK h)
theorem TyN.kit {K : PySem.W.Frag} {H : Hp} {v : V} {n m : String} (h : TyN K H v n) (hm : m = "int" ∨ m = "bool" ∨ m = "str" ∨ m = "list" ∨ m = "tuple") :
    PySem.W.kitOne K (.type n) (.type m) = some (decide (n = m ∨ n = "bool" ∧ m = "int")) := by
  cases h <;> (rcases hm with rfl | rfl | rfl | rfl | rfl) <;> exact kit_ty (by decide +kernel)
theorem same_upd {H : Hp} {p : Addr} {o : HO} (h : H p = none) : Same H (upd H p o) := fun b x e => by
  rw [upd_ne (ne_of_none e h)]
  exact e
end SB
namespace SB
open PySem PySem.Spec PyProof.Rows L2 Evl
/-! shapes, frames: the mathematics -/
inductive Pa where
  | no | ev | od
def Pa.s : Pa → Str
  | .no => "none"
  | .ev => "even"
  | .od => "odd"
def bits (b : Nat) (x : Int) : List Int := (List.range b).map fun i => x / 2 ^ i % 2
def parL (b : Nat) (p : Pa) (x : Int) : List Int := match p with
  | .no => []
  | .ev => [(bits b x).sum % 2]
  | .od => [1 - (bits b x).sum % 2]
def frm (b : Nat) (p : Pa) (s : Nat) (x : Int) : List Int := 0 :: (bits b x ++ (parL b p x ++ List.replicate s 1))
def frms (b : Nat) (p : Pa) (s : Nat) (ns : List Int) : List Int := (ns.map (frm b p s)).flatten
theorem bits_len (b : Nat) (x : Int) : (bits b x).length = b := by simp [bits]
theorem bits_succ (b : Nat) (x : Int) : bits (b + 1) x = bits b x ++ [x / 2 ^ b % 2] := by
  simp [bits, List.range_succ]
theorem parL_len (b : Nat) (p : Pa) (x : Int) : (parL b p x).length ≤ 1 := by cases p <;> simp [parL]
theorem frm_len (b : Nat) (p : Pa) (s : Nat) (x : Int) : (frm b p s x).length = 1 + b + (parL b p x).length + s := by
  simp [frm, bits_len]; omega
theorem frm_le (b : Nat) (p : Pa) (s : Nat) (x : Int) : (frm b p s x).length ≤ 2 + b + s := by
  have := frm_len b p s x
  have := parL_len b p x
  omega
theorem bits_01 {b : Nat} {x y : Int} (h : y ∈ bits b x) : y = 0 ∨ y = 1 := by
  unfold bits at h
  obtain ⟨i, _, rfl⟩ := List.mem_map.mp h
  omega
theorem frm_01 {b : Nat} {p : Pa} {s : Nat} {x y : Int} (h : y ∈ frm b p s x) : y = 0 ∨ y = 1 := by
  unfold frm at h
  rcases List.mem_cons.mp h with h | h
  · exact .inl h
  rcases List.mem_append.mp h with h | h
  · exact bits_01 h
  rcases List.mem_append.mp h with h | h
  · cases p with
    | no => cases h
    | ev =>
      have := List.mem_singleton.mp h
      omega
    | od =>
      have := List.mem_singleton.mp h
      omega
  · exact .inr (List.eq_of_mem_replicate h)
theorem frms_01 {b : Nat} {p : Pa} {s : Nat} {ns : List Int} {y : Int} (h : y ∈ frms b p s ns) : y = 0 ∨ y = 1 := by
  unfold frms at h
  obtain ⟨l, hl, hy⟩ := List.mem_flatten.mp h
  obtain ⟨x, _, rfl⟩ := List.mem_map.mp hl
  exact frm_01 hy
theorem frms_snoc (b : Nat) (p : Pa) (s : Nat) (ns : List Int) (n : Int) : frms b p s (ns ++ [n]) = frms b p s ns ++ frm b p s n := by simp [frms]
theorem frms_le (b : Nat) (p : Pa) (s : Nat) : ∀ ns : List Int, (frms b p s ns).length ≤ ns.length * (2 + b + s)
  | [] => by simp [frms]
  | n :: ns => by
    have h := frms_le b p s ns
    have h2 := frm_le b p s n
    have e : frms b p s (n :: ns) = frm b p s n ++ frms b p s ns := by simp [frms]
    rw [e, List.length_append, List.length_cons, Nat.add_mul]
    omega
theorem div_step (x : Int) (i : Nat) : x / 2 ^ i / 2 = x / 2 ^ (i + 1) := by
  rw [Int.pow_succ, Int.ediv_ediv_of_nonneg (Int.pow_nonneg (by decide))]
/-! data -/
def dI (ns : List Int) : List PyData := ns.map PyData.int
theorem dp_ints {K : PySem.W.Frag} {H : Hp} : ∀ ns : List Int, DpAll K H (ns.map V.int) (dI ns)
  | [] => .nil
  | n :: ns => .cons (.int n) (dp_ints ns)
theorem int_log {i : Int} {k : Nat} (hk : 0 < k) (h : i.natAbs < 2 ^ k) : i.natAbs.log2 < k := PySem.Flt.log2_lt_of hk h
/-- a list of small ints can be shown -/
theorem show_ints (ns : List Int) (h : ∀ n ∈ ns, n.natAbs < 2 ^ 200) : PyData.showableAll (dI ns) = true ∧ PyData.hasDictAll (dI ns) = false ∧ PyData.depthAll (dI ns) = 0 ∧
    ((PyData.shownAll (dI ns)).map (·.length)).sum ≤ 201 * ns.length ∧ (PyData.shownAll (dI ns)).length = ns.length := by
  induction ns with
  | nil => simp [dI, PyData.showableAll, PyData.hasDictAll, PyData.depthAll, PyData.shownAll]
  | cons n ns ih =>
    obtain ⟨h1, h2, h3, h4, h5⟩ := ih fun m hm => h m (List.mem_cons_of_mem _ hm)
    have hn := h n (List.mem_cons_self ..)
    have hl : n.natAbs.log2 < 200 := int_log (by decide) hn
    have ht : (Str.ofString (toString n)).length ≤ 201 := by
      rw [PySem.ofString_length]
      exact int_text_length_le (k := 200) (by decide) hl
    have e : dI (n :: ns) = PyData.int n :: dI ns := rfl
    rw [e]
    refine ⟨?_, ?_, ?_, ?_, ?_⟩
    · simp only [PyData.showableAll, PyData.showable, h1, Bool.and_true, decide_eq_true_eq]
      omega
    · simp only [PyData.hasDictAll, PyData.hasDict, h2, Bool.false_or]
    · simp only [PyData.depthAll, PyData.depth, h3]
      rfl
    · simp only [PyData.shownAll, PyData.shown, List.map_cons, List.sum_cons, List.length_cons]
      omega
    · simp only [PyData.shownAll, List.length_cons, h5]
theorem show_list {ns : List Int} (h : ∀ n ∈ ns, n.natAbs < 2 ^ 200) (hl : ns.length ≤ 10000) :
    (PyData.list (dI ns)).showable = true ∧ (PyData.list (dI ns)).hasDict = false ∧ (PyData.list (dI ns)).depth ≤ 60 ∧ (PyData.list (dI ns)).shown.length ≤ sizeLine := by
  obtain ⟨h1, h2, h3, h4, h5⟩ := show_ints ns h
  refine ⟨?_, ?_, ?_, ?_⟩
  · simp only [PyData.showable, h1]
  · simp only [PyData.hasDict, h2]
  · simp only [PyData.depth, h3]
    omega
  · simp only [PyData.shown]
    have := listText_len_le (PyData.shownAll (dI ns))
    rw [sizeLine_eq]
    omega
/-- the reading of repr(xs), xs a list of ints -/
theorem rp_list {K : PySem.W.Frag} {H : Hp} {a : Addr} {ns : List Int} {Q : VK} (hs : SqL K H a (ns.map V.int)) (h : ∀ n ∈ ns, n.natAbs < 2 ^ 200) (hl : ns.length ≤ 10000)
    (q : Q (.str (PyData.list (dI ns)).shown) H) : rRp K [.ref a] H Q := by
  obtain ⟨h1, h2, h3, h4⟩ := show_list h hl
  exact ⟨_, _, rfl, .lst hs (dp_ints ns), h1, h2, h3, h4, q⟩
/-! heaps -/
def Kp (a : Addr) (H H' : Hp) : Prop := ∀ b o, b ≠ a → H b = some o → H' b = some o
theorem Ex.kp {a : Addr} {H H' : Hp} (e : Ex H H') : Kp a H H' := fun b o _ h => e b o h
theorem Kp.trans {a : Addr} {H H1 H2 : Hp} (x : Kp a H H1) (y : Kp a H1 H2) : Kp a H H2 := fun b o n h => y b o n (x b o n h)
theorem Kp.refl {a : Addr} {H : Hp} : Kp a H H := fun _ _ _ h => h
theorem Kp.upd {a : Addr} {H : Hp} {o : HO} : Kp a H (upd H a o) := fun b u n h => by
  rw [upd_ne n]
  exact h
theorem Kp.tup {K : PySem.W.Frag} {a t : Addr} {H H' : Hp} {xs ys : List V} (k : Kp a H H') (ha : H a = some (.lst ys)) (h : SqT K H t xs) : SqT K H' t xs := by
  rcases h with (h | ⟨o, h⟩) | h
  · exact .inl (.inl (k t _ (fun e => by rw [e, ha] at h; cases h) h))
  · exact .inl (.inr ⟨o, k t _ (fun e => by rw [e, ha] at h; cases h) h⟩)
  · exact .inr h
theorem Kp.free {a p : Addr} {H H' : Hp} (k : Kp a H H') (hp : H' p = none) (ha : p ≠ a) : H p = none := by
  cases h : H p with
  | none => rfl
  | some o =>
    rw [k p o ha h] at hp
    cases hp
/-! shapes as values -/
def IsSh (K : PySem.W.Frag) (H : Hp) (v : V) (b : Nat) (p : Pa) (s : Nat) : Prop :=
  ∃ t, v = .ref t ∧ SqT K H t [.int b, .str p.s, .int s] ∧ 1 ≤ b ∧ b ≤ 9 ∧ 1 ≤ s ∧ s ≤ 2
theorem IsSh.ex {K : PySem.W.Frag} {H H' : Hp} {v : V} {b : Nat} {p : Pa} {s : Nat} (e : Ex H H') (h : IsSh K H v b p s) : IsSh K H' v b p s := by
  obtain ⟨t, e1, e2, r⟩ := h
  exact ⟨t, e1, ex_t e e2, r⟩
theorem IsSh.kp {K : PySem.W.Frag} {H H' : Hp} {v : V} {b : Nat} {p : Pa} {s : Nat} {a : Addr} {ys : List V} (e : Kp a H H') (ha : H a = some (.lst ys)) (h : IsSh K H v b p s) : IsSh K H' v b p s := by
  obtain ⟨t, e1, e2, r⟩ := h
  exact ⟨t, e1, e.tup ha e2, r⟩
theorem no_is (p : Pa) : decide (V.str p.s = V.str "none") = match p with | .no => true | _ => false := by cases p <;> decide +kernel
theorem ev_is' (p : Pa) : decide (V.str p.s = V.str "even") = match p with | .ev => true | _ => false := by cases p <;> decide +kernel
theorem od_is (p : Pa) : decide (V.str p.s = V.str "odd") = match p with | .od => true | _ => false := by cases p <;> decide +kernel
theorem pa_in (p : Pa) : inV (.str p.s) [.str "none", .str "even", .str "odd"] = true := by cases p <;> decide +kernel
theorem atI_i {xs : List V} {v : V} (i : Int) (j : Nat) (e : i = (j : Int)) (h : xs[j]? = some v) : atI xs i = some v := by
  rw [e]
  exact atI_nat h
/-! isinstance of the kinds -/
section
variable {K : PySem.W.Frag}
theorem ki {n m : String} {b : Bool} (h : kitB n m = some b := by decide +kernel) : PySem.W.kitOne K (.type n) (.type m) = some b := kit_ty h
end
/-! a draw's source -/
def Src (H : Hp) (a : Addr) (n : Nat) : Prop := ∃ l sd c : Int, H a = some (.lst [.int l, .int sd, .int c]) ∧ 0 ≤ sd ∧ sd < 4611686018427387904 ∧ 0 ≤ c ∧ c ≤ n
theorem Src.mono {H : Hp} {a : Addr} {n m : Nat} (h : Src H a n) (e : n ≤ m) : Src H a m := by
  obtain ⟨l, sd, c, h1, h2, h3, h4, h5⟩ := h
  exact ⟨l, sd, c, h1, h2, h3, h4, by omega⟩
theorem Src.ex {H H' : Hp} {a : Addr} {n : Nat} (h : Src H a n) (e : Ex H H') : Src H' a n := by
  obtain ⟨l, sd, c, h1, h2⟩ := h
  exact ⟨l, sd, c, e _ _ h1, h2⟩
theorem cpow3 {i : Int} (h0 : 0 ≤ i) (h : i < 2 ^ 250) : CPowB i 3 := by
  have h1 : i.natAbs < 2 ^ 250 := by
    have e : (2 : Int) ^ 250 = ((2 ^ 250 : Nat) : Int) := by norm_cast
    omega
  have h2 := int_log (by decide) h1
  exact ⟨by decide, by omega⟩
theorem cpow10 (k : Int) (h0 : 0 ≤ k) (h : k ≤ 1000) : CPowB 10 k := by
  refine ⟨h0, ?_⟩
  have e : ((10 : Int).natAbs.log2 : Int) + 1 = 4 := by decide
  rw [e]
  omega
end SB
namespace SB
open PySem PySem.Spec PyProof.Rows L2 Evl
/-! lists that are made of lists -/
def EvX (te : TE) (σ : L2.St) (H : Hp) (xs : List V) : Prop := ∀ H1, Ex H H1 → ∀ Q : VK, (∀ p H2, Ex H1 H2 → H2 p = some (.lst xs) → Q (.ref p) H2) → te σ H1 Q
section
variable {σ : L2.St} {H : Hp} {ta tb te : TE} {xs ys : List V} {K : PySem.W.Frag}
theorem evx_var {i : Nat} {a : Addr} (h : σ[i]? = some (some (.ref a))) (ha : H a = some (.lst xs)) : EvX (tVar i) σ H xs := fun H1 e Q q => ⟨_, h, q a H1 (Ex.refl H1) (e a _ ha)⟩
theorem evx_new (h : EvL te σ H xs) : EvX te σ H xs := fun H1 e Q q => h H1 e Q fun p H2 _ e2 h2 => q p H2 e2 h2
theorem el_cat (ha : EvX ta σ H xs) (hb : EvX tb σ H ys) (hl : xs.length + ys.length ≤ 100000) : EvL (tOp rCat ta tb) σ H (xs ++ ys) := fun H1 e Q q =>
  ha H1 e _ fun p H2 e2 h2 => hb H2 (e.trans e2) _ fun r H3 e3 h3 => ⟨p, r, xs, ys, rfl, rfl, e3 _ _ h2, h3, sz_of hl, fun l nl =>
    q l _ (fresh_back (e2.trans e3) nl) ((e2.trans e3).trans (Ex.new nl)) upd_same⟩
theorem el_rep {k : Int} (ha : EvX ta σ H xs) (hb : Ev tb σ H (.int k)) (h0 : -(2 ^ 63) ≤ k) (h1 : k < 2 ^ 63) (hl : xs.length * k.toNat ≤ 100000) : EvL (tOp rRep ta tb) σ H (List.replicate k.toNat xs).flatten := fun H1 e Q q =>
  ha H1 e _ fun p H2 e2 h2 => hb H2 (e.trans e2) _ fun H3 e3 => ⟨p, k, xs, rfl, rfl, e3 _ _ h2, h0, h1, sz_of hl, fun l nl =>
    q l _ (fresh_back (e2.trans e3) nl) ((e2.trans e3).trans (Ex.new nl)) upd_same⟩
theorem el_call {sp : Sp} {E : XK} {t : TA} {vs : List V} (ha : EvA t σ H vs) (h : ∀ H1, Ex H H1 → ∀ Q : VK, RetL xs H1 Q → sp (vs ++ []) H1 Q E) : EvL (tCall sp [] E t) σ H xs := fun H1 e Q q =>
  ha H1 e _ fun H2 e2 => h H2 (e.trans e2) Q fun p H3 n e3 h3 => q p H3 (fresh_back e2 n) (e2.trans e3) h3
theorem ev_call {sp : Sp} {E : XK} {t : TA} {vs : List V} {v : V} (ha : EvA t σ H vs) (h : ∀ H1, Ex H H1 → ∀ Q : VK, RetV v H1 Q → sp (vs ++ []) H1 Q E) : Ev (tCall sp [] E t) σ H v := fun H1 e Q q =>
  ha H1 e _ fun H2 e2 => h H2 (e.trans e2) Q fun H3 e3 => q H3 (e2.trans e3)
theorem ev_ixT {t : Addr} {i : Int} {v : V} (ha : Ev ta σ H (.ref t)) (hb : Ev tb σ H (.int i)) (h : SqT K H t xs) (hi : atI xs i = some v) : Ev (tOp (rIxT K) ta tb) σ H v := ev_op ha hb (rv_ixT h hi)
end
theorem rep_one (k : Nat) (i : Int) : (List.replicate (k : Int).toNat [V.int i]).flatten = (List.replicate k i).map V.int := by
  rw [Int.toNat_natCast, List.map_replicate]
  simp
theorem ints_at {ns : List Int} {i : Nat} {y : V} (hi : (ns.map V.int)[i]? = some y) : ∃ z, ns[i]? = some z ∧ y = V.int z := by
  rw [List.getElem?_map] at hi
  cases e : ns[i]? with
  | none =>
    rw [e] at hi
    cases hi
  | some z =>
    rw [e] at hi
    exact ⟨z, rfl, (Option.some.inj hi).symm⟩
theorem Kp.new {a : Addr} {H H1 H2 : Hp} (e : Ex H H1) (k : Kp a H1 H2) (h : H a = none) : Ex H H2 := fun b o hb =>
  k b o (ne_of_none hb h) (e b o hb)
theorem Src.at {H : Hp} {a : Addr} {n : Nat} (h : Src H a n) : ∃ ys, H a = some (.lst ys) := by
  obtain ⟨l, sd, c, e, _⟩ := h
  exact ⟨_, e⟩
theorem Src.ne {H : Hp} {a p : Addr} {n : Nat} (h : Src H a n) (hp : H p = none) : p ≠ a := by
  obtain ⟨ys, e⟩ := h.at
  exact fun z => by rw [z, e] at hp; cases hp
end SB
namespace SB
open PySem PySem.Spec PyProof.Rows L2 Evl
theorem seq_any {te : TE} {i : Nat} {u : TS} {D : L2.Ends} {σ : L2.St} {H : Hp} {P : V → Prop} (h : ∀ Q' : VK, (∀ v, P v → Q' v H) → te σ H Q') (k : ∀ v, P v → u D (σ.set i (some v)) H) :
    tSeq (tAsg te (gName i)) u D σ H := h _ k
end SB
namespace SB
open PySem PySem.Spec PyProof.Rows L2 Evl
theorem Kp.mut {a p : Addr} {H H' : Hp} {o : HO} (k : Kp a H H') (h : H p = none) : Kp a H (L2.upd H' p o) := fun b u n hb => by
  rw [upd_ne (ne_of_none hb h)]
  exact k b u n hb
theorem Src.upd {H : Hp} {a p : Addr} {n : Nat} {o : HO} (h : Src H a n) (ne : p ≠ a) : Src (L2.upd H p o) a n := by
  obtain ⟨l, sd, c, e, r⟩ := h
  refine ⟨l, sd, c, ?_, r⟩
  rw [upd_ne (Ne.symm ne)]
  exact e
end SB
namespace SB
open PySem PySem.Spec PyProof.Rows L2 Evl
/-- a loop over enumerate of a list -/
theorem for_enum {K : PySem.W.Frag} {a : Addr} {xs : List V} {g : TG} {tb : TS} {D : L2.Ends} {σ : L2.St} {H : Hp} (Pv : Nat → L2.St → Hp → Prop) (h0 : Pv 0 σ H)
    (hq : ∀ i σ H, i ≤ xs.length → Pv i σ H → SqL K H a xs)
    (hs : ∀ (i : Nat) (x : V) (T : Addr) (σ : L2.St) (H : Hp), xs[i]? = some x → Pv i σ H → H T = none →
      g (.ref T) σ (L2.upd H T (.tup [.int (i : Nat), x])) fun σ2 H2 => tb { D with nx := Pv (i + 1), ct := Pv (i + 1), bk := D.nx } σ2 H2)
    (hd : ∀ σ H, Pv xs.length σ H → D.nx σ H) :
    ∃ W : Nat → Nat → L2.St → Hp → Prop, (∃ m, W 0 m σ H) ∧ ∀ i m σ H, W i m σ H →
      ((Ite K a).stop i H ∧ D.nx σ H) ∨ ((Ite K a).go i H ∧ ∃ N : L2.St → Hp → Prop, (∀ σ' H', N σ' H' → ∃ m', m' < m ∧ W (i + 1) m' σ' H') ∧
        ∀ v H', (Ite K a).yld i H v H' → g v σ H' fun σ2 H2 => tb { D with nx := N, ct := N, bk := D.nx } σ2 H2) := by
  refine ⟨fun i m σ H => m + i = xs.length ∧ Pv i σ H, ⟨xs.length, by omega, h0⟩, ?_⟩
  rintro i m σ H ⟨e, pv⟩
  have sq := hq i σ H (by omega) pv
  by_cases lt : i < xs.length
  · have hx : xs[i]? = some xs[i] := List.getElem?_eq_getElem lt
    refine .inr ⟨⟨xs, xs[i], sq, hx⟩, Pv (i + 1), fun σ' H' p' => ⟨m - 1, by omega, by omega, p'⟩, ?_⟩
    intro v H' y
    obtain ⟨T, x, rfl, nT, rfl, fx⟩ := y
    exact hs i x T σ H (fx xs sq) pv nT
  · obtain rfl : i = xs.length := by omega
    exact .inl ⟨⟨xs, sq, Nat.le_refl _⟩, hd σ H pv⟩
/-! keyword calls: the values in the parameters' order -/
def gPm {α : Type} (perm : List Nat) (us ws : List α) : List α := if us.length = 0 ∧ ws.length = perm.length then perm.filterMap fun i => ws[i]? else []
theorem rel_pick {zs : List V} {ws : List Value} (r : Vals zs ws) : ∀ perm : List Nat, Vals (perm.filterMap fun i => zs[i]?) (perm.filterMap fun i => ws[i]?)
  | [] => .nil
  | i :: perm => by
    have ih := rel_pick r perm
    have hl := r.length
    rw [List.filterMap_cons, List.filterMap_cons]
    cases e : zs[i]? with
    | none =>
      have e2 : ws[i]? = none := by
        rw [List.getElem?_eq_none_iff] at e ⊢
        omega
      rw [e2]
      exact ih
    | some v =>
      obtain ⟨u, hu, rv⟩ := r.get e
      rw [hu]
      exact .cons rv ih
theorem rel_gPm (perm : List Nat) {vs : List V} {us : List Value} {zs : List V} {ws : List Value} (r : Vals vs us) (rz : Vals zs ws) : Vals (gPm perm vs zs) (gPm perm us ws) := by
  unfold gPm
  rw [r.length, rz.length]
  split
  · exact rel_pick rz perm
  · exact .nil
/-! where a line of levels changes: the level ahead of all is 1, the i-th level begins at T i -/
def pvl (ls : List Int) : Nat → Int
  | 0 => 1
  | i + 1 => ls.getD i 1
def ch (ls : List Int) (T : Nat → Int) : Nat → List Int
  | 0 => []
  | i + 1 => ch ls T i ++ (if ls.getD i 1 = pvl ls i then [] else [T i])
theorem ch_len (ls : List Int) (T : Nat → Int) : ∀ n, (ch ls T n).length ≤ n
  | 0 => Nat.le_refl _
  | n + 1 => by
    have := ch_len ls T n
    unfold ch
    rw [List.length_append]
    split
    · simp
      omega
    · simp
      omega
theorem ch_congr {ls : List Int} {T U : Nat → Int} : ∀ {n : Nat}, (∀ i, i < n → T i = U i) → ch ls T n = ch ls U n
  | 0, _ => rfl
  | n + 1, h => by
    unfold ch
    rw [ch_congr fun i hi => h i (by omega), h n (by omega)]
theorem ch_mem {ls : List Int} {T : Nat → Int} {y : Int} : ∀ {n : Nat}, y ∈ ch ls T n → ∃ i, i < n ∧ y = T i
  | 0, h => by cases h
  | n + 1, h => by
    unfold ch at h
    rcases List.mem_append.mp h with h | h
    · obtain ⟨i, hi, e⟩ := ch_mem h
      exact ⟨i, by omega, e⟩
    · split at h
      · cases h
      · exact ⟨n, by omega, List.mem_singleton.mp h⟩
/-- a line behind another one that ends at 1 -/
theorem ch_app {A B : List Int} {T : Nat → Int} (h1 : pvl A A.length = 1) : ∀ k, k ≤ B.length → ch (A ++ B) T (A.length + k) = ch A T A.length ++ ch B (fun i => T (A.length + i)) k
  | 0, _ => by
    have : ∀ n, n ≤ A.length → ch (A ++ B) T n = ch A T n := by
      intro n
      induction n with
      | zero => intro _; rfl
      | succ n ih =>
        intro hn
        unfold ch
        rw [ih (by omega)]
        have e1 : (A ++ B).getD n 1 = A.getD n 1 := by
          rw [List.getD_eq_getElem?_getD, List.getD_eq_getElem?_getD, List.getElem?_append_left (by omega)]
        have e2 : pvl (A ++ B) n = pvl A n := by
          cases n with
          | zero => rfl
          | succ m =>
            show (A ++ B).getD m 1 = A.getD m 1
            rw [List.getD_eq_getElem?_getD, List.getD_eq_getElem?_getD, List.getElem?_append_left (by omega)]
        rw [e1, e2]
    rw [Nat.add_zero, this A.length (Nat.le_refl _)]
    simp [ch]
  | k + 1, hk => by
    have ih := ch_app (A := A) (B := B) (T := T) h1 k (by omega)
    have e1 : (A ++ B).getD (A.length + k) 1 = B.getD k 1 := by
      rw [List.getD_eq_getElem?_getD, List.getD_eq_getElem?_getD, List.getElem?_append_right (by omega), Nat.add_sub_cancel_left]
    have e2 : pvl (A ++ B) (A.length + k) = pvl B k := by
      cases k with
      | zero =>
        rw [Nat.add_zero]
        show _ = 1
        rw [← h1]
        generalize hA : A.length = n
        cases n with
        | zero => rfl
        | succ m =>
          show (A ++ B).getD m 1 = A.getD m 1
          have hm : m < A.length := by omega
          rw [List.getD_eq_getElem?_getD, List.getD_eq_getElem?_getD, List.getElem?_append_left hm]
      | succ m =>
        show (A ++ B).getD (A.length + m) 1 = B.getD m 1
        rw [List.getD_eq_getElem?_getD, List.getD_eq_getElem?_getD, List.getElem?_append_right (by omega), Nat.add_sub_cancel_left]
    show ch (A ++ B) T (A.length + k) ++ (if (A ++ B).getD (A.length + k) 1 = pvl (A ++ B) (A.length + k) then [] else [T (A.length + k)]) = _
    rw [ih, e1, e2, List.append_assoc]
    rfl
def plen : Pa → Nat
  | .no => 0
  | _ => 1
def sz (b : Nat) (p : Pa) (s : Nat) : Nat := 1 + b + plen p + s
theorem frm_sz (b : Nat) (p : Pa) (s : Nat) (x : Int) : (frm b p s x).length = sz b p s := by
  rw [frm_len]
  cases p <;> rfl
/-- a frame ends at 1 -/
theorem frm_end {b : Nat} {p : Pa} {s : Nat} (x : Int) (hs : 1 ≤ s) : pvl (frm b p s x) (frm b p s x).length = 1 := by
  have hl := frm_len b p s x
  generalize hn : (frm b p s x).length = n at hl
  cases n with
  | zero => omega
  | succ m =>
    show (frm b p s x).getD m 1 = 1
    rw [List.getD_eq_getElem?_getD]
    unfold frm
    have hp : (parL b p x).length ≤ 1 := parL_len b p x
    rw [show m = ((bits b x).length + (parL b p x).length + (s - 1)) + 1 by rw [bits_len]; omega, List.getElem?_cons_succ, ← List.append_assoc, List.getElem?_append_right (by rw [List.length_append]; omega), List.length_append, Nat.add_sub_cancel_left,
      List.getElem?_replicate]
    rw [if_pos (by omega)]
    rfl
/-- a text's levels are sent from the ticks of its sending -/
def sig (b : Nat) (p : Pa) (s : Nat) (ln : Int) (snd : List (Int × Int)) : List Int := (snd.map fun q => ch (frm b p s q.2) (fun i => q.1 + (i : Int) * ln) (sz b p s)).flatten
def tks (n : Nat) (ln : Int) (snd : List (Int × Int)) : List Int := (snd.map fun q => (List.range n).map fun i : Nat => q.1 + (i : Int) * ln).flatten
theorem tks_len (n : Nat) (ln : Int) : ∀ snd : List (Int × Int), (tks n ln snd).length = snd.length * n
  | [] => by simp [tks]
  | q :: r => by
    have ih := tks_len n ln r
    have e : tks n ln (q :: r) = ((List.range n).map fun i : Nat => q.1 + (i : Int) * ln) ++ tks n ln r := by simp [tks]
    rw [e, List.length_append, ih, List.length_map, List.length_range, List.length_cons, Nat.add_mul]
    omega
theorem frms_sz (b : Nat) (p : Pa) (s : Nat) : ∀ ns : List Int, (frms b p s ns).length = ns.length * sz b p s
  | [] => by simp [frms]
  | n :: ns => by
    have ih := frms_sz b p s ns
    have e : frms b p s (n :: ns) = frm b p s n ++ frms b p s ns := by simp [frms]
    rw [e, List.length_append, ih, frm_sz, List.length_cons, Nat.add_mul]
    omega
theorem ch_sig {b : Nat} {p : Pa} {s : Nat} {ln : Int} (hs : 1 ≤ s) : ∀ snd : List (Int × Int), ch (frms b p s (snd.map (·.2))) (fun i => (tks (sz b p s) ln snd).getD i 0) (frms b p s (snd.map (·.2))).length = sig b p s ln snd
  | [] => rfl
  | q :: r => by
    have ih := ch_sig (b := b) (p := p) (s := s) (ln := ln) hs r
    have e1 : frms b p s ((q :: r).map (·.2)) = frm b p s q.2 ++ frms b p s (r.map (·.2)) := by simp [frms]
    have e2 : tks (sz b p s) ln (q :: r) = ((List.range (sz b p s)).map fun i : Nat => q.1 + (i : Int) * ln) ++ tks (sz b p s) ln r := by simp [tks]
    have e3 : sig b p s ln (q :: r) = ch (frm b p s q.2) (fun i => q.1 + (i : Int) * ln) (sz b p s) ++ sig b p s ln r := by simp [sig]
    rw [e1, List.length_append, ch_app (frm_end q.2 hs) _ (Nat.le_refl _), e3, ← ih, frm_sz]
    congr 1
    · refine ch_congr fun i hi => ?_
      show (tks (sz b p s) ln (q :: r)).getD i 0 = _
      rw [e2, List.getD_eq_getElem?_getD, List.getElem?_append_left (by simpa using hi), List.getElem?_map, List.getElem?_range hi]
      rfl
    · refine ch_congr fun i hi => ?_
      show (tks (sz b p s) ln (q :: r)).getD (sz b p s + i) 0 = _
      rw [e2, List.getD_eq_getElem?_getD, List.getElem?_append_right (by simp), List.length_map, List.length_range, Nat.add_sub_cancel_left, ← List.getD_eq_getElem?_getD]
/-! lists of pairs -/
def Snd (K : PySem.W.Frag) (H : Hp) (xs : List V) (snd : List (Int × Int)) : Prop := xs.length = snd.length ∧ ∀ (k : Nat) (x : V) (q : Int × Int), xs[k]? = some x → snd[k]? = some q → ∃ t, x = .ref t ∧ SqT K H t [.int q.1, .int q.2]
theorem Snd.ex {K : PySem.W.Frag} {H H' : Hp} {xs : List V} {snd : List (Int × Int)} (e : Ex H H') (h : Snd K H xs snd) : Snd K H' xs snd :=
  ⟨h.1, fun k x q h1 h2 => let ⟨t, a, b⟩ := h.2 k x q h1 h2; ⟨t, a, ex_t e b⟩⟩
theorem Snd.kp {K : PySem.W.Frag} {H H' : Hp} {a : Addr} {ys : List V} {xs : List V} {snd : List (Int × Int)} (e : Kp a H H') (ha : H a = some (.lst ys)) (h : Snd K H xs snd) : Snd K H' xs snd :=
  ⟨h.1, fun k x q h1 h2 => let ⟨t, u, b⟩ := h.2 k x q h1 h2; ⟨t, u, e.tup ha b⟩⟩
theorem Snd.nil {K : PySem.W.Frag} {H : Hp} : Snd K H [] [] := ⟨rfl, fun k x q h _ => by simp at h⟩
theorem Snd.snoc {K : PySem.W.Frag} {H : Hp} {xs : List V} {snd : List (Int × Int)} {t : Addr} {q : Int × Int} (h : Snd K H xs snd) (ht : SqT K H t [.int q.1, .int q.2]) : Snd K H (xs ++ [.ref t]) (snd ++ [q]) := by
  refine ⟨by rw [List.length_append, List.length_append, h.1]; rfl, fun k x q' h1 h2 => ?_⟩
  by_cases hk : k < xs.length
  · rw [List.getElem?_append_left hk] at h1
    rw [List.getElem?_append_left (by rw [← h.1]; exact hk)] at h2
    exact h.2 k x q' h1 h2
  · have hk2 : k = xs.length := by
      have := (List.getElem?_eq_some_iff.mp h1).1
      rw [List.length_append] at this
      simp at this
      omega
    subst hk2
    rw [List.getElem?_append_right (Nat.le_refl _), Nat.sub_self] at h1
    rw [h.1, List.getElem?_append_right (Nat.le_refl _), Nat.sub_self] at h2
    obtain rfl : V.ref t = x := Option.some.inj h1
    obtain rfl : q = q' := Option.some.inj h2
    exact ⟨t, rfl, ht⟩
def dP (snd : List (Int × Int)) : List PyData := snd.map fun q => PyData.tuple [.int q.1, .int q.2]
theorem Snd.dp {K : PySem.W.Frag} {H : Hp} : ∀ {xs : List V} {snd : List (Int × Int)}, Snd K H xs snd → DpAll K H xs (dP snd)
  | [], [], _ => .nil
  | [], q :: r, h => by have := h.1; simp at this
  | x :: xs, [], h => by have := h.1; simp at this
  | x :: xs, q :: r, h => by
    obtain ⟨t, rfl, ht⟩ := h.2 0 x q rfl rfl
    exact .cons (.tup ht (.cons (.int _) (.cons (.int _) .nil))) (Snd.dp ⟨by have := h.1; simpa using this, fun k y q' h1 h2 => h.2 (k + 1) y q' h1 h2⟩)
theorem dP_ok : ∀ snd : List (Int × Int), PyData.canLayAll0 (dP snd) = true ∧ PyData.depthAll (dP snd) ≤ 1
  | [] => ⟨rfl, Nat.zero_le _⟩
  | q :: r => by
    obtain ⟨h1, h2⟩ := dP_ok r
    have e : dP (q :: r) = PyData.tuple [.int q.1, .int q.2] :: dP r := rfl
    rw [e]
    refine ⟨?_, ?_⟩
    · simp only [PyData.canLayAll0, PyData.canLay0, h1, Bool.and_true]
    · simp only [PyData.depthAll, PyData.depth]
      omega
theorem dP_shaped (snd : List (Int × Int)) : SeqAt.shaped (.list (dP snd)) = true := by
  obtain ⟨h1, h2⟩ := dP_ok snd
  unfold SeqAt.shaped
  rw [Bool.and_eq_true]
  refine ⟨?_, decide_eq_true ?_⟩
  · simp only [PyData.canLay0, h1]
  · simp only [PyData.depth]
    omega
theorem dI_ok : ∀ ns : List Int, PyData.canLayAll0 (dI ns) = true ∧ PyData.depthAll (dI ns) ≤ 1
  | [] => ⟨rfl, Nat.zero_le _⟩
  | q :: r => by
    obtain ⟨h1, h2⟩ := dI_ok r
    have e : dI (q :: r) = PyData.int q :: dI r := rfl
    rw [e]
    refine ⟨?_, ?_⟩
    · simp only [PyData.canLayAll0, PyData.canLay0, h1, Bool.and_true]
    · simp only [PyData.depthAll, PyData.depth]
      omega
theorem dI_shaped (ns : List Int) : SeqAt.shaped (.list (dI ns)) = true := by
  obtain ⟨h1, h2⟩ := dI_ok ns
  unfold SeqAt.shaped
  rw [Bool.and_eq_true]
  refine ⟨?_, decide_eq_true ?_⟩
  · simp only [PyData.canLay0, h1]
  · simp only [PyData.depth]
    omega
theorem eqv_sh {d : PyData} (h : SeqAt.shaped d = true) : PyData.eqv d d = true := SeqAt.eqv_refl d (SeqAt.canLay_of_shaped h)
end SB
namespace SB
open PySem PySem.Spec PyProof.Rows L2 Evl
def Kp2 (a b : Addr) (H H' : Hp) : Prop := ∀ c o, c ≠ a → c ≠ b → H c = some o → H' c = some o
theorem Kp2.refl {a b : Addr} {H : Hp} : Kp2 a b H H := fun _ _ _ _ h => h
theorem Kp2.ex {a b : Addr} {H H1 H2 : Hp} (k : Kp2 a b H H1) (e : Ex H1 H2) : Kp2 a b H H2 := fun c o n1 n2 h => e c o (k c o n1 n2 h)
theorem Kp2.updA {a b : Addr} {H H1 : Hp} {o : HO} (k : Kp2 a b H H1) : Kp2 a b H (L2.upd H1 a o) := fun c u n1 n2 h => by
  rw [upd_ne n1]
  exact k c u n1 n2 h
theorem Kp2.updB {a b : Addr} {H H1 : Hp} {o : HO} (k : Kp2 a b H H1) : Kp2 a b H (L2.upd H1 b o) := fun c u n1 n2 h => by
  rw [upd_ne n2]
  exact k c u n1 n2 h
theorem Kp2.tup {K : PySem.W.Frag} {a b t : Addr} {H H' : Hp} {xs ys zs : List V} (k : Kp2 a b H H') (ha : H a = some (.lst ys)) (hb : H b = some (.lst zs)) (h : SqT K H t xs) : SqT K H' t xs := by
  rcases h with (h | ⟨o, h⟩) | h
  · exact .inl (.inl (k t _ (fun e => by rw [e, ha] at h; cases h) (fun e => by rw [e, hb] at h; cases h) h))
  · exact .inl (.inr ⟨o, k t _ (fun e => by rw [e, ha] at h; cases h) (fun e => by rw [e, hb] at h; cases h) h⟩)
  · exact .inr h
theorem Snd.kp2 {K : PySem.W.Frag} {H H' : Hp} {a b : Addr} {ys zs : List V} {xs : List V} {snd : List (Int × Int)} (e : Kp2 a b H H') (ha : H a = some (.lst ys)) (hb : H b = some (.lst zs)) (h : Snd K H xs snd) : Snd K H' xs snd :=
  ⟨h.1, fun k x q h1 h2 => let ⟨t, u, c⟩ := h.2 k x q h1 h2; ⟨t, u, e.tup ha hb c⟩⟩
theorem Kp2.kp {a b S : Addr} {H0 H H' : Hp} (k : Kp2 a b H H') (k0 : Kp S H0 H) (ha : H0 a = none) (hb : H0 b = none) : Kp S H0 H' := fun c o n h =>
  k c o (ne_of_none h ha) (ne_of_none h hb) (k0 c o n h)
theorem Src.kp2 {a b S : Addr} {n : Nat} {H H' : Hp} (h : Src H S n) (k : Kp2 a b H H') (ha : S ≠ a) (hb : S ≠ b) : Src H' S n := by
  obtain ⟨l, sd, c, e, r⟩ := h
  exact ⟨l, sd, c, k _ _ ha hb e, r⟩
theorem tks_snoc (n : Nat) (ln : Int) (snd : List (Int × Int)) (q : Int × Int) : tks n ln (snd ++ [q]) = tks n ln snd ++ (List.range n).map fun i : Nat => q.1 + (i : Int) * ln := by simp [tks]
end SB
namespace EXS
open PySem PySem.W PySem.Calls PyProof.Rows
/-! an own error whose __init__ says super().__init__(f'..') and stores its one field -/
def eArgs (fld : Str) (p1 p2 : Pos) : Arguments := { posonlyargs := [], args := [{ arg := "self", annotation := none, pos := p1 }, { arg := fld, annotation := none, pos := p2 }], vararg := none, kwonlyargs := [], kw_defaults := [], kwarg := none, defaults := [] }
def eScope (fld : Str) : Scope := { kind := .function, names := [("self", .local), (fld, .local), ("__class__", .free), ("super", .globalImplicit)], isGenerator := false, isCoroutine := false, more := [] }
def eBody (fld : Str) (js : List Expr) (a0 a1 a2 a3 a4 a5 b1 b2 b3 b4 : Pos) : List Stmt :=
  [.Expr (.Call (.Attribute (.Call (.Name "super" a0) [] [] a1) "__init__" a2) [.JoinedStr js a3] [] a4) a5, .Assign [.Attribute (.Name "self" b1) fld b2] (.Name fld b3) b4]
/-- f'TEXT{FLD}' is some text -/
def Tells (fld : Str) (js : List Expr) (v : Value) : Prop := ∀ (prog : Program) (w : World) (A : Around) (E : Value → Shared → Prop) (env : Env) (m : Str → Option Value) (s : Shared) (p : Pos) (Q : Value → Shared → Prop),
  s.heap.Ns env.locals m → m fld = some v → env.scope.kind = .function → env.kindOf fld = some .local → (∀ x t tk, Q (.str x t) { s with toks := tk }) → wpAny (model prog w) A (eval (.JoinedStr js p) env) Q E s
theorem tells2 {fld tx : Str} {p0 p1 p2 : Pos} {k : Nat} {v : Value} (hf : (fld == ("__debug__" : Str)) = false) (hl : tx.length ≤ 100) (hv : v = .none ∨ ∃ i t, v = .int i t ∧ i.natAbs.log2 < 1920) :
    Tells fld [.Constant (.str tx) k p0, .FormattedValue (.Name fld p1) (-1) none p2] v := by
  intro prog w A E env m s p Q hn hm hk hl2 q
  have fld_ok : ∀ (s' : Shared) (Q' : Value → Shared → Prop), s'.heap = s.heap → (∀ (y : Str) (t : Tok) (tk : Nat), y.length ≤ 3000 → Q' (.str y t) { s' with toks := tk }) →
      wpAny (model prog w) A (eval (.FormattedValue (.Name fld p1) (-1) none p2) env) Q' E s' := by
    intro s' Q' eh q'
    refine PySem.wpAny_FormattedValue_plain (wpAny_Name (wpAny_loadName_local hk hl2 (show s'.heap.Ns env.locals m by rw [eh]; exact hn) hm ?_) hf)
    rcases hv with rfl | ⟨i, t, rfl, hi⟩
    · exact wpAny_formatField_none (q' "None" _ _ (by decide))
    · refine PySem.wpAny_formatField_int hi (q' _ _ _ ?_)
      rw [PySem.ofString_length]
      have := int_text_length_le (k := 1920) (by decide) hi
      omega
  refine PySem.wpAny_JoinedStr ?_
  show wpAny _ _ (eval (.Constant (.str tx) k p0) env) _ _ _
  refine PySem.Calls.Constant_str ⟨tx, _, rfl, ?_, ?_⟩
  · rw [sizeLine_eq, show (Str.empty ++ tx).length = Str.empty.length + tx.length from PySem.strLen_append _ _]
    show 0 + tx.length ≤ _
    omega
  · show wpAny _ _ (eval (.FormattedValue (.Name fld p1) (-1) none p2) env) _ _ _
    refine fld_ok _ _ rfl fun y t tk hy => ⟨y, t, rfl, ?_, ?_⟩
    · rw [sizeLine_eq, PySem.strLen_append, PySem.strLen_append]
      show 0 + tx.length + y.length ≤ _
      omega
    · show _ ∧ _
      refine ⟨?_, q _ _ _⟩
      rw [sizeLine_eq, PySem.strLen_append, PySem.strLen_append]
      show 0 + tx.length + y.length ≤ _
      omega
end EXS
namespace EXS
open PySem PySem.W PySem.Calls PyProof.Rows PySem.HandSPX
theorem mcall {o : Expr} {env : Env} {ov : Value} {a2 a4 : Pos} {name : Str} {n : Nat} {args : List (Bool × Sem Value)} (hf : methodCallForm n args [] = true) (h : (a2.endLine == a4.line) = true) :
    methodCall o name a2 a4 env ov n args [] = (do
          let __x ← holding [ov] (getMethod ov name (do
      let __do_lift ← importBound o env
      pure (__do_lift.getD true)))
          match __x with
            | (f, first) => callWith a4 f first args []) := by
  unfold methodCall
  rw [hf]
  have e : methodCallPos true o env a2 a4 = pure a4 := by
    unfold methodCallPos
    rw [h] 
    rfl
  rw [e]
  rfl
theorem mcall_eq {a2 a3 a4 q0 q1 q2 : Pos} {env : Env} {tx x : Str} {kc : Nat} {p0 p1 : Pos} (h : (a2.endLine == a4.line) = true) : eval (.Call (.Attribute (.Call (.Name "super" p0) [] [] p1) "__init__" a2) [.JoinedStr [.Constant (.str tx) kc q0, .FormattedValue (.Name x q1) (-1) none q2] a3] [] a4) env = (do
          let ov ← attributeBase (.Call (.Name "super" p0) [] [] p1) "__init__" env (eval (.Call (.Name "super" p0) [] [] p1) env)
          standAt a2.atName
          let __x ← holding [ov] (getMethod ov "__init__" (do
      let __do_lift ← importBound (.Call (.Name "super" p0) [] [] p1) env
      pure (__do_lift.getD true)))
          match __x with
            | (f, first) => callWith a4 f first (backTo a4 (starEach [.JoinedStr [.Constant (.str tx) kc q0, .FormattedValue (.Name x q1) (-1) none q2] a3] env)) []) := by
  have e : eval (.Call (.Attribute (.Call (.Name "super" p0) [] [] p1) "__init__" a2) [.JoinedStr [.Constant (.str tx) kc q0, .FormattedValue (.Name x q1) (-1) none q2] a3] [] a4) env = (do
          let ov ← attributeBase (.Call (.Name "super" p0) [] [] p1) "__init__" env (eval (.Call (.Name "super" p0) [] [] p1) env)
          standAt a2.atName
          methodCall (.Call (.Name "super" p0) [] [] p1) "__init__" a2 a4 env ov 1 (backTo a4 (starEach [.JoinedStr [.Constant (.str tx) kc q0, .FormattedValue (.Name x q1) (-1) none q2] a3] env)) []) := rfl
  rw [e]
  refine congrArg _ (funext fun ov => ?_)
  refine congrArg _ (funext fun _ => ?_)
  exact mcall rfl h
/-- what the program has of an own error: its class at C, its __init__ at fI, over LineError over ValueError -/
structure ErrTxt (prog : Program) (K : Frag) (mg : Str → Option Value) (nm fld tx : Str) (C fI : Addr) : Prop where
  gC : mg nm = some (.ref C)
  sup : mg "super" = none
  cls : ∃ q N bs bm sn sub ab col dd k0 k1 k2 k3 k5, K.lookup C = some (excClassObj nm q C N bs bm true sn sub ab col dd k0 k1 k2 k3 k5 "ValueError.__new__") ∧ refsVE bm = true ∧ alongIn K "__init__" bm = some (some (.builtin "ValueError.__init__"))
  op : nsIn K cStatics "thirdparty.any" = some none
  sa : findIn K (.ref C) "__setattr__" = some (some (.builtin "object.__setattr__"))
  noN : findIn K (.ref C) fld = some none
  iC : findIn K (.ref C) "__init__" = some (some (.ref fI))
  tC : typeIn K (.ref fI) = some (.type "function")
  kC : keepIn K (.ref C) = true
  exC : subIn K (.ref C) (.type "BaseException") = some true
  veC : subIn K (.ref C) (.type "ValueError") = some true
  init : excInitIn K C [.type "ValueError", .type "Exception", .type "BaseException", .type "object"] "ValueError.__new__" = true
  seC : mroIn K C (.ref C) = some true
  tyC : typeIn K (.ref C) = some (.type "type")
  te : exmOne K (.ref C) (.ref C) = some true
  fn : ∃ (oc : Value) (od : Option Addr) (qual : Str) (doc pm : Value) (an : Option Addr) (cc co : Addr) (ct : Value) (osl : Array (Option Value)) (oc2 : Value) (od2 : Option Addr) (vs : Array Value) (osl2 : Array (Option Value)) (ocl : Obj) (p1 p2 a0 a1 a2 a3 a4 a5 b1 b2 b3 b4 q0 q1 q2 : Pos) (kk : Nat) (file : Str) (tf : Tok),
    K.lookup fI = some ⟨oc, od, .func { name := "__init__", qualname := qual, params := eArgs fld p1 p2, body := .stmts (eBody fld [.Constant (.str tx) kk q0, .FormattedValue (.Name fld q1) (-1) none q2] a0 a1 a2 a3 a4 a5 b1 b2 b3 b4), scope := eScope fld, globals := mainGlobals, closure := [("__class__", cc)], defaults := .none, kwdefaults := .none, doc := doc, pyModule := pm, annotations := an, code := .ref co, closureTuple := ct, builtins := builtinsNs }, osl⟩
      ∧ codeIn K (.ref co) qual = true ∧ K.lookup co = some ⟨oc2, od2, .fields vs, osl2⟩ ∧ vs[2]? = some (.str file tf) ∧ (prog.main.file == file) = true ∧ K.lookup cc = some ocl ∧ ocl.data = .cell (some (.ref C)) ∧ (a2.endLine == a4.line) = true
  nosup : (List.lookup ("super" : Str) prog.main.scope.names).isSome = false
  nf : fld = "index" ∨ fld = "limit" ∨ fld = "word"
  hl : tx.length ≤ 100
theorem kept_but {K : Frag} {h h' : Heap} {x : Addr} (X : K.In h) (hx : K.lookup x = none) (k : ∀ b o, b ≠ x → h.get? b = some o → h'.get? b = some o) : K.In h' := fun a o e =>
  k a o (fun z => by rw [z, hx] at e; cases e) (X a o e)
/-- what __init__ leaves of a fresh exception at x -/
structure InitEnd (h h' : Heap) (x C dx : Addr) (fld : Str) (v : Value) : Prop where
  keep : ∀ b o, b ≠ x → h.get? b = some o → h'.get? b = some o
  obj : ∃ t1, h'.get? x = some { cls := .ref C, dict := some dx, data := .fields #[.ref t1, .none, .none, .none, .bool false, .none] }
  dbig : h.objs.size ≤ dx
  dne : dx ≠ x
  ns : h'.Ns1 dx (fun y => if y = fld then some v else none)
/-- the heap without what stands at x -/
theorem hide1 (h : Heap) (x : Addr) : ∃ G : Heap, G.objs.size = h.objs.size ∧ (∀ b o, b ≠ x → h.get? b = some o → G.get? b = some o) ∧ (∀ b o, G.get? b = some o → h.get? b = some o) ∧ G.get? x = none := by
  let T : L2.Hp := fun b => if b = x then some (.lst []) else none
  refine ⟨L2.hidT h T, L2.hidT_size _ _, fun b o hb e => L2.hidT_get e (if_neg hb), fun b o e => (L2.of_hidT e).1, ?_⟩
  cases e : (L2.hidT h T).get? x with
  | none => rfl
  | some o =>
    have z := (L2.of_hidT e).2
    rw [show T x = some (.lst []) from if_pos rfl] at z
    cases z
section
variable {prog : Program} {w : World} {A : Around} {E : Value → Shared → Prop} {R : Result → Shared → Prop} {s : Shared} {K : Frag} {mg : Str → Option Value} {C fI : Addr} {nm fld tx : Str}
theorem init_raw (T : ErrTxt prog K mg nm fld tx C fI) {x t0 : Addr} {v : Value} (hv : v = .none ∨ ∃ i t, v = .int i t ∧ i.natAbs.log2 < 1920) (M : L2.Mod K mg s.heap) (hx : s.heap.get? x = some (excO C t0)) (hnx : K.lookup x = none) (hroom : A.depth < recursionLimit)
    (hq : ∀ h' tk dx, InitEnd s.heap h' x C dx fld v → R (.ok (.ret .none)) { s with heap := h', toks := tk }) :
    codeAny (model prog w) A (.call (.ref fI) ⟨[.ref x, v], []⟩) R s := by
  obtain ⟨oc, od, qual, doc, pm, an, cc, co, ct, osl, oc2, od2, vs, osl2, ocl, p1, p2, a0, a1, a2, a3, a4, a5, b1, b2, b3, b4, q0, q1, q2, kc, file, tf, lf, hcd, lco, hv2, hfile, lcc, hcell, hpos⟩ := T.fn
  obtain ⟨q, N, bs, bm, sn, sub, ab, col, dd, k0, k1, k2, k3, k5, lC, hbm, hal⟩ := T.cls
  obtain ⟨hp, g, d, t, os⟩ := s
  have X : K.In hp := M.kin
  have hxp : hp.get? x = some (excO C t0) := hx
  have hCp : hp.get? C = some (excClassObj nm q C N bs bm true sn sub ab col dd k0 k1 k2 k3 k5 "ValueError.__new__") := X _ _ lC
  have hxC : x ≠ C := fun z => by rw [z, lC] at hnx; cases hnx
  have hcl : clsIn K C = some { name := nm, bases := bs, mro := .ref C :: bm, ns := N, qualname := q, hasDict := true, slotNames := sn, subclasses := sub, abstract := ab, collection := col, hasDel := false } := by unfold clsIn; rw [lC] <;> rfl
  obtain ⟨G, Gs, G1, G2, G3⟩ := hide1 hp x
  have XG : K.In G := fun b o e => G1 b o (fun z => by rw [z, hnx] at e; cases e) (X b o e)
  have nfT := T.nf
  rcases nfT with rfl | rfl | rfl
  all_goals
    refine ks_codeAny_call_defAt (binds := [("self", .ref x), (_, v)]) hroom (X _ _ lf) rfl M.nolimit (codeRec_of X hcd) rfl (BindsTo.of_eq (by first | rfl | with_unfolding_all rfl)) (fun y hy => ?_) (fun y hy => ?_) (fun h₁ hn k => ?_) rfl rfl rfl
    · rcases hy with _ | ⟨_, _ | ⟨_, _ | ⟨_, _ | ⟨_, hy⟩⟩⟩⟩
      · exact NameKind.noConfusion
      · exact NameKind.noConfusion
      · exact NameKind.noConfusion
      · exact NameKind.noConfusion
      · cases hy
    · rcases hy with _ | ⟨_, _ | ⟨_, hy⟩⟩
      · rfl
      · rfl
      · cases hy
    have X₁ : K.In h₁ := X.keeps k
    refine ks_wpAt_execs_cons (ks_wpAt_Expr_any (ks_wpAt_MethodCall (he := mcall_eq hpos) (ks_wpAt_super_base rfl rfl rfl rfl (k _ _ (X _ _ lf)) rfl rfl rfl (k _ _ (X _ _ lco)) rfl hv2 hfile T.nosup ?_)))
    refine ks_loadName_global rfl rfl ?_
    obtain ⟨mb, hmb, hbb⟩ := M.blt
    have keepNs : ∀ {b : Addr} {m : Str → Option Value}, hp.Ns b m → h₁.Ns b m := fun ⟨o, es, n, e, r⟩ => ⟨o, es, n, k _ _ e, r⟩
    refine loadGlobal_builtin (keepNs M.glob) T.sup (keepNs hmb) ((hbb _ (by decide)).trans (show _ = some (Value.type "super") from rfl)) ⟨rfl, ?_⟩
    refine wpAny_loadName_free rfl rfl rfl ⟨_, k _ _ (X _ _ lcc), hcell⟩ ?_ rfl
    refine wpAny_loadName_local rfl rfl hn rfl ?_
    refine ks_wpAny_isType_cls (k _ _ hCp) rfl ⟨rfl, ?_⟩
    refine ks_wpAny_call_super (k _ _ hCp) rfl (k _ _ hxp) rfl (fun c z => by cases z) (looks_subIn X₁ T.seC) (fun h₂ hso k₂ => ?_)
    have X₂ : K.In h₂ := X₁.keeps k₂
    have kk : ∀ b o, hp.get? b = some o → h₂.get? b = some o := fun b o e => k₂ _ _ (k _ _ e)
    have XX : Frag.In ((x, excO C t0) :: K) h₂ := fun b o e => by
      by_cases hb : b = x
      · subst hb
        rw [List.lookup_cons_self] at e
        cases e
        exact kk _ _ hxp
      · rw [List.lookup_cons, show (b == x) = false from by simpa using hb] at e
        exact X₂ b o e
    have cl2 : clsIn ((x, excO C t0) :: K) C = clsIn K C := by
      unfold clsIn
      rw [List.lookup_cons, show (C == x) = false from by simpa using Ne.symm hxC]
    have inst : instIn ((x, excO C t0) :: K) (.ref x) (.type "ValueError") = some true := by
      have e1 : typeIn ((x, excO C t0) :: K) (.ref x) = some (.ref C) := by
        show Option.map _ (List.lookup x _) = _
        rw [List.lookup_cons_self]
        rfl
      show (typeIn ((x, excO C t0) :: K) (.ref x)).bind _ = _
      rw [e1]
      show mroIn ((x, excO C t0) :: K) C (.type "ValueError") = _
      have e2 := T.veC
      unfold mroIn
      rw [cl2]
      exact e2
    refine kxs_getMethod kxs_ValueError hso (looks_opaque X₂ T.op) (l₀ := .ref C :: bm) ?_ (PySem.ESX.drop_own C bm) X₂ hal (looks_instIn XX inst) hxC rfl ?_
    · intro A' Q' E' s' k' q'
      exact PySem.wpAny_bind (looks_clsIn X₂ hcl A' _ E' s' k' (PySem.wpAny_pure q'))
    have L1 : hp.objs.size < h₁.objs.size := hn.lt
    have L2' : h₁.objs.size ≤ h₂.objs.size := Nat.le_of_lt (Heap.lt_size hso)
    have xlt : x < hp.objs.size := Heap.lt_size hxp
    have hu : (h₂.push (kxs_mw "ValueError.__init__" x)).get? h₂.objs.size = some (kxs_mw "ValueError.__init__" x) := by heap_get
    have Gu : G.get? h₂.objs.size = none := by
      cases e : G.get? h₂.objs.size with
      | none => rfl
      | some o =>
        have z : h₂.objs.size < hp.objs.size := Heap.lt_size (G2 _ _ e)
        omega
    have k3 : ∀ b o, hp.get? b = some o → (h₂.push (kxs_mw "ValueError.__init__" x)).get? b = some o := fun b o e => Heap.get?_push_of_some _ (kk b o e)
    have N3 : News G hp.objs.size (h₂.push (kxs_mw "ValueError.__init__" x)) [(x, excObj C t0 none .none), (h₂.objs.size, kxs_mw "ValueError.__init__" x)] := by
      intro p hp'
      simp only [List.mem_cons, List.not_mem_nil, or_false] at hp'
      rcases hp' with rfl | rfl
      · exact ⟨k3 _ _ hxp, Nat.ne_of_lt xlt, G3⟩
      · exact ⟨hu, Nat.ne_of_gt (by omega), Gu⟩
    have hn3 : (h₂.push (kxs_mw "ValueError.__init__" x)).Ns hp.objs.size (fun x_1 => List.lookup x_1 (([("self", .ref x), (_, v)] : List (Str × Value)).reverse)) :=
      (fun ⟨o, es, n, e, r⟩ => ⟨o, es, n, Heap.get?_push_of_some _ (k₂ _ _ e), r⟩) hn
    have F3 : Fr G hp.objs.size (h₂.push (kxs_mw "ValueError.__init__" x)) (fun x_1 => List.lookup x_1 (([("self", .ref x), (_, v)] : List (Str × Value)).reverse)) :=
      ⟨hn3, fun b o e => k3 _ _ (G2 _ _ e), Nat.le_of_eq Gs⟩
    refine kxs_callWith1 (i := "ValueError.__init__") (x := x) N3 (List.mem_cons_of_mem _ List.mem_cons_self) (spliced_more (tells2 rfl T.hl hv _ _ _ _ _ _ _ _ _ hn3 rfl rfl rfl fun y t' tk' => spliced_none ?_))
    refine ⟨hu, ?_⟩
    refine kxs_call F3 XG N3 F.excBase_ValueError T.init (List.mem_cons_of_mem _ List.mem_cons_self) (UpdF.head (fun p hp' => ?_)) (by rw [sizeLine_eq]; exact (by decide : 1 ≤ 16777216)) (fun t1 h₄ F4 N4 gt => ?_)
    · simp only [List.mem_cons, List.not_mem_nil, or_false] at hp'
      subst hp'
      exact Nat.ne_of_gt (Nat.lt_of_lt_of_le (Nat.lt_trans xlt L1) L2')
    have hx4 : h₄.get? x = some (excObj C t1 none .none) := (N4 _ (List.mem_cons_of_mem _ List.mem_cons_self)).1
    have k4 : ∀ b o, b ≠ x → hp.get? b = some o → h₄.get? b = some o := fun b o hb e => F4.keep _ _ (G1 b o hb e)
    have X4 : K.In h₄ := kept_but X hnx k4
    have L4 : hp.objs.size < h₄.objs.size := F4.ns.lt
    show PySem.wpAt _ _ _ (execs _ _) _ _ _
    refine wpAt_of_wpAny (wpAny_execs_cons (plainObj_wpAny_Assign_Attribute ?_))
    refine wpAny_Name (wpAny_loadName_local rfl rfl F4.ns rfl (wpAny_Name (wpAny_loadName_local rfl rfl F4.ns rfl ?_) rfl)) rfl
    refine set_plain X4 (ox := excObj C t1 none .none) (od := none) ⟨hx4, rfl, rfl, trivial⟩ T.sa ?_
    refine exc_osa X4 hx4 hcl (show refsVE (.ref C :: bm) = true from hbm) rfl T.noN (fun h₅ tk₅ dx k₅ dn dne hx₅ hn₅ => ?_)
    show wpAny _ _ (execs _ _) _ _ _
    exact wpAny_execs_nil (hq h₅ tk₅ dx ⟨fun b o hb e => k₅ b o hb (k4 b o hb e), ⟨t1, hx₅⟩, Nat.le_of_lt (Nat.lt_of_lt_of_le L4 dn), dne, hn₅⟩)
end
end EXS
namespace EXS
open PySem PySem.W PySem.Calls PyProof.Rows PySem.HandSPX
theorem one_size (v : Value) : [v].length ≤ sizeLine := by
  rw [sizeLine_eq]
  exact (by decide : 1 ≤ 16777216)
theorem mod_keeps {K : Frag} {mg : Str → Option Value} {h h' : Heap} (M : L2.Mod K mg h) (k : ∀ b o, h.get? b = some o → h'.get? b = some o) : L2.Mod K mg h' := by
  have keepNs : ∀ {b : Addr} {m : Str → Option Value}, h.Ns b m → h'.Ns b m := fun ⟨o, es, n, e, r⟩ => ⟨o, es, n, k _ _ e, r⟩
  obtain ⟨mb, hmb, hbb⟩ := M.blt
  exact ⟨M.kin.keeps k, keepNs M.glob, ⟨mb, keepNs hmb, hbb⟩, M.nolimit.keeps k⟩
/-- a made error -/
structure OwnMade (h h' : Heap) (e C d : Addr) (fld : Str) (v : Value) : Prop where
  keep : ∀ b o, h.get? b = some o → h'.get? b = some o
  new : h.objs.size ≤ e
  obj : ∃ oe vs, h'.get? e = some oe ∧ oe.cls = .ref C ∧ oe.dict = some d ∧ oe.data = .fields vs ∧ vs[1]? = some .none
  dbig : h.objs.size ≤ d
  dne : d ≠ e
  ns : h'.Ns1 d (fun y => if y = fld then some v else none)
section
variable {prog : Program} {w : World} {A : Around} {E : Value → Shared → Prop} {R : Result → Shared → Prop} {s : Shared} {K : Frag} {mg : Str → Option Value} {C fI : Addr} {nm fld tx : Str}
theorem err_made (T : ErrTxt prog K mg nm fld tx C fI) {v : Value} (hv : v = .none ∨ ∃ i t, v = .int i t ∧ i.natAbs.log2 < 1920) (M : L2.Mod K mg s.heap) (hroom : A.depth + 1 < recursionLimit)
    (hq : ∀ h' tk e d, OwnMade s.heap h' e C d fld v → R (.ok (.ret (.ref e))) { s with heap := h', toks := tk }) :
    codeAny (model prog w) A (.call (.ref C) ⟨[v], []⟩) R s := by
  obtain ⟨q, N, bs, bm, sn, sub, ab, col, dd, k0, k1, k2, k3, k5, hC, hbm, hal⟩ := T.cls
  obtain ⟨hp, g, dr, tk, os⟩ := s
  have X : K.In hp := M.kin
  have k : ∀ b o, hp.get? b = some o → ((hp.push (kdv_tup [v])).push (excO C hp.objs.size)).get? b = some o := fun b o e => Heap.get?_push_of_some _ (Heap.get?_push_of_some _ e)
  have hget : ((hp.push (kdv_tup [v])).push (excO C hp.objs.size)).get? (hp.objs.size + 1) = some (excO C hp.objs.size) := by heap_get
  have hnx : K.lookup (hp.objs.size + 1) = none := by
    cases e : K.lookup (hp.objs.size + 1) with
    | none => rfl
    | some o =>
      have z : hp.get? (hp.objs.size + 1) = some o := X _ _ e
      exact absurd (Nat.lt_of_succ_lt (Heap.lt_size z)) (Nat.lt_irrefl _)
  refine call_own F.excBase_ValueError (fun X => refsVE_contains X bm hbm) (X _ _ hC) (looks_findIn X T.iC) (fun self => bind_fn X self T.tC) (one_size v) ?_
  refine init_raw (s := ⟨(hp.push (kdv_tup [v])).push (excO C hp.objs.size), g, dr, tk, os⟩) T hv (mod_keeps M k) hget hnx ?_ fun h' tk' dx ⟨k', ⟨t1, hx⟩, dn, dne, hns⟩ => ?_
  · show A.depth + 1 < recursionLimit
    exact hroom
  · have old : ∀ b o, hp.get? b = some o → h'.get? b = some o := fun b o e => k' b o (Nat.ne_of_lt (Nat.lt_succ_of_lt (Heap.lt_size e))) (k b o e)
    have z : hp.objs.size + 1 + 1 ≤ dx := by
      first
        | (simpa only [Heap.size_push] using dn)
        | exact dn
        | (have q := dn; rw [Heap.size_push, Heap.size_push] at q; exact q)
    exact ⟨rfl, hq h' tk' (hp.objs.size + 1) dx ⟨old, Nat.le_succ _, ⟨_, _, hx, rfl, rfl, rfl, rfl⟩, Nat.le_trans (Nat.le_trans (Nat.le_succ _) (Nat.le_succ _)) z, dne, hns⟩⟩
end
end EXS
namespace SB
open PySem PySem.Spec PyProof.Rows L2
theorem relO_fld {v : V} {v' : Value} (r : RelV v v') (fld f : Str) : RelO (List.lookup f [(fld, v)]) (if f = fld then some v' else none) := by
  by_cases hw : f = fld
  · subst hw
    rw [if_pos rfl, List.lookup_cons_self]
    exact r
  · rw [if_neg hw, List.lookup_cons, show (f == fld) = false from by simpa using hw]
    trivial
/-- the field of an own error: None or an index -/
def Fld (v : V) : Prop := v = .non ∨ ∃ i : Int, v = .int i ∧ i.natAbs.log2 < 1920
section
variable {X : Cx} {C fI : Addr} {nm fld tx : Str}
/-- NAME(e) -/
def tMkE (fld : Str) (C : Addr) (ta : TA) : L2.St → Hp → XK → Prop := fun σ H Q => ta σ H fun vs H1 => ∃ v, vs = [v] ∧ Fld v ∧ ∀ d, H1 d = none → Q (.ref C) (some d) (upd H1 d (.xd [(fld, v)]))
theorem pmk_err {a : Expr} {ta : TA} {p pos : Pos} {k : Nat} (T : EXS.ErrTxt X.prog X.K X.mg nm fld tx C fI) (hr : Room k X.A) (ha : PA X [a] ta) (hk : 1 ≤ k := by decide) (hg : Gl X nm := by rfl) (hdb : (nm == ("__debug__" : Str)) = false := by decide)
    (he : starEach (a :: []) X.env = (false, eval a X.env) :: starEach [] X.env := by rfl) (hpl : (backTo pos (starEach [] X.env)).any (·.1) = false := by rfl) :
    PMk X (.Call (.Name nm p) [a] [] pos) (tMkE fld C ta) := by
  intro pins s σ H Q I h
  refine wpAny_Call_Name_kw (ld_glob I hg T.gC ?_ hdb)
  refine PySem.W.callWith_K (h₀ := X.base) I.ok.mod.kin T.kC (thn (ha.run pos pins s σ H _ I h) fun us s1 hh => ?_) he hpl
  obtain ⟨vs, H1, I1, r1, v, ev, fv, q1⟩ := hh
  subst ev
  refine ⟨I1.kIn, ?_⟩
  cases r1 with
  | cons rv rn =>
    rename_i v' us'
    cases rn
    show wpAny _ _ (call (.ref C) [v']) _ _ _
    have M1 : L2.Mod X.K X.mg s1.heap := EXS.mod_keeps I1.env0.mod fun b o e => (I1.env0.bs b o e).1
    have hv : v' = .none ∨ ∃ i t, v' = .int i t ∧ i.natAbs.log2 < 1920 := by
      rcases fv with rfl | ⟨i, rfl, hi⟩
      · exact .inl rv
      · obtain ⟨t, rt⟩ := rv
        exact .inr ⟨i, t, rt, hi⟩
    obtain ⟨hp, g, dr, tk, os⟩ := s1
    refine wpAny_call (EXS.err_made T hv M1 (by have := hr.dp; omega) fun h' tk' e d M => ?_)
    show MkP X pins σ Q (.ref e) ⟨h', g, dr, tk', os⟩
    obtain ⟨oe, fv, hoe, hc, hd, hdat, h1⟩ := M.obj
    have hns := M.ns
    obtain ⟨G', g1, g2⟩ := restrict h' fun b => decide (b ≠ e)
    have gk : ∀ b, b ≠ e → G'.get? b = h'.get? b := fun b hb => g1 b (decide_eq_true hb)
    have ge : G'.get? e = none := g2 e (by simp)
    have old : ∀ b o, hp.get? b = some o → G'.get? b = some o := fun b o q => (gk b (Nat.ne_of_lt (Nat.lt_of_lt_of_le (Heap.lt_size q) M.new))).trans (M.keep b o q)
    have ob : ObjOk X.prog X.w (upd H1 d (.xd [(fld, v)])) G' d (.xd [(fld, v)]) :=
      ⟨_, hns.at (fun o q => (gk d M.dne).trans q), fun f => relO_fld rv fld f⟩
    have J : Inv X pins σ (upd H1 d (.xd [(fld, v)])) ⟨G', g, dr, tk', os⟩ := I1.laid (t' := tk') old M.dbig ob
    refine ⟨e, oe, fv, ⟨G', g, dr, tk', os⟩, _, .ref C, some d, rfl, J, fun b o q => ?_, ge, hoe, ⟨hc, hd⟩, hdat, h1, ?_, rfl, I1.bare, raises_own T.exC T.tyC, q1 d (I1.hok.fresh M.dbig)⟩
    · by_cases hb : b = e
      · have q' : G'.get? b = some o := q
        rw [hb, ge] at q'; cases q'
      · exact (gk b hb).symm.trans q
    · rw [upd_ne (Ne.symm M.dne)]
      exact I1.hok.fresh M.new
end
end SB
namespace EXS
open PySem PySem.W PySem.Calls PyProof.Rows PySem.HandSPX
/-! what a run at the head tells of own errors -/
def isBi (o : Option (Option Value)) (n : String) : Bool := match o with | some (some (.builtin m)) => m == n | _ => false
def isNo (o : Option (Option Value)) : Bool := match o with | some none => true | _ => false
def isTy (o : Option Value) (n : String) : Bool := match o with | some (.type m) => m == n | _ => false
def refD (o : Option (Option Value)) : Addr := match o with | some (some (.ref a)) => a | _ => 0
def isRef (o : Option (Option Value)) : Bool := match o with | some (some (.ref _)) => true | _ => false
theorem isBi_ok {o : Option (Option Value)} {n : String} (h : isBi o n = true) : o = some (some (.builtin n)) := by
  unfold isBi at h
  split at h
  · have e := beq_iff_eq.mp h
    subst e
    rfl
  · cases h
theorem isNo_ok {o : Option (Option Value)} (h : isNo o = true) : o = some none := by
  unfold isNo at h
  split at h
  · rfl
  · cases h
theorem isTy_ok {o : Option Value} {n : String} (h : isTy o n = true) : o = some (.type n) := by
  unfold isTy at h
  split at h
  · have e := beq_iff_eq.mp h
    subst e
    rfl
  · cases h
theorem isRef_ok {o : Option (Option Value)} (h : isRef o = true) : o = some (some (.ref (refD o))) := by
  unfold isRef at h
  split at h
  · rfl
  · cases h
def clsB (K : Frag) (C : Addr) (nm : Str) : Bool :=
  match K.lookup C with
  | some ⟨.type "type", _, .cls cd, sl⟩ =>
    match cd.mro, sl.toList with
    | .ref C' :: bm, [_, _, _, _, some (.builtin n), _] => C' == C && n == "ValueError.__new__" && cd.hasDict && !cd.hasDel && refsVE bm && isBi (alongIn K "__init__" bm) "ValueError.__init__" && cd.name == nm
    | _, _ => false
  | _ => false
theorem clsB_ok {K : Frag} {C : Addr} {nm : Str} (h : clsB K C nm = true) :
    ∃ q N bs bm sn sub ab col dd k0 k1 k2 k3 k5, K.lookup C = some (excClassObj nm q C N bs bm true sn sub ab col dd k0 k1 k2 k3 k5 "ValueError.__new__") ∧ refsVE bm = true ∧ alongIn K "__init__" bm = some (some (.builtin "ValueError.__init__")) := by
  unfold clsB at h
  split at h
  case h_2 => cases h
  rename_i dd cd sl hl
  split at h
  case h_2 => cases h
  rename_i C' bm k0 k1 k2 k3 n k5 hm hs
  simp only [Bool.and_eq_true, Bool.not_eq_true', beq_iff_eq] at h
  obtain ⟨⟨⟨⟨⟨⟨rfl, rfl⟩, h1⟩, h2⟩, h3⟩, h4⟩, rfl⟩ := h
  obtain ⟨nm, bs, mro, ns, q, hd, sn, sub, ab, col, hdel⟩ := cd
  cases hm
  cases h1
  cases h2
  have e : sl = #[k0, k1, k2, k3, some (.builtin "ValueError.__new__"), k5] := by
    cases sl
    cases hs
    rfl
  subst e
  exact ⟨_, _, _, _, _, _, _, _, _, _, _, _, _, _, hl, h3, isBi_ok h4⟩
def fileB (file : Str) : Option Value → Bool
  | some (.str f _) => file == f
  | _ => false
def fnB (K : Frag) (file : Str) (C fI : Addr) : Bool :=
  match K.lookup fI with
  | some ⟨_, _, .func fd, _⟩ =>
    match fd.closure, fd.defaults, fd.kwdefaults, fd.code with
    | [(n, cc)], .none, .none, .ref co =>
      n == "__class__" && codeIn K (.ref co) fd.qualname &&
        (match K.lookup co with
         | some ⟨_, _, .fields vs, _⟩ => fileB file vs[2]?
         | _ => false) &&
        (match K.lookup cc with
         | some ⟨_, _, .cell (some (.ref D)), _⟩ => D == C
         | _ => false)
    | _, _, _, _ => false
  | _ => false
theorem fnB_ok {K : Frag} {file : Str} {C fI : Addr} (h : fnB K file C fI = true) :
    ∃ (oc : Value) (od : Option Addr) (fd : FuncData) (osl : Array (Option Value)) (cc co : Addr) (oc2 : Value) (od2 : Option Addr) (vs : Array Value) (osl2 : Array (Option Value)) (f : Str) (tf : Tok) (oc3 : Value) (od3 : Option Addr) (osl3 : Array (Option Value)),
      K.lookup fI = some ⟨oc, od, .func fd, osl⟩ ∧ fd.closure = [(("__class__" : Str), cc)] ∧ fd.defaults = .none ∧ fd.kwdefaults = .none ∧ fd.code = .ref co ∧ codeIn K (.ref co) fd.qualname = true ∧
        K.lookup co = some ⟨oc2, od2, .fields vs, osl2⟩ ∧ vs[2]? = some (.str f tf) ∧ (file == f) = true ∧ K.lookup cc = some ⟨oc3, od3, .cell (some (.ref C)), osl3⟩ := by
  unfold fnB at h
  split at h
  case h_2 => cases h
  rename_i oc od fd osl hl
  split at h
  case h_2 => cases h
  rename_i n cc co h1 h2 h3 h4
  simp only [Bool.and_eq_true, beq_iff_eq] at h
  obtain ⟨⟨⟨rfl, hc⟩, hb⟩, hd⟩ := h
  split at hb
  case h_2 => cases hb
  rename_i oc2 od2 vs osl2 hl2
  unfold fileB at hb
  split at hb
  case h_2 => cases hb
  rename_i f tf hv
  split at hd
  case h_2 => cases hd
  rename_i oc3 od3 D osl3 hl3
  obtain rfl : D = C := by simpa using hd
  exact ⟨oc, od, fd, osl, cc, co, oc2, od2, vs, osl2, f, tf, oc3, od3, osl3, hl, h1, h2, h3, h4, hc, hl2, hv, hb, hl3⟩
/-- an own error with a field -/
structure ErrD where
  nm : Str
  fld : Str
  tx : Str
  params : Arguments
  body : List Stmt
  scope : Scope
abbrev ErrW : Type := Option (Str × Arguments × FuncBody × Scope × Addr × Addr)
def eI (K : Frag) (nm : Str) : Addr := refD (findIn K (.ref (He.ga K nm)) "__init__")
def errW (K : Frag) (nm : Str) : ErrW :=
  match K.lookup (eI K nm) with
  | some ⟨_, _, .func fd, _⟩ => some (fd.name, fd.params, fd.body, fd.scope, fd.globals, fd.builtins)
  | _ => none
def ErrD.val (e : ErrD) : ErrW := some ("__init__", e.params, .stmts e.body, e.scope, mainGlobals, builtinsNs)
def errB (file : Str) (K : Frag) (nm fld : Str) : Bool :=
  clsB K (He.ga K nm) nm && fnB K file (He.ga K nm) (eI K nm) && isRef (nsIn K mainGlobals nm) && He.Fa.ok K (.free "super") && isNo (nsIn K cStatics "thirdparty.any") &&
    isBi (findIn K (.ref (He.ga K nm)) "__setattr__") "object.__setattr__" && isNo (findIn K (.ref (He.ga K nm)) fld) && isRef (findIn K (.ref (He.ga K nm)) "__init__") &&
    isTy (typeIn K (.ref (eI K nm))) "function" && keepIn K (.ref (He.ga K nm)) && (subIn K (.ref (He.ga K nm)) (.type "BaseException") == some true) && (subIn K (.ref (He.ga K nm)) (.type "ValueError") == some true) &&
    excInitIn K (He.ga K nm) [.type "ValueError", .type "Exception", .type "BaseException", .type "object"] "ValueError.__new__" && (mroIn K (He.ga K nm) (.ref (He.ga K nm)) == some true) &&
    isTy (typeIn K (.ref (He.ga K nm))) "type" && (exmOne K (.ref (He.ga K nm)) (.ref (He.ga K nm)) == some true)
/-- the text of such an error is of the form that is told above -/
def ErrD.Good (e : ErrD) : Prop := ∃ (p1 p2 a0 a1 a2 a3 a4 a5 b1 b2 b3 b4 q0 q1 q2 : Pos) (kk : Nat), e.params = eArgs e.fld p1 p2 ∧ e.body = eBody e.fld [.Constant (.str e.tx) kk q0, .FormattedValue (.Name e.fld q1) (-1) none q2] a0 a1 a2 a3 a4 a5 b1 b2 b3 b4 ∧ e.scope = eScope e.fld ∧ (a2.endLine == a4.line) = true ∧ (e.fld = "index" ∨ e.fld = "limit" ∨ e.fld = "word") ∧ e.tx.length ≤ 100
theorem ga_ok {K : Frag} {h : Heap} {mg : Str → Option Value} {nm : Str} (X : K.In h) (G : h.Ns mainGlobals mg) (c : isRef (nsIn K mainGlobals nm) = true) : mg nm = some (.ref (He.ga K nm)) := by
  have e := isRef_ok c
  have z : refD (nsIn K mainGlobals nm) = He.ga K nm := by
    unfold He.ga refD
    rw [e]
  rw [z] at e
  exact mg_of X G e
theorem err_ok {prog : Program} {K : Frag} {h : Heap} {mg : Str → Option Value} {e : ErrD} (X : K.In h) (G : h.Ns mainGlobals mg) (hs : (List.lookup ("super" : Str) prog.main.scope.names).isSome = false)
    (g : e.Good) (c : errB prog.main.file K e.nm e.fld = true) (v : errW K e.nm = e.val) : ErrTxt prog K mg e.nm e.fld e.tx (He.ga K e.nm) (eI K e.nm) := by
  unfold errB at c
  simp only [Bool.and_eq_true, beq_iff_eq] at c
  obtain ⟨⟨⟨⟨⟨⟨⟨⟨⟨⟨⟨⟨⟨⟨⟨c1, c2⟩, c3⟩, c4⟩, c5⟩, c6⟩, c7⟩, c8⟩, c9⟩, c10⟩, c11⟩, c12⟩, c13⟩, c14⟩, c15⟩, c16⟩ := c
  obtain ⟨p1, p2, a0, a1, a2, a3, a4, a5, b1, b2, b3, b4, q0, q1, q2, kk, g1, g2, g3, g4, g5, g6⟩ := g
  obtain ⟨oc, od, fd, osl, cc, co, oc2, od2, vs, osl2, f, tf, oc3, od3, osl3, f1, f2, f3, f4, f5, f6, f7, f8, f9, f10⟩ := fnB_ok c2
  refine { gC := ga_ok X G c3, sup := ?_, cls := clsB_ok c1, op := isNo_ok c5, sa := isBi_ok c6, noN := isNo_ok c7, iC := isRef_ok c8, tC := isTy_ok c9, kC := c10, exC := ?_, veC := ?_, init := c13, seC := ?_, tyC := isTy_ok c15, te := ?_, nosup := hs, nf := g5, hl := g6, fn := ?_ }
  · exact He.free_ok X G c4
  · exact c11
  · exact c12
  · exact c14
  · exact c16
  · unfold errW at v
    rw [f1] at v
    obtain ⟨name, qual, params, body, scope, globals, closure, defaults, kwdefaults, doc, pm, an, code, ct, blt⟩ := fd
    cases f2
    cases f3
    cases f4
    cases f5
    have v' := Option.some.inj v
    simp only [Prod.mk.injEq] at v'
    obtain ⟨rfl, rfl, rfl, rfl, rfl, rfl⟩ := v'
    rw [g1, g2, g3] at f1
    exact ⟨oc, od, qual, doc, pm, an, cc, co, ct, osl, oc2, od2, vs, osl2, _, p1, p2, a0, a1, a2, a3, a4, a5, b1, b2, b3, b4, q0, q1, q2, kk, f, tf, f1, f6, f7, f8, f9, f10, rfl, g4⟩
/-! an own error without __init__ of its own -/
structure PlnTxt (K : Frag) (mg : Str → Option Value) (nm : Str) (C : Addr) : Prop where
  gC : mg nm = some (.ref C)
  ex : excIn K C [.type "ValueError", .type "Exception", .type "BaseException", .type "object"] "ValueError.__new__" = true
  kC : keepIn K (.ref C) = true
  exC : subIn K (.ref C) (.type "BaseException") = some true
  tyC : typeIn K (.ref C) = some (.type "type")
  te : exmOne K (.ref C) (.ref C) = some true
def plnB (K : Frag) (nm : Str) : Bool :=
  isRef (nsIn K mainGlobals nm) && excIn K (He.ga K nm) [.type "ValueError", .type "Exception", .type "BaseException", .type "object"] "ValueError.__new__" && keepIn K (.ref (He.ga K nm)) &&
    (subIn K (.ref (He.ga K nm)) (.type "BaseException") == some true) && isTy (typeIn K (.ref (He.ga K nm))) "type" && (exmOne K (.ref (He.ga K nm)) (.ref (He.ga K nm)) == some true)
theorem pln_ok {K : Frag} {h : Heap} {mg : Str → Option Value} {nm : Str} (X : K.In h) (G : h.Ns mainGlobals mg) (c : plnB K nm = true) : PlnTxt K mg nm (He.ga K nm) := by
  unfold plnB at c
  simp only [Bool.and_eq_true, beq_iff_eq] at c
  obtain ⟨⟨⟨⟨⟨c1, c2⟩, c3⟩, c4⟩, c5⟩, c6⟩ := c
  exact ⟨ga_ok X G c1, c2, c3, c4, isTy_ok c5, c6⟩
/-! the hook -/
def asE (g : Addr → Option Obj) : Nat → List Addr
  | 0 => [mainGlobals, cStatics]
  | n + 1 => He.growD g (asE g n)
abbrev AlE : Type := He.AlX × List ErrW
def obsE (n : Nat) (fa : List He.Fa) (fn : List He.DefD) (ers : List ErrD) (ex : Frag → Bool) (g : Addr → Option Obj) : AlE :=
  ((He.obsT fa fn [] (He.frT g (asE g n)), ex (He.frT g (asE g n))), ers.map fun e => errW (He.frT g (asE g n)) e.nm)
structure SaysE (fa : List He.Fa) (fn : List He.DefD) (ers : List ErrD) (ex : Frag → Bool) (w : World) (h : Heap) (K : Frag) : Prop where
  x : He.SaysX fa fn [] [] ex w h K
  e : (ers.map fun e => errW K e.nm) = ers.map ErrD.val
def hookE (n : Nat) (fa : List He.Fa) (fn : List He.DefD) (ers : List ErrD) (ex : Frag → Bool) : Hook where
  α := AlE
  obs := fun s => obsE n fa fn ers ex s.heap.get?
  val := fun w => ((He.valT fn [] w, true), ers.map ErrD.val)
  says := fun w h => ∃ K, K.In h ∧ SaysE fa fn ers ex w h K
  of := by
    intro w s e
    have e1 := congrArg (fun z => z.1.1) e
    have e2 := congrArg (fun z => z.1.2) e
    have e3 := congrArg (fun z => z.2) e
    exact ⟨_, He.frT_in, ⟨⟨e1, e2, (fun _ z => nomatch z), (fun _ z => nomatch z), (fun _ z => nomatch z)⟩, e3⟩⟩
  keeps := by
    rintro w h h' ⟨K, X, c⟩ k
    exact ⟨K, X.keeps k, ⟨⟨c.x.t, c.x.more, (fun _ z => nomatch z), (fun _ z => nomatch z), (fun _ z => nomatch z)⟩, c.e⟩⟩
theorem obsE_eq {n : Nat} {fa : List He.Fa} {fn : List He.DefD} {ers : List ErrD} {ex : Frag → Bool} {g : Addr → Option Obj} {s : Shared} (h : ∀ a, g a = s.heap.get? a) : obsE n fa fn ers ex g = (hookE n fa fn ers ex).obs s := by
  have e := funext h
  rw [e]
  rfl
end EXS
namespace SB
open PySem PySem.Spec PyProof.Rows L2 Evl
def inB : Stmt → Nat → Stmt
  | .ClassDef (body := b) .., j => b.getD j (.Pass ⟨0, 0, 0, 0⟩)
  | s, _ => s
section
variable {X : Cx} {CX : CXT} {k j : Nat} {ps ks : List Str} {sp : Sp} {E : L2.St → XK} {x : Str} {p pos : Pos} {e : Expr} {es : List Expr} {t tk : TA}
theorem pe_calS (F : Cal X.prog X.w X.K X.mg X.base CX k x ps sp) (hr : Room k X.A) (hx : ∀ σ, PassesAt CX X σ (E σ)) (ha : PA X (e :: es) t) (hg : Gl X x := by rfl) (hdb : (x == ("__debug__" : Str)) = false := by decide)
    (he : starEach (e :: es) X.env = (false, eval e X.env) :: starEach es X.env := by rfl) (hpl : (backTo pos (starEach es X.env)).any (·.1) = false := by rfl) :
    PE X (.Call (.Name x p) (e :: es) [] pos) (tCallS sp E t) := by
  obtain ⟨f, fd, e1, e2, e3, e4⟩ := F.ex
  exact pe_callS e4 hr hg e1 e2 e3 hx ha hdb he hpl
end
section
variable {P : Program} {w : World} {K : PySem.W.Frag} {mg : Str → Option Value} {base : Heap}
/-- a def that raises: its surroundings with the way out -/
theorem Df.calX {CX : CXT} {k : Nat} {x : Str} {st : Stmt} {N ps : List Str} {sp : Sp} (D : Df K mg x st) (S : FnScope N ps (defScope st)) (len : ∀ vs H Q E, sp vs H Q E → vs.length = ps.length)
    (hb : ∀ (kV doc pm : Value) (an : Option Addr) (cdv ct : Value) (us : List Value), us.length = ps.length → bindArgs (PySem.W.fnOf x x (defArgs st) (defBody st) (defScope st) .none kV doc pm an cdv ct) ⟨us, []⟩ = pure (ps.zip us))
    (body : ∀ (f : Addr) (cdv : Value) (A : Around) (outer : List Env) (s : Shared) (H : Hp) (vs : List V) (Q : VK) (E : XK), Room k (A.deeper (envOfC x (defScope st) s.heap.objs.size f cdv)) → sp vs H Q E →
      ∃ t, PSs (cxOf CX P w K mg base N x (defScope st) f cdv A outer s H E) (defBody st) t ∧ t { nx := fun _ H' => Q .non H', rt := Q } (start N vs) H) :
    Cal P w K mg base CX (k + 1) x ps sp := by
  obtain ⟨e, fd, F⟩ := D
  exact ⟨_, fd, e, F.kp, FunD.bindsN F hb, FunD.ok F S len (fun cdv A outer s H vs Q E hr h => body _ cdv A outer s H vs Q E hr h)⟩
/-- what never raises of it -/
theorem Cal.calm {k : Nat} {x : Str} {ps : List Str} {sp : Sp} (F : Cal P w K mg base (L2.CX P w) k x ps sp) : Cal P w K mg base CX0 k x ps (fun vs H Q _ => sp vs H Q fun _ _ _ => False) := by
  obtain ⟨f, fd, e1, e2, e3, e4⟩ := F.ex
  refine ⟨f, fd, e1, e2, e3, fun vs H Q E h => e4.len vs H Q _ h, fun A outer s H ar us vs Q E r e b v h => ?_⟩
  refine codeAny_mono (e4.run A outer s H ar us vs Q _ r e b v h) ?_
  intro r s' z
  match r, z with
  | .ok (.ret u), z => exact z
  | .error e, ⟨a, B, H', cls, d, _, _, _, _, _, _, _, z⟩ => exact z.elim
theorem Cal.spm {CX : CXT} {k : Nat} {x : Str} {ps : List Str} {sp sp2 : Sp} (F : Cal P w K mg base CX k x ps sp) (h : ∀ vs H Q E, sp2 vs H Q E → sp vs H Q E) : Cal P w K mg base CX k x ps sp2 := by
  obtain ⟨f, fd, e1, e2, e3, e4⟩ := F.ex
  exact ⟨f, fd, e1, e2, e3, fun vs H Q E z => e4.len vs H Q E (h _ _ _ _ z), fun A outer s H ar us vs Q E r e b v z => e4.run A outer s H ar us vs Q E r e b v (h _ _ _ _ z)⟩
end
section
variable {X : Cx} {CX : CXT} {k : Nat} {ps : List Str} {sp : Sp} {E : XK} {x : Str} {p pos : Pos}
theorem pe_calG0 (F : CalG X.prog X.w X.K X.mg X.base CX k x ps sp) (hr : Room k X.A) (gd : X.A.guards = some []) (hx : Passes CX X E) (hg : Gl X x := by rfl) (hdb : (x == ("__debug__" : Str)) = false := by decide) :
    PE X (.Call (.Name x p) [] [] pos) (tCall sp [] E tNil) := by
  obtain ⟨f, fd, e1, e2, e3, e4⟩ := F.ex
  constructor
  intro pins s σ H Q I h
  refine wpAny_Call_Name_kw (ld_glob I hg e1 ?_ hdb)
  exact PySem.W.callWith_K0 I.kIn e2 (runG (us := []) (vs := []) e4 hr gd e3 .nil hx I .nil h)
end
/-! any values -/
def okB (lo hi : Int) : V → Bool
  | .int i => decide (lo ≤ i ∧ i ≤ hi)
  | _ => false
def okP : V → Bool
  | .str s => inV (.str s) [.str "none", .str "even", .str "odd"]
  | _ => false
/-- the first wrong item -/
def flt (x y z : V) : Option Int := if okB 1 9 x = true then (if okP y = true then (if okB 1 2 z = true then none else some 2) else some 1) else some 0
def Any (K : PySem.W.Frag) (H : Hp) (v : V) : Prop := ∃ n, TyN K H v n
theorem Any.ex {K : PySem.W.Frag} {H H' : Hp} {v : V} (e : Ex H H') (h : Any K H v) : Any K H' v := by
  obtain ⟨n, h⟩ := h
  cases h with
  | non => exact ⟨_, .non⟩
  | bl b => exact ⟨_, .bl b⟩
  | int i => exact ⟨_, .int i⟩
  | str x => exact ⟨_, .str x⟩
  | lst h => exact ⟨_, .lst (ex_l e h)⟩
  | tup h => exact ⟨_, .tup (ex_t e h)⟩
  | dct h => exact ⟨_, .dct (e _ _ h)⟩
end SB
namespace LW
open PySem PySem.Spec PyProof.Rows L2 Evl SB
def topS (i : Nat) : Stmt := PySem.Challenge.pw_startbits_k01_shapes_judged.main.body.getD i (.Pass ⟨0, 0, 0, 0⟩)
abbrev s_is_int : Stmt := topS 7
abbrev s_is_int_between : Stmt := topS 8
abbrev s_is_parity : Stmt := topS 9
abbrev s_fits : Stmt := topS 10
abbrev s_check_shape : Stmt := topS 11
abbrev s_is_shape : Stmt := topS 13
abbrev s_size_of : Stmt := topS 14
abbrev s_is_number : Stmt := topS 15
abbrev s_law_source : Stmt := topS 17
abbrev s_law_draw : Stmt := topS 18
abbrev s_law_is_integer : Stmt := topS 19
abbrev s_law_shape : Stmt := topS 20
abbrev s_law_odd_shape : Stmt := topS 21
abbrev s_law_shape_fault : Stmt := topS 22
abbrev s_law_sizes_right : Stmt := topS 23
abbrev s_law_numbers_right : Stmt := topS 24
abbrev s_law : Stmt := topS 25
theorem sc_is_int : FnScope ["value"] ["value"] (defScope s_is_int) := ⟨rfl, rfl, rfl, by decide +kernel, rfl, by decide +kernel, by decide +kernel⟩
theorem sc_is_int_between : FnScope ["least", "most", "value"] ["least", "most", "value"] (defScope s_is_int_between) := ⟨rfl, rfl, rfl, by decide +kernel, rfl, by decide +kernel, by decide +kernel⟩
theorem sc_is_parity : FnScope ["value"] ["value"] (defScope s_is_parity) := ⟨rfl, rfl, rfl, by decide +kernel, rfl, by decide +kernel, by decide +kernel⟩
theorem sc_fits : FnScope ["shape", "value"] ["shape", "value"] (defScope s_fits) := ⟨rfl, rfl, rfl, by decide +kernel, rfl, by decide +kernel, by decide +kernel⟩
theorem sc_check_shape : FnScope ["shape", "bits", "parity", "stops"] ["shape"] (defScope s_check_shape) := ⟨rfl, rfl, rfl, by decide +kernel, rfl, by decide +kernel, by decide +kernel⟩
theorem sc_is_shape : FnScope ["value"] ["value"] (defScope s_is_shape) := ⟨rfl, rfl, rfl, by decide +kernel, rfl, by decide +kernel, by decide +kernel⟩
theorem sc_size_of : FnScope ["shape", "bits", "parity", "stops", "parity_bits"] ["shape"] (defScope s_size_of) := ⟨rfl, rfl, rfl, by decide +kernel, rfl, by decide +kernel, by decide +kernel⟩
theorem sc_is_number : FnScope ["shape", "value"] ["shape", "value"] (defScope s_is_number) := ⟨rfl, rfl, rfl, by decide +kernel, rfl, by decide +kernel, by decide +kernel⟩
theorem sc_law_source : FnScope ["_law_script", "_law_at", "_law_cell", "_law_left"] ["_law_script", "_law_at"] (defScope s_law_source) := ⟨rfl, rfl, rfl, by decide +kernel, rfl, by decide +kernel, by decide +kernel⟩
theorem sc_law_draw : FnScope ["_law_source_here", "_law_many", "_law_drawn", "_law_mixed"] ["_law_source_here", "_law_many"] (defScope s_law_draw) := ⟨rfl, rfl, rfl, by decide +kernel, rfl, by decide +kernel, by decide +kernel⟩
theorem sc_law_is_integer : FnScope ["_law_thing"] ["_law_thing"] (defScope s_law_is_integer) := ⟨rfl, rfl, rfl, by decide +kernel, rfl, by decide +kernel, by decide +kernel⟩
theorem sc_law_shape : FnScope ["_law_source_here", "_law_parity"] ["_law_source_here"] (defScope s_law_shape) := ⟨rfl, rfl, rfl, by decide +kernel, rfl, by decide +kernel, by decide +kernel⟩
theorem sc_law_odd_shape : FnScope ["_law_source_here", "_law_bits", "_law_parity", "_law_stops", "_law_parts", "_law_index", "_law_part", "_law_way"] ["_law_source_here"] (defScope s_law_odd_shape) := ⟨rfl, rfl, rfl, by decide +kernel, rfl, by decide +kernel, by decide +kernel⟩
theorem sc_law_shape_fault : FnScope ["_law_thing"] ["_law_thing"] (defScope s_law_shape_fault) := ⟨rfl, rfl, rfl, by decide +kernel, rfl, by decide +kernel, by decide +kernel⟩
theorem sc_law_sizes_right : FnScope ["_law_bits", "_law_parity", "_law_more", "_law_stops", "_law_form"] [] (defScope s_law_sizes_right) := ⟨rfl, rfl, rfl, by decide +kernel, rfl, by decide +kernel, by decide +kernel⟩
theorem sc_law_numbers_right : FnScope ["_law_source_here", "_law_form", "_law_most", "_law_turn", "_law_some", "_law_thing", "_law_due"] ["_law_source_here"] (defScope s_law_numbers_right) := ⟨rfl, rfl, rfl, by decide +kernel, rfl, by decide +kernel, by decide +kernel⟩
theorem sc_law : FnScope ["_law_script", "_law_at", "_law_source_here", "_law_turn", "_law_thing"] ["_law_script"] (defScope s_law) := ⟨rfl, rfl, rfl, by decide +kernel, rfl, by decide +kernel, by decide +kernel⟩
structure Tx (K : PySem.W.Frag) (mg : Str → Option Value) : Prop where
  b_abs : mg "abs" = none
  b_bool : mg "bool" = none
  b_enumerate : mg "enumerate" = none
  b_int : mg "int" = none
  b_isinstance : mg "isinstance" = none
  b_len : mg "len" = none
  b_list : mg "list" = none
  b_max : mg "max" = none
  b_min : mg "min" = none
  b_range : mg "range" = none
  b_repr : mg "repr" = none
  b_str : mg "str" = none
  b_tuple : mg "tuple" = none
  t_PARITIES : mg "PARITIES" = some (.ref (He.ga K "PARITIES"))
  v_PARITIES : ∀ H, SqT K H (He.ga K "PARITIES") [.str "none", .str "even", .str "odd"]
  i_MOST_BITS : GInt mg "MOST_BITS" 9
  i_MOST_STOPS : GInt mg "MOST_STOPS" 2
  d_is_int : Df K mg "is_int" s_is_int
  d_is_int_between : Df K mg "is_int_between" s_is_int_between
  d_is_parity : Df K mg "is_parity" s_is_parity
  d_fits : Df K mg "fits" s_fits
  d_check_shape : Df K mg "check_shape" s_check_shape
  d_is_shape : Df K mg "is_shape" s_is_shape
  d_size_of : Df K mg "size_of" s_size_of
  d_is_number : Df K mg "is_number" s_is_number
  d_law_source : Df K mg "_law_source" s_law_source
  d_law_draw : Df K mg "_law_draw" s_law_draw
  d_law_is_integer : Df K mg "_law_is_integer" s_law_is_integer
  d_law_shape : Df K mg "_law_shape" s_law_shape
  d_law_odd_shape : Df K mg "_law_odd_shape" s_law_odd_shape
  d_law_shape_fault : Df K mg "_law_shape_fault" s_law_shape_fault
  d_law_sizes_right : Df K mg "_law_sizes_right" s_law_sizes_right
  d_law_numbers_right : Df K mg "_law_numbers_right" s_law_numbers_right
  d_law : Df K mg "law" s_law
structure TxE (P : Program) (K : PySem.W.Frag) (mg : Str → Option Value) : Prop where
  x_InvalidShape : EXS.ErrTxt P K mg "InvalidShape" "index" "wrong item of a shape: " (He.ga K "InvalidShape") (EXS.eI K "InvalidShape")
section
variable {P : Program} {w : World} {K : PySem.W.Frag} {mg : Str → Option Value} {base : Heap}
/-! ### the checks, at right arguments -/
def sp_is_int (K : PySem.W.Frag) : Sp := fun vs H Q _ => ∃ v n, vs = [v] ∧ TyN K H v n ∧ Q (.bl (decide (n = "int"))) H
theorem cal_is_int (T : Tx K mg) : Cal P w K mg base CX0 1 "is_int" ["value"] (sp_is_int K) := by
  refine T.d_is_int.cal sc_is_int (fun vs H Q E h => ?_) (fun _ _ _ _ _ _ us hl => match us, hl with | [_], _ => rfl) (fun f cdv A outer s H vs Q E hr h => ⟨_, (pss_one (ps_ret (pe_and (pe_callB call_isi (by rfl) T.b_isinstance (by decide +kernel) (pa_cons (pv 0) (pa_cons (pe_bltn (v := .ty "int") (by rfl) T.b_int (by decide +kernel) rfl) pa_nil))) (pe_one (pe_not (pe_callB call_isi (by rfl) T.b_isinstance (by decide +kernel) (pa_cons (pv 0) (pa_cons (pe_bltn (v := .ty "bool") (by rfl) T.b_bool (by decide +kernel) rfl) pa_nil)))))))), ?_⟩)
  · obtain ⟨v, n, rfl, _⟩ := h
    rfl
  · obtain ⟨v, n, rfl, ty, q⟩ := h
    refine ⟨v, rfl, v, .ty "int", _, _, _, rfl, .ty _, ty.x, ty.kit (.inl rfl), _, rfl, ?_⟩
    cases ty with
    | int i => exact ⟨_, rfl, _, .ty "bool", _, _, _, rfl, .ty _, (TyN.int i : TyN K H _ _).x, (TyN.int i : TyN K H _ _).kit (.inr (.inl rfl)), _, rfl, q⟩
    | bl b => exact ⟨_, rfl, _, .ty "bool", _, _, _, rfl, .ty _, (TyN.bl b : TyN K H _ _).x, (TyN.bl b : TyN K H _ _).kit (.inr (.inl rfl)), _, rfl, q⟩
    | _ => exact q
def sp_between (K : PySem.W.Frag) : Sp := fun vs H Q _ => ∃ lo hi v n, vs = [.int lo, .int hi, v] ∧ TyN K H v n ∧
  ∀ b : Bool, (∀ i, v = .int i → b = decide (lo ≤ i ∧ i ≤ hi)) → (n ≠ "int" → b = false) → Q (.bl b) H
theorem cal_between (T : Tx K mg) : Cal P w K mg base CX0 2 "is_int_between" ["least", "most", "value"] (sp_between K) := by
  have c_is_int := cal_is_int (P := P) (w := w) (base := base) T
  refine T.d_is_int_between.cal sc_is_int_between (fun vs H Q E h => ?_) (fun _ _ _ _ _ _ us hl => match us, hl with | [_, _, _], _ => rfl) (fun f cdv A outer s H vs Q E hr h => ⟨_, (pss_one (ps_ret (pe_and (pe_cal c_is_int (hr.mono (by decide)) pass0 (pa_cons (pv 2) pa_nil)) (pe_one (pe_chain op_le op_le (pv 0) (pv 2) (pv 1)))))), ?_⟩)
  · obtain ⟨lo, hi, v, n, rfl, _⟩ := h
    rfl
  · obtain ⟨lo, hi, v, n, rfl, ty, q⟩ := h
    refine ⟨v, rfl, v, n, rfl, ty, _, rfl, ?_⟩
    cases ty with
    | int i =>
      refine ⟨_, rfl, _, rfl, lo, i, rfl, rfl, _, rfl, ?_⟩
      by_cases h1 : lo ≤ i
      · rw [if_pos (decide_eq_true h1)]
        refine ⟨_, rfl, i, hi, rfl, rfl, q _ (fun j e => ?_) (fun z => absurd rfl z)⟩
        cases e
        simp [h1]
      · rw [if_neg (by simpa using h1)]
        refine q _ (fun j e => ?_) (fun z => absurd rfl z)
        cases e
        simp [h1]
    | _ => exact q false (fun j e => nomatch e) (fun _ => rfl)
def sp_is_parity (K : PySem.W.Frag) : Sp := fun vs H Q _ => ∃ v, vs = [v] ∧ Any K H v ∧ Q (.bl (okP v)) H
theorem cal_is_parity (T : Tx K mg) : Cal P w K mg base CX0 1 "is_parity" ["value"] (sp_is_parity K) := by
  refine T.d_is_parity.cal sc_is_parity (fun vs H Q E h => ?_) (fun _ _ _ _ _ _ us hl => match us, hl with | [_], _ => rfl) (fun f cdv A outer s H vs Q E hr h => ⟨_, (pss_one (ps_ret (pe_and (pe_callB call_isi (by rfl) T.b_isinstance (by decide +kernel) (pa_cons (pv 0) (pa_cons (pe_bltn (v := .ty "str") (by rfl) T.b_str (by decide +kernel) rfl) pa_nil))) (pe_one (pe_cmpR op_in_seq (pv 0) (pe_glob (v := .ref (He.ga K "PARITIES")) rfl T.t_PARITIES rfl) (by rfl)))))), ?_⟩)
  · obtain ⟨p, rfl, _⟩ := h
    rfl
  · obtain ⟨v, rfl, ⟨n, ty⟩, q⟩ := h
    refine ⟨v, rfl, v, .ty "str", _, _, _, rfl, .ty _, ty.x, ty.kit (.inr (.inr (.inl rfl))), _, rfl, ?_⟩
    cases ty with
    | str x => exact ⟨_, rfl, _, _, rfl, .inr (T.v_PARITIES _), rfl, rfl, q⟩
    | _ => exact q
def sp_fits (K : PySem.W.Frag) : Sp := fun vs H Q _ => ∃ g b p s v n, vs = [g, v] ∧ IsSh K H g b p s ∧ TyN K H v n ∧
  ∀ r : Bool, (∀ i, v = .int i → r = decide (0 ≤ i ∧ i < 2 ^ b)) → (n ≠ "int" → r = false) → Q (.bl r) H
theorem cal_fits (T : Tx K mg) : Cal P w K mg base CX0 3 "fits" ["shape", "value"] (sp_fits K) := by
  have c_is_int_between := cal_between (P := P) (w := w) (base := base) T
  refine T.d_fits.cal sc_fits (fun vs H Q E h => ?_) (fun _ _ _ _ _ _ us hl => match us, hl with | [_, _], _ => rfl) (fun f cdv A outer s H vs Q E hr h => ⟨_, (pss_one (ps_ret (pe_cal c_is_int_between (hr.mono (by decide)) pass0 (pa_cons pe_int (pa_cons (pe_op op_sub (pe_op op_shl pe_int (pe_ix ix_tup (pv 0) pe_int (fun _ _ => rfl))) pe_int) (pa_cons (pv 1) pa_nil)))))), ?_⟩)
  · obtain ⟨g, b, p, s, v, n, rfl, _⟩ := h
    rfl
  · obtain ⟨g, b, p, s, v, n, rfl, ⟨t, rfl, sq, h1, h2, _⟩, ty, q⟩ := h
    refine ⟨_, rfl, t, _, 0, .int b, rfl, rfl, sq, rfl, 1, b, rfl, rfl, ⟨by omega, by omega, by decide⟩, _, _, rfl, rfl, v, rfl, 0, _, v, n, rfl, ty, fun r r1 r2 => q r (fun i e => ?_) r2⟩
    rw [r1 i e, Int.one_mul, Int.toNat_natCast]
    exact decide_eq_decide.mpr (by omega)
/-- the way out with index v -/
def Rz (C : Addr) (H : Hp) (E : XK) (v : V) : Prop := ∀ d : Addr, H d = none → E (.ref C) (some d) (upd H d (.xd [("index", v)]))
/-- what a value is, as a shape: g is wrong as a whole (none), or has three items -/
inductive AsSh (K : PySem.W.Frag) (H : Hp) (g : V) : Option (V × V × V) → Prop where
  | no {n : String} (h : TyN K H g n) (hn : n ≠ "tuple") : AsSh K H g none
  | many {a : Addr} {xs : List V} (e : g = .ref a) (h : SqT K H a xs) (hl : xs.length ≠ 3) : AsSh K H g none
  | three {a : Addr} {x y z : V} (e : g = .ref a) (h : SqT K H a [x, y, z]) (hx : Any K H x) (hy : Any K H y) (hz : Any K H z) : AsSh K H g (some (x, y, z))
def fltO : Option (V × V × V) → Option V
  | none => some .non
  | some (x, y, z) => (flt x y z).map V.int
def sp_check_shapeX (K : PySem.W.Frag) : Sp := fun vs H Q E => ∃ g o, vs = [g] ∧ AsSh K H g o ∧ (fltO o = none → Q .non H) ∧ ∀ v, fltO o = some v → Rz (He.ga K "InvalidShape") H E v
theorem cal_check_shapeX (T : Tx K mg) (TE : TxE P K mg) : Cal P w K mg base (L2.CX P w) 3 "check_shape" ["shape"] (sp_check_shapeX K) := by
  have c_is_int_between := cal_between (P := P) (w := w) (base := base) T
  have c_is_parity := cal_is_parity (P := P) (w := w) (base := base) T
  refine T.d_check_shape.calX sc_check_shape (fun vs H Q E h => ?_) (fun _ _ _ _ _ _ us hl => match us, hl with | [_], _ => rfl) (fun f cdv A outer s H vs Q E hr h => ⟨_, (pss_cons (ps_if (PW.pt (pw_or (pt_not (pt_val (pe_callB call_isi (by rfl) T.b_isinstance (by decide +kernel) (pa_cons (pv 0) (pa_cons (pe_bltn (v := .ty "tuple") (by rfl) T.b_tuple (by decide +kernel) rfl) pa_nil))))) (pw_or1 (pt_cmpR op_ne (pe_callB call_len_seq (by rfl) T.b_len (by decide +kernel) (pa_cons (pv 0) pa_nil)) pe_int (nomark _))))) (pss_one (ps_raise rfl (takes_of rfl rfl rfl rfl) (pmk_err (k := 1) TE.x_InvalidShape (hr.mono (by decide)) (pa_cons pe_non pa_nil)))) pss_nil)
      (pss_cons (ps_asg (pv 0) (pg_tup rfl (pgs_cons (pg_name (i := 1) sc_check_shape.nd rfl (Or.inl rfl)) (pgs_cons (pg_name (i := 2) sc_check_shape.nd rfl (Or.inl rfl)) (pgs_cons (pg_name (i := 3) sc_check_shape.nd rfl (Or.inl rfl)) pgs_nil)))))
      (pss_cons (ps_if (pt_not (pt_val (pe_cal c_is_int_between (hr.mono (by decide)) pass0 (pa_cons pe_int (pa_cons (pe_gi T.i_MOST_BITS) (pa_cons (pv 1) pa_nil)))))) (pss_one (ps_raise rfl (takes_of rfl rfl rfl rfl) (pmk_err (k := 1) TE.x_InvalidShape (hr.mono (by decide)) (pa_cons pe_int pa_nil)))) pss_nil)
      (pss_cons (ps_if (pt_not (pt_val (pe_cal c_is_parity (hr.mono (by decide)) pass0 (pa_cons (pv 2) pa_nil)))) (pss_one (ps_raise rfl (takes_of rfl rfl rfl rfl) (pmk_err (k := 1) TE.x_InvalidShape (hr.mono (by decide)) (pa_cons pe_int pa_nil)))) pss_nil)
      (pss_one (ps_if (pt_not (pt_val (pe_cal c_is_int_between (hr.mono (by decide)) pass0 (pa_cons pe_int (pa_cons (pe_gi T.i_MOST_STOPS) (pa_cons (pv 3) pa_nil)))))) (pss_one (ps_raise rfl (takes_of rfl rfl rfl rfl) (pmk_err (k := 1) TE.x_InvalidShape (hr.mono (by decide)) (pa_cons pe_int pa_nil)))) pss_nil)))))), ?_⟩)
  · obtain ⟨g, o, rfl, _⟩ := h
    rfl
  · obtain ⟨g, o, rfl, sh, q, r⟩ := h
    cases sh with
    | @no n ty hn =>
      refine ⟨_, rfl, g, .ty "tuple", _, _, false, rfl, .ty _, ty.x, ?_, _, rfl, ?_⟩
      · have e := ty.kit (m := "tuple") (by simp)
        exact e.trans (by simp [hn])
      · exact iteT ⟨_, rfl, .inl rfl, fun d hd => r _ rfl d hd⟩
    | @many a xs e ty hl =>
      subst e
      refine ⟨_, rfl, _, .ty "tuple", _, _, true, rfl, .ty _, (TyN.tup ty).x, ki, true, rfl, iteF ?_⟩
      refine ⟨_, rfl, a, xs, rfl, .inr ty, rfl, _, rfl, ite2 (fun _ => ⟨_, rfl, .inl rfl, fun d hd => r _ rfl d hd⟩) (fun h => ?_)⟩
      have h2 : xs.length = 3 := by
        simp at h
        omega
      exact absurd h2 hl
    | @three a x y z e ty hx hy hz =>
      subst e
      refine ⟨_, rfl, _, .ty "tuple", _, _, true, rfl, .ty _, (TyN.tup ty).x, ki, true, rfl, iteF ?_⟩
      refine ⟨_, rfl, a, _, rfl, .inr ty, rfl, _, rfl, iteNS rfl ?_⟩
      refine ⟨_, rfl, a, _, rfl, ty, rfl, _, _, rfl, _, _, rfl, _, _, rfl, rfl, ?_⟩
      obtain ⟨nx, hx⟩ := hx
      obtain ⟨nz, hz⟩ := hz
      have bt : ∀ {lo hi : Int} {v : V} {n : String} {b : Bool}, TyN K H v n → (∀ i, v = .int i → b = decide (lo ≤ i ∧ i ≤ hi)) → (n ≠ "int" → b = false) → b = okB lo hi v := by
        intro lo hi v n b t h1 h2
        cases t with
        | int i => exact h1 i rfl
        | _ => exact h2 (by decide)
      refine ⟨_, rfl, 1, 9, x, nx, rfl, hx, fun b r1 r2 => ⟨b, rfl, ?_⟩⟩
      have e1 := bt hx r1 r2
      clear r1 r2
      subst e1
      by_cases h1 : okB 1 9 x = true
      · rw [h1]
        refine iteF ⟨_, rfl, y, rfl, hy, _, rfl, ?_⟩
        by_cases h2 : okP y = true
        · rw [h2]
          refine iteF ⟨_, rfl, 1, 2, z, nz, rfl, hz, fun b r1 r2 => ⟨b, rfl, ?_⟩⟩
          have e1 := bt hz r1 r2
          clear r1 r2
          subst e1
          by_cases h3 : okB 1 2 z = true
          · rw [h3]
            exact iteF (q (by simp [fltO, flt, h1, h2, h3]))
          · rw [Bool.eq_false_iff.mpr h3]
            exact iteT ⟨_, rfl, .inr ⟨2, rfl, by decide⟩, fun d hd => r _ (by simp [fltO, flt, h1, h2, h3]) d hd⟩
        · rw [Bool.eq_false_iff.mpr h2]
          exact iteT ⟨_, rfl, .inr ⟨1, rfl, by decide⟩, fun d hd => r _ (by simp [fltO, flt, h1, h2]) d hd⟩
      · rw [Bool.eq_false_iff.mpr h1]
        exact iteT ⟨_, rfl, .inr ⟨0, rfl, by decide⟩, fun d hd => r _ (by simp [fltO, flt, h1]) d hd⟩
end
end LW
namespace LW
open PySem PySem.Spec PyProof.Rows L2 Evl SB
section
variable {P : Program} {w : World} {K : PySem.W.Frag} {mg : Str → Option Value} {base : Heap}
/-! ### is_shape, size_of, is_number -/
theorem okP_s (p : Pa) : okP (.str p.s) = true := pa_in p
theorem isSh_as {H : Hp} {g : V} {b : Nat} {p : Pa} {s : Nat} (h : IsSh K H g b p s) : ∃ x y z, AsSh K H g (some (x, y, z)) ∧ fltO (some (x, y, z)) = none := by
  obtain ⟨t, rfl, sq, h1, h2, h3, h4⟩ := h
  refine ⟨_, _, _, .three rfl sq ⟨_, .int _⟩ ⟨_, .str _⟩ ⟨_, .int _⟩, ?_⟩
  have e1 : okB 1 9 (.int b) = true := decide_eq_true ⟨by omega, by omega⟩
  have e2 : okB 1 2 (.int s) = true := decide_eq_true ⟨by omega, by omega⟩
  simp [fltO, flt, e1, e2, okP_s p]
def sp_check_shape (K : PySem.W.Frag) : Sp := fun vs H Q _ => ∃ g b p s, vs = [g] ∧ IsSh K H g b p s ∧ Q .non H
theorem cal_check_shape (T : Tx K mg) (TE : TxE P K mg) : Cal P w K mg base CX0 3 "check_shape" ["shape"] (sp_check_shape K) := by
  refine (cal_check_shapeX T TE).calm.spm fun vs H Q E h => ?_
  obtain ⟨g, b, p, s, rfl, sh, q⟩ := h
  obtain ⟨x, y, z, h1, h2⟩ := isSh_as sh
  exact ⟨g, _, rfl, h1, fun _ => q, fun v e => by rw [h2] at e; cases e⟩
def sp_is_shape (K : PySem.W.Frag) : Sp := fun vs H Q _ => ∃ g o, vs = [g] ∧ AsSh K H g o ∧ ∀ H', Ex H H' → Q (.bl (fltO o).isNone) H'
theorem body_is_shape (T : Tx K mg) (TE : TxE P K mg) : ∀ (f : Addr) (cdv : Value) (A : Around) (outer : List Env) (s : Shared) (H : Hp) (vs : List V) (Q : VK) (E : XK), Room 3 (A.deeper (envOfC "is_shape" (defScope s_is_shape) s.heap.objs.size f cdv)) → sp_is_shape K vs H Q E →
      ∃ t, PSs (cxOf CX0 P w K mg base ["value"] "is_shape" (defScope s_is_shape) f cdv A outer s H E).nox (defBody s_is_shape) t ∧ t { nx := fun _ H' => Q .non H', rt := Q } (start ["value"] vs) H := by
  have x_check_shape := cal_check_shapeX (w := w) (base := base) T TE
  refine fun f cdv A outer s H vs Q E hr h => ⟨_, (pss_cons (ps_try_only (Wout := fun _ _ _ _ => False) rfl rfl ⟨rfl, by decide, .inl TE.x_InvalidShape.gC⟩ takes0 (fun W pn xe tk _ => (pss_one (ps_expr (pe_calS x_check_shape (hr.mono (by decide)) (fun _ => passAt tk _) (pa_cons (pv 0) pa_nil))))) (fun a oe cls d pn hz hf => (pss_one (ps_ret pe_bl))))
      (pss_one (ps_ret pe_bl))), ?_⟩
  obtain ⟨g, o, rfl, sh, q⟩ := h
  refine ⟨g, rfl, g, o, rfl, sh, fun e => ?_, fun v e d hd => ?_⟩
  · have z := q H (Ex.refl H)
    rw [e] at z
    exact z
  · refine ⟨true, TE.x_InvalidShape.te, fun _ a0 _ => ?_, fun z => Bool.noConfusion z⟩
    have z := q (upd H d (.xd [("index", v)])) (Ex.new hd)
    rw [e] at z
    exact z
theorem len1 {α : Type} {g : α} {x : Str} : [g].length = [x].length := rfl
theorem len_is_shape {vs H Q} {E : XK} (h : sp_is_shape K vs H Q E) : vs.length = (["value"] : List Str).length := by
  obtain ⟨g, o, rfl, _⟩ := h
  rfl
theorem cal_is_shape (T : Tx K mg) (TE : TxE P K mg) : Cal P w K mg base CX0 4 "is_shape" ["value"] (sp_is_shape K) :=
  T.d_is_shape.cal sc_is_shape (fun vs H Q E h => len_is_shape h) (fun _ _ _ _ _ _ us hl => match us, hl with | [_], _ => rfl) (body_is_shape T TE)
theorem cal_is_shapeK (T : Tx K mg) (TE : TxE P K mg) : CalK P w K mg base CX0 4 "is_shape" ["value"] ["value"] (gPm [0]) (sp_is_shape K) := by
  refine T.d_is_shape.calK (gPm [0]) (fun kV doc pm an cdv ct us ws hl => ?_) (rel_gPm _) sc_is_shape (fun vs H Q E h => len_is_shape h) (body_is_shape T TE)
  match us, ws, hl with
  | [], [a], _ => rfl
def sp_size (K : PySem.W.Frag) : Sp := fun vs H Q _ => ∃ g b p s, vs = [g] ∧ IsSh K H g b p s ∧ Q (.int (sz b p s : Nat)) H
theorem body_size (T : Tx K mg) (TE : TxE P K mg) : ∀ (f : Addr) (cdv : Value) (A : Around) (outer : List Env) (s : Shared) (H : Hp) (vs : List V) (Q : VK) (E : XK), Room 3 (A.deeper (envOfC "size_of" (defScope s_size_of) s.heap.objs.size f cdv)) → sp_size K vs H Q E →
      ∃ t, PSs (cxOf CX0 P w K mg base ["shape", "bits", "parity", "stops", "parity_bits"] "size_of" (defScope s_size_of) f cdv A outer s H E).nox (defBody s_size_of) t ∧ t { nx := fun _ H' => Q .non H', rt := Q } (start ["shape", "bits", "parity", "stops", "parity_bits"] vs) H := by
  have c_check_shape := cal_check_shape (P := P) (w := w) (base := base) T TE
  refine fun f cdv A outer s H vs Q E hr h => ⟨_, (pss_cons (ps_expr (pe_cal c_check_shape (hr.mono (by decide)) pass0 (pa_cons (pv 0) pa_nil)))
      (pss_cons (ps_asg (pv 0) (pg_tup rfl (pgs_cons (pg_name (i := 1) sc_size_of.nd rfl (Or.inl rfl)) (pgs_cons (pg_name (i := 2) sc_size_of.nd rfl (Or.inl rfl)) (pgs_cons (pg_name (i := 3) sc_size_of.nd rfl (Or.inl rfl)) pgs_nil)))))
      (pss_cons (ps_set (i := 4) sc_size_of.nd rfl (Or.inl rfl) (pe_ifExp (pt_cmpR op_eq (pv 2) pe_str (nomark _)) pe_int pe_int))
      (pss_one (ps_ret (pe_op op_add (pe_op op_add (pe_op op_add pe_int (pv 1)) (pv 4)) (pv 3))))))), ?_⟩
  obtain ⟨g, b, p, s, rfl, sh, q⟩ := h
  refine ⟨_, rfl, g, b, p, s, rfl, sh, ?_⟩
  obtain ⟨t, rfl, sq, h1, h2, h3, h4⟩ := id sh
  refine ⟨_, rfl, t, _, rfl, sq, rfl, _, _, rfl, _, _, rfl, _, _, rfl, rfl, ?_⟩
  refine ⟨_, rfl, rfl, _, rfl, ?_⟩
  rw [no_is p]
  have fin : ∀ z : Int, z = (plen p : Nat) → Q (.int (1 + (b : Int) + z + (s : Int))) H := fun z e => by
    have e2 : 1 + (b : Int) + z + (s : Int) = ((sz b p s : Nat) : Int) := by
      unfold sz
      omega
    rw [e2]
    exact q
  cases p with
  | no => exact iteT ⟨_, rfl, _, _, rfl, rfl, _, rfl, _, _, rfl, rfl, _, rfl, _, _, rfl, rfl, fin 0 rfl⟩
  | ev => exact iteF ⟨_, rfl, _, _, rfl, rfl, _, rfl, _, _, rfl, rfl, _, rfl, _, _, rfl, rfl, fin 1 rfl⟩
  | od => exact iteF ⟨_, rfl, _, _, rfl, rfl, _, rfl, _, _, rfl, rfl, _, rfl, _, _, rfl, rfl, fin 1 rfl⟩
theorem len_size {vs H Q} {E : XK} (h : sp_size K vs H Q E) : vs.length = (["shape"] : List Str).length := by
  obtain ⟨g, b, p, s, rfl, _⟩ := h
  rfl
theorem cal_size (T : Tx K mg) (TE : TxE P K mg) : Cal P w K mg base CX0 4 "size_of" ["shape"] (sp_size K) :=
  T.d_size_of.cal sc_size_of (fun vs H Q E h => len_size h) (fun _ _ _ _ _ _ us hl => match us, hl with | [_], _ => rfl) (body_size T TE)
theorem cal_sizeK (T : Tx K mg) (TE : TxE P K mg) : CalK P w K mg base CX0 4 "size_of" ["shape"] ["shape"] (gPm [0]) (sp_size K) := by
  refine T.d_size_of.calK (gPm [0]) (fun kV doc pm an cdv ct us ws hl => ?_) (rel_gPm _) sc_size_of (fun vs H Q E h => len_size h) (body_size T TE)
  match us, ws, hl with
  | [], [a], _ => rfl
def nB (b : Nat) : V → Bool
  | .int i => decide (0 ≤ i ∧ i < 2 ^ b)
  | _ => false
def sp_is_number (K : PySem.W.Frag) : Sp := fun vs H Q _ => ∃ g b p s v, vs = [g, v] ∧ IsSh K H g b p s ∧ Any K H v ∧ Q (.bl (nB b v)) H
theorem body_is_number (T : Tx K mg) (TE : TxE P K mg) : ∀ (f : Addr) (cdv : Value) (A : Around) (outer : List Env) (s : Shared) (H : Hp) (vs : List V) (Q : VK) (E : XK), Room 3 (A.deeper (envOfC "is_number" (defScope s_is_number) s.heap.objs.size f cdv)) → sp_is_number K vs H Q E →
      ∃ t, PSs (cxOf CX0 P w K mg base ["shape", "value"] "is_number" (defScope s_is_number) f cdv A outer s H E).nox (defBody s_is_number) t ∧ t { nx := fun _ H' => Q .non H', rt := Q } (start ["shape", "value"] vs) H := by
  have c_check_shape := cal_check_shape (P := P) (w := w) (base := base) T TE
  have c_fits := cal_fits (P := P) (w := w) (base := base) T
  refine fun f cdv A outer s H vs Q E hr h => ⟨_, (pss_cons (ps_expr (pe_cal c_check_shape (hr.mono (by decide)) pass0 (pa_cons (pv 0) pa_nil)))
      (pss_one (ps_ret (pe_cal c_fits (hr.mono (by decide)) pass0 (pa_cons (pv 0) (pa_cons (pv 1) pa_nil)))))), ?_⟩
  obtain ⟨g, b, p, s, v, rfl, sh, ⟨n, ty⟩, q⟩ := h
  refine ⟨g, rfl, g, b, p, s, rfl, sh, g, rfl, v, rfl, g, b, p, s, v, n, rfl, sh, ty, fun r r1 r2 => ?_⟩
  have e : r = nB b v := by
    cases ty with
    | int i => exact r1 i rfl
    | _ => exact r2 (by decide)
  rw [e]
  exact q
theorem len_is_number {vs H Q} {E : XK} (h : sp_is_number K vs H Q E) : vs.length = (["shape", "value"] : List Str).length := by
  obtain ⟨g, b, p, s, v, rfl, _⟩ := h
  rfl
theorem cal_is_number (T : Tx K mg) (TE : TxE P K mg) : Cal P w K mg base CX0 4 "is_number" ["shape", "value"] (sp_is_number K) :=
  T.d_is_number.cal sc_is_number (fun vs H Q E h => len_is_number h) (fun _ _ _ _ _ _ us hl => match us, hl with | [_, _], _ => rfl) (body_is_number T TE)
theorem cal_is_numberK (T : Tx K mg) (TE : TxE P K mg) : CalK P w K mg base CX0 4 "is_number" ["value", "shape"] ["shape", "value"] (gPm [1, 0]) (sp_is_number K) := by
  refine T.d_is_number.calK (gPm [1, 0]) (fun kV doc pm an cdv ct us ws hl => ?_) (rel_gPm _) sc_is_number (fun vs H Q E h => len_is_number h) (body_is_number T TE)
  match us, ws, hl with
  | [], [a, b], _ => rfl
end
end LW
namespace LW
open PySem PySem.Spec PyProof.Rows L2 Evl SB
section
variable {P : Program} {w : World} {K : PySem.W.Frag} {mg : Str → Option Value} {base : Heap}
/-! ### the law's draws -/
def sp_source (K : PySem.W.Frag) : Sp := fun vs H Q _ => ∃ (a : Addr) (ns : List Int) (i : Nat), vs = [.ref a, .int (i : Nat)] ∧ SqL K H a (ns.map V.int) ∧ i ≤ 1000 ∧ ∀ l H', H l = none → Ex H H' → Src H' l 0 → Q (.ref l) H'
theorem cal_source (T : Tx K mg) : Cal P w K mg base CX0 1 "_law_source" ["_law_script", "_law_at"] (sp_source K) := by
  refine T.d_law_source.cal sc_law_source (fun vs H Q E h => ?_) (fun _ _ _ _ _ _ us hl => match us, hl with | [_, _], _ => rfl) (fun f cdv A outer s H vs Q E hr h => ⟨_, (pss_cons (ps_set (i := 2) sc_law_source.nd rfl (Or.inl rfl) (pe_ifExp (pt_cmpR op_lt (pv 1) (pe_callB call_len_seq (by rfl) T.b_len (by decide +kernel) (pa_cons (pv 0) pa_nil)) (nomark _)) (pe_ix ix_list (pv 0) (pv 1) (fun _ _ => rfl)) pe_int))
      (pss_cons (ps_set (i := 3) sc_law_source.nd rfl (Or.inl rfl) (pe_ifExp (pt_cmpR op_ge (pe_callB call_abs (by rfl) T.b_abs (by decide +kernel) (pa_cons (pv 2) pa_nil)) (pe_op op_powB pe_int pe_int) (nomark _)) (pe_op op_sub (pe_callB call_abs (by rfl) T.b_abs (by decide +kernel) (pa_cons (pv 2) pa_nil)) (pe_op op_powB pe_int pe_int)) pe_int))
      (pss_one (ps_ret (pe_lst (pa_cons (pv 3) (pa_cons (pe_op op_add (pe_op op_mod (pe_callTy call_int1 (by rfl) T.b_int (by decide +kernel) (pa_cons (pv 2) pa_nil)) pe_int) (pe_op op_mul pe_int (pv 1))) (pa_cons pe_int pa_nil)))))))), ?_⟩)
  · obtain ⟨a, ns, i, rfl, _⟩ := h
    rfl
  · obtain ⟨a, ns, i, rfl, sq, hi, q⟩ := h
    refine seq_any (P := fun v => ∃ z : Int, v = .int z) (fun Q' k => ?_) ?_
    · refine ⟨_, rfl, _, rfl, a, _, rfl, .inl sq, _, _, rfl, rfl, _, rfl, ite2 (fun h => ?_) (fun _ => k _ ⟨0, rfl⟩)⟩
      have h1 : i < ns.length := by
        have h2 := of_decide_eq_true h
        rw [List.length_map] at h2
        omega
      have g : (ns.map V.int)[i]? = some (.int ns[i]) := by
        rw [List.getElem?_map, List.getElem?_eq_getElem h1]
        rfl
      exact ⟨_, rfl, _, rfl, a, _, _, _, rfl, rfl, sq, atI_nat g, k _ ⟨_, rfl⟩⟩
    rintro _ ⟨z, rfl⟩
    refine seq_any (P := fun v => ∃ z : Int, v = .int z) (fun Q' k => ?_) ?_
    · refine ⟨_, rfl, z, rfl, 10, 18, rfl, rfl, cpow10 18 (by decide) (by decide), _, _, rfl, rfl, _, rfl, ite2 (fun h => ?_) (fun _ => k _ ⟨0, rfl⟩)⟩
      exact ⟨_, rfl, z, rfl, 10, 18, rfl, rfl, cpow10 18 (by decide) (by decide), _, _, rfl, rfl, k _ ⟨_, rfl⟩⟩
    rintro _ ⟨y, rfl⟩
    refine ⟨_, rfl, _, rfl, .inl ⟨z, rfl, _, _, rfl, rfl, (by show (0 : Int) < 2305843009213693951; decide), _, rfl, _, _, rfl, rfl, .inl ⟨by decide, by decide⟩, _, _, rfl, rfl, (by show 3 ≤ sizeLine; decide), fun l nl => ?_⟩⟩
    refine q l _ nl (Ex.new nl) ⟨_, _, _, upd_same, ?_, ?_, Int.le_refl _, Int.le_refl _⟩
    · have h1 := Int.emod_nonneg z (show (2305843009213693951 : Int) ≠ 0 by decide)
      show 0 ≤ z % 2305843009213693951 + 1000003 * (i : Int)
      omega
    · have h1 := Int.emod_lt_of_pos z (show (0 : Int) < 2305843009213693951 by decide)
      show z % 2305843009213693951 + 1000003 * (i : Int) < 4611686018427387904
      omega
def sp_draw : Sp := fun vs H Q _ => ∃ (a : Addr) (m : Int) (n : Nat), vs = [.ref a, .int m] ∧ Src H a n ∧ n ≤ 1000000 ∧ 0 < m ∧ m < 2 ^ 200 ∧
  ∀ d H', 0 ≤ d → d < m → Src H' a (n + 1) → Kp a H H' → Q (.int d) H'
theorem cal_draw (T : Tx K mg) : Cal P w K mg base CX0 1 "_law_draw" ["_law_source_here", "_law_many"] sp_draw := by
  refine T.d_law_draw.cal sc_law_draw (fun vs H Q E h => ?_) (fun _ _ _ _ _ _ us hl => match us, hl with | [_, _], _ => rfl) (fun f cdv A outer s H vs Q E hr h => ⟨_, (pss_cons (ps_if (pt_cmpR op_gt (pe_ix ix_list (pv 0) pe_int (fun _ _ => rfl)) pe_int (nomark _)) (pss_cons (ps_set (i := 2) sc_law_draw.nd rfl (Or.inl rfl) (pe_op op_mod (pe_callTy call_int1 (by rfl) T.b_int (by decide +kernel) (pa_cons (pe_ix ix_list (pv 0) pe_int (fun _ _ => rfl)) pa_nil)) (pv 1)))
      (pss_cons (ps_asg (pe_op op_fdivW (pe_ix ix_list (pv 0) pe_int (fun _ _ => rfl)) (pv 1)) (pg_sub (pv 0) pe_int set_list))
      (pss_one (ps_ret (pv 2))))) pss_nil)
      (pss_cons (ps_asg (pe_op op_add (pe_ix ix_list (pv 0) pe_int (fun _ _ => rfl)) pe_int) (pg_sub (pv 0) pe_int set_list))
      (pss_cons (ps_set (i := 3) sc_law_draw.nd rfl (Or.inl rfl) (pe_op op_add (pe_ix ix_list (pv 0) pe_int (fun _ _ => rfl)) (pe_op op_mul pe_int (pe_ix ix_list (pv 0) pe_int (fun _ _ => rfl)))))
      (pss_cons (ps_set (i := 3) sc_law_draw.nd rfl (Or.inl rfl) (pe_op op_add (pe_op op_mod (pe_callTy call_int1 (by rfl) T.b_int (by decide +kernel) (pa_cons (pe_op op_powB (pv 3) pe_int) pa_nil)) (pe_op op_add (pe_op op_powB pe_int pe_int) pe_int)) (pe_op op_mul pe_int (pe_ix ix_list (pv 0) pe_int (fun _ _ => rfl)))))
      (pss_cons (ps_set (i := 3) sc_law_draw.nd rfl (Or.inl rfl) (pe_op op_mod (pe_callTy call_int1 (by rfl) T.b_int (by decide +kernel) (pa_cons (pe_op op_powB (pv 3) pe_int) pa_nil)) (pe_op op_add (pe_op op_powB pe_int pe_int) pe_int)))
      (pss_one (ps_ret (pe_op op_mod (pe_callTy call_int1 (by rfl) T.b_int (by decide +kernel) (pa_cons (pe_op op_fdivW (pv 3) pe_int) pa_nil)) (pv 1))))))))), ?_⟩)
  · obtain ⟨a, m, n, rfl, _⟩ := h
    rfl
  · obtain ⟨a, m, n, rfl, ⟨l, sd, c, hH, s0, s1, c0, c1⟩, hn, m0, m1, q⟩ := h
    have sq := sq_of (K := K) hH
    have wd : CDivW 0 m := wide_div (b := 200) m0 (by
      have e : (2 : Int) ^ 200 = ((2 ^ 200 : Nat) : Int) := by norm_cast
      omega) (by decide) (by decide)
    refine ⟨_, rfl, a, _, 0, _, rfl, rfl, sq, rfl, l, 0, rfl, rfl, _, rfl, ite2 (fun h => ?_) (fun _ => ?_)⟩
    · refine ⟨_, rfl, a, _, 0, _, rfl, rfl, sq, rfl, .inl ⟨l, rfl, _, rfl, _, _, rfl, rfl, m0, ?_⟩⟩
      refine ⟨_, rfl, a, _, 0, _, rfl, rfl, sq, rfl, _, rfl, _, _, rfl, rfl, wd, _, rfl, a, _, 0, 0, rfl, rfl, hH, rfl, ?_⟩
      exact ⟨_, rfl, q _ _ (Int.emod_nonneg l (by omega)) (Int.emod_lt_of_pos l m0) ⟨_, sd, c, upd_same, s0, s1, c0, by omega⟩ Kp.upd⟩
    · refine ⟨_, rfl, a, _, 2, _, rfl, rfl, sq, rfl, c, 1, rfl, rfl, _, rfl, a, _, 2, 2, rfl, rfl, hH, rfl, ?_⟩
      have h1 : (upd H a (.lst ([V.int l, .int sd, .int c].set 2 (.int (c + 1))))) a = some (.lst [.int l, .int sd, .int (c + 1)]) := upd_same
      have kp : Kp a H (upd H a (.lst ([V.int l, .int sd, .int c].set 2 (.int (c + 1))))) := Kp.upd
      generalize upd H a (.lst ([V.int l, .int sd, .int c].set 2 (.int (c + 1)))) = H1 at h1 kp
      have sq1 := sq_of (K := K) h1
      have src1 : Src H1 a (n + 1) := ⟨l, sd, c + 1, h1, s0, s1, by omega, by omega⟩
      refine ⟨_, rfl, a, _, 1, _, rfl, rfl, sq1, rfl, _, rfl, a, _, 2, _, rfl, rfl, sq1, rfl, _, _, rfl, rfl, .inl ⟨by decide, by decide⟩, _, _, rfl, rfl, ?_⟩
      have b1 : 0 ≤ sd + 2750159 * (c + 1) ∧ sd + 2750159 * (c + 1) < 2 ^ 250 := ⟨by omega, by omega⟩
      refine ⟨_, rfl, _, 3, rfl, rfl, cpow3 b1.1 b1.2, .inl ⟨_, rfl, 10, 38, rfl, rfl, cpow10 38 (by decide) (by decide), _, _, rfl, rfl, _, _, rfl, rfl, ?_, _, rfl, a, _, 2, _, rfl, rfl, sq1, rfl, _, _, rfl, rfl, .inl ⟨by decide, by decide⟩, _, _, rfl, rfl, ?_⟩⟩
      · show (0 : Int) < 10 ^ (38 : Int).toNat + 133
        decide
      have b2 : 0 ≤ (sd + 2750159 * (c + 1)) ^ (3 : Int).toNat % (10 ^ (38 : Int).toNat + 133) + 7368787 * (c + 1) ∧ (sd + 2750159 * (c + 1)) ^ (3 : Int).toNat % (10 ^ (38 : Int).toNat + 133) + 7368787 * (c + 1) < 2 ^ 250 := by
        have e : (10 : Int) ^ (38 : Int).toNat + 133 = 100000000000000000000000000000000000133 := by decide
        rw [e]
        generalize (sd + 2750159 * (c + 1)) ^ (3 : Int).toNat = u
        omega
      refine ⟨_, rfl, _, 3, rfl, rfl, cpow3 b2.1 b2.2, .inl ⟨_, rfl, 10, 41, rfl, rfl, cpow10 41 (by decide) (by decide), _, _, rfl, rfl, _, _, rfl, rfl, ?_, ?_⟩⟩
      · show (0 : Int) < 10 ^ (41 : Int).toNat + 217
        decide
      refine ⟨_, rfl, _, _, rfl, rfl, wide_div (b := 20) (by decide) (by decide) (by decide) (by decide), .inl ⟨_, rfl, _, rfl, _, _, rfl, rfl, m0, ?_⟩⟩
      exact q _ _ (Int.emod_nonneg _ (by omega)) (Int.emod_lt_of_pos _ m0) src1 kp
def sp_shape (K : PySem.W.Frag) : Sp := fun vs H Q _ => ∃ (a : Addr) (n : Nat), vs = [.ref a] ∧ Src H a n ∧ n ≤ 900000 ∧
  ∀ t b p s H', H t = none → Kp a H H' → Src H' a (n + 3) → H' t = some (.tup [.int (b : Nat), .str (Pa.s p), .int (s : Nat)]) → 1 ≤ b → b ≤ 9 → 1 ≤ s → s ≤ 2 → Q (.ref t) H'
theorem pa_at (d : Int) (h0 : 0 ≤ d) (h1 : d < 3) : ∃ p : Pa, atI [V.str "none", .str "even", .str "odd"] d = some (.str p.s) := by
  have : d = 0 ∨ d = 1 ∨ d = 2 := by omega
  rcases this with rfl | rfl | rfl
  · exact ⟨.no, rfl⟩
  · exact ⟨.ev, rfl⟩
  · exact ⟨.od, rfl⟩
theorem cal_shape (T : Tx K mg) : Cal P w K mg base CX0 2 "_law_shape" ["_law_source_here"] (sp_shape K) := by
  have c_law_draw := cal_draw (P := P) (w := w) (base := base) T
  refine T.d_law_shape.cal sc_law_shape (fun vs H Q E h => ?_) (fun _ _ _ _ _ _ us hl => match us, hl with | [_], _ => rfl) (fun f cdv A outer s H vs Q E hr h => ⟨_, (pss_cons (ps_set (i := 1) sc_law_shape.nd rfl (Or.inl rfl) (pe_ix ix_list (pe_lst (pa_cons pe_str (pa_cons pe_str (pa_cons pe_str pa_nil)))) (pe_cal c_law_draw (hr.mono (by decide)) pass0 (pa_cons (pv 0) (pa_cons pe_int pa_nil))) (fun _ _ => rfl)))
      (pss_one (ps_ret (pe_tup (pa_cons (pe_op op_add pe_int (pe_cal c_law_draw (hr.mono (by decide)) pass0 (pa_cons (pv 0) (pa_cons pe_int pa_nil)))) (pa_cons (pv 1) (pa_cons (pe_op op_add pe_int (pe_cal c_law_draw (hr.mono (by decide)) pass0 (pa_cons (pv 0) (pa_cons pe_int pa_nil)))) pa_nil))))))), ?_⟩)
  · obtain ⟨a, n, rfl, _⟩ := h
    rfl
  · obtain ⟨a, n, rfl, src, hn, q⟩ := h
    refine ⟨by decide, fun L nL => ?_⟩
    have L_a := src.ne nL
    refine ⟨_, rfl, a, 3, n, rfl, src.ex (Ex.new nL), by omega, by decide, by decide, fun d H1 d0 d1 src1 k1 => ?_⟩
    obtain ⟨p, hp⟩ := pa_at d d0 d1
    refine ⟨L, _, d, _, rfl, rfl, sq_of (k1 L _ L_a upd_same), hp, ?_⟩
    refine ⟨_, rfl, a, 9, n + 1, rfl, src1, by omega, by decide, by decide, fun d2 H2 d20 d21 src2 k2 => ⟨_, _, rfl, rfl, _, rfl, _, rfl, a, 2, n + 2, rfl, src2, by omega, by decide, by decide, fun d3 H3 d30 d31 src3 k3 => ⟨_, _, rfl, rfl, (by show 3 ≤ sizeLine; decide), fun t nt => ?_⟩⟩⟩
    have t_a := src3.ne nt
    obtain ⟨b, hb⟩ : ∃ b : Nat, 1 + d2 = (b : Int) := ⟨(1 + d2).toNat, by omega⟩
    obtain ⟨s, hs⟩ : ∃ s : Nat, 1 + d3 = (s : Int) := ⟨(1 + d3).toNat, by omega⟩
    have kk : Kp a H (upd H3 t (.tup [.int (1 + d2), .str p.s, .int (1 + d3)])) := (((Ex.kp (Ex.new nL)).trans k1).trans (k2.trans k3)).trans (Ex.kp (Ex.new nt))
    have ft : H t = none := Kp.free (((Ex.kp (Ex.new nL)).trans k1).trans (k2.trans k3)) nt t_a
    refine q t b p s _ ft kk (src3.ex (Ex.new nt)) ?_ (by omega) (by omega) (by omega) (by omega)
    rw [← hb, ← hs]
    exact upd_same
end
end LW
namespace LW
open PySem PySem.Spec PyProof.Rows L2 Evl SB
/-! values that last while lists are written over -/
def Lk (H H' : Hp) : Prop := ∀ b o, H b = some o → H' b = some o ∨ ((∃ ys, o = .lst ys) ∧ ∃ zs, H' b = some (.lst zs))
theorem Lk.trans {H H1 H2 : Hp} (x : Lk H H1) (y : Lk H1 H2) : Lk H H2 := fun b o h => by
  rcases x b o h with h1 | ⟨h0, zs, h1⟩
  · exact y b o h1
  · rcases y b _ h1 with h2 | ⟨_, h2⟩
    · exact .inr ⟨h0, _, h2⟩
    · exact .inr ⟨h0, h2⟩
theorem Lk.ex {H H' : Hp} (e : Ex H H') : Lk H H' := fun b o h => .inl (e b o h)
theorem Lk.upd {H : Hp} {p : Addr} {ys zs : List V} (h : H p = some (.lst ys)) : Lk H (upd H p (.lst zs)) := fun b o hb => by
  by_cases e : b = p
  · subst e
    rw [h] at hb
    cases hb
    exact .inr ⟨⟨_, rfl⟩, _, upd_same⟩
  · left
    rw [upd_ne e]
    exact hb
theorem Lk.kp {a : Addr} {H H' : Hp} {n m : Nat} (k : Kp a H H') (h : Src H a n) (h' : Src H' a m) : Lk H H' := fun b o hb => by
  by_cases e : b = a
  · subst e
    obtain ⟨ys, e1⟩ := h.at
    obtain ⟨zs, e2⟩ := h'.at
    rw [e1] at hb
    cases hb
    exact .inr ⟨⟨_, rfl⟩, _, e2⟩
  · exact .inl (k b o e hb)
theorem any_lk {K : PySem.W.Frag} {H H' : Hp} {v : V} (k : Lk H H') (h : Any K H v) : Any K H' v := by
  obtain ⟨n, h⟩ := h
  cases h with
  | non => exact ⟨_, .non⟩
  | bl b => exact ⟨_, .bl b⟩
  | int i => exact ⟨_, .int i⟩
  | str x => exact ⟨_, .str x⟩
  | lst h =>
    rcases h with (h | ⟨o, h⟩) | h
    · rcases k _ _ h with h1 | ⟨_, zs, h1⟩
      · exact ⟨_, .lst (.inl (.inl h1))⟩
      · exact ⟨_, .lst (.inl (.inl h1))⟩
    · rcases k _ _ h with h1 | ⟨⟨ys, e⟩, _⟩
      · exact ⟨_, .lst (.inl (.inr ⟨o, h1⟩))⟩
      · cases e
    · exact ⟨_, .lst (.inr h)⟩
  | tup h =>
    rcases h with (h | ⟨o, h⟩) | h
    · rcases k _ _ h with h1 | ⟨⟨ys, e⟩, _⟩
      · exact ⟨_, .tup (.inl (.inl h1))⟩
      · cases e
    · rcases k _ _ h with h1 | ⟨⟨ys, e⟩, _⟩
      · exact ⟨_, .tup (.inl (.inr ⟨o, h1⟩))⟩
      · cases e
    · exact ⟨_, .tup (.inr h)⟩
  | dct h =>
    rcases k _ _ h with h1 | ⟨⟨ys, e⟩, _⟩
    · exact ⟨_, .dct h1⟩
    · cases e
theorem at_mem (xs : List V) {d : Int} (h0 : 0 ≤ d) (h1 : d < xs.length) : ∃ v, v ∈ xs ∧ atI xs d = some v := by
  obtain ⟨i, rfl⟩ := Int.eq_ofNat_of_zero_le h0
  have hi : i < xs.length := by omega
  exact ⟨xs[i], List.getElem_mem hi, atI_nat (List.getElem?_eq_getElem hi)⟩
theorem seq_anyH {te : TE} {i : Nat} {u : TS} {D : L2.Ends} {σ : L2.St} {H : Hp} {P : V → Hp → Prop} (h : ∀ Q' : VK, (∀ v H', P v H' → Q' v H') → te σ H Q') (k : ∀ v H', P v H' → u D (σ.set i (some v)) H') :
    tSeq (tAsg te (gName i)) u D σ H := h _ k
theorem pickL {K : PySem.W.Frag} {a L : Addr} {n : Nat} {m : Int} {xs : List V} {H H3 : Hp} {E : XK} {Q' : VK} (hm : m = (xs.length : Int)) (h0 : 0 < xs.length) (h1 : xs.length ≤ 1000) (src : Src H a n) (hn : n ≤ 1000000) (kp : Kp a H H3) (src3 : Src H3 a n) (hL : H3 L = some (.lst xs)) (ne : L ≠ a)
    (k : ∀ v H', v ∈ xs → Lk H3 H' → Kp a H H' → Src H' a (n + 1) → Q' v H') : sp_draw ([V.ref a, .int m] ++ []) H3 (fun d H5 => rIxL K (.ref L) d H5 Q') E := by
  subst hm
  refine ⟨a, _, n, rfl, src3, hn, by omega, ?_, fun d H5 d0 d1 src5 k5 => ?_⟩
  · have : (1000 : Int) < 2 ^ 200 := by decide
    omega
  obtain ⟨v, hv, hi⟩ := at_mem xs d0 d1
  exact ⟨L, _, d, _, rfl, rfl, sq_of (k5 L _ ne hL), hi, k v H5 hv (Lk.kp k5 src3 src5) (kp.trans k5) src5⟩
section
variable {P : Program} {w : World} {K : PySem.W.Frag} {mg : Str → Option Value} {base : Heap}
theorem cal_linteger (T : Tx K mg) : Cal P w K mg base CX0 1 "_law_is_integer" ["_law_thing"] (sp_is_int K) := by
  refine T.d_law_is_integer.cal sc_law_is_integer (fun vs H Q E h => ?_) (fun _ _ _ _ _ _ us hl => match us, hl with | [_], _ => rfl) (fun f cdv A outer s H vs Q E hr h => ⟨_, (pss_one (ps_ret (pe_and (pe_callB call_isi (by rfl) T.b_isinstance (by decide +kernel) (pa_cons (pv 0) (pa_cons (pe_bltn (v := .ty "int") (by rfl) T.b_int (by decide +kernel) rfl) pa_nil))) (pe_one (pe_not (pe_callB call_isi (by rfl) T.b_isinstance (by decide +kernel) (pa_cons (pv 0) (pa_cons (pe_bltn (v := .ty "bool") (by rfl) T.b_bool (by decide +kernel) rfl) pa_nil)))))))), ?_⟩)
  · obtain ⟨v, n, rfl, _⟩ := h
    rfl
  · obtain ⟨v, n, rfl, ty, q⟩ := h
    refine ⟨v, rfl, v, .ty "int", _, _, _, rfl, .ty _, ty.x, ty.kit (.inl rfl), _, rfl, ?_⟩
    cases ty with
    | int i => exact ⟨_, rfl, _, .ty "bool", _, _, _, rfl, .ty _, (TyN.int i : TyN K H _ _).x, (TyN.int i : TyN K H _ _).kit (.inr (.inl rfl)), _, rfl, q⟩
    | bl b => exact ⟨_, rfl, _, .ty "bool", _, _, _, rfl, .ty _, (TyN.bl b : TyN K H _ _).x, (TyN.bl b : TyN K H _ _).kit (.inr (.inl rfl)), _, rfl, q⟩
    | _ => exact q
def sp_odd (K : PySem.W.Frag) : Sp := fun vs H Q _ => ∃ (a : Addr) (n : Nat), vs = [.ref a] ∧ Src H a n ∧ n ≤ 800000 ∧
  ∀ g o H', Kp a H H' → Src H' a (n + 20) → AsSh K H' g o → Q g H'
theorem cal_odd (T : Tx K mg) : Cal P w K mg base CX0 3 "_law_odd_shape" ["_law_source_here"] (sp_odd K) := by
  have c_law_draw := cal_draw (P := P) (w := w) (base := base) T
  have c_law_shape := cal_shape (P := P) (w := w) (base := base) T
  refine T.d_law_odd_shape.cal sc_law_odd_shape (fun vs H Q E h => ?_) (fun _ _ _ _ _ _ us hl => match us, hl with | [_], _ => rfl) (fun f cdv A outer s H vs Q E hr h => ⟨_, (pss_cons (ps_set (i := 1) sc_law_odd_shape.nd rfl (Or.inl rfl) (pe_ix ix_list (pe_lst (pa_cons pe_int (pa_cons pe_int (pa_cons (pe_un un_neg pe_int) (pa_cons pe_int (pa_cons pe_int (pa_cons pe_bl (pa_cons pe_str (pa_cons pe_non (pa_cons (pe_op op_powB pe_int pe_int) (pa_cons (pe_lst (pa_cons pe_int pa_nil)) (pa_cons pe_int (pa_cons (pe_tup (pa_cons pe_int pa_nil)) pa_nil))))))))))))) (pe_cal c_law_draw (hr.mono (by decide)) pass0 (pa_cons (pv 0) (pa_cons pe_int pa_nil))) (fun _ _ => rfl)))
      (pss_cons (ps_set (i := 2) sc_law_odd_shape.nd rfl (Or.inl rfl) (pe_ix ix_list (pe_lst (pa_cons pe_str (pa_cons pe_str (pa_cons pe_str (pa_cons pe_str (pa_cons pe_str (pa_cons pe_int (pa_cons pe_non (pa_cons pe_bl (pa_cons (pe_lst (pa_cons pe_str pa_nil)) (pa_cons pe_str (pa_cons pe_str (pa_cons pe_str pa_nil))))))))))))) (pe_cal c_law_draw (hr.mono (by decide)) pass0 (pa_cons (pv 0) (pa_cons pe_int pa_nil))) (fun _ _ => rfl)))
      (pss_cons (ps_set (i := 3) sc_law_odd_shape.nd rfl (Or.inl rfl) (pe_ix ix_list (pe_lst (pa_cons pe_int (pa_cons pe_int (pa_cons (pe_un un_neg pe_int) (pa_cons pe_int (pa_cons pe_bl (pa_cons pe_str (pa_cons pe_non (pa_cons (pe_op op_powB pe_int pe_int) (pa_cons pe_int (pa_cons (pe_tup (pa_cons pe_int pa_nil)) (pa_cons pe_bl (pa_cons (pe_lst (pa_cons pe_int pa_nil)) pa_nil))))))))))))) (pe_cal c_law_draw (hr.mono (by decide)) pass0 (pa_cons (pv 0) (pa_cons pe_int pa_nil))) (fun _ _ => rfl)))
      (pss_cons (ps_set (i := 4) sc_law_odd_shape.nd rfl (Or.inl rfl) (pe_callTy call_list_of (by rfl) T.b_list (by decide +kernel) (pa_cons (pe_cal c_law_shape (hr.mono (by decide)) pass0 (pa_cons (pv 0) pa_nil)) pa_nil)))
      (pss_cons (ps_for PassesOwn.never rfl (pi_enum (by rfl) T.b_enumerate (pa_cons (pe_lst (pa_cons (pv 1) (pa_cons (pv 2) (pa_cons (pv 3) pa_nil)))) pa_nil)) (pg_tup rfl (pgs_cons (pg_name (i := 5) sc_law_odd_shape.nd rfl (Or.inl rfl)) (pgs_cons (pg_name (i := 6) sc_law_odd_shape.nd rfl (Or.inl rfl)) pgs_nil))) (pss_one (ps_if (pt_cmpR op_eq (pe_cal c_law_draw (hr.mono (by decide)) pass0 (pa_cons (pv 0) (pa_cons pe_int pa_nil))) pe_int (nomark _)) (pss_one (ps_asg (pv 6) (pg_sub (pv 4) (pv 5) set_list))) pss_nil)))
      (pss_cons (ps_set (i := 7) sc_law_odd_shape.nd rfl (Or.inl rfl) (pe_cal c_law_draw (hr.mono (by decide)) pass0 (pa_cons (pv 0) (pa_cons pe_int pa_nil))))
      (pss_cons (ps_if (pt_cmpR op_eq (pv 7) pe_int (nomark _)) (pss_one (ps_ret (pv 4))) pss_nil)
      (pss_cons (ps_if (pt_cmpR op_eq (pv 7) pe_int (nomark _)) (pss_one (ps_ret (pe_callTy call_tuple_of (by rfl) T.b_tuple (by decide +kernel) (pa_cons (pe_slice sl_list (pv 4) po_none (po_some (pe_cal c_law_draw (hr.mono (by decide)) pass0 (pa_cons (pv 0) (pa_cons pe_int pa_nil))))) pa_nil)))) pss_nil)
      (pss_cons (ps_if (pt_cmpR op_eq (pv 7) pe_int (nomark _)) (pss_one (ps_ret (pe_callTy call_tuple_of (by rfl) T.b_tuple (by decide +kernel) (pa_cons (pe_op op_cat (pv 4) (pe_lst (pa_cons pe_int pa_nil))) pa_nil)))) pss_nil)
      (pss_cons (ps_if (pt_cmpR op_eq (pv 7) pe_int (nomark _)) (pss_one (ps_ret (pe_ix ix_list (pe_lst (pa_cons pe_non (pa_cons pe_str (pa_cons pe_int (pa_cons pe_str (pa_cons (pe_tup pa_nil) (pa_cons (pe_disp (pps_cons pe_int pe_str pps_nil) (by rfl) (by rfl) (fun z => by cases z) (by decide)) (pa_cons pe_bl (pa_cons pe_str pa_nil))))))))) (pe_cal c_law_draw (hr.mono (by decide)) pass0 (pa_cons (pv 0) (pa_cons pe_int pa_nil))) (fun _ _ => rfl)))) pss_nil)
      (pss_one (ps_ret (pe_callTy call_tuple_of (by rfl) T.b_tuple (by decide +kernel) (pa_cons (pv 4) pa_nil)))))))))))))), ?_⟩)
  · obtain ⟨a, n, rfl, _⟩ := h
    rfl
  · obtain ⟨a, n, rfl, src, hn, q⟩ := h
    have c20 : CPowB 10 20 := cpow10 20 (by decide) (by decide)
    refine seq_anyH (P := fun v H' => Any K H' v ∧ Kp a H H' ∧ Src H' a (n + 1)) (fun Q' k => ?_) ?_
    · refine ⟨1, rfl, 10, 20, rfl, rfl, c20, (by show 1 ≤ sizeLine; decide), fun p1 n1 => ⟨(by show 1 ≤ sizeLine; decide), fun p2 n2 => ⟨(by show 12 ≤ sizeLine; decide), fun L nL => ⟨_, rfl, ?_⟩⟩⟩⟩
      have e1 : ∀ o, Ex H (upd (upd (upd H p1 (.lst [.int 8])) p2 (.tup [.int 8])) L o) := fun o => ((Ex.new n1).trans (Ex.new n2)).trans (Ex.new nL)
      have g1 : ∀ o, upd (upd (upd H p1 (.lst [.int 8])) p2 (.tup [.int 8])) L o p1 = some (.lst [.int 8]) := fun o => ((Ex.new n2).trans (Ex.new nL)) p1 _ upd_same
      have g2 : ∀ o, upd (upd (upd H p1 (.lst [.int 8])) p2 (.tup [.int 8])) L o p2 = some (.tup [.int 8]) := fun o => (Ex.new nL) p2 _ upd_same
      refine pickL (E := E0) (n := n) rfl (by simp) (by simp) src (by omega) (Ex.kp (e1 _)) (src.ex (e1 _)) upd_same ((src.ex ((Ex.new n1).trans (Ex.new n2))).ne nL) (fun v H' hv lk kp sr => k v H' ⟨any_lk lk ?_, kp, sr⟩)
      simp only [List.mem_cons, List.not_mem_nil, or_false] at hv
      rcases hv with rfl | rfl | rfl | rfl | rfl | rfl | rfl | rfl | rfl | rfl | rfl | rfl
      all_goals first | exact ⟨_, .int _⟩ | exact ⟨_, .str _⟩ | exact ⟨_, .non⟩ | exact ⟨_, .bl _⟩ | exact ⟨_, .lst (.inl (.inl (g1 _)))⟩ | exact ⟨_, .tup (.inl (.inl (g2 _)))⟩
    rintro bv H1 ⟨ab, kp1, src1⟩
    refine seq_anyH (P := fun v H' => Any K H' v ∧ Lk H1 H' ∧ Kp a H1 H' ∧ Src H' a (n + 2)) (fun Q' k => ?_) ?_
    · refine ⟨(by show 1 ≤ sizeLine; decide), fun p1 n1 => ⟨(by show 12 ≤ sizeLine; decide), fun L nL => ⟨_, rfl, ?_⟩⟩⟩
      have e1 : ∀ o, Ex H1 (upd (upd H1 p1 (.lst [.str "odd"])) L o) := fun o => (Ex.new n1).trans (Ex.new nL)
      have g1 : ∀ o, upd (upd H1 p1 (.lst [.str "odd"])) L o p1 = some (.lst [.str "odd"]) := fun o => (Ex.new nL) p1 _ upd_same
      refine pickL (E := E0) (n := n + 1) rfl (by simp) (by simp) src1 (by omega) (Ex.kp (e1 _)) (src1.ex (e1 _)) upd_same ((src1.ex (Ex.new n1)).ne nL) (fun v H' hv lk kp sr => k v H' ⟨any_lk lk ?_, (Lk.ex (e1 _)).trans lk, kp, sr⟩)
      simp only [List.mem_cons, List.not_mem_nil, or_false] at hv
      rcases hv with rfl | rfl | rfl | rfl | rfl | rfl | rfl | rfl | rfl | rfl | rfl | rfl
      all_goals first | exact ⟨_, .int _⟩ | exact ⟨_, .str _⟩ | exact ⟨_, .non⟩ | exact ⟨_, .bl _⟩ | exact ⟨_, .lst (.inl (.inl (g1 _)))⟩
    rintro pv H2 ⟨ap, lk2, kp2, src2⟩
    refine seq_anyH (P := fun v H' => Any K H' v ∧ Lk H2 H' ∧ Kp a H2 H' ∧ Src H' a (n + 3)) (fun Q' k => ?_) ?_
    · refine ⟨1, rfl, 10, 20, rfl, rfl, c20, (by show 1 ≤ sizeLine; decide), fun p1 n1 => ⟨(by show 1 ≤ sizeLine; decide), fun p2 n2 => ⟨(by show 12 ≤ sizeLine; decide), fun L nL => ⟨_, rfl, ?_⟩⟩⟩⟩
      have e1 : ∀ o, Ex H2 (upd (upd (upd H2 p1 (.tup [.int 1])) p2 (.lst [.int 2])) L o) := fun o => ((Ex.new n1).trans (Ex.new n2)).trans (Ex.new nL)
      have g1 : ∀ o, upd (upd (upd H2 p1 (.tup [.int 1])) p2 (.lst [.int 2])) L o p1 = some (.tup [.int 1]) := fun o => ((Ex.new n2).trans (Ex.new nL)) p1 _ upd_same
      have g2 : ∀ o, upd (upd (upd H2 p1 (.tup [.int 1])) p2 (.lst [.int 2])) L o p2 = some (.lst [.int 2]) := fun o => (Ex.new nL) p2 _ upd_same
      refine pickL (E := E0) (n := n + 2) rfl (by simp) (by simp) src2 (by omega) (Ex.kp (e1 _)) (src2.ex (e1 _)) upd_same ((src2.ex ((Ex.new n1).trans (Ex.new n2))).ne nL) (fun v H' hv lk kp sr => k v H' ⟨any_lk lk ?_, (Lk.ex (e1 _)).trans lk, kp, sr⟩)
      simp only [List.mem_cons, List.not_mem_nil, or_false] at hv
      rcases hv with rfl | rfl | rfl | rfl | rfl | rfl | rfl | rfl | rfl | rfl | rfl | rfl
      all_goals first | exact ⟨_, .int _⟩ | exact ⟨_, .str _⟩ | exact ⟨_, .non⟩ | exact ⟨_, .bl _⟩ | exact ⟨_, .tup (.inl (.inl (g1 _)))⟩ | exact ⟨_, .lst (.inl (.inl (g2 _)))⟩
    rintro sv H3 ⟨as, lk3, kp3, src3⟩
    have kpa := (kp1.trans kp2).trans kp3
    have ab3 := any_lk (lk2.trans lk3) ab
    have ap3 := any_lk lk3 ap
    refine seq_anyH (P := fun v H' => ∃ PL x y z, v = .ref PL ∧ H3 PL = none ∧ H' PL = some (.lst [x, y, z]) ∧ Any K H' x ∧ Any K H' y ∧ Any K H' z ∧ Lk H3 H' ∧ Kp a H3 H' ∧ Src H' a (n + 6)) (fun Q' k => ?_) ?_
    · refine ⟨_, rfl, a, n + 3, rfl, src3, by omega, fun t b p s H4 ht k4 src4 htup h1 h2 h3 h4 => ⟨t, _, rfl, .inr (.inl (.inl htup)), fun l hl => k _ _ ⟨l, _, _, _, rfl, ?_, upd_same, ⟨_, .int _⟩, ⟨_, .str _⟩, ⟨_, .int _⟩, ?_, k4.trans (Ex.kp (Ex.new hl)), src4.ex (Ex.new hl)⟩⟩⟩
      · exact Kp.free k4 hl (src4.ne hl)
      · exact (Lk.kp k4 src3 src4).trans (Lk.ex (Ex.new hl))
    rintro _ H4 ⟨PL, x, y, z, rfl, hPL, h4, ax, ay, az, lk4, kp4, src4⟩
    have ab4 := any_lk lk4 ab3
    have ap4 := any_lk lk4 ap3
    have as4 := any_lk lk4 as
    have hP : H PL = none := Kp.free kpa hPL (src3.ne hPL)
    have Pa : PL ≠ a := src3.ne hPL
    have kp4' := kpa.trans kp4
    clear lk4 lk3 lk2 ab3 ap3 ab ap as kp1 kp2 kp3 src1 src2 kpa kp4
    refine ⟨_, rfl, _, rfl, _, rfl, (by show 3 ≤ sizeLine; decide), fun EL nEL => ⟨EL, _, rfl, sq_of upd_same, ?_⟩⟩
    have EP : EL ≠ PL := fun e => by rw [e, h4] at nEL; cases nEL
    have Ea : EL ≠ a := src4.ne nEL
    have ex0 : ∀ o, Ex H4 (upd H4 EL o) := fun o => Ex.new nEL
    refine for_enum (K := K) (a := EL) (xs := [bv, pv, sv]) (fun i σ H5 => ∃ u v x y z, σ = [some (.ref a), some bv, some pv, some sv, some (.ref PL), u, v, none] ∧ H5 EL = some (.lst [bv, pv, sv]) ∧ H5 PL = some (.lst [x, y, z]) ∧
      Any K H5 x ∧ Any K H5 y ∧ Any K H5 z ∧ Any K H5 bv ∧ Any K H5 pv ∧ Any K H5 sv ∧ Kp a H H5 ∧ Src H5 a (n + 6 + i))
      ⟨none, none, x, y, z, rfl, upd_same, ex0 _ _ _ h4, ax.ex (ex0 _), ay.ex (ex0 _), az.ex (ex0 _), ab4.ex (ex0 _), ap4.ex (ex0 _), as4.ex (ex0 _), kp4'.trans (Ex.kp (ex0 _)), src4.ex (ex0 _)⟩
      (fun i σ H5 _ ⟨_, _, _, _, _, _, h, _⟩ => sq_of h) ?_ ?_
    · rintro i x0 T1 σ H5 hx ⟨u, v, x, y, z, rfl, hEL, hPL5, ax, ay, az, ab5, ap5, as5, kp5, src5⟩ nT
      have hi : i < 3 := (List.getElem?_eq_some_iff.mp hx).1
      have ex5 : ∀ o, Ex H5 (upd H5 T1 o) := fun o => Ex.new nT
      rcases (by omega : i = 0 ∨ i = 1 ∨ i = 2) with rfl | rfl | rfl <;> cases hx
      all_goals
        refine ⟨T1, _, rfl, .inl (.inl upd_same), rfl, _, _, rfl, _, _, rfl, rfl, ?_⟩
        refine ⟨_, rfl, a, 3, _, rfl, src5.ex (ex5 _), by omega, by decide, by decide, fun d H6 d0 d1 src6 k6 => ⟨rfl, _, rfl, ?_⟩⟩
        have hPL6 : H6 PL = some (.lst [x, y, z]) := k6 PL _ Pa (ex5 _ _ _ hPL5)
        have hEL6 : H6 EL = some (.lst [bv, pv, sv]) := k6 EL _ Ea (ex5 _ _ _ hEL)
        have lk6 : Lk H5 H6 := (Lk.ex (ex5 _)).trans (Lk.kp k6 (src5.ex (ex5 _)) src6)
        have kp6 : Kp a H H6 := (kp5.trans (Ex.kp (ex5 _))).trans k6
        refine ite2 (fun _ => ?_) (fun _ => ?_)
        · refine ⟨_, rfl, _, rfl, _, rfl, PL, _, _, _, rfl, rfl, hPL6, rfl, ?_⟩
          have lk7 : ∀ zs, Lk H5 (upd H6 PL (.lst zs)) := fun zs => lk6.trans (Lk.upd hPL6)
          exact ⟨_, _, _, _, _, rfl, (upd_ne EP).trans hEL6, upd_same, any_lk (lk7 _) (by assumption), any_lk (lk7 _) (by assumption), any_lk (lk7 _) (by assumption), any_lk (lk7 _) ab5, any_lk (lk7 _) ap5, any_lk (lk7 _) as5, kp6.mut hP, src6.upd Pa⟩
        · exact ⟨_, _, _, _, _, rfl, hEL6, hPL6, any_lk lk6 ax, any_lk lk6 ay, any_lk lk6 az, any_lk lk6 ab5, any_lk lk6 ap5, any_lk lk6 as5, kp6, src6⟩
    · rintro σ H5 ⟨u, v, x, y, z, rfl, hEL, hPL5, ax, ay, az, ab5, ap5, as5, kp5, src5⟩
      refine ⟨_, rfl, a, 12, _, rfl, src5, by simp; omega, by decide, by decide, fun d H6 d0 d1 src6 k6 => ?_⟩
      have hPL6 : H6 PL = some (.lst [x, y, z]) := k6 PL _ Pa hPL5
      have lk6 : Lk H5 H6 := Lk.kp k6 src5 src6
      have kp6 : Kp a H H6 := kp5.trans k6
      have bx := any_lk lk6 ax
      have by' := any_lk lk6 ay
      have bz := any_lk lk6 az
      have s6 : Src H6 a (n + 10) := src6.mono (by simp)
      have fin : ∀ {g o H'}, Kp a H6 H' → Src H' a (n + 11) → AsSh K H' g o → Q g H' := fun k s h => q _ _ _ (kp6.trans k) (s.mono (by omega)) h
      refine ⟨_, rfl, rfl, _, rfl, ite2 (fun _ => ⟨_, rfl, fin Kp.refl (s6.mono (by omega)) (.no (.lst (sq_of hPL6)) (by decide))⟩) (fun _ => ?_)⟩
      refine ⟨_, rfl, rfl, _, rfl, ite2 (fun _ => ?_) (fun _ => ?_)⟩
      · refine ⟨_, rfl, _, rfl, a, 3, n + 10, rfl, s6, by omega, by decide, by decide, fun d2 H7 d20 d21 src7 k7 => ⟨d2, rfl, PL, _, rfl, sq_of (k7 PL _ Pa hPL6), fun p np => ⟨p, _, rfl, .inl ⟨sq_of upd_same, fun l nl => ?_⟩⟩⟩⟩
        refine fin (k7.trans (Ex.kp ((Ex.new np).trans (Ex.new nl)))) (src7.ex ((Ex.new np).trans (Ex.new nl))) (.many rfl (.inl (.inl upd_same)) ?_)
        rcases (by omega : d2 = 0 ∨ d2 = 1 ∨ d2 = 2) with rfl | rfl | rfl <;> simp [cutV, HT.sIx]
      refine ⟨_, rfl, rfl, _, rfl, ite2 (fun _ => ?_) (fun _ => ?_)⟩
      · refine ⟨_, rfl, (by show 1 ≤ sizeLine; decide), fun p1 n1 => ⟨PL, p1, _, _, rfl, rfl, (Ex.new n1) _ _ hPL6, upd_same, (by show 4 ≤ sizeLine; decide), fun l nl => ⟨l, _, rfl, .inl ⟨sq_of upd_same, fun m nm => ?_⟩⟩⟩⟩
        have e : ∀ o, Ex H6 (upd (upd (upd H6 p1 (.lst [.int 1])) l (.lst ([x, y, z] ++ [.int 1]))) m o) := fun o => ((Ex.new n1).trans (Ex.new nl)).trans (Ex.new nm)
        exact fin (Ex.kp (e _)) ((s6.mono (by omega)).ex (e _)) (.many rfl (.inl (.inl upd_same)) (by simp))
      refine ⟨_, rfl, rfl, _, rfl, ite2 (fun _ => ?_) (fun _ => ?_)⟩
      · refine ⟨(by show 0 ≤ sizeLine; decide), fun p1 n1 => fun p2 n2 => ⟨upd_same, [(.inl 8, .str "none")], rfl, (by decide), ⟨(by show 8 ≤ sizeLine; decide), fun L nL => ⟨_, rfl, ?_⟩⟩⟩⟩
        generalize mergeK [] [(Sum.inl 8, V.str ("none" : Str))] = kvs at nL ⊢
        have e1 : Ex H6 (upd (upd (upd H6 p1 (.tup [])) p2 (.dK [])) p2 (.dK kvs)) := (Ex.new n1).trans (Ex.mut (Ex.new n2) n2)
        have e2 : ∀ o, Ex H6 (upd (upd (upd (upd H6 p1 (.tup [])) p2 (.dK [])) p2 (.dK kvs)) L o) := fun o => e1.trans (Ex.new nL)
        have g1 : ∀ o, upd (upd (upd (upd H6 p1 (.tup [])) p2 (.dK [])) p2 (.dK kvs)) L o p1 = some (.tup []) := fun o => ((Ex.mut (Ex.new n2) n2).trans (Ex.new nL)) p1 _ upd_same
        have g2 : ∀ o, upd (upd (upd (upd H6 p1 (.tup [])) p2 (.dK [])) p2 (.dK kvs)) L o p2 = some (.dK kvs) := fun o => (Ex.new nL) p2 _ upd_same
        refine pickL (E := E0) (n := n + 10) rfl (by simp) (by simp) s6 (by omega) (Ex.kp (e2 _)) (s6.ex (e2 _)) upd_same ((s6.ex e1).ne nL) (fun v H' hv lk kp sr => fin (o := none) kp sr ?_)
        simp only [List.mem_cons, List.not_mem_nil, or_false] at hv
        rcases hv with rfl | rfl | rfl | rfl | rfl | rfl | rfl | rfl
        · exact .no .non (by decide)
        · exact .no (.str _) (by decide)
        · exact .no (.int _) (by decide)
        · exact .no (.str _) (by decide)
        · rcases lk _ _ (g1 _) with h | ⟨⟨ys, h⟩, _⟩
          · exact .many rfl (.inl (.inl h)) (by simp)
          · cases h
        · rcases lk _ _ (g2 _) with h | ⟨⟨ys, h⟩, _⟩
          · exact .no (.dct h) (by decide)
          · cases h
        · exact .no (.bl _) (by decide)
        · exact .no (.str _) (by decide)
      · refine ⟨_, rfl, PL, _, rfl, .inl ⟨sq_of hPL6, fun l nl => ?_⟩⟩
        have e := Ex.new (o := .tup [x, y, z]) nl
        exact fin (Ex.kp e) ((s6.mono (by omega)).ex e) (.three rfl (.inl (.inl upd_same)) (bx.ex e) (by'.ex e) (bz.ex e))
end
end LW
namespace LW
open PySem PySem.Spec PyProof.Rows L2 Evl SB
section
variable {P : Program} {w : World} {K : PySem.W.Frag} {mg : Str → Option Value} {base : Heap}
/-! ### the law's own judgment -/
def lf (o : Option (V × V × V)) : V := (fltO o).getD (.int (-1))
theorem any_kit {H : Hp} {v : V} {n m : String} (h : TyN K H v n) (hm : m = "int" ∨ m = "bool" ∨ m = "str" ∨ m = "list" ∨ m = "tuple") {b : Bool} (hb : decide (n = m ∨ n = "bool" ∧ m = "int") = b) : PySem.W.kitOne K (.type n) (.type m) = some b := by
  rw [h.kit hm, hb]
theorem ty_ex {H H' : Hp} {v : V} {n : String} (e : Ex H H') (h : TyN K H v n) : TyN K H' v n := by
  cases h with
  | non => exact .non
  | bl b => exact .bl b
  | int i => exact .int i
  | str x => exact .str x
  | lst h => exact .lst (ex_l e h)
  | tup h => exact .tup (ex_t e h)
  | dct h => exact .dct (e _ _ h)
def sp_fault (K : PySem.W.Frag) : Sp := fun vs H Q _ => ∃ g o, vs = [g] ∧ AsSh K H g o ∧ ∀ H', Ex H H' → Q (lf o) H'
theorem cal_fault (T : Tx K mg) : Cal P w K mg base CX0 2 "_law_shape_fault" ["_law_thing"] (sp_fault K) := by
  have c_law_is_integer := cal_linteger (P := P) (w := w) (base := base) T
  refine T.d_law_shape_fault.cal sc_law_shape_fault (fun vs H Q E h => ?_) (fun _ _ _ _ _ _ us hl => match us, hl with | [_], _ => rfl) (fun f cdv A outer s H vs Q E hr h => ⟨_, (pss_cons (ps_if (PW.pt (pw_or (pt_not (pt_val (pe_callB call_isi (by rfl) T.b_isinstance (by decide +kernel) (pa_cons (pv 0) (pa_cons (pe_bltn (v := .ty "tuple") (by rfl) T.b_tuple (by decide +kernel) rfl) pa_nil))))) (pw_or1 (pt_cmpR op_ne (pe_callB call_len_seq (by rfl) T.b_len (by decide +kernel) (pa_cons (pv 0) pa_nil)) pe_int (nomark _))))) (pss_one (ps_ret pe_non)) pss_nil)
      (pss_cons (ps_if (PW.pt (pw_or (pt_not (pt_val (pe_cal c_law_is_integer (hr.mono (by decide)) pass0 (pa_cons (pe_ix ix_tup (pv 0) pe_int (fun _ _ => rfl)) pa_nil)))) (pw_or (pt_cmpR op_lt (pe_ix ix_tup (pv 0) pe_int (fun _ _ => rfl)) pe_int (nomark _)) (pw_or1 (pt_cmpR op_gt (pe_ix ix_tup (pv 0) pe_int (fun _ _ => rfl)) pe_int (nomark _)))))) (pss_one (ps_ret pe_int)) pss_nil)
      (pss_cons (ps_if (PW.pt (pw_or (pt_not (pt_val (pe_callB call_isi (by rfl) T.b_isinstance (by decide +kernel) (pa_cons (pe_ix ix_tup (pv 0) pe_int (fun _ _ => rfl)) (pa_cons (pe_bltn (v := .ty "str") (by rfl) T.b_str (by decide +kernel) rfl) pa_nil))))) (pw_or1 (pt_cmpR op_notIn_seq (pe_ix ix_tup (pv 0) pe_int (fun _ _ => rfl)) (pe_tup (pa_cons pe_str (pa_cons pe_str (pa_cons pe_str pa_nil)))) (by rfl))))) (pss_one (ps_ret pe_int)) pss_nil)
      (pss_cons (ps_if (PW.pt (pw_or (pt_not (pt_val (pe_cal c_law_is_integer (hr.mono (by decide)) pass0 (pa_cons (pe_ix ix_tup (pv 0) pe_int (fun _ _ => rfl)) pa_nil)))) (pw_or (pt_cmpR op_lt (pe_ix ix_tup (pv 0) pe_int (fun _ _ => rfl)) pe_int (nomark _)) (pw_or1 (pt_cmpR op_gt (pe_ix ix_tup (pv 0) pe_int (fun _ _ => rfl)) pe_int (nomark _)))))) (pss_one (ps_ret pe_int)) pss_nil)
      (pss_one (ps_ret (pe_un un_neg pe_int))))))), ?_⟩)
  · obtain ⟨g, o, rfl, _⟩ := h
    rfl
  · obtain ⟨g, o, rfl, sh, q⟩ := h
    cases sh with
    | @no n ty hn =>
      refine ⟨_, rfl, g, .ty "tuple", _, _, false, rfl, .ty _, ty.x, any_kit ty (by simp) (by simp [hn]), _, rfl, ?_⟩
      exact iteT (q H (Ex.refl H))
    | @many a xs e ty hl =>
      subst e
      refine ⟨_, rfl, _, .ty "tuple", _, _, true, rfl, .ty _, (TyN.tup ty).x, ki, true, rfl, iteF ?_⟩
      refine ⟨_, rfl, a, xs, rfl, .inr ty, rfl, _, rfl, ite2 (fun _ => q H (Ex.refl H)) (fun h => ?_)⟩
      have h2 : xs.length = 3 := by
        simp at h
        omega
      exact absurd h2 hl
    | @three a x y z e ty hx hy hz =>
      subst e
      refine ⟨_, rfl, _, .ty "tuple", _, _, true, rfl, .ty _, (TyN.tup ty).x, ki, true, rfl, iteF ?_⟩
      refine ⟨_, rfl, a, _, rfl, .inr ty, rfl, _, rfl, iteNS rfl ?_⟩
      obtain ⟨nx, hx⟩ := hx
      obtain ⟨ny, hy⟩ := hy
      obtain ⟨nz, hz⟩ := hz
      refine ⟨_, rfl, a, _, 0, _, rfl, rfl, ty, rfl, x, nx, rfl, hx, _, rfl, ?_⟩
      have f0 : okB 1 9 x = false → ∀ H', Ex H H' → Q (.int 0) H' := fun hb H' e => by
        have e1 : lf (some (x, y, z)) = .int 0 := by simp [lf, fltO, flt, hb]
        rw [← e1]
        exact q H' e
      have f1 : okB 1 9 x = true → okP y = false → ∀ H', Ex H H' → Q (.int 1) H' := fun hb hp H' e => by
        have e1 : lf (some (x, y, z)) = .int 1 := by simp [lf, fltO, flt, hb, hp]
        rw [← e1]
        exact q H' e
      have f2 : okB 1 9 x = true → okP y = true → okB 1 2 z = false → ∀ H', Ex H H' → Q (.int 2) H' := fun hb hp hc H' e => by
        have e1 : lf (some (x, y, z)) = .int 2 := by simp [lf, fltO, flt, hb, hp, hc]
        rw [← e1]
        exact q H' e
      have f3 : okB 1 9 x = true → okP y = true → okB 1 2 z = true → ∀ H', Ex H H' → Q (.int (-1)) H' := fun hb hp hc H' e => by
        have e1 : lf (some (x, y, z)) = .int (-1) := by simp [lf, fltO, flt, hb, hp, hc]
        rw [← e1]
        exact q H' e
      clear q
      cases hx with
      | int i =>
        refine iteF ⟨_, rfl, a, _, 0, _, rfl, rfl, ty, rfl, i, 1, rfl, rfl, _, rfl, ite2 (fun h => f0 ?_ H (Ex.refl H)) (fun h => ⟨_, rfl, a, _, 0, _, rfl, rfl, ty, rfl, i, 9, rfl, rfl, _, rfl, ite2 (fun h' => f0 ?_ H (Ex.refl H)) (fun h' => ?_)⟩)⟩
        · have := of_decide_eq_true h
          exact decide_eq_false (by omega)
        · have := of_decide_eq_true h'
          exact decide_eq_false (by omega)
        have hb : okB 1 9 (.int i) = true := by
          have h1 := of_decide_eq_false (Bool.eq_false_iff.mpr h)
          have h2 := of_decide_eq_false (Bool.eq_false_iff.mpr h')
          exact decide_eq_true (by omega)
        refine ⟨_, rfl, a, _, 1, _, rfl, rfl, ty, rfl, y, .ty "str", _, _, decide (ny = "str"), rfl, .ty _, hy.x, any_kit hy (by simp) (by simp), _, rfl, ?_⟩
        cases hy with
        | str py =>
          refine iteF ⟨_, rfl, a, _, 1, _, rfl, rfl, ty, rfl, (by show 3 ≤ sizeLine; decide), fun tp ntp => ?_⟩
          have e3 : ∀ o, Ex H (upd H tp o) := fun o => Ex.new ntp
          refine ⟨_, _, rfl, .inr (.inl (.inl upd_same)), rfl, rfl, _, rfl, ite2 (fun h3 => f1 hb ?_ _ (e3 _)) (fun h3 => ?_)⟩
          · show inV _ _ = false
            simpa using h3
          have hp : okP (.str py) = true := by
            show inV _ _ = true
            simpa using h3
          have ty3 := fun o => ex_t (e3 o) ty
          refine ⟨_, rfl, a, _, 2, _, rfl, rfl, ty3 _, rfl, z, nz, rfl, ty_ex (e3 _) hz, _, rfl, ?_⟩
          cases hz with
          | int j =>
            refine iteF ⟨_, rfl, a, _, 2, _, rfl, rfl, ty3 _, rfl, j, 1, rfl, rfl, _, rfl, ite2 (fun h => f2 hb hp ?_ _ (e3 _)) (fun h4 => ⟨_, rfl, a, _, 2, _, rfl, rfl, ty3 _, rfl, j, 2, rfl, rfl, _, rfl, ite2 (fun h' => f2 hb hp ?_ _ (e3 _)) (fun h5 => ?_)⟩)⟩
            · have := of_decide_eq_true h
              exact decide_eq_false (by omega)
            · have := of_decide_eq_true h'
              exact decide_eq_false (by omega)
            have hc : okB 1 2 (.int j) = true := by
              have h1 := of_decide_eq_false (Bool.eq_false_iff.mpr h4)
              have h2 := of_decide_eq_false (Bool.eq_false_iff.mpr h5)
              exact decide_eq_true (by omega)
            exact ⟨1, rfl, f3 hb hp hc _ (e3 _)⟩
          | _ => exact iteT (f2 hb hp rfl _ (e3 _))
        | _ => exact iteT (f1 hb rfl H (Ex.refl H))
      | _ => exact iteT (f0 rfl H (Ex.refl H))
/-! ### repr of small things -/
theorem shB (b : Bool) : (PyData.bool b).showable = true ∧ (PyData.bool b).hasDict = false ∧ (PyData.bool b).depth ≤ 60 ∧ (PyData.bool b).shown.length ≤ sizeLine := by
  cases b <;> exact ⟨by decide, by decide, by decide, by decide⟩
theorem shI {i : Int} (h : i.natAbs < 2 ^ 200) : (PyData.int i).showable = true ∧ (PyData.int i).hasDict = false ∧ (PyData.int i).depth ≤ 60 ∧ (PyData.int i).shown.length ≤ sizeLine := by
  have hl : i.natAbs.log2 < 200 := int_log (by decide) h
  refine ⟨?_, ?_, ?_, ?_⟩
  · simp only [PyData.showable, decide_eq_true_eq]
    omega
  · simp only [PyData.hasDict]
  · simp only [PyData.depth]
    decide
  · have ht : (Str.ofString (toString i)).length ≤ 201 := by
      rw [PySem.ofString_length]
      exact int_text_length_le (k := 200) (by decide) hl
    rw [sizeLine_eq]
    exact Nat.le_trans ht (by decide)
theorem str_eq (x : Str) : decide (V.str x = V.str x) = true := decide_eq_true rfl
theorem str_ne (x : Str) : (!decide (V.str x = V.str x)) = false := by rw [str_eq]; rfl
def sp_true : Sp := fun vs H Q _ => vs = [] ∧ ∀ H', Ex H H' → Q (.bl true) H'
theorem cal_sizes (T : Tx K mg) (TE : TxE P K mg) : CalG P w K mg base CX0 5 "_law_sizes_right" [] sp_true := by
  have c_is_shape := cal_is_shape (w := w) (base := base) T TE
  have c_size_of := cal_size (w := w) (base := base) T TE
  have c_is_shape_value := cal_is_shapeK (w := w) (base := base) T TE
  have c_size_of_shape := cal_sizeK (w := w) (base := base) T TE
  refine T.d_law_sizes_right.calG sc_law_sizes_right (fun vs H Q E h => ?_) (fun _ _ _ _ _ _ us hl => match us, hl with | [], _ => rfl) (fun f cdv A outer s H vs Q E hr hgd h => ⟨_, (pss_cons (ps_for PassesOwn.never rfl (pi_range2 rfl T.b_range (pa_cons pe_int (pa_cons pe_int pa_nil))) (pg_name (i := 0) sc_law_sizes_right.nd rfl (Or.inl rfl)) (pss_one (ps_for PassesOwn.never rfl (pi_tup (pe_tup (pa_cons (pe_tup (pa_cons pe_str (pa_cons pe_int pa_nil))) (pa_cons (pe_tup (pa_cons pe_str (pa_cons pe_int pa_nil))) (pa_cons (pe_tup (pa_cons pe_str (pa_cons pe_int pa_nil))) pa_nil))))) (pg_tup rfl (pgs_cons (pg_name (i := 1) sc_law_sizes_right.nd rfl (Or.inl rfl)) (pgs_cons (pg_name (i := 2) sc_law_sizes_right.nd rfl (Or.inl rfl)) pgs_nil))) (pss_one (ps_for PassesOwn.never rfl (pi_tup (pe_tup (pa_cons pe_int (pa_cons pe_int pa_nil)))) (pg_name (i := 3) sc_law_sizes_right.nd rfl (Or.inl rfl)) (pss_cons (ps_set (i := 4) sc_law_sizes_right.nd rfl (Or.inl rfl) (pe_tup (pa_cons (pv 0) (pa_cons (pv 1) (pa_cons (pv 3) pa_nil)))))
      (pss_one (ps_if (PW.pt (pw_or (pt_cmpR op_ne (pe_callB (call_rp hgd hr.units) (by rfl) T.b_repr (by decide +kernel) (pa_cons (pe_cal c_is_shape (hr.mono (by decide)) pass0 (pa_cons (pv 4) pa_nil)) pa_nil)) pe_str (nomark _)) (pw_or1 (pt_cmpR op_ne (pe_callB (call_rp hgd hr.units) (by rfl) T.b_repr (by decide +kernel) (pa_cons (pe_cal c_size_of (hr.mono (by decide)) pass0 (pa_cons (pv 4) pa_nil)) pa_nil)) (pe_callB (call_rp hgd hr.units) (by rfl) T.b_repr (by decide +kernel) (pa_cons (pe_op op_add (pe_op op_add (pe_op op_add pe_int (pv 0)) (pv 2)) (pv 3)) pa_nil)) (nomark _))))) (pss_one (ps_ret pe_bl)) pss_nil))))))))
      (pss_one (ps_ret (pe_and (pe_cmpR op_eq (pe_callB (call_rp hgd hr.units) (by rfl) T.b_repr (by decide +kernel) (pa_cons (pe_calK c_is_shape_value (hr.mono (by decide)) pass0 (pk_cons (pe_tup (pa_cons pe_int (pa_cons pe_str (pa_cons pe_int pa_nil)))) pk_nil)) pa_nil)) pe_str (nomark _)) (pe_one (pe_cmpR op_eq (pe_calK c_size_of_shape (hr.mono (by decide)) pass0 (pk_cons (pe_tup (pa_cons pe_int (pa_cons pe_str (pa_cons pe_int pa_nil)))) pk_nil)) pe_int (nomark _))))))), ?_⟩)
  · obtain ⟨rfl, _⟩ := h
    rfl
  · obtain ⟨rfl, q⟩ := h
    have shp : ∀ {H' : Hp} {t : Addr} {b : Nat} {p : Pa} {s : Nat}, H' t = some (.tup [.int (b : Nat), .str p.s, .int (s : Nat)]) → 1 ≤ b → b ≤ 9 → 1 ≤ s → s ≤ 2 → IsSh K H' (.ref t) b p s := fun h h1 h2 h3 h4 => ⟨_, rfl, .inl (.inl h), h1, h2, h3, h4⟩
    have tt : (!decide (V.str (PyData.bool true).shown = V.str "True")) = false := by decide +kernel
    refine ⟨1, 10, rfl, ⟨by decide, by decide, by decide, by decide⟩, for_range (lo := 1) (n := 9) (fun i σ H1 => ∃ u1 u2 u3 u4 u5, σ = [u1, u2, u3, u4, u5] ∧ Ex H H1) ⟨_, _, _, _, _, rfl, Ex.refl H⟩ ?_ ?_⟩
    · rintro i σ H1 hi ⟨u1, u2, u3, u4, u5, rfl, ex⟩
      have eb : (1 + (i : Int)) = ((1 + i : Nat) : Int) := by omega
      rw [eb]
      refine ⟨(by show 2 ≤ sizeLine; decide), fun p1 n1 => ⟨(by show 2 ≤ sizeLine; decide), fun p2 n2 => ⟨(by show 2 ≤ sizeLine; decide), fun p3 n3 => ⟨(by show 3 ≤ sizeLine; decide), fun Tt nT => ⟨Tt, rfl, ⟨_, .inl (.inl upd_same)⟩, ?_⟩⟩⟩⟩⟩
      have e1 := fun o => ((Ex.new (o := .tup [.str "none", .int 0]) n1).trans (Ex.new (o := .tup [.str "even", .int 1]) n2)).trans ((Ex.new (o := .tup [.str "odd", .int 1]) n3).trans (Ex.new (o := o) nT))
      have e2 := fun o => (Ex.new (o := .tup [.str "even", .int 1]) n2).trans ((Ex.new (o := .tup [.str "odd", .int 1]) n3).trans (Ex.new (o := o) nT))
      have e3 := fun o => (Ex.new (o := .tup [.str "odd", .int 1]) n3).trans (Ex.new (o := o) nT)
      have g1 := fun o => e2 o p1 _ upd_same
      have g2 := fun o => e3 o p2 _ upd_same
      have g3 := fun o => Ex.new (o := o) nT p3 _ upd_same
      have hT : ∀ o, upd (upd (upd (upd H1 p1 (.tup [.str "none", .int 0])) p2 (.tup [.str "even", .int 1])) p3 (.tup [.str "odd", .int 1])) Tt o Tt = some o := fun o => upd_same
      replace e1 := e1 (.tup [.ref p1, .ref p2, .ref p3])
      replace g1 := g1 (.tup [.ref p1, .ref p2, .ref p3])
      replace g2 := g2 (.tup [.ref p1, .ref p2, .ref p3])
      replace g3 := g3 (.tup [.ref p1, .ref p2, .ref p3])
      replace hT := hT (.tup [.ref p1, .ref p2, .ref p3])
      clear e2 e3
      generalize upd (upd (upd (upd H1 p1 (.tup [.str "none", .int 0])) p2 (.tup [.str "even", .int 1])) p3 (.tup [.str "odd", .int 1])) Tt (.tup [.ref p1, .ref p2, .ref p3]) = H2 at e1 g1 g2 g3 hT ⊢
      refine for_tup (K := K) (a := Tt) (xs := [.ref p1, .ref p2, .ref p3]) (fun j σ H3 => ∃ u2 u3 u4 u5, σ = [some (.int (1 + i : Nat)), u2, u3, u4, u5] ∧ Ex H2 H3) ⟨_, _, _, _, rfl, Ex.refl H2⟩ (fun j σ H3 _ ⟨_, _, _, _, _, e⟩ => .inl (.inl (e _ _ hT))) ?_ ?_
      · rintro j x σ H3 hx ⟨u2, u3, u4, u5, rfl, e3⟩
        obtain ⟨px, pa, mo, rfl, hpx, hmo⟩ : ∃ (px : Addr) (pa : Pa) (mo : Int), x = .ref px ∧ H2 px = some (.tup [.str pa.s, .int mo]) ∧ mo = ((plen pa : Nat) : Int) := by
          have hj : j < 3 := (List.getElem?_eq_some_iff.mp hx).1
          rcases (by omega : j = 0 ∨ j = 1 ∨ j = 2) with rfl | rfl | rfl <;> cases hx
          · exact ⟨p1, .no, 0, rfl, g1, rfl⟩
          · exact ⟨p2, .ev, 1, rfl, g2, rfl⟩
          · exact ⟨p3, .od, 1, rfl, g3, rfl⟩
        refine ⟨px, _, rfl, .inl (.inl (e3 _ _ hpx)), rfl, _, _, rfl, _, _, rfl, rfl, ?_⟩
        refine ⟨(by show 2 ≤ sizeLine; decide), fun q nq => ⟨q, rfl, ⟨_, .inl (.inl upd_same)⟩, ?_⟩⟩
        have hq : upd H3 q (.tup [.int 1, .int 2]) q = some (.tup [.int 1, .int 2]) := upd_same
        have e4 : Ex H2 (upd H3 q (.tup [.int 1, .int 2])) := e3.trans (Ex.new nq)
        generalize upd H3 q (.tup [.int 1, .int 2]) = H4 at hq e4 ⊢
        refine for_tup (K := K) (a := q) (xs := [.int 1, .int 2]) (fun k σ H5 => ∃ u4 u5, σ = [some (.int (1 + i : Nat)), some (.str pa.s), some (.int mo), u4, u5] ∧ Ex H4 H5) ⟨_, _, rfl, Ex.refl H4⟩ (fun j σ H3 _ ⟨_, _, _, e⟩ => .inl (.inl (e _ _ hq))) ?_ ?_
        · rintro k x σ H5 hx ⟨u4, u5, rfl, e5⟩
          obtain ⟨s, rfl, s1, s2⟩ : ∃ s : Nat, x = .int (s : Nat) ∧ 1 ≤ s ∧ s ≤ 2 := by
            have hj : k < 2 := (List.getElem?_eq_some_iff.mp hx).1
            rcases (by omega : k = 0 ∨ k = 1) with rfl | rfl <;> cases hx
            · exact ⟨1, rfl, by omega, by omega⟩
            · exact ⟨2, rfl, by omega, by omega⟩
          refine ⟨_, rfl, _, rfl, _, rfl, (by show 3 ≤ sizeLine; decide), fun t nt => ?_⟩
          have e6 : Ex H4 (upd H5 t (.tup [.int (1 + i : Nat), .str pa.s, .int (s : Nat)])) := e5.trans (Ex.new nt)
          have sh : IsSh K (upd H5 t (.tup [.int (1 + i : Nat), .str pa.s, .int (s : Nat)])) (.ref t) (1 + i) pa s := shp upd_same (by omega) (by omega) s1 s2
          generalize upd H5 t (.tup [.int (1 + i : Nat), .str pa.s, .int (s : Nat)]) = H6 at e6 sh ⊢
          obtain ⟨x, y, z, as, fn⟩ := isSh_as sh
          refine ⟨_, rfl, .ref t, _, rfl, as, fun H7 e7 => ?_⟩
          rw [fn]
          refine ⟨_, _, rfl, .bl true, (shB true).1, (shB true).2.1, (shB true).2.2.1, (shB true).2.2.2, rfl, _, rfl, ?_⟩
          rw [tt]
          have ez : ((sz (1 + i) pa s : Nat) : Int) = 1 + ((1 + i : Nat) : Int) + mo + (s : Int) := by
            rw [hmo]
            unfold sz
            omega
          have sm : ((sz (1 + i) pa s : Nat) : Int).natAbs < 2 ^ 200 := by
            have h1 : sz (1 + i) pa s ≤ 100 := by
              unfold sz
              cases pa <;> simp [plen] <;> omega
            have h2 : (100 : Nat) < 2 ^ 200 := by decide
            omega
          refine iteF ⟨_, rfl, .ref t, 1 + i, pa, s, rfl, sh.ex e7, ?_⟩
          refine ⟨_, _, rfl, .int _, (shI sm).1, (shI sm).2.1, (shI sm).2.2.1, (shI sm).2.2.2, ?_⟩
          refine ⟨_, rfl, _, _, rfl, rfl, _, rfl, _, _, rfl, rfl, _, rfl, _, _, rfl, rfl, ?_⟩
          have sm' : (1 + ((1 + i : Nat) : Int) + mo + (s : Int)).natAbs < 2 ^ 200 := by
            rw [← ez]
            exact sm
          refine ⟨_, _, rfl, .int _, (shI sm').1, (shI sm').2.1, (shI sm').2.2.1, (shI sm').2.2.2, rfl, _, rfl, ?_⟩
          rw [ez, str_ne]
          exact iteF ⟨_, _, rfl, e6.trans e7⟩
        · rintro σ H5 ⟨u4, u5, rfl, e5⟩
          exact ⟨_, _, _, _, rfl, e4.trans e5⟩
      · rintro σ H3 ⟨u2, u3, u4, u5, rfl, e3⟩
        exact ⟨_, _, _, _, _, rfl, ex.trans (e1.trans e3)⟩
    · rintro σ H1 ⟨u1, u2, u3, u4, u5, rfl, ex⟩
      refine ⟨(by show 3 ≤ sizeLine; decide), fun t nt => ?_⟩
      have e6 : Ex H (upd H1 t (.tup [.int 3, .str "odd", .int 2])) := ex.trans (Ex.new nt)
      have sh : IsSh K (upd H1 t (.tup [.int 3, .str "odd", .int 2])) (.ref t) 3 .od 2 := shp (p := .od) upd_same (by omega) (by omega) (by omega) (by omega)
      generalize upd H1 t (.tup [.int 3, .str "odd", .int 2]) = H6 at e6 sh ⊢
      obtain ⟨x, y, z, as, fn⟩ := isSh_as sh
      refine ⟨.ref t, _, rfl, as, fun H7 e7 => ?_⟩
      rw [fn]
      refine ⟨_, _, rfl, .bl true, (shB true).1, (shB true).2.1, (shB true).2.2.1, (shB true).2.2.2, rfl, ?_⟩
      refine ⟨_, rfl, ?_⟩
      rw [show decide (V.str (PyData.bool true).shown = V.str "True") = true from by decide +kernel]
      refine iteT ⟨(by show 3 ≤ sizeLine; decide), fun t2 nt2 => ?_⟩
      have e8 : Ex H7 (upd H7 t2 (.tup [.int 3, .str "odd", .int 2])) := Ex.new nt2
      have sh2 : IsSh K (upd H7 t2 (.tup [.int 3, .str "odd", .int 2])) (.ref t2) 3 .od 2 := shp (p := .od) upd_same (by omega) (by omega) (by omega) (by omega)
      refine ⟨.ref t2, 3, .od, 2, rfl, sh2, rfl, ?_⟩
      rw [show decide (V.int ((sz 3 .od 2 : Nat) : Int) = V.int 7) = true from by decide +kernel]
      exact q _ ((e6.trans e7).trans e8)
def sp_numbers : Sp := fun vs H Q _ => ∃ (a : Addr) (n : Nat), vs = [.ref a] ∧ Src H a n ∧ n ≤ 800000 ∧ ∀ H', Kp a H H' → Src H' a (n + 10) → Q (.bl true) H'
theorem cal_numbers (T : Tx K mg) (TE : TxE P K mg) : CalG P w K mg base CX0 5 "_law_numbers_right" ["_law_source_here"] sp_numbers := by
  have c_law_draw := cal_draw (P := P) (w := w) (base := base) T
  have c_law_shape := cal_shape (P := P) (w := w) (base := base) T
  have c_law_is_integer := cal_linteger (P := P) (w := w) (base := base) T
  have c_is_number := cal_is_number (w := w) (base := base) T TE
  have c_is_number_value_shape := cal_is_numberK (w := w) (base := base) T TE
  refine T.d_law_numbers_right.calG sc_law_numbers_right (fun vs H Q E h => ?_) (fun _ _ _ _ _ _ us hl => match us, hl with | [_], _ => rfl) (fun f cdv A outer s H vs Q E hr hgd h => ⟨_, (pss_cons (ps_set (i := 1) sc_law_numbers_right.nd rfl (Or.inl rfl) (pe_cal c_law_shape (hr.mono (by decide)) pass0 (pa_cons (pv 0) pa_nil)))
      (pss_cons (ps_set (i := 2) sc_law_numbers_right.nd rfl (Or.inl rfl) pe_int)
      (pss_cons (ps_for PassesOwn.never rfl (pi_range1 rfl T.b_range (pa_cons (pe_ix ix_tup (pv 1) pe_int (fun _ _ => rfl)) pa_nil)) (pg_name (i := 3) sc_law_numbers_right.nd rfl (Or.inl rfl)) (pss_one (ps_set (i := 2) sc_law_numbers_right.nd rfl (Or.inl rfl) (pe_op op_mul pe_int (pv 2)))))
      (pss_cons (ps_set (i := 4) sc_law_numbers_right.nd rfl (Or.inl rfl) (pe_lst (pa_cons pe_int (pa_cons (pe_op op_sub (pv 2) pe_int) (pa_cons (pv 2) (pa_cons (pe_un un_neg pe_int) (pa_cons pe_bl (pa_cons pe_bl (pa_cons pe_non (pa_cons pe_str (pa_cons (pe_lst (pa_cons pe_int pa_nil)) (pa_cons (pe_tup (pa_cons pe_int pa_nil)) (pa_cons (pe_op op_powB pe_int pe_int) (pa_cons (pe_un un_neg (pe_op op_powB pe_int pe_int)) (pa_cons pe_dnewK (pa_cons pe_str (pa_cons (pe_op op_fdivW (pv 2) pe_int) pa_nil)))))))))))))))))
      (pss_cons (ps_set (i := 4) sc_law_numbers_right.nd rfl (Or.inl rfl) (pe_op op_cat (pv 4) (pe_lst (pa_cons (pe_cal c_law_draw (hr.mono (by decide)) pass0 (pa_cons (pv 0) (pa_cons (pe_op op_mul pe_int (pv 2)) pa_nil))) (pa_cons (pe_cal c_law_draw (hr.mono (by decide)) pass0 (pa_cons (pv 0) (pa_cons (pv 2) pa_nil))) (pa_cons (pe_op op_sub pe_int (pv 2)) pa_nil))))))
      (pss_cons (ps_for PassesOwn.never rfl (pi_list (pv 4)) (pg_name (i := 5) sc_law_numbers_right.nd rfl (Or.inl rfl)) (pss_cons (ps_set (i := 6) sc_law_numbers_right.nd rfl (Or.inl rfl) (pe_and (pe_cal c_law_is_integer (hr.mono (by decide)) pass0 (pa_cons (pv 5) pa_nil)) (pe_one (pe_chain op_le op_lt pe_int (pv 5) (pv 2)))))
      (pss_one (ps_if (pt_cmpR op_ne (pe_callB (call_rp hgd hr.units) (by rfl) T.b_repr (by decide +kernel) (pa_cons (pe_cal c_is_number (hr.mono (by decide)) pass0 (pa_cons (pv 1) (pa_cons (pv 5) pa_nil))) pa_nil)) (pe_callB (call_rp hgd hr.units) (by rfl) T.b_repr (by decide +kernel) (pa_cons (pv 6) pa_nil)) (nomark _)) (pss_one (ps_ret pe_bl)) pss_nil))))
      (pss_one (ps_ret (pe_cmpR op_eq (pe_callB (call_rp hgd hr.units) (by rfl) T.b_repr (by decide +kernel) (pa_cons (pe_calK c_is_number_value_shape (hr.mono (by decide)) pass0 (pk_cons (pe_op op_sub (pv 2) pe_int) (pk_cons (pv 1) pk_nil))) pa_nil)) pe_str (nomark _)))))))))), ?_⟩)
  · obtain ⟨a, n, rfl, _⟩ := h
    rfl
  · obtain ⟨a, n, rfl, src, hn, q⟩ := h
    refine ⟨_, rfl, a, n, rfl, src, by omega, fun t b p s H1 ht k1 src1 ht1 b1 b9 s1 s2 => ?_⟩
    have sh1 : IsSh K H1 (.ref t) b p s := ⟨_, rfl, .inl (.inl ht1), b1, b9, s1, s2⟩
    refine ⟨_, rfl, t, _, 0, .int b, rfl, rfl, .inl (.inl ht1), rfl, b, rfl, by omega, by omega, ?_⟩
    refine for_range (lo := 0) (n := (b : Int).toNat) (fun i σ H2 => ∃ u, σ = [some (.ref a), some (.ref t), some (.int (2 ^ i)), u, none, none, none] ∧ Ex H1 H2) ⟨none, by simp [L2.start], Ex.refl H1⟩ ?_ ?_
    · rintro i σ H2 hi ⟨u, rfl, ex⟩
      refine ⟨_, rfl, _, _, rfl, rfl, .inl ⟨by decide, by decide⟩, ?_⟩
      refine ⟨some (.int (0 + (i : Int))), ?_, ex⟩
      rw [Int.pow_succ, Int.mul_comm]
      rfl
    rintro σ H2 ⟨u, rfl, ex2⟩
    rw [Int.toNat_natCast]
    have m0 : (0 : Int) < 2 ^ b := Int.pow_pos (by decide)
    have m1 : (2 : Int) ^ b ≤ 512 := by
      have h1 : (2 : Nat) ^ b ≤ 2 ^ 9 := Nat.pow_le_pow_right (by decide) b9
      have e : (2 : Int) ^ b = ((2 ^ b : Nat) : Int) := by norm_cast
      omega
    have c29 : CPowB 10 29 := cpow10 29 (by decide) (by decide)
    have m2 : (512 : Int) < 2 ^ 200 := by decide
    have m3 : (1024 : Int) < 2 ^ 200 := by decide
    have src2 : Src H2 a (n + 3) := src1.ex ex2
    have sh2 := sh1.ex ex2
    have kp2 : Kp a H H2 := k1.trans (Ex.kp ex2)
    refine ⟨_, rfl, _, _, rfl, rfl, _, rfl, 1, rfl, (by show 1 ≤ sizeLine; decide), fun p1 n1 => ⟨(by show 1 ≤ sizeLine; decide), fun p2 n2 => ⟨10, 29, rfl, rfl, c29, 10, 29, rfl, rfl, c29, _, rfl, fun p3 n3 => ⟨_, rfl, _, _, rfl, rfl, wide_div (b := 3) (by decide) (by decide) (by decide) (by decide), (by show 15 ≤ sizeLine; decide), fun L nL => ?_⟩⟩⟩⟩
    have e3 : ∀ o, Ex H2 (upd (upd (upd (upd H2 p1 (.lst [.int 1])) p2 (.tup [.int 0])) p3 (.dK [])) L o) := fun o => ((Ex.new n1).trans (Ex.new n2)).trans ((Ex.new n3).trans (Ex.new nL))
    have g1 : ∀ o, upd (upd (upd (upd H2 p1 (.lst [.int 1])) p2 (.tup [.int 0])) p3 (.dK [])) L o p1 = some (.lst [.int 1]) := fun o => ((Ex.new n2).trans ((Ex.new n3).trans (Ex.new nL))) p1 _ upd_same
    have g2 : ∀ o, upd (upd (upd (upd H2 p1 (.lst [.int 1])) p2 (.tup [.int 0])) p3 (.dK [])) L o p2 = some (.tup [.int 0]) := fun o => ((Ex.new n3).trans (Ex.new nL)) p2 _ upd_same
    have g3 : ∀ o, upd (upd (upd (upd H2 p1 (.lst [.int 1])) p2 (.tup [.int 0])) p3 (.dK [])) L o p3 = some (.dK []) := fun o => (Ex.new nL) p3 _ upd_same
    have L_a : L ≠ a := (src2.ex ((Ex.new n1).trans ((Ex.new n2).trans (Ex.new n3)))).ne nL
    generalize hX : ([.int 0, .int (2 ^ b - 1), .int (2 ^ b), .int (-1), .bl true, .bl false, .non, .str "1", .ref p1, .ref p2, .int (10 ^ (29 : Int).toNat), .int (-(10 ^ (29 : Int).toNat)), .ref p3, .str "", .int (2 ^ b / 2)] : List V) = X
    have lX : X.length = 15 := by
      rw [← hX]
      rfl
    have aX : ∀ v ∈ X, Any K (upd (upd (upd (upd H2 p1 (.lst [.int 1])) p2 (.tup [.int 0])) p3 (.dK [])) L (.lst X)) v := by
      intro v hv
      rw [← hX] at hv
      simp only [List.mem_cons, List.not_mem_nil, or_false] at hv
      rcases hv with rfl | rfl | rfl | rfl | rfl | rfl | rfl | rfl | rfl | rfl | rfl | rfl | rfl | rfl | rfl
      all_goals first | exact ⟨_, .int _⟩ | exact ⟨_, .str _⟩ | exact ⟨_, .non⟩ | exact ⟨_, .bl _⟩ | exact ⟨_, .lst (.inl (.inl (g1 _)))⟩ | exact ⟨_, .tup (.inl (.inl (g2 _)))⟩ | exact ⟨_, .dct (g3 _)⟩
    clear hX
    have hL : upd (upd (upd (upd H2 p1 (.lst [.int 1])) p2 (.tup [.int 0])) p3 (.dK [])) L (.lst X) L = some (.lst X) := upd_same
    replace e3 := e3 (.lst X)
    clear g1 g2 g3 nL
    generalize upd (upd (upd (upd H2 p1 (.lst [.int 1])) p2 (.tup [.int 0])) p3 (.dK [])) L (.lst X) = H3 at e3 hL aX ⊢
    have src3 := src2.ex e3
    refine ⟨_, rfl, _, rfl, _, rfl, 2, _, rfl, rfl, .inl ⟨by decide, by decide⟩, a, _, n + 3, rfl, src3, by omega, by omega, by omega, fun d H4 d0 d1 src4 k4 => ⟨_, rfl, _, rfl, a, _, n + 4, rfl, src4, by omega, m0, by omega, fun d' H5 d0' d1' src5 k5 => ⟨_, rfl, _, _, rfl, rfl, (by show 3 ≤ sizeLine; decide), fun M nM => ?_⟩⟩⟩
    have hL5 : H5 L = some (.lst X) := k5 L _ L_a (k4 L _ L_a hL)
    refine ⟨L, M, _, _, rfl, rfl, (Ex.new nM) _ _ hL5, upd_same, ?_, fun S nS => ?_⟩
    · rw [lX]
      show 18 ≤ sizeLine
      decide
    generalize hY : X ++ [V.int d, V.int d', V.int (0 - 2 ^ b)] = Y
    have e6 : Ex H5 (upd (upd H5 M (.lst [.int d, .int d', .int (0 - 2 ^ b)])) S (.lst Y)) := (Ex.new nM).trans (Ex.new nS)
    have lk5 : Lk H3 H5 := (Lk.kp k4 src3 src4).trans (Lk.kp k5 src4 src5)
    have aY : ∀ v ∈ Y, Any K (upd (upd H5 M (.lst [.int d, .int d', .int (0 - 2 ^ b)])) S (.lst Y)) v := by
      intro v hv
      rw [← hY] at hv
      rcases List.mem_append.mp hv with h | h
      · exact (any_lk lk5 (aX v h)).ex e6
      · simp only [List.mem_cons, List.not_mem_nil, or_false] at h
        rcases h with rfl | rfl | rfl <;> exact ⟨_, .int _⟩
    have hS : upd (upd H5 M (.lst [.int d, .int d', .int (0 - 2 ^ b)])) S (.lst Y) S = some (.lst Y) := upd_same
    clear hY nS
    generalize upd (upd H5 M (.lst [.int d, .int d', .int (0 - 2 ^ b)])) S (.lst Y) = H6 at e6 aY hS ⊢
    obtain ⟨y3, hy3⟩ := src3.at
    obtain ⟨y4, hy4⟩ := src4.at
    have sh6 : IsSh K H6 (.ref t) b p s := (((sh2.ex e3).kp k4 hy3).kp k5 hy4).ex e6
    have kp6 : Kp a H H6 := (((kp2.trans (Ex.kp e3)).trans k4).trans k5).trans (Ex.kp e6)
    have src6 : Src H6 a (n + 5) := src5.ex e6
    refine ⟨_, rfl, S, rfl, ⟨_, sq_of hS⟩, for_list (K := K) (a := S) (xs := Y) (fun i σ H7 => ∃ v w, σ = [some (.ref a), some (.ref t), some (.int (2 ^ b)), u, some (.ref S), v, w] ∧ Ex H6 H7) ⟨none, none, rfl, Ex.refl H6⟩ (fun i σ H7 _ ⟨_, _, _, e⟩ => sq_of (e _ _ hS)) ?_ ?_⟩
    · rintro i x σ H7 hx ⟨v, w, rfl, e7⟩
      have ax := (aY x (List.mem_of_getElem? hx)).ex e7
      obtain ⟨nx, hx'⟩ := id ax
      have sh7 := sh6.ex e7
      refine ⟨_, rfl, x, nx, rfl, hx', _, rfl, ?_⟩
      cases hx' with
      | int j =>
        refine iteT ⟨_, rfl, 0, j, rfl, rfl, _, rfl, ?_⟩
        by_cases h1 : (0 : Int) ≤ j
        · rw [if_pos (decide_eq_true h1)]
          refine ⟨_, rfl, j, _, rfl, rfl, ?_⟩
          refine ⟨_, rfl, _, rfl, .ref t, b, p, s, .int j, rfl, sh7, ax, ?_⟩
          refine ⟨_, _, rfl, .bl _, (shB _).1, (shB _).2.1, (shB _).2.2.1, (shB _).2.2.2, _, rfl, ?_⟩
          refine ⟨_, _, rfl, .bl _, (shB _).1, (shB _).2.1, (shB _).2.2.1, (shB _).2.2.2, rfl, _, rfl, ?_⟩
          rw [show nB b (.int j) = decide (j < 2 ^ b) from by simp [nB, h1], str_ne]
          exact iteF ⟨_, _, rfl, e7⟩
        · rw [if_neg (by simpa using h1)]
          refine ⟨_, rfl, _, rfl, .ref t, b, p, s, .int j, rfl, sh7, ax, ?_⟩
          refine ⟨_, _, rfl, .bl _, (shB _).1, (shB _).2.1, (shB _).2.2.1, (shB _).2.2.2, _, rfl, ?_⟩
          refine ⟨_, _, rfl, .bl _, (shB _).1, (shB _).2.1, (shB _).2.2.1, (shB _).2.2.2, rfl, _, rfl, ?_⟩
          rw [show nB b (.int j) = false from by simp [nB, h1]]
          exact iteF ⟨_, _, rfl, e7⟩
      | _ =>
        refine iteF ?_
        refine ⟨_, rfl, _, rfl, .ref t, b, p, s, _, rfl, sh7, ax, ?_⟩
        refine ⟨_, _, rfl, .bl _, (shB _).1, (shB _).2.1, (shB _).2.2.1, (shB _).2.2.2, _, rfl, ?_⟩
        refine ⟨_, _, rfl, .bl _, (shB _).1, (shB _).2.1, (shB _).2.2.1, (shB _).2.2.2, rfl, _, rfl, ?_⟩
        exact iteF ⟨_, _, rfl, e7⟩
    · rintro σ H7 ⟨v, w, rfl, e7⟩
      refine ⟨_, rfl, _, _, rfl, rfl, _, rfl, .ref t, b, p, s, _, rfl, sh6.ex e7, ⟨_, .int _⟩, ?_⟩
      refine ⟨_, _, rfl, .bl _, (shB _).1, (shB _).2.1, (shB _).2.2.1, (shB _).2.2.2, rfl, ?_⟩
      rw [show nB b (.int (2 ^ b - 1)) = true from decide_eq_true ⟨by omega, by omega⟩]
      rw [show decide (V.str (PyData.bool true).shown = V.str "True") = true from by decide +kernel]
      exact q H7 (kp6.trans (Ex.kp e7)) ((src6.ex e7).mono (by omega))
end
end LW
namespace LW
open PySem PySem.Spec PyProof.Rows L2 Evl SB
section
variable {P : Program} {w : World} {K : PySem.W.Frag} {mg : Str → Option Value} {base : Heap}
def sp_law (K : PySem.W.Frag) : Sp := fun vs H Q _ => ∃ (a : Addr) (ns : List Int), vs = [.ref a] ∧ SqL K H a (ns.map V.int) ∧ ns.length ≤ 63 ∧ ∀ H', Q (.bl true) H'
theorem asSh_ex {H H' : Hp} {g : V} {o : Option (V × V × V)} (e : Ex H H') (h : AsSh K H g o) : AsSh K H' g o := by
  cases h with
  | no h hn => exact .no (ty_ex e h) hn
  | many e1 h hl => exact .many e1 (ex_t e h) hl
  | three e1 h hx hy hz => exact .three e1 (ex_t e h) (hx.ex e) (hy.ex e) (hz.ex e)
theorem lf_eq (o : Option (V × V × V)) : scal (lf o) (.int (-1)) = true ∧ decide (lf o = V.int (-1)) = (fltO o).isNone := by
  cases o with
  | none => exact ⟨rfl, by decide⟩
  | some t =>
    obtain ⟨x, y, z⟩ := t
    have c : flt x y z = none ∨ flt x y z = some 0 ∨ flt x y z = some 1 ∨ flt x y z = some 2 := by
      unfold flt
      split
      · split
        · split
          · exact .inl rfl
          · exact .inr (.inr (.inr rfl))
        · exact .inr (.inr (.inl rfl))
      · exact .inr (.inl rfl)
    have e : fltO (some (x, y, z)) = (flt x y z).map V.int := rfl
    unfold lf
    rw [e]
    rcases c with c | c | c | c <;> rw [c] <;> exact ⟨rfl, by decide⟩
theorem law_ok {fd : FuncData} (T : Tx K mg) (TE : TxE P K mg) (F : FunD K "law" "law" (defArgs s_law) (defBody s_law) (defScope s_law) [] [] (He.fAd K ("law", none)) fd) : FnG P w K mg base CX0 9 (He.fAd K ("law", none)) fd ["_law_script"] (sp_law K) := by
  have c_law_source := cal_source (P := P) (w := w) (base := base) T
  have c_law_odd_shape := cal_odd (P := P) (w := w) (base := base) T
  have c_is_shape := cal_is_shape (w := w) (base := base) T TE
  have c_law_shape_fault := cal_fault (P := P) (w := w) (base := base) T
  have c_law_numbers_right := cal_numbers (w := w) (base := base) T TE
  have c_law_sizes_right := cal_sizes (w := w) (base := base) T TE
  refine FnG.body F sc_law (fun vs H Q E h => ?_) (fun cdv A outer s H vs Q E hr hgd h => ⟨_, PSs.nox ((pss_cons (ps_for PassesOwn.never rfl (pi_range1 rfl T.b_range (pa_cons (pe_callB (call_max2 rfl) (by rfl) T.b_max (by decide +kernel) (pa_cons pe_int (pa_cons (pe_callB (call_min2 rfl) (by rfl) T.b_min (by decide +kernel) (pa_cons pe_int (pa_cons (pe_callB call_len_seq (by rfl) T.b_len (by decide +kernel) (pa_cons (pv 0) pa_nil)) pa_nil))) pa_nil))) pa_nil)) (pg_name (i := 1) sc_law.nd rfl (Or.inl rfl)) (pss_cons (ps_set (i := 2) sc_law.nd rfl (Or.inl rfl) (pe_cal c_law_source (hr.mono (by decide)) pass0 (pa_cons (pv 0) (pa_cons (pv 1) pa_nil))))
      (pss_cons (ps_for PassesOwn.never rfl (pi_range1 rfl T.b_range (pa_cons pe_int pa_nil)) (pg_name (i := 3) sc_law.nd rfl (Or.inl rfl)) (pss_cons (ps_set (i := 4) sc_law.nd rfl (Or.inl rfl) (pe_cal c_law_odd_shape (hr.mono (by decide)) pass0 (pa_cons (pv 2) pa_nil)))
      (pss_one (ps_if (pt_cmpR op_ne (pe_callB (call_rp hgd hr.units) (by rfl) T.b_repr (by decide +kernel) (pa_cons (pe_cal c_is_shape (hr.mono (by decide)) pass0 (pa_cons (pv 4) pa_nil)) pa_nil)) (pe_callB (call_rp hgd hr.units) (by rfl) T.b_repr (by decide +kernel) (pa_cons (pe_cmpR op_eq (pe_cal c_law_shape_fault (hr.mono (by decide)) pass0 (pa_cons (pv 4) pa_nil)) (pe_un un_neg pe_int) (nomark _)) pa_nil)) (nomark _)) (pss_one (ps_ret pe_bl)) pss_nil))))
      (pss_one (ps_if (pt_not (pt_val (pe_calG c_law_numbers_right (hr.mono (by decide)) hgd pass0 (pa_cons (pv 2) pa_nil)))) (pss_one (ps_ret pe_bl)) pss_nil)))))
      (pss_one (ps_ret (pe_calG0 c_law_sizes_right (hr.mono (by decide)) hgd pass0))))), ?_⟩)
  · obtain ⟨a, ns, rfl, _⟩ := h
    rfl
  · obtain ⟨a, ns, rfl, sq, hl, q⟩ := h
    refine ⟨_, rfl, a, _, rfl, .inl sq, _, _, rfl, _, _, rfl, _, rfl, ?_, ?_, ?_⟩
    · split <;> split <;> omega
    · split <;> split <;> omega
    have small : ∀ i : Nat, i < (if (if ((ns.map V.int).length : Int) < 20 then ((ns.map V.int).length : Int) else 20) > 1 then (if ((ns.map V.int).length : Int) < 20 then ((ns.map V.int).length : Int) else 20) else 1 : Int).toNat → i ≤ 20 := by
      intro i hi
      split at hi <;> (try split at hi) <;> omega
    refine for_range (lo := 0) (fun i σ H1 => ∃ u1 u2 u3 u4, σ = [some (.ref a), u1, u2, u3, u4] ∧ Ex H H1) ⟨none, none, none, none, rfl, Ex.refl H⟩ ?_ ?_
    · rintro i σ H1 hi ⟨u1, u2, u3, u4, rfl, ex⟩
      have i8 := small i hi
      refine ⟨_, rfl, _, rfl, a, ns, i, by simp, ex_l ex sq, by omega, fun S H2 nS e2 src0 => ?_⟩
      have fS : H S = none := fresh_back ex nS
      have x2 : Ex H H2 := ex.trans e2
      refine ⟨3, rfl, by decide, by decide, for_range (lo := 0) (n := 3) (fun j σ H3 => ∃ u3 u4, σ = [some (.ref a), some (.int (0 + (i : Int))), some (.ref S), u3, u4] ∧ Ex H H3 ∧ Src H3 S (20 * j)) ⟨_, _, rfl, x2, src0⟩ ?_ ?_⟩
      · rintro j σ H3 hj ⟨u3, u4, rfl, x3, s3⟩
        refine ⟨_, rfl, S, 20 * j, rfl, s3, by omega, fun g o H4 k4 s4 as => ?_⟩
        refine ⟨_, rfl, g, o, rfl, as, fun H5 e5 => ?_⟩
        refine ⟨_, _, rfl, .bl _, (shB _).1, (shB _).2.1, (shB _).2.2.1, (shB _).2.2.2, ?_⟩
        refine ⟨_, rfl, g, o, rfl, asSh_ex e5 as, fun H6 e6 => ⟨1, rfl, (lf_eq o).1, ?_⟩⟩
        refine ⟨_, _, rfl, .bl _, (shB _).1, (shB _).2.1, (shB _).2.2.1, (shB _).2.2.2, rfl, _, rfl, ?_⟩
        rw [(lf_eq o).2, str_ne]
        exact iteF ⟨_, _, rfl, ((Kp.new x3 k4 fS).trans e5).trans e6, ((s4.ex e5).ex e6).mono (by omega)⟩
      · rintro σ H3 ⟨u3, u4, rfl, x3, s3⟩
        exact ⟨_, rfl, S, _, rfl, s3, by omega, fun H4 k4 s4 => ⟨_, rfl, iteF ⟨_, _, _, _, rfl, Kp.new x3 k4 fS⟩⟩⟩
    · rintro σ H1 ⟨u1, u2, u3, u4, rfl, ex⟩
      exact ⟨rfl, fun H' _ => q H'⟩
theorem law_facts {h : Heap} {fa : Addr} (X : K.In h) (hfa : mg ("law" : Str) = some (.ref fa)) (T : Tx K mg) (TE : TxE P K mg) :
    ∃ (K' : PySem.W.Frag) (fd : FuncData) (sp : Sp), K'.In h ∧ (∀ (s : Shared) (u : Value), BindsTo s fd ⟨[u], []⟩ [(("_law_script" : Str), u)]) ∧
        (∀ (H : Hp) (a : Addr) (ns : List Int), ns.length ≤ 63 → Only H → SqL K' H a (ns.map V.int) → sp [.ref a] H (fun v _ => v = .bl true) fun _ _ _ => False) ∧
        ∀ base : Heap, K'.In base → base.Ns mainGlobals mg → FnG P w K' mg base L2.CX0 9 fa fd ["_law_script"] sp := by
  obtain ⟨e, fd, F⟩ := T.d_law
  have e2 := hfa.symm.trans e
  cases e2
  exact ⟨K, fd, sp_law K, X, fun s u => FunD.bindsA (ps := ["_law_script"]) F (fun _ _ _ _ _ _ us hl => match us, hl with | [_], _ => rfl) s [u] rfl,
    fun H a ns hl _ hS => ⟨a, ns, rfl, hS, hl, fun _ => rfl⟩, fun base _ _ => law_ok T TE F⟩
end
end LW
namespace LW
open PySem PySem.Spec PyProof.Rows L2 Evl SB
def fnL : List He.DefD := [⟨("is_int", none), "is_int", "is_int", defArgs s_is_int, defBody s_is_int, defScope s_is_int, [], []⟩,
  ⟨("is_int_between", none), "is_int_between", "is_int_between", defArgs s_is_int_between, defBody s_is_int_between, defScope s_is_int_between, [], []⟩,
  ⟨("is_parity", none), "is_parity", "is_parity", defArgs s_is_parity, defBody s_is_parity, defScope s_is_parity, [], []⟩,
  ⟨("fits", none), "fits", "fits", defArgs s_fits, defBody s_fits, defScope s_fits, [], []⟩,
  ⟨("check_shape", none), "check_shape", "check_shape", defArgs s_check_shape, defBody s_check_shape, defScope s_check_shape, [], []⟩,
  ⟨("is_shape", none), "is_shape", "is_shape", defArgs s_is_shape, defBody s_is_shape, defScope s_is_shape, [], []⟩,
  ⟨("size_of", none), "size_of", "size_of", defArgs s_size_of, defBody s_size_of, defScope s_size_of, [], []⟩,
  ⟨("is_number", none), "is_number", "is_number", defArgs s_is_number, defBody s_is_number, defScope s_is_number, [], []⟩,
  ⟨("_law_source", none), "_law_source", "_law_source", defArgs s_law_source, defBody s_law_source, defScope s_law_source, [], []⟩,
  ⟨("_law_draw", none), "_law_draw", "_law_draw", defArgs s_law_draw, defBody s_law_draw, defScope s_law_draw, [], []⟩,
  ⟨("_law_is_integer", none), "_law_is_integer", "_law_is_integer", defArgs s_law_is_integer, defBody s_law_is_integer, defScope s_law_is_integer, [], []⟩,
  ⟨("_law_shape", none), "_law_shape", "_law_shape", defArgs s_law_shape, defBody s_law_shape, defScope s_law_shape, [], []⟩,
  ⟨("_law_odd_shape", none), "_law_odd_shape", "_law_odd_shape", defArgs s_law_odd_shape, defBody s_law_odd_shape, defScope s_law_odd_shape, [], []⟩,
  ⟨("_law_shape_fault", none), "_law_shape_fault", "_law_shape_fault", defArgs s_law_shape_fault, defBody s_law_shape_fault, defScope s_law_shape_fault, [], []⟩,
  ⟨("_law_sizes_right", none), "_law_sizes_right", "_law_sizes_right", defArgs s_law_sizes_right, defBody s_law_sizes_right, defScope s_law_sizes_right, [], []⟩,
  ⟨("_law_numbers_right", none), "_law_numbers_right", "_law_numbers_right", defArgs s_law_numbers_right, defBody s_law_numbers_right, defScope s_law_numbers_right, [], []⟩,
  ⟨("law", none), "law", "law", defArgs s_law, defBody s_law, defScope s_law, [], []⟩]
def faL : List He.Fa := [.free "abs", .free "bool", .free "enumerate", .free "int", .free "isinstance", .free "len", .free "list", .free "max", .free "min", .free "range", .free "repr", .free "str", .free "tuple", .glo "PARITIES", .int "MOST_BITS" 9, .int "MOST_STOPS" 2, .glo "is_int", .glo "is_int_between", .glo "is_parity", .glo "fits", .glo "check_shape", .glo "is_shape", .glo "size_of", .glo "is_number", .glo "_law_source", .glo "_law_draw", .glo "_law_is_integer", .glo "_law_shape", .glo "_law_odd_shape", .glo "_law_shape_fault", .glo "_law_sizes_right", .glo "_law_numbers_right", .glo "law"]
def exL (K : PySem.W.Frag) : Bool := (He.tupB K "PARITIES" [.str "none", .str "even", .str "odd"]) && (EXS.errB PySem.Challenge.pw_startbits_k01_shapes_judged.main.file K "InvalidShape" "index" && (true))
def errL : List EXS.ErrD := [⟨"InvalidShape", "index", "wrong item of a shape: ", defArgs (inB (topS 2) 0), defBody (inB (topS 2) 0), defScope (inB (topS 2) 0)⟩]
theorem tx_of {w : World} {K : PySem.W.Frag} {h : Heap} {mg : Str → Option Value} (X : K.In h) (G : h.Ns mainGlobals mg) (c : He.SaysX faL fnL [] [] exL w h K) : Tx K mg := by
  have D := c.t.d
  have M := ((Bool.and_eq_true _ _).mp c.more).1
  exact {
    b_abs := He.free_ok X G (D.fact 0 (f := .free "abs") rfl),
    b_bool := He.free_ok X G (D.fact 1 (f := .free "bool") rfl),
    b_enumerate := He.free_ok X G (D.fact 2 (f := .free "enumerate") rfl),
    b_int := He.free_ok X G (D.fact 3 (f := .free "int") rfl),
    b_isinstance := He.free_ok X G (D.fact 4 (f := .free "isinstance") rfl),
    b_len := He.free_ok X G (D.fact 5 (f := .free "len") rfl),
    b_list := He.free_ok X G (D.fact 6 (f := .free "list") rfl),
    b_max := He.free_ok X G (D.fact 7 (f := .free "max") rfl),
    b_min := He.free_ok X G (D.fact 8 (f := .free "min") rfl),
    b_range := He.free_ok X G (D.fact 9 (f := .free "range") rfl),
    b_repr := He.free_ok X G (D.fact 10 (f := .free "repr") rfl),
    b_str := He.free_ok X G (D.fact 11 (f := .free "str") rfl),
    b_tuple := He.free_ok X G (D.fact 12 (f := .free "tuple") rfl),
    t_PARITIES := He.glo_ok X G (D.fact 13 (f := .glo "PARITIES") rfl),
    v_PARITIES := fun H => He.tupB_ok M H,
    i_MOST_BITS := He.int_ok X G (D.fact 14 (f := .int "MOST_BITS" 9) rfl),
    i_MOST_STOPS := He.int_ok X G (D.fact 15 (f := .int "MOST_STOPS" 2) rfl),
    d_is_int := ⟨He.glo_ok X G (D.fact 16 (f := .glo "is_int") rfl), D.def_ 0 rfl⟩,
    d_is_int_between := ⟨He.glo_ok X G (D.fact 17 (f := .glo "is_int_between") rfl), D.def_ 1 rfl⟩,
    d_is_parity := ⟨He.glo_ok X G (D.fact 18 (f := .glo "is_parity") rfl), D.def_ 2 rfl⟩,
    d_fits := ⟨He.glo_ok X G (D.fact 19 (f := .glo "fits") rfl), D.def_ 3 rfl⟩,
    d_check_shape := ⟨He.glo_ok X G (D.fact 20 (f := .glo "check_shape") rfl), D.def_ 4 rfl⟩,
    d_is_shape := ⟨He.glo_ok X G (D.fact 21 (f := .glo "is_shape") rfl), D.def_ 5 rfl⟩,
    d_size_of := ⟨He.glo_ok X G (D.fact 22 (f := .glo "size_of") rfl), D.def_ 6 rfl⟩,
    d_is_number := ⟨He.glo_ok X G (D.fact 23 (f := .glo "is_number") rfl), D.def_ 7 rfl⟩,
    d_law_source := ⟨He.glo_ok X G (D.fact 24 (f := .glo "_law_source") rfl), D.def_ 8 rfl⟩,
    d_law_draw := ⟨He.glo_ok X G (D.fact 25 (f := .glo "_law_draw") rfl), D.def_ 9 rfl⟩,
    d_law_is_integer := ⟨He.glo_ok X G (D.fact 26 (f := .glo "_law_is_integer") rfl), D.def_ 10 rfl⟩,
    d_law_shape := ⟨He.glo_ok X G (D.fact 27 (f := .glo "_law_shape") rfl), D.def_ 11 rfl⟩,
    d_law_odd_shape := ⟨He.glo_ok X G (D.fact 28 (f := .glo "_law_odd_shape") rfl), D.def_ 12 rfl⟩,
    d_law_shape_fault := ⟨He.glo_ok X G (D.fact 29 (f := .glo "_law_shape_fault") rfl), D.def_ 13 rfl⟩,
    d_law_sizes_right := ⟨He.glo_ok X G (D.fact 30 (f := .glo "_law_sizes_right") rfl), D.def_ 14 rfl⟩,
    d_law_numbers_right := ⟨He.glo_ok X G (D.fact 31 (f := .glo "_law_numbers_right") rfl), D.def_ 15 rfl⟩,
    d_law := ⟨He.glo_ok X G (D.fact 32 (f := .glo "law") rfl), D.def_ 16 rfl⟩ }
theorem txe_of {w : World} {K : PySem.W.Frag} {h : Heap} {mg : Str → Option Value} (X : K.In h) (G : h.Ns mainGlobals mg) (c : EXS.SaysE faL fnL errL exL w h K) : TxE PySem.Challenge.pw_startbits_k01_shapes_judged K mg := by
  have M := ((Bool.and_eq_true _ _).mp c.x.more).2
  have V := c.e
  obtain ⟨m0, M⟩ := (Bool.and_eq_true _ _).mp M
  obtain ⟨v0, V⟩ := List.cons.inj V
  exact {
    x_InvalidShape := EXS.err_ok (e := ⟨"InvalidShape", "index", "wrong item of a shape: ", defArgs (inB (topS 2) 0), defBody (inB (topS 2) 0), defScope (inB (topS 2) 0)⟩) X G (by decide +kernel) ⟨_, _, _, _, _, _, _, _, _, _, _, _, _, _, _, _, rfl, rfl, rfl, rfl, .inl rfl, by decide⟩ m0 v0 }
def looseL : List Str := (["LineError", "InvalidShape", "PARITIES", "MOST_BITS", "MOST_STOPS", "is_int", "is_int_between", "is_parity", "fits", "check_shape", "is_shape", "size_of", "is_number", "_law_source", "_law_draw", "_law_is_integer", "_law_shape", "_law_odd_shape", "_law_shape_fault", "_law_sizes_right", "_law_numbers_right"] : List Str)
abbrev RW : PySem.W.OpenRow := PySem.W.OpenLaw.row PySem.Challenge.rw_startbits_k01_shapes_judged
abbrev hk : PySem.W.Hook := EXS.hookE 5 faL fnL errL exL
def obL (s : PySem.W.SharedT) : EXS.AlE := EXS.obsE 5 faL fnL errL exL (HandSHeadRun.getT s)
theorem obL_eq (s : PySem.W.SharedT) : obL s = hk.obs s.abs := EXS.obsE_eq (HandSHeadRun.getT_eq s)
theorem runL (w : World) : HandSHeadRun.RunEq RW (PySem.W.view RW.prog [25]) hk obL 6000 looseL w := by
  intro os
  kernel_rfl
end LW
open PySem PySem.W PySem.Calls PyProof.Rows
set_option maxHeartbeats 0 in
theorem PySem.Challenge.cw_startbits_k01_shapes_judged_holds : PySem.Challenge.rw_startbits_k01_shapes_judged.Holds := by
  w_on; o_law
  refine HandSHeadRun.head_any (r := OpenLaw.row PySem.Challenge.rw_startbits_k01_shapes_judged) (q := view (OpenLaw.row PySem.Challenge.rw_startbits_k01_shapes_judged).prog [25]) (H := LW.hk) (ob := LW.obL) (M := 6000) (loose := LW.looseL) (d := HandSHeadRun.topDef (OpenLaw.row PySem.Challenge.rw_startbits_k01_shapes_judged).prog 25) (kwd := []) LW.obL_eq
    (by kernel_rfl) (fun s => by kernel_rfl) LW.runL (by kernel_rfl) (by kernel_rfl) (by kernel_rfl) (by rfl) (by first | assumption | decide +kernel) (by decide +kernel) ⟨rfl, rfl, rfl, rfl, rfl, by decide +kernel⟩ ?hw ?hc
  case hw => w_witness2
  case hc =>
    refine SB.walkG (l := PySem.Challenge.rw_startbits_k01_shapes_judged) (n := 63) (k := 9) (x := "_law_script") (CX := L2.CX0) rfl (by decide) (by kernel_rfl) ⟨rfl, by decide, by decide⟩ ?F (fun _ _ _ _ z => z)
    intro w mg fa h Y G hmg0
    obtain ⟨K, KX, c⟩ := Y
    have hmg : mg ("law" : PySem.Str) = some (.ref fa) := by
      have e : (HandSHeadRun.topDef (OpenLaw.row PySem.Challenge.rw_startbits_k01_shapes_judged).prog 25).name = ("law" : PySem.Str) := by kernel_rfl
      rw [← e]
      exact hmg0
    exact LW.law_facts KX hmg (LW.tx_of KX G c.x) (LW.txe_of KX G c)
