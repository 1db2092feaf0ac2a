import PyProof.Rows.All
import Wide.All
import OpenK.AllK
import Wide.FinOn
import PyProof.ReprRoads
import PyProof.StrLawsRepr
import HandS.ForMost
import HandS.Defaults
import HandS.Evl
import HandS.EndBits
import HandS.Star
import HandS.StrMore
import PySem.Challenge.RW_trapsetter_k01_words_of_lines
set_option Elab.async false
set_option linter.all false
set_option maxRecDepth 100000
set_option maxHeartbeats 4000000
namespace Ts
open PySem PySem.Spec PyProof.Rows L2

/-! ### no repr is under way: promises of defs that show data -/
section
variable {P : Program} {w : World} {K : PySem.W.Frag} {mg : Str → Option Value} {base : Heap} {CX : CXT}
structure FnG (P : Program) (w : World) (K : PySem.W.Frag) (mg : Str → Option Value)
    (base : Heap) (CX : CXT) (k : Nat) (f : Addr) (fd : FuncData) (ps : List Str) (sp : Sp) : Prop where
  len : ∀ vs H Q E, sp vs H Q E → vs.length = ps.length
  run : ∀ (A : Around) (outer : List Env) (s : Shared) (H : Hp) (args : Args) (us : List Value)
    (vs : List V) (Q : VK) (E : XK), Room k A → A.guards = some [] →
    Env0 P w K mg base A outer s H → BindsTo s fd args (ps.zip us) → Vals vs us → sp vs H Q E →
    codeAny (model P w) A (.call (.ref f) args) (CR CX outer P w H s Q E) s

theorem FnG.of {k : Nat} {f : Addr} {fd : FuncData} {ps : List Str} {sp : Sp}
    (F : FnOk P w K mg base CX k f fd ps sp) : FnG P w K mg base CX k f fd ps sp :=
  ⟨F.len, fun A outer s H args us vs Q E hr _ => F.run A outer s H args us vs Q E hr⟩

theorem fnG_of {k : Nat} {f : Addr} {name qual : Str} {params : Arguments} {body : List Stmt}
    {scope : Scope} {dV kV doc pm cdv ct oc : Value} {an od : Option Addr}
    {osl : Array (Option Value)} {N ps : List Str} {sp : Sp}
    (lk : K.lookup f = some ⟨oc, od,
      .func (PySem.W.fnOf name qual params body scope dV kV doc pm an cdv ct), osl⟩)
    (hcd : PySem.W.codeIn K cdv qual = true) (S : FnScope N ps scope)
    (len : ∀ vs H Q E, sp vs H Q E → vs.length = ps.length)
    (hbody : ∀ (A : Around) (outer : List Env) (s : Shared) (H : Hp) (vs : List V) (Q : VK) (E : XK),
      Room k (A.deeper (envOfC qual scope s.heap.objs.size f cdv)) → A.guards = some [] → sp vs H Q E →
      ∃ t, PSs (cxOf CX P w K mg base N qual scope f cdv A outer s H E) body t ∧
        t { nx := fun _ H' => Q .non H', rt := Q } (start N vs) H) :
    FnG P w K mg base CX (k + 1) f (PySem.W.fnOf name qual params body scope dV kV doc pm an cdv ct) ps sp := by
  refine ⟨len, fun A outer s H args us vs Q E hr hgd e0 hb r hsp => ?_⟩
  have hlen := len _ _ _ _ hsp
  have hin : K.In s.heap := e0.mod.kin.keeps fun b o e => (e0.bs b o e).1
  have hlim : s.heap.NoLimit := e0.mod.nolimit.keeps fun b o e => (e0.bs b o e).1
  have hpar : ∀ y ∈ ps.zip us, scope.names.lookup y.1 = some .local ∨
      (scope.names.lookup y.1 = some .cell ∧
        ((cellsFrom (s.heap.objs.size + 1) scope.names []).lookup y.1).isSome = true) := by
    rintro ⟨n, v⟩ hy
    rcases S.par n (List.of_mem_zip hy).1 with q | q
    · exact Or.inl q
    · exact Or.inr ⟨q, PySem.W.cellsFrom_some _ _ _ (Or.inl q)⟩
  refine codeAny_call_function hr.depth (hin _ _ lk) rfl S.co S.gen rfl
    (PySem.W.codeRec_of hin hcd) (hb _ _ _ _ ?_)
  refine wpAny_newFunctionEnv_cells S.kind hpar fun env he s1 x => ?_
  subst he
  refine ⟨hlim.keeps x.toInCall.keep, codeAny_func ?_⟩
  obtain ⟨t, ht, hq⟩ := hbody A outer s H vs Q E (hr.deeper _) hgd hsp
  have I := inv_start (CX := CX) (P := P) (w := w) (mg := mg) (base := base) (E := E) S hr.hd e0 hlen r x
  refine wpAny_mono (ht.run [] s1 (start N vs) H _ I hq) ?_ (fun e s' hs => hs)
  intro fl s' hs
  cases fl with
  | next =>
    obtain ⟨σ', H', J, q⟩ := hs
    exact ⟨V.non, H', J.os, J.bare, J.base, J.hok, rfl, q⟩
  | ret u =>
    obtain ⟨v, σ', H', J, rv, q⟩ := hs
    exact ⟨v, H', J.os, J.bare, J.base, J.hok, rv, q⟩
  | brk =>
    obtain ⟨_, _, _, q⟩ := hs
    exact q.elim
  | cont =>
    obtain ⟨_, _, _, q⟩ := hs
    exact q.elim

theorem okG {x qual : Str} {st : Stmt} {f : Addr} {fd : FuncData} {N ps : List Str} {k : Nat} {sp : Sp}
    (F : Fun K x qual st f fd) (S : FnScope N ps (defScope st))
    (len : ∀ vs H Q E, sp vs H Q E → vs.length = ps.length)
    (hbody : ∀ (cdv : Value) (A : Around) (outer : List Env) (s : Shared) (H : Hp) (vs : List V) (Q : VK) (E : XK),
      Room k (A.deeper (envOfC qual (defScope st) s.heap.objs.size f cdv)) → A.guards = some [] → sp vs H Q E →
      ∃ t, PSs (cxOf CX0 P w K mg base N qual (defScope st) f cdv A outer s H E).nox (defBody st) t ∧
        t { nx := fun _ H' => Q .non H', rt := Q } (start N vs) H) :
    FnG P w K mg base CX0 (k + 1) f fd ps sp := by
  obtain ⟨oc, od, kV, doc, pm, an, cdv, ct, osl, rfl, lk, hcd⟩ := F.ex
  refine fnG_of lk hcd S len ?_
  intro A outer s H vs Q E hr hg hsp
  obtain ⟨t, h, q⟩ := hbody cdv A outer s H vs Q E hr hg hsp
  exact ⟨t, h.nox, q⟩
end

section
variable {X : Cx} {CX : CXT} {k : Nat} {f : Addr} {fd : FuncData} {ps : List Str} {sp : Sp} {dvs : List V} {ds : List Value}
  {E : XK} {x : Str} {p pos : Pos} {e : Expr} {es : List Expr} {t : TA}
theorem run_G {pins : List (Addr × Obj)} {σ : L2.St} {H : Hp} {s : Shared} {Q : VK} {us : List Value} {vs : List V}
    (F : FnG X.prog X.w X.K X.mg X.base CX k f fd ps sp) (hr : Room k X.A) (hg : X.A.guards = some [])
    (hb : Binds X.K fd ps ds) (hd : Vals dvs ds) (hx : Passes CX X E) (I : Inv X pins σ H s)
    (r : Vals vs us) (h : sp (vs ++ dvs) H Q E) :
    wpAny (model X.prog X.w) X.A (call (.ref f) us) (EP X pins σ Q) X.xe s := by
  have r2 : Vals (vs ++ dvs) (us ++ ds) := r.append hd
  have hl : (us ++ ds).length = ps.length := r2.length.symm.trans (F.len _ _ _ _ h)
  refine wpAny_call (codeAny_mono
    (F.run X.A X.stack s H ⟨us, []⟩ (us ++ ds) (vs ++ dvs) Q E hr hg I.env0 (hb s us I.kIn hl) r2 h) ?_)
  intro r s' hq
  cases r with
  | ok fl =>
    cases fl with
    | next => exact hq.elim
    | brk => exact hq.elim
    | cont => exact hq.elim
    | ret u => exact I.after hq
  | error e => exact hx pins σ H s e s' I hq
theorem pe_callG (F : FnG X.prog X.w X.K X.mg X.base CX k f fd ps sp) (hr : Room k X.A) (hgd : X.A.guards = some [])
    (hg : Gl X x) (hm : X.mg x = some (.ref f)) (hk : PySem.W.keepIn X.K (.ref f) = true)
    (hb : Binds X.K fd ps ds) (hd : Vals dvs ds) (hx : Passes CX X E) (ha : PA X (e :: es) t)
    (hdb : (x == ("__debug__" : Str)) = false := by decide)
    (he : starEach (e :: es) X.env = (false, eval e X.env) :: starEach es X.env := by rfl)
    (hpl : (backTo pos (starEach es X.env)).any (·.1) = false := by rfl) :
    PE X (.Call (.Name x p) (e :: es) [] pos) (tCall sp dvs E t) := by
  refine ⟨fun pins s σ H Q I h => ?_⟩
  refine wpAny_Call_Name_kw (ld_glob I hg hm ?_ hdb)
  exact PySem.W.callWith_K (h₀ := X.base) I.ok.mod.kin hk
    (thn (ha.run pos pins s σ H _ I h) fun us s1 ⟨vs, H1, I1, r, q⟩ =>
      ⟨I1.kIn, run_G F hr hgd hb hd hx I1 r q⟩) he hpl
end

/-! ### repr of data -/
mutual
def wt : PyData → Nat
  | .none => 4
  | .bool _ => 5
  | .int i => (Str.ofString (toString i)).length
  | .str x => 10 * x.length + 2
  | .list xs => wts xs + 2
  | .tuple xs => wts xs + 3
  | .dict _ => 0
def wts : List PyData → Nat
  | [] => 0
  | x :: xs => wt x + 2 + wts xs
end
mutual
def okD : PyData → Prop
  | .none => True
  | .bool _ => True
  | .int i => i.natAbs.log2 < 1920
  | .str x => ∀ c ∈ x.cps.toList, c < 16 ^ 8
  | .list xs => okDs xs
  | .tuple xs => okDs xs
  | .dict _ => False
def okDs : List PyData → Prop
  | [] => True
  | x :: xs => okD x ∧ okDs xs
end
mutual
theorem okD_show : ∀ d : PyData, okD d → d.showable = true ∧ d.hasDict = false
  | .none, _ => ⟨by simp only [PyData.showable], by simp only [PyData.hasDict]⟩
  | .bool _, _ => ⟨by simp only [PyData.showable], by simp only [PyData.hasDict]⟩
  | .int i, h => ⟨by simp only [PyData.showable, decide_eq_true_eq]; exact h, by simp only [PyData.hasDict]⟩
  | .str _, _ => ⟨by simp only [PyData.showable], by simp only [PyData.hasDict]⟩
  | .list xs, h => ⟨by simp only [PyData.showable]; exact (okDs_show xs h).1, by simp only [PyData.hasDict]; exact (okDs_show xs h).2⟩
  | .tuple xs, h => ⟨by simp only [PyData.showable]; exact (okDs_show xs h).1, by simp only [PyData.hasDict]; exact (okDs_show xs h).2⟩
  | .dict _, h => h.elim
theorem okDs_show : ∀ ds : List PyData, okDs ds → PyData.showableAll ds = true ∧ PyData.hasDictAll ds = false
  | [], _ => ⟨by simp only [PyData.showableAll], by simp only [PyData.hasDictAll]⟩
  | d :: ds, h => by
    obtain ⟨a, b⟩ := okD_show d h.1
    obtain ⟨c, e⟩ := okDs_show ds h.2
    exact ⟨by simp only [PyData.showableAll, a, c, Bool.and_self], by simp only [PyData.hasDictAll, b, e, Bool.or_self]⟩
end
end Ts

namespace Ts
open PySem PySem.Spec PyProof.Rows L2
theorem listText_le : ∀ ts : List Str, (listText ts).length ≤ piled ts + 2
  | [] => by decide
  | t :: r => by
    show (textFrom 1 (("[" : Str) ++ (if (0 : Nat) > 0 then ", " else "" : String) ++ t) r ++ "]").length ≤ _
    rw [strLen_append, textFrom_length_pos r 1 _ (Nat.succ_pos 0), strLen_append, strLen_append, piled_cons]
    have e1 : ((("[" : String) : Str)).length = 1 := rfl
    have e2 : ((("]" : String) : Str)).length = 1 := rfl
    have e3 : (((if (0 : Nat) > 0 then ", " else "" : String) : Str)).length = 0 := rfl
    omega
theorem tupleText_le (ts : List Str) : (tupleText ts).length ≤ piled ts + 3 := by
  unfold tupleText
  rw [strLen_append, strLen_append]
  have e1 : ((("(" : String) : Str)).length = 1 := rfl
  have e3 : (((if ts.length == 1 then ",)" else ")" : String) : Str)).length ≤ 2 := by split <;> decide
  by_cases h : ts = []
  · subst h
    have e4 : (Str.join ", " ([] : List Str)).length = 0 := rfl
    omega
  · have := join_length_add ts h
    omega
mutual
theorem shown_wt : ∀ d : PyData, okD d → d.shown.length ≤ wt d
  | .none, _ => by simp only [PyData.shown, wt]; decide
  | .bool b, _ => by cases b <;> (simp only [PyData.shown, wt]; decide)
  | .int i, h => by
    simp only [PyData.shown, wt]
    exact Nat.le_refl _
  | .str x, h => by
    simp only [PyData.shown, wt]
    exact StrLaws.reprText_len x h
  | .list xs, h => by
    have := shown_wts xs h
    have := listText_le (PyData.shownAll xs)
    simp only [PyData.shown, wt]
    omega
  | .tuple xs, h => by
    have := shown_wts xs h
    have := tupleText_le (PyData.shownAll xs)
    simp only [PyData.shown, wt]
    omega
  | .dict _, h => h.elim
theorem shown_wts : ∀ ds : List PyData, okDs ds → piled (PyData.shownAll ds) ≤ wts ds
  | [], _ => by simp only [PyData.shownAll, wts]; decide
  | d :: ds, h => by
    have h1 := shown_wt d h.1
    have h2 := shown_wts ds h.2
    simp only [PyData.shownAll, wts, piled_cons]
    omega
end
/-- data that can be shown -/
structure Sh (d : PyData) : Prop where
  ok : okD d
  wt : wt d ≤ sizeLine
  dp : d.depth ≤ 60
def rRepr (K : PySem.W.Frag) : List V → Hp → VK → Prop := fun xs H Q => ∃ v d, xs = [v] ∧ Dp K H v d ∧ Sh d ∧ Q (.str d.shown) H
section
variable {X : Cx}
theorem call_repr {k : Nat} (hr : Room k X.A) (hg : X.A.guards = some []) : CallR X (.builtin "repr") (rRepr X.K) := by
  intro pins s σ H xs us Q I r h
  obtain ⟨v, d, rfl, hd, sh, q⟩ := h
  obtain ⟨u, rfl, ru⟩ := vals1 r
  obtain ⟨as, rd⟩ := Dp.reads I d v u hd ru
  have hs := okD_show d sh.ok
  have hz : d.shown.length ≤ sizeLine := Nat.le_trans (shown_wt d sh.ok) sh.wt
  have hu := hr.un
  have hdp := sh.dp
  cases hd with
  | non => cases ru; exact PySem.P.repr_of_none ⟨.str _, H, I.tok _, ⟨_, rfl⟩, by simpa only [PyData.shown] using q⟩
  | bl b => cases ru; exact PySem.P.repr_of_bool ⟨.str _, H, I.tok _, ⟨_, rfl⟩, by simpa only [PyData.shown] using q⟩
  | int i =>
    obtain ⟨t, rfl⟩ := ru
    exact PySem.P.repr_of_int sh.ok ⟨.str _, H, I.tok _, ⟨_, rfl⟩, by simpa only [PyData.shown] using q⟩
  | str x =>
    obtain ⟨t, rfl⟩ := ru
    exact PySem.P.repr_of_str ⟨.str _, H, I.tok _, ⟨_, rfl⟩, by simpa only [PyData.shown] using q⟩ (by simpa only [PyData.shown] using hz)
  | lst _ _ =>
    cases ru
    exact repr_of_reads' rd hs.1 (PyData.noDict_hsm hs.2) hg (by omega) (fun _ _ e => e) (fun h' u tk hk => ⟨.str _, H, I.kept hk, ⟨_, rfl⟩, q⟩) hz
  | tup _ _ =>
    cases ru
    exact repr_of_reads' rd hs.1 (PyData.noDict_hsm hs.2) hg (by omega) (fun _ _ e => e) (fun h' u tk hk => ⟨.str _, H, I.kept hk, ⟨_, rfl⟩, q⟩) hz
end
end Ts

namespace Ts
open PySem PySem.Spec PyProof.Rows L2
section
variable {P : Program} {w : World} {K : PySem.W.Frag} {mg mb : Str → Option Value} {k : Nat} {fa a : Addr}
  {fd : FuncData} {x : Str} {sp : Sp} {s₁ : Shared} {vs : List Value} {ns : List Int}
/-- what the law's call must come to -/
abbrev Goal (s₁ : Shared) (r : Result) (s' : Shared) : Prop :=
  r = .ok (.ret (.bool true)) ∧ OldK s₁.heap s'.heap ∧ s'.os = s₁.os ∧ AllBare s'.gens
/-- an abstract heap in which the script alone may stand, at a -/
structure Lone (P : Program) (w : World) (K : PySem.W.Frag) (h : Heap) (a : Addr) (H : Hp) : Prop where
  only : Only H
  ok : HOk P w H h
  at_a : ∀ b, H b ≠ none → b = a
  free : H a ≠ none → K.lookup a = none
theorem Lone.call {H : Hp} (L : Lone P w K s₁.heap a H)
    (KX : K.In s₁.heap) (hns : s₁.heap.Ns mainGlobals mg) (hb : s₁.heap.Ns builtinsNs mb)
    (hbb : ∀ x : Str, x ≠ "__name__" → mb x = bootBuiltins x) (hlim : s₁.heap.NoLimit) (hg : s₁.gens = #[])
    (ha : s₁.heap.get? a = some { cls := .type "list", data := .seq vs.toArray }) (hr : Room k callerA)
    (F : ∀ base : Heap, K.In base → base.Ns mainGlobals mg → FnG P w K mg base CX0 k fa fd [x] sp)
    (hbind : ∀ (s : Shared) (u : Value), BindsTo s fd ⟨[u], []⟩ [(x, u)])
    (hsp : sp [.ref a] H (fun v _ => v = .bl true) fun _ _ _ => False) :
    codeAny (model P w) callerA (.call (.ref fa) ⟨[.ref a], []⟩) (Goal s₁) s₁ := by
  have plain : ∀ {b : Addr} {o : Obj} {es : Array DictEntry} {ep : Nat}, s₁.heap.get? b = some o → o.data = .dict es ep → H b = none := by
    intro b o es ep e d
    cases q : H b with
    | none => rfl
    | some u =>
      have hba : b = a := L.at_a b (by simp [q])
      subst hba
      rw [ha] at e
      cases e
      nomatch d
  have ns2 : ∀ {b : Addr} {m : Str → Option Value}, s₁.heap.Ns b m → (hidT s₁.heap H).Ns b m := by
    rintro b m ⟨o, es, ep, e, d, r⟩
    exact ⟨o, es, ep, hidT_get e (plain e d), d, r⟩
  have kin : K.In (hidT s₁.heap H) := by
    intro b o e
    refine hidT_get (KX b o e) ?_
    cases q : H b with
    | none => rfl
    | some u =>
      have hba : b = a := L.at_a b (by simp [q])
      subst hba
      rw [L.free (by simp [q])] at e
      nomatch e
  have md : Mod K mg (hidT s₁.heap H) := by
    obtain ⟨mc, h1, h2⟩ := hlim
    exact ⟨kin, ns2 hns, ⟨mb, ns2 hb, hbb⟩, mc, ns2 h1, h2⟩
  have e0 : Env0 P w K mg (hidT s₁.heap H) callerA [] s₁ H :=
    ⟨rfl, md, fun b o e => of_hidT e, Nat.le_of_eq (hidT_size _ _), trivial, (fun b hb => by cases hb), L.ok, .of_eq hg⟩
  refine codeAny_mono ((F _ kin (ns2 hns)).run callerA [] s₁ H ⟨[.ref a], []⟩ [.ref a] [.ref a] _ _ hr rfl e0
    (hbind s₁ (.ref a)) (.cons rfl .nil) hsp) ?_
  intro r s' h
  match r, h with
  | .error e, h => exact h.elim
  | .ok .next, h => exact h.elim
  | .ok .brk, h => exact h.elim
  | .ok .cont, h => exact h.elim
  | .ok (.ret u), h =>
    obtain ⟨v, H', os, bare, un, hok', r', q⟩ := h
    obtain rfl : v = .bl true := q
    obtain rfl : u = Value.bool true := r'
    refine ⟨rfl, OldK.of_keep ?_, os, bare⟩
    intro b o e
    rcases L.only b with z | ⟨ob, xs, z⟩
    · exact un.keep b o e z (by intro q; cases q) (by intro q; cases q)
    · obtain ⟨e1, _⟩ := L.ok b _ z
      obtain ⟨e2, _⟩ := hok' b _ (un.frzs b ob _ z)
      rw [e] at e1
      cases e1
      exact e2
theorem callG (KX : K.In s₁.heap) (hns : s₁.heap.Ns mainGlobals mg) (hb : s₁.heap.Ns builtinsNs mb)
    (hbb : ∀ x : Str, x ≠ "__name__" → mb x = bootBuiltins x) (hlim : s₁.heap.NoLimit) (hg : s₁.gens = #[])
    (ha : s₁.heap.get? a = some { cls := .type "list", data := .seq vs.toArray }) (hi : IntsAre vs ns)
    (hl : ns.length ≤ sizeLine) (hr : Room k callerA)
    (F : ∀ base : Heap, K.In base → base.Ns mainGlobals mg → FnG P w K mg base CX0 k fa fd [x] sp)
    (hbind : ∀ (s : Shared) (u : Value), BindsTo s fd ⟨[u], []⟩ [(x, u)])
    (hsp : ∀ H : Hp, Only H → SqL K H a (ns.map V.int) → sp [.ref a] H (fun v _ => v = .bl true) fun _ _ _ => False) :
    codeAny (model P w) callerA (.call (.ref fa) ⟨[.ref a], []⟩) (Goal s₁) s₁ := by
  have rv := vals_ints hi
  cases hk : K.lookup a with
  | some o =>
    have e := KX a o hk
    rw [ha] at e
    cases e
    have L : Lone P w K s₁.heap a (fun _ => none) :=
      ⟨fun _ => .inl rfl, (fun b u z => nomatch z), (fun b z => (z rfl).elim), fun z => (z rfl).elim⟩
    refine L.call KX hns hb hbb hlim hg ha hr F hbind (hsp _ L.only ?_)
    exact .inr ⟨_, vs.toArray, _, hk, rfl, rfl, rfl, by rw [List.size_toArray, hi.length]; exact hl, by simpa using rv⟩
  | none =>
    let H : Hp := fun b => if b = a then some (.frz { cls := .type "list", data := .seq vs.toArray } (.lst (ns.map V.int))) else none
    have yes : H a = some (.frz { cls := .type "list", data := .seq vs.toArray } (.lst (ns.map V.int))) := if_pos rfl
    have no : ∀ {b}, b ≠ a → H b = none := fun n => if_neg n
    have L : Lone P w K s₁.heap a H := by
      refine ⟨fun b => ?_, fun b u z => ?_, fun b z => ?_, fun _ => hk⟩
      · by_cases q : b = a
        · subst q
          exact .inr ⟨_, _, yes⟩
        · exact .inl (no q)
      · by_cases q : b = a
        · subst q
          rw [yes] at z
          cases z
          exact ⟨ha, by rw [List.length_map]; exact hl, vs, _, rv, ha⟩
        · rw [no q] at z
          cases z
      · exact Decidable.byContradiction fun q => z (no q)
    exact L.call KX hns hb hbb hlim hg ha hr F hbind (hsp H L.only (.inl (.inr ⟨_, yes⟩)))
end
/-- the goal that the head leaves -/
theorem walkG {l : PySem.W.OpenLaw} {n k : Nat} {q : Program} {loose : List Str} {XP : (Str → Option Value) → Heap → Prop}
    {YP : World → Heap → Prop} {d : DefRec} {K : Params → PySem.W.Frag} {sp : PySem.W.Frag → Sp} {x : Str}
    (hn : l.most = some n) (hn2 : n ≤ sizeLine) (hdf : d.params.defaults = []) (hr : Room k callerA)
    (hY : ∀ (w : World) (h : Heap), YP w h → (K w.params).In h)
    (F : ∀ (w : World) (mg : Str → Option Value) (fa : Addr) (h : Heap), (K w.params).In h → h.Ns mainGlobals mg →
      mg d.name = some (.ref fa) → ∃ fd : FuncData, (∀ (s : Shared) (u : Value), BindsTo s fd ⟨[u], []⟩ [(x, u)]) ∧
        ∀ base : Heap, (K w.params).In base → base.Ns mainGlobals mg → FnG l.prog w (K w.params) mg base CX0 k fa fd [x] (sp (K w.params)))
    (hsp : ∀ (K : PySem.W.Frag) (H : Hp) (a : Addr) (ns : List Int), ns.length ≤ n → Only H → SqL K H a (ns.map V.int) →
      sp K [.ref a] H (fun v _ => v = .bl true) fun _ _ _ => False) :
    PySem.W.WalkO q loose XP YP l.row.toRowW d [] (fun f vs => PySem.call f vs) := by
  refine Att.attach_call hn hdf ?_
  intro w s₀ s₁ mg mb fa o pm cd doc a vs ns G Y ho hd hcd hmg hobj hints hlen hg
  have KX := hY w _ Y
  obtain ⟨fd, hb, hF⟩ := F w mg fa _ KX G.T.g hmg
  exact callG KX G.T.g G.T.b G.T.builtins G.T.nolimit hg hobj hints (Nat.le_trans hlen hn2) hr hF hb
    fun H hO hS => hsp (K w.params) H a ns hlen hO hS
end Ts

namespace Ts
open PySem PySem.Spec PyProof.Rows L2

/-! ### links between heaps -/
/-- all that stood stands, but what is at l -/
def Kp (l : Addr) (H H' : Hp) : Prop := ∀ a o, a ≠ l → H a = some o → H' a = some o
/-- all that stood stands -/
abbrev Ex (H H' : Hp) : Prop := Evl.Ex H H'
theorem Ex.kp {l : Addr} {H H' : Hp} (e : Ex H H') : Kp l H H' := fun a o _ h => e a o h
theorem Kp.refl (l : Addr) (H : Hp) : Kp l H H := fun _ _ _ h => h
theorem Kp.trans {l : Addr} {H H1 H2 : Hp} (a : Kp l H H1) (b : Kp l H1 H2) : Kp l H H2 := fun x o n h => b x o n (a x o n h)
theorem Kp.ex {l : Addr} {H H1 H2 : Hp} (a : Kp l H H1) (b : Ex H1 H2) : Kp l H H2 := a.trans b.kp
theorem Kp.upd {l : Addr} {H : Hp} {o : HO} : Kp l H (upd H l o) := fun a u n h => by rw [upd_ne n]; exact h
theorem Kp.L {K : PySem.W.Frag} {l a : Addr} {H H' : Hp} {xs : List V} (k : Kp l H H') (n : a ≠ l) (h : SqL K H a xs) : SqL K H' a xs := by
  rcases h with (h | ⟨o, h⟩) | h
  · exact .inl (.inl (k _ _ n h))
  · exact .inl (.inr ⟨o, k _ _ n h⟩)
  · exact .inr h
theorem Kp.at {l a : Addr} {H H' : Hp} {o : HO} (k : Kp l H H') (n : a ≠ l) (h : H a = some o) : H' a = some o := k _ _ n h
theorem Kp.T {K : PySem.W.Frag} {l a : Addr} {H H' : Hp} {xs : List V} (k : Kp l H H') (n : a ≠ l) (h : SqT K H a xs) : SqT K H' a xs := by
  rcases h with (h | ⟨o, h⟩) | h
  · exact .inl (.inl (k _ _ n h))
  · exact .inl (.inr ⟨o, k _ _ n h⟩)
  · exact .inr h
/-- at l stands neither a list nor a tuple: any of those stays -/
def Od (H : Hp) (l : Addr) : Prop := ∃ kvs, H l = some (.dK kvs)
theorem Kp.Ld {K : PySem.W.Frag} {l a : Addr} {H H' : Hp} {xs : List V} (k : Kp l H H') (d : Od H l) (h : SqL K H a xs) : SqL K H' a xs := by
  obtain ⟨kvs, d⟩ := d
  rcases h with (h | ⟨o, h⟩) | h
  · exact .inl (.inl (k _ _ (fun e => by subst e; rw [d] at h; cases h) h))
  · exact .inl (.inr ⟨o, k _ _ (fun e => by subst e; rw [d] at h; cases h) h⟩)
  · exact .inr h
theorem Kp.Td {K : PySem.W.Frag} {l a : Addr} {H H' : Hp} {xs : List V} (k : Kp l H H') (d : Od H l) (h : SqT K H a xs) : SqT K H' a xs := by
  obtain ⟨kvs, d⟩ := d
  rcases h with (h | ⟨o, h⟩) | h
  · exact .inl (.inl (k _ _ (fun e => by subst e; rw [d] at h; cases h) h))
  · exact .inl (.inr ⟨o, k _ _ (fun e => by subst e; rw [d] at h; cases h) h⟩)
  · exact .inr h
theorem Kp.atL {l a : Addr} {H H' : Hp} {xs : List V} (k : Kp l H H') (d : Od H l) (h : H a = some (.lst xs)) : H' a = some (.lst xs) := by
  obtain ⟨kvs, d⟩ := d
  exact k _ _ (fun e => by subst e; rw [d] at h; cases h) h
theorem Kp.atT {l a : Addr} {H H' : Hp} {xs : List V} (k : Kp l H H') (d : Od H l) (h : H a = some (.tup xs)) : H' a = some (.tup xs) := by
  obtain ⟨kvs, d⟩ := d
  exact k _ _ (fun e => by subst e; rw [d] at h; cases h) h
theorem Ex.L {K : PySem.W.Frag} {a : Addr} {H H' : Hp} {xs : List V} (e : Ex H H') (h : SqL K H a xs) : SqL K H' a xs := Evl.ex_l e h
theorem Ex.T {K : PySem.W.Frag} {a : Addr} {H H' : Hp} {xs : List V} (e : Ex H H') (h : SqT K H a xs) : SqT K H' a xs := Evl.ex_t e h
theorem Ex.at {H H' : Hp} {a : Addr} {o : HO} (e : Ex H H') (h : H a = some o) : H' a = some o := e a o h
theorem SqL.at {K : PySem.W.Frag} {H : Hp} {a : Addr} {xs : List V} (h : H a = some (.lst xs)) : SqL K H a xs := .inl (.inl h)
theorem SqT.at {K : PySem.W.Frag} {H : Hp} {a : Addr} {xs : List V} (h : H a = some (.tup xs)) : SqT K H a xs := .inl (.inl h)

/-! ### reading, construct by construct -/
section
variable {σ : L2.St} {H H1 : Hp} {Q : VK} {QA : List V → Hp → Prop} {QT : Bool → Hp → Prop} {ta tb te td ty tv : TE} {t tr : TA} {v x y : V} {i : Nat} {r : R2}
  {D : Ends} {ts tu : TS} {tc td' : TT} {K : PySem.W.Frag} {m n : Int} {a : Addr} {xs : List V}
/-- a test's answer; a branch by it -/
def IsB (x : V) (H : Hp) (Q : Bool → Hp → Prop) : Prop := ∃ k, x = .bl k ∧ Q k H
def IfB (b : Bool) (A B : Prop) : Prop := if b = true then A else B
def New (H : Hp) (o : HO) (Q : V → Hp → Prop) : Prop := ∀ p, H p = none → Q (.ref p) (upd H p o)
theorem r_var (h : σ[i]? = some (some v)) (q : Q v H) : tVar i σ H Q := ⟨v, h, q⟩
theorem r_c (q : Q v H) : tC v σ H Q := q
theorem r_op (q : ta σ H fun x H1 => tb σ H1 fun y H2 => r x y H2 Q) : tOp r ta tb σ H Q := q
theorem r_un {r : V → Hp → VK → Prop} (q : ta σ H fun x H1 => r x H1 Q) : tUn r ta σ H Q := q
theorem r_cb {r : List V → Hp → VK → Prop} (q : t σ H fun vs H1 => r vs H1 Q) : tCB r t σ H Q := q
theorem r_nil (q : QA [] H) : tNil σ H QA := q
theorem r_cons (q : ta σ H fun x H1 => tr σ H1 fun xs H2 => QA (x :: xs) H2) : tCons ta tr σ H QA := q
theorem r_call {sp : Sp} {E : XK} (q : t σ H fun vs H1 => sp vs H1 Q E) : tCall sp [] E t σ H Q := by
  show t σ H fun vs H1 => sp (vs ++ []) H1 Q E
  have e : (fun (vs : List V) (H1 : Hp) => sp (vs ++ []) H1 Q E) = fun vs H1 => sp vs H1 Q E := by
    funext vs H1
    rw [List.append_nil]
  rw [e]
  exact q
theorem r_lst (q : t σ H fun xs H1 => xs.length ≤ sizeLine ∧ New H1 (.lst xs) Q) : tLst t σ H Q := q
theorem r_tup (q : t σ H fun xs H1 => xs.length ≤ sizeLine ∧ New H1 (.tup xs) Q) : tTup t σ H Q := q
theorem r_new {o : HO} (h : ∀ p H1, H p = none → Ex H H1 → H1 p = some o → Q (.ref p) H1) : New H o Q :=
  fun p np => h p _ np (Evl.Ex.new np) upd_same
theorem r_if (q : tc σ H fun b H1 => IfB b (ts D σ H1) (tu D σ H1)) : tIfS tc ts tu D σ H := q
theorem r_ifx (q : tc σ H fun b H1 => IfB b (ta σ H1 Q) (tb σ H1 Q)) : tIf tc ta tb σ H Q := q
theorem r_T {A B : Prop} (h : A) : IfB true A B := by
  unfold IfB
  rw [if_pos rfl]
  exact h
theorem r_F {A B : Prop} (h : B) : IfB false A B := by
  unfold IfB
  rw [if_neg Bool.false_ne_true]
  exact h
theorem r_dec {p A B : Prop} {_ : Decidable p} (h1 : p → A) (h2 : ¬ p → B) : IfB (decide p) A B := by
  by_cases h : p
  · rw [decide_eq_true h]; exact r_T (h1 h)
  · rw [decide_eq_false h]; exact r_F (h2 h)
theorem r_decN {p A B : Prop} {_ : Decidable p} (h1 : ¬ p → A) (h2 : p → B) : IfB (!decide p) A B := by
  by_cases h : p
  · rw [decide_eq_true h]; exact r_F (h2 h)
  · rw [decide_eq_false h]; exact r_T (h1 h)
theorem r_any {b : Bool} {A B : Prop} (h1 : b = true → A) (h2 : b = false → B) : IfB b A B := by
  cases b with
  | true => exact r_T (h1 rfl)
  | false => exact r_F (h2 rfl)
theorem r_test (q : te σ H fun x H1 => IsB x H1 QT) : tTest te σ H QT := q
theorem r_tB (q : te σ H fun x H1 => IsB x H1 QT) : tB te σ H QT := q
theorem r_isb {b : Bool} (q : QT b H) : IsB (.bl b) H QT := ⟨b, rfl, q⟩
theorem r_and (q : tc σ H fun c H1 => IfB c (td' σ H1 QT) (QT false H1)) : tAnd tc td' σ H QT := q
theorem r_or (q : tc σ H fun c H1 => IfB c (QT true H1) (td' σ H1 QT)) : tOr tc td' σ H QT := q
theorem r_not (q : tc σ H fun c H1 => QT (!c) H1) : tNot tc σ H QT := q
theorem r_andV (q : ta σ H fun x H1 => IsB x H1 fun c H2 => IfB c (tb σ H2 Q) (Q (.bl false) H2)) : tAndV ta tb σ H Q := by
  exact q
theorem r_orV (q : ta σ H fun x H1 => IsB x H1 fun c H2 => IfB c (Q (.bl true) H2) (tb σ H2 Q)) : tOrV ta tb σ H Q := q
theorem r_notV (q : ta σ H fun x H1 => IsB x H1 fun c H2 => Q (.bl (!c)) H2) : tNotV ta σ H Q := q
theorem r_seq (q : ts { D with nx := tu D } σ H) : tSeq ts tu D σ H := q
theorem r_next (q : D.nx σ H) : tNext D σ H := q
theorem r_brk (q : D.bk σ H) : tBreak D σ H := q
theorem r_cont (q : D.ct σ H) : tCont D σ H := q
theorem r_ret (q : te σ H D.rt) : tRet te D σ H := q
theorem r_retN (q : D.rt .non H) : tRetN D σ H := q
theorem r_drop (q : te σ H fun _ H1 => D.nx σ H1) : tDrop te D σ H := q
theorem r_set (q : te σ H fun v H1 => D.nx (σ.set i (some v)) H1) : tAsg te (gName i) D σ H := q
theorem r_asg {g : TG} (q : te σ H fun v H1 => g v σ H1 D.nx) : tAsg te g D σ H := q
theorem r_gname {QS : L2.St → Hp → Prop} (q : QS (σ.set i (some v)) H) : gName i v σ H QS := q
theorem r_aug {ti : TIp} (h : σ[i]? = some (some x)) (q : te σ H fun y H1 => ti x y H1 fun z H2 => D.nx (σ.set i (some z)) H2) : tAug i te ti D σ H := ⟨x, h, q⟩
-- whole numbers
theorem r_I0 {g : Int → Int → V} (q : Q (g m n) H) : rI0 g (.int m) (.int n) H Q := ⟨m, n, rfl, rfl, q⟩
theorem r_I {C : Int → Int → Prop} {g : Int → Int → V} (c : C m n) (q : Q (g m n) H) : rI C g (.int m) (.int n) H Q := ⟨m, n, rfl, rfl, c, q⟩
theorem r_U {g : Int → V} (q : Q (g m) H) : rU g (.int m) H Q := ⟨m, rfl, q⟩
theorem r_ipI {f : Int → Int → Int} (q : Q (.int (f m n)) H) : ipI f (.int m) (.int n) H Q := ⟨m, n, rfl, rfl, q⟩
theorem r_eqI (q : Q (.bl (decide (m = n))) H) : rEq (.int m) (.int n) H Q := ⟨rfl, by
  rw [show decide (V.int m = V.int n) = decide (m = n) from by simp]
  exact q⟩
theorem r_neI (q : Q (.bl (!decide (m = n))) H) : rNe (.int m) (.int n) H Q := ⟨rfl, by
  rw [show decide (V.int m = V.int n) = decide (m = n) from by simp]
  exact q⟩
theorem r_eqS {m n : Str} (q : Q (.bl (decide (m = n))) H) : rEq (.str m) (.str n) H Q := ⟨rfl, by
  rw [show decide (V.str m = V.str n) = decide (m = n) from by simp]
  exact q⟩
theorem r_neS {m n : Str} (q : Q (.bl (!decide (m = n))) H) : rNe (.str m) (.str n) H Q := ⟨rfl, by
  rw [show decide (V.str m = V.str n) = decide (m = n) from by simp]
  exact q⟩
theorem r_eqB {m n : Bool} (q : Q (.bl (decide (m = n))) H) : rEq (.bl m) (.bl n) H Q := ⟨rfl, by
  rw [show decide (V.bl m = V.bl n) = decide (m = n) from by simp]
  exact q⟩
theorem r_neB {m n : Bool} (q : Q (.bl (!decide (m = n))) H) : rNe (.bl m) (.bl n) H Q := ⟨rfl, by
  rw [show decide (V.bl m = V.bl n) = decide (m = n) from by simp]
  exact q⟩
-- lists
theorem r_ixL (h : SqL K H a xs) (e : atI xs m = some v) (q : Q v H) : rIxL K (.ref a) (.int m) H Q := ⟨a, xs, m, v, rfl, rfl, h, e, q⟩
theorem r_ixT (h : SqT K H a xs) (e : atI xs m = some v) (q : Q v H) : rIxT K (.ref a) (.int m) H Q := ⟨a, xs, m, v, rfl, rfl, h, e, q⟩
theorem r_slL {lo hi : Option Int} (h : SqL K H a xs) (q : New H (.lst (cutV xs lo hi)) Q) : rSlL K (.ref a) lo hi H Q := ⟨a, xs, rfl, h, q⟩
theorem r_sl {r : V → Option Int → Option Int → Hp → VK → Prop} {tl th : TO} (q : te σ H fun x H1 => tl σ H1 fun l H2 => th σ H2 fun u H3 => r x l u H3 Q) : tSl r te tl th σ H Q := q
theorem r_noP {QO : Option Int → Hp → Prop} (q : QO none H) : tNoPart σ H QO := q
/-- a whole number as a slice's end -/
def IsI (x : V) (H : Hp) (Q : Option Int → Hp → Prop) : Prop := ∃ k, x = .int k ∧ Q (some k) H
theorem r_part {QO : Option Int → Hp → Prop} (q : te σ H fun x H1 => IsI x H1 QO) : tPart te σ H QO := q
theorem r_isi {QO : Option Int → Hp → Prop} (q : QO (some m) H) : IsI (.int m) H QO := ⟨m, rfl, q⟩
-- built-ins by name
def rAbs : List V → Hp → VK → Prop := fun xs H Q => ∃ i, xs = [.int i] ∧ Q (.int (if i < 0 then -i else i)) H
def rMax2 : List V → Hp → VK → Prop := fun xs H Q => ∃ i j, xs = [.int i, .int j] ∧ Q (.int (if j > i then j else i)) H
def rMin2 : List V → Hp → VK → Prop := fun xs H Q => ∃ i j, xs = [.int i, .int j] ∧ Q (.int (if j < i then j else i)) H
def rLenQ (K : PySem.W.Frag) : List V → Hp → VK → Prop := fun xs H Q => ∃ p ys, xs = [.ref p] ∧ (SqL K H p ys ∨ SqT K H p ys) ∧ Q (.int ys.length) H
def rLenS : List V → Hp → VK → Prop := fun xs H Q => ∃ z, xs = [.str z] ∧ z.length ≤ sizeLine ∧ Q (.int z.length) H
theorem r_abs (q : Q (.int (m.natAbs : Int)) H) : rAbs [.int m] H Q := ⟨m, rfl, by
  rw [show (if m < 0 then -m else m) = (m.natAbs : Int) by split <;> omega]
  exact q⟩
theorem r_max2 (q : Q (.int (max m n)) H) : rMax2 [.int m, .int n] H Q := ⟨m, n, rfl, by
  rw [show (if n > m then n else m) = max m n by split <;> omega]
  exact q⟩
theorem r_min2 (q : Q (.int (min m n)) H) : rMin2 [.int m, .int n] H Q := ⟨m, n, rfl, by
  rw [show (if n < m then n else m) = min m n by split <;> omega]
  exact q⟩
theorem r_lenL (h : SqL K H a xs) (q : Q (.int xs.length) H) : rLenQ K [.ref a] H Q := ⟨a, xs, rfl, .inl h, q⟩
theorem r_lenT (h : SqT K H a xs) (q : Q (.int xs.length) H) : rLenQ K [.ref a] H Q := ⟨a, xs, rfl, .inr h, q⟩
theorem r_lenS {z : Str} (h : z.length ≤ sizeLine) (q : Q (.int z.length) H) : rLenS [.str z] H Q := ⟨z, rfl, h, q⟩
theorem r_repr {d : PyData} (h : Dp K H v d) (s : Sh d) (q : Q (.str d.shown) H) : rRepr K [v] H Q := ⟨v, d, rfl, h, s, q⟩
theorem lt_small {n : Nat} (h : decide (n < 1000) = true) : n < sizeLine := Nat.lt_of_lt_of_le (of_decide_eq_true h) (by decide)
theorem le_small {n : Nat} (h : decide (n < 1000) = true) : n ≤ sizeLine := Nat.le_of_lt (lt_small h)
theorem r_lenLI {ns : List Int} (h : SqL K H a (ns.map V.int)) (q : Q (.int ns.length) H) : rLenQ K [.ref a] H Q := r_lenL h (by rw [List.length_map]; exact q)
theorem r_ixLI {ns : List Int} (h : SqL K H a (ns.map V.int)) (c : 0 ≤ m) (c2 : m < ns.length) (q : ∀ z, ns[m.toNat]? = some z → Q (.int z) H) : rIxL K (.ref a) (.int m) H Q := by
  have hl : m.toNat < ns.length := by omega
  refine r_ixL (v := .int ns[m.toNat]) h ?_ (q _ (List.getElem?_eq_getElem hl))
  exact at_of (j := m.toNat) (by omega) (by rw [List.getElem?_map, List.getElem?_eq_getElem hl]; rfl)
-- loops
def ForK (J : It) (g : TG) (tb : TS) (D : Ends) (σ : L2.St) (H : Hp) : Prop := ∃ W : Nat → Nat → L2.St → Hp → Prop, (∃ m, W 0 m σ H) ∧ ∀ i m σ H, W i m σ H →
  (J.stop i H ∧ D.nx σ H) ∨ (J.go i H ∧ ∃ N : L2.St → Hp → Prop, (∀ σ' H', N σ' H' → ∃ m', m' < m ∧ W (i + 1) m' σ' H') ∧ ∀ x H', J.yld i H x H' → g x σ H' fun σ2 H2 => tb { D with nx := N, ct := N, bk := D.nx } σ2 H2)
theorem r_for {wi : TI} {g : TG} {tb : TS} (q : wi σ H fun J H1 => ForK J g tb D σ H1) : tFor wi g tb D σ H := q
def Rng1 (vs : List V) (H : Hp) (R : It → Hp → Prop) : Prop := ∃ j : Int, vs = [.int j] ∧ -(2 ^ 62) ≤ j ∧ j < 2 ^ 62 ∧ R (Itr 0 j.toNat) H
def Rng2 (vs : List V) (H : Hp) (R : It → Hp → Prop) : Prop := ∃ i j : Int, vs = [.int i, .int j] ∧ (-(2 ^ 62) ≤ i ∧ i < 2 ^ 62 ∧ -(2 ^ 62) ≤ j ∧ j < 2 ^ 62) ∧ R (Itr i (j - i).toNat) H
theorem r_rng1 {R : It → Hp → Prop} (q : t σ H fun vs H1 => Rng1 vs H1 R) : iRng1 t σ H R := q
theorem r_rng2 {R : It → Hp → Prop} (q : t σ H fun vs H1 => Rng2 vs H1 R) : iRng2 t σ H R := q
theorem r_rng1v {R : It → Hp → Prop} (c : -(2 ^ 62) ≤ m) (c2 : m < 2 ^ 62) (q : R (Itr 0 m.toNat) H) : Rng1 [.int m] H R := ⟨m, rfl, c, c2, q⟩
theorem r_rng2v {R : It → Hp → Prop} (c : -(2 ^ 62) ≤ m) (c2 : m < 2 ^ 62) (c3 : -(2 ^ 62) ≤ n) (c4 : n < 2 ^ 62) (q : R (Itr m (n - m).toNat) H) : Rng2 [.int m, .int n] H R := ⟨m, n, rfl, ⟨c, c2, c3, c4⟩, q⟩
def IsL (K : PySem.W.Frag) (x : V) (H : Hp) (R : It → Hp → Prop) : Prop := ∃ a, x = .ref a ∧ (∃ xs, SqL K H a xs) ∧ R (Itl K a) H
def IsT (K : PySem.W.Frag) (x : V) (H : Hp) (R : It → Hp → Prop) : Prop := ∃ a, x = .ref a ∧ (∃ xs, SqT K H a xs) ∧ R (Itt K a) H
theorem r_ilist {R : It → Hp → Prop} (q : te σ H fun x H1 => IsL K x H1 R) : iList K te σ H R := q
theorem r_itup {R : It → Hp → Prop} (q : te σ H fun x H1 => IsT K x H1 R) : iTup K te σ H R := q
theorem r_isl {R : It → Hp → Prop} (h : SqL K H a xs) (q : R (Itl K a) H) : IsL K (.ref a) H R := ⟨a, rfl, ⟨xs, h⟩, q⟩
theorem r_ist {R : It → Hp → Prop} (h : SqT K H a xs) (q : R (Itt K a) H) : IsT K (.ref a) H R := ⟨a, rfl, ⟨xs, h⟩, q⟩
theorem f_range {lo : Int} {n : Nat} {g : TG} {tb : TS} (Pv : Nat → L2.St → Hp → Prop) (h0 : Pv 0 σ H)
    (hs : ∀ i σ H, i < n → Pv i σ H → g (.int (lo + i)) σ H fun σ2 H2 => tb { D with nx := Pv (i + 1), ct := Pv (i + 1), bk := D.nx } σ2 H2)
    (hd : ∀ σ H, Pv n σ H → D.nx σ H) : ForK (Itr lo n) g tb D σ H := for_range Pv h0 hs hd
theorem f_list {g : TG} {tb : TS} (xs : List V) (Pv : Nat → L2.St → Hp → Prop) (h0 : Pv 0 σ H) (hl : ∀ i σ H, i ≤ xs.length → Pv i σ H → SqL K H a xs)
    (hs : ∀ i x σ H, xs[i]? = some x → Pv i σ H → g x σ H fun σ2 H2 => tb { D with nx := Pv (i + 1), ct := Pv (i + 1), bk := D.nx } σ2 H2)
    (hd : ∀ σ H, Pv xs.length σ H → D.nx σ H) : ForK (Itl K a) g tb D σ H := for_list Pv h0 hl hs hd
theorem f_tup {g : TG} {tb : TS} (xs : List V) (Pv : Nat → L2.St → Hp → Prop) (h0 : Pv 0 σ H) (hl : ∀ i σ H, i ≤ xs.length → Pv i σ H → SqT K H a xs)
    (hs : ∀ i x σ H, xs[i]? = some x → Pv i σ H → g x σ H fun σ2 H2 => tb { D with nx := Pv (i + 1), ct := Pv (i + 1), bk := D.nx } σ2 H2)
    (hd : ∀ σ H, Pv xs.length σ H → D.nx σ H) : ForK (Itt K a) g tb D σ H := for_tup Pv h0 hl hs hd
-- dict displays, lists joined
def MkD (p : Addr) (ps : List (V × V)) (H : Hp) (Q : VK) : Prop := H p = some (.dK []) ∧ ∃ kvs : List (Key × V), ps = kvs.map (fun kv => (kV kv.1, kv.2)) ∧ kvs.length ≤ 15 ∧ Q (.ref p) (upd H p (.dK (mergeK [] kvs)))
theorem r_disp {trs : List (TE × TE)} (q : ∀ p H1, H p = none → Ex H H1 → H1 p = some (.dK []) → tPairs trs σ H1 fun ps H2 => MkD p ps H2 Q) : tDisp trs σ H Q := fun p np => q p _ np (Evl.Ex.new np) upd_same
theorem r_pnil {QP : List (V × V) → Hp → Prop} (q : QP [] H) : tPairs [] σ H QP := q
theorem r_pcons {r : List (TE × TE)} {QP : List (V × V) → Hp → Prop} (q : ta σ H fun x H1 => tb σ H1 fun y H2 => tPairs r σ H2 fun ps H3 => QP ((x, y) :: ps) H3) : tPairs ((ta, tb) :: r) σ H QP := q
theorem r_mkd {p : Addr} {ps : List (V × V)} (kvs : List (Key × V)) {kw : List (Key × V)} (h : H p = some (.dK [])) (e : ps = kvs.map (fun kv => (kV kv.1, kv.2))) (l : kvs.length ≤ 15) (e2 : mergeK [] kvs = kw)
    (q : ∀ H1, Kp p H H1 → H1 p = some (.dK kw) → Q (.ref p) H1) : MkD p ps H Q := ⟨h, kvs, e, l, q _ Kp.upd (by rw [e2, upd_same])⟩
theorem r_cat {b : Addr} {ys : List V} (h1 : H a = some (.lst xs)) (h2 : H b = some (.lst ys)) (l : xs.length + ys.length ≤ sizeLine) (q : New H (.lst (xs ++ ys)) Q) : rCat (.ref a) (.ref b) H Q :=
  ⟨a, b, xs, ys, rfl, rfl, h1, h2, l, q⟩
/-- all of them whole numbers within the ends -/
def AllI (lo hi : Int) : List V → Prop
  | [] => True
  | .int z :: r => (lo ≤ z ∧ z ≤ hi) ∧ AllI lo hi r
  | _ :: _ => False
theorem AllI.at {lo hi : Int} : ∀ {xs : List V} {v : V}, AllI lo hi xs → v ∈ xs → ∃ z, v = .int z ∧ lo ≤ z ∧ z ≤ hi
  | [], _, _, h => by cases h
  | .int z :: r, v, a, h => by
    rcases List.mem_cons.mp h with rfl | h
    · exact ⟨z, rfl, a.1.1, a.1.2⟩
    · exact AllI.at a.2 h
  | .non :: _, _, a, _ => a.elim
  | .bl _ :: _, _, a, _ => a.elim
  | .str _ :: _, _, a, _ => a.elim
  | .byt _ :: _, _, a, _ => a.elim
  | .flt _ :: _, _, a, _ => a.elim
  | .ref _ :: _, _, a, _ => a.elim
  | .ty _ :: _, _, a, _ => a.elim
theorem r_ixM (h : SqL K H a xs) (c : 0 ≤ m) (c2 : m < xs.length) (q : ∀ v, v ∈ xs → Q v H) : rIxL K (.ref a) (.int m) H Q := by
  have hl : m.toNat < xs.length := by omega
  exact r_ixL (v := xs[m.toNat]) h (at_of (j := m.toNat) (by omega) (List.getElem?_eq_getElem hl)) (q _ (List.getElem_mem hl))
theorem r_ixB {lo hi : Int} (h : SqL K H a xs) (c : 0 ≤ m) (c2 : m < xs.length) (al : AllI lo hi xs) (q : ∀ z, lo ≤ z → z ≤ hi → Q (.int z) H) : rIxL K (.ref a) (.int m) H Q :=
  r_ixM h c c2 fun v hv => by
    obtain ⟨z, rfl, z1, z2⟩ := al.at hv
    exact q z z1 z2
-- arithmetic under conditions
theorem r_mod (c : 0 < n) (q : Q (.int (m % n)) H) : rI (fun _ j => 0 < j) (fun i j => .int (i % j)) (.int m) (.int n) H Q := ⟨m, n, rfl, rfl, c, q⟩
theorem r_modF (c : 0 < n) (q : ∀ r, 0 ≤ r → r < n → Q (.int r) H) : rI (fun _ j => 0 < j) (fun i j => .int (i % j)) (.int m) (.int n) H Q :=
  ⟨m, n, rfl, rfl, c, q _ (Int.emod_nonneg _ (by omega)) (Int.emod_lt_of_pos _ c)⟩
theorem r_div (c : 0 < n) (c2 : n < 1073741824) (q : Q (.int (m / n)) H) : rI CDiv (fun i j => .int (i / j)) (.int m) (.int n) H Q := ⟨m, n, rfl, rfl, ⟨c, c2⟩, q⟩
theorem r_divF (c : 0 < n) (c2 : n < 1073741824) (c3 : 0 ≤ m) (q : ∀ r, 0 ≤ r → r ≤ m → Q (.int r) H) : rI CDiv (fun i j => .int (i / j)) (.int m) (.int n) H Q :=
  ⟨m, n, rfl, rfl, ⟨c, c2⟩, q _ (Int.ediv_nonneg c3 (by omega)) (Int.ediv_le_self _ c3)⟩
theorem r_mulL (c : -(2 ^ 64) < m) (c2 : m < 2 ^ 64) (q : Q (.int (m * n)) H) : rI CMul (fun i j => .int (i * j)) (.int m) (.int n) H Q := ⟨m, n, rfl, rfl, .inl ⟨c, c2⟩, q⟩
theorem r_mulR (c : -(2 ^ 64) < n) (c2 : n < 2 ^ 64) (q : Q (.int (m * n)) H) : rI CMul (fun i j => .int (i * j)) (.int m) (.int n) H Q := ⟨m, n, rfl, rfl, .inr ⟨c, c2⟩, q⟩
theorem r_pow (c : 0 ≤ n) (c2 : n ≤ 1000000) (c3 : -(2 ^ 64) < m) (c4 : m < 2 ^ 64) (q : Q (.int (m ^ n.toNat)) H) : rI CPow (fun i j => .int (i ^ j.toNat)) (.int m) (.int n) H Q :=
  ⟨m, n, rfl, rfl, ⟨c, c2, by omega⟩, q⟩
-- dicts by written keys
def GetD (x y : V) (H : Hp) (Q : VK) : Prop := ∃ a v, x = .ref a ∧ DGet H a y (some v) ∧ Q v H
def PutD (x y v : V) (H : Hp) (C : Hp → Prop) : Prop := ∃ a H4, x = .ref a ∧ DPut H a y v H4 ∧ C H4
theorem r_dget (q : td σ H fun x H1 => ty σ H1 fun y H2 => GetD x y H2 Q) : tDGet td ty σ H Q := q
theorem r_dput (q : tv σ H fun v H1 => td σ H1 fun x H2 => ty σ H2 fun y H3 => PutD x y v H3 (D.nx σ)) : sDPut td ty tv D σ H := q
theorem g_dk {k : Str} {kvs : List (Key × V)} (h : H a = some (.dK kvs)) (e : valV kvs (Sum.inr k) = some v) (q : Q v H) : GetD (.ref a) (.str k) H Q :=
  ⟨a, v, rfl, by rw [← e]; exact DGet.k (k := Sum.inr k) h, q⟩
theorem p_dk {k : Str} {kvs kvs' : List (Key × V)} {C : Hp → Prop} (h : H a = some (.dK kvs)) (hl : kvs.length < sizeLine) (e : putK kvs (Sum.inr k) v = kvs')
    (q : ∀ H', Kp a H H' → H' a = some (.dK kvs') → C H') : PutD (.ref a) (.str k) v H C :=
  ⟨a, _, rfl, DPut.k (k := Sum.inr k) h hl, q _ Kp.upd (by rw [e, upd_same])⟩
end
section
variable {X : Cx}
theorem c_abs : CallR X (.builtin "abs") rAbs := call_abs
theorem c_max2 (hc : X.calm = true) : CallR X (.builtin "max") rMax2 := call_max2 hc
theorem c_min2 (hc : X.calm = true) : CallR X (.builtin "min") rMin2 := call_min2 hc
theorem c_lenQ : CallR X (.builtin "len") (rLenQ X.K) := call_len_seq
theorem c_lenS : CallR X (.builtin "len") rLenS := call_len_str
end
end Ts

namespace Ts
open PySem PySem.Spec PyProof.Rows L2
abbrev kC : Key := Sum.inr ("cells" : Str)
abbrev kA : Key := Sum.inr ("at" : Str)
abbrev kL : Key := Sum.inr ("left" : Str)
theorem kAC : ¬ kC = kA := by decide
theorem kLC : ¬ kC = kL := by decide
theorem kLA : ¬ kA = kL := by decide
abbrev penK (c : Addr) (n l : Int) : List (Key × V) := [(kC, .ref c), (kA, .int n), (kL, .int l)]
theorem pen_c (c : Addr) (n l : Int) : valV (penK c n l) kC = some (.ref c) := by
  rw [valV_pos rfl]
theorem pen_a (c : Addr) (n l : Int) : valV (penK c n l) kA = some (.int n) := by
  rw [valV_neg kAC, valV_pos rfl]
theorem pen_l (c : Addr) (n l : Int) : valV (penK c n l) kL = some (.int l) := by
  rw [valV_neg kLC, valV_neg kLA, valV_pos rfl]
theorem put_a (c : Addr) (n l m : Int) : putK (penK c n l) kA (.int m) = penK c m l := by rfl
theorem put_l (c : Addr) (n l m : Int) : putK (penK c n l) kL (.int m) = penK c n m := by rfl
theorem mergePen (c : Addr) (n l : Int) : mergeK [] (penK c n l) = penK c n l := by
  rfl
end Ts

namespace Ts
open PySem PySem.Spec PyProof.Rows L2
section
variable {X : Cx} {CX : CXT} {k n : Nat} {f : Addr} {fd : FuncData} {ps ks : List Str} {sp : Sp} {E : XK} {x : Str} {p pos : Pos}
  {kws : List Keyword} {t tk : TA} {g : List Value → List Value → List Value} {gV : List V → List V → List V}
/-- f(k = v, ..) -/
def tCallN0 (m : Nat) (sp : Sp) (gV : List V → List V → List V) (E : XK) (tk : TA) : TE := fun σ H Q => tk σ H fun zs H2 => zs.length = m ∧ sp (gV [] zs) H2 Q E
theorem pe_callN0 (F : FnOk X.prog X.w X.K X.mg X.base CX k f fd ps sp) (hr : Room k X.A) (hg : Gl X x)
    (hm : X.mg x = some (.ref f)) (hk : PySem.W.keepIn X.K (.ref f) = true) (hb : KBn X.K fd ps 0 ks g gV)
    (hx : Passes CX X E) (hkw : PK X kws tk)
    (hall : (backToKw pos (keywordEach kws X.env)).all (·.1.isSome) = true := by rfl)
    (hks : (backToKw pos (keywordEach kws X.env)).filterMap (·.1) = ks := by rfl)
    (hdb : (x == ("__debug__" : Str)) = false := by decide)
    (hpl : ((backTo pos (starEach [] X.env)).any (·.1) || (backToKw pos (keywordEach kws X.env)).any (·.1.isNone)) = false := by rfl) :
    PE X (.Call (.Name x p) [] kws pos) (tCallN0 ks.length sp gV E tk) := by
  refine ⟨fun pins s σ H Q I h => ?_⟩
  refine wpAny_Call_Name_kw (ld_glob I hg hm ?_ hdb)
  refine PySem.W.callWith_KW0 (h₀ := X.base) I.ok.mod.kin hk hall
    (thn (hkw.run pos pins s σ H _ I h) fun ws s2 ⟨zs, H2, I2, rz, l2, q2⟩ => ⟨I2.kIn, ?_⟩) hpl
  rw [hks]
  exact run_fnN (us := []) (vs := []) F hr hb hx I2 .nil rz rfl l2 q2
theorem pe_globE {y : Str} {v : V} {q : Pos} (hg : Gl X y) (hm : ∃ u, X.mg y = some u ∧ RelV v u) (hn : (y == ("__debug__" : Str)) = false := by decide) : PE X (.Name y q) (tC v) := by
  obtain ⟨u, h1, h2⟩ := hm
  exact pe_glob hg h1 h2 (hd := hn)
theorem r_neSame {a b : Str} {H : Hp} {Q : VK} (e : a = b) (q : Q (.bl false) H) : rNe (.str a) (.str b) H Q := by
  subst e
  exact r_neS (by rw [decide_eq_true rfl]; exact q)
theorem r_eqSame {a b : Str} {H : Hp} {Q : VK} (e : a = b) (q : Q (.bl true) H) : rEq (.str a) (.str b) H Q := by
  subst e
  exact r_eqS (by rw [decide_eq_true rfl]; exact q)
theorem r_callN {σ : L2.St} {H : Hp} {Q : VK} {m : Nat} (q : t σ H fun vs H1 => tk σ H1 fun zs H2 => vs.length = n ∧ zs.length = m ∧ sp (gV vs zs) H2 Q E) : tCallN n m sp gV E t tk σ H Q := q
theorem vals_take {vs : List V} {us : List Value} (r : Vals vs us) : ∀ n, Vals (vs.take n) (us.take n) := by
  intro n
  induction r generalizing n with
  | nil => simp only [List.take_nil]; exact .nil
  | cons a b ih =>
    cases n with
    | zero => exact .nil
    | succ n => exact .cons a (ih n)
def CallD (sp : Sp) (vs dvs : List V) (H : Hp) (Q : VK) (E : XK) : Prop := sp (vs ++ dvs) H Q E
theorem r_callD {σ : L2.St} {H : Hp} {Q : VK} {dvs : List V} (q : t σ H fun vs H1 => CallD sp vs dvs H1 Q E) : tCall sp dvs E t σ H Q := q
theorem r_cd1 {H : Hp} {Q : VK} {x : V} {dvs : List V} (q : sp (x :: dvs) H Q E) : CallD sp [x] dvs H Q E := q
theorem r_cd2 {H : Hp} {Q : VK} {x y : V} {dvs : List V} (q : sp (x :: y :: dvs) H Q E) : CallD sp [x, y] dvs H Q E := q
theorem r_cd3 {H : Hp} {Q : VK} {x y z : V} {dvs : List V} (q : sp (x :: y :: z :: dvs) H Q E) : CallD sp [x, y, z] dvs H Q E := q
theorem sh_int {i : Int} (h1 : -10000000000000000000000000000000000000000 < i) (h2 : i < 10000000000000000000000000000000000000000) : Sh (.int i) := by
  have hb : i.natAbs < 10 ^ 40 := by omega
  have hl : i.natAbs.log2 < 1920 := by
    rcases Nat.eq_zero_or_pos i.natAbs with h | h
    · rw [h]; decide
    · exact Nat.lt_trans ((Nat.log2_lt (by omega)).mpr (Nat.lt_trans hb (by decide : 10 ^ 40 < 2 ^ 140))) (by decide)
  refine ⟨hl, ?_, by simp only [PyData.depth]; decide⟩
  simp only [wt]
  exact int_text_fits hl
theorem r_callN0 {σ : L2.St} {H : Hp} {Q : VK} {m : Nat} (q : tk σ H fun zs H2 => zs.length = m ∧ sp (gV [] zs) H2 Q E) : tCallN0 m sp gV E tk σ H Q := q
end
section
variable {K : PySem.W.Frag} {x qual : Str} {params : Arguments} {body : List Stmt} {scope : Scope} {kws : List (Str × V)} {f : Addr} {fd : FuncData} {ps : List Str}
/-- keywords named ks of a def whose parameters behind * have defaults kws; ms: those that lack -/
theorem kb0 (F : FunD K x qual params body scope [] kws f fd) (n : Nat) (ks : List Str) (ms : List (Str × V))
    (g : {α : Type} → List α → List α → List α → List α) (hk : kws ≠ []) (hms : ∀ q ∈ ms, q ∈ kws)
    (hrel : ∀ {vs mz zs : List V} {us mv ws : List Value}, Vals vs us → Vals mz mv → Vals zs ws → Vals (g vs mz zs) (g us mv ws))
    (h : ∀ (D : Addr) (doc pm : Value) (an : Option Addr) (cdv ct : Value) (us mv ws : List Value), us.length = n → mv.length = ms.length → ws.length = ks.length →
      KwChain D ((ms.map (·.1)).zip mv) (bindArgs (PySem.W.fnOf x qual params body scope .none (.ref D) doc pm an cdv ct) ⟨us, ks.zip ws⟩) (ps.zip (g us mv ws))) :
    ∃ mv : List Value, KBn K fd ps n ks (fun us ws => g us mv ws) (fun vs zs => g vs (ms.map (·.2)) zs) := by
  obtain ⟨oc, od, dV, kV, doc, pm, an, cdv, ct, osl, rfl, lk, hcd, hD, hK⟩ := F.ex
  rcases hD with ⟨_, rfl⟩ | ⟨e, _⟩
  · rcases hK with e | ⟨D, rfl, hq⟩
    · exact (hk e).elim
    · obtain ⟨mv, hl, rk, hks⟩ := kwd_vals (ms := ms) fun q hm => hq q (hms q hm)
      refine ⟨mv, fun s us ws X l1 l2 => ?_, fun r1 r2 => hrel r1 rk r2⟩
      exact BindsTo.of_looks fun M => KwChain.looks X hks (h D doc pm an cdv ct us mv ws l1 hl l2)
  · exact (e rfl).elim
/-- keywords of a plain def -/
theorem kbF {st : Stmt} (F : Fun K x qual st f fd) (n : Nat) (ks : List Str) (g : {α : Type} → List α → List α → List α)
    (hrel : ∀ {vs zs : List V} {us ws : List Value}, Vals vs us → Vals zs ws → Vals (g vs zs) (g us ws))
    (h : ∀ (kV doc pm : Value) (an : Option Addr) (cdv ct : Value) (us ws : List Value), us.length = n → ws.length = ks.length →
      bindArgs (PySem.W.fnOf x qual (defArgs st) (defBody st) (defScope st) .none kV doc pm an cdv ct) ⟨us, ks.zip ws⟩ = pure (ps.zip (g us ws))) :
    KBn K fd ps n ks (fun us ws => g us ws) (fun vs zs => g vs zs) := by
  obtain ⟨oc, od, kV, doc, pm, an, cdv, ct, osl, rfl, lk, hcd⟩ := F.ex
  exact ⟨fun s us ws _ l1 l2 => .of_eq (h kV doc pm an cdv ct us ws l1 l2), fun r1 r2 => hrel r1 r2⟩
end
end Ts

namespace Ts
open PySem PySem.Spec PyProof.Rows L2
/-! ### data that can be shown, with its weight -/
structure OkW (d : PyData) (n k : Nat) : Prop where
  ok : okD d
  wt : wt d ≤ n
  dp : d.depth ≤ k
structure OkWs (ds : List PyData) (n k : Nat) : Prop where
  ok : okDs ds
  wt : wts ds ≤ n
  dp : PyData.depthAll ds ≤ k
theorem Sh.of {d : PyData} {n k : Nat} (h : OkW d n k) (hn : n ≤ sizeLine) (hk : k ≤ 60) : Sh d := ⟨h.ok, Nat.le_trans h.wt hn, Nat.le_trans h.dp hk⟩
theorem okw_int {i : Int} (h1 : -10000000000000000000000000000000000000000 < i) (h2 : i < 10000000000000000000000000000000000000000) : OkW (.int i) 41 0 := by
  have s := sh_int h1 h2
  refine ⟨s.ok, ?_, by simp only [PyData.depth]; decide⟩
  simp only [wt]
  rw [PySem.ofString_length]
  exact int_text_length_le10 (k := 40) (by decide) (by omega)
theorem okw_none : OkW .none 4 0 := ⟨trivial, by simp only [wt]; decide, by simp only [PyData.depth]; decide⟩
theorem okw_bool {b : Bool} : OkW (.bool b) 5 0 := ⟨trivial, by simp only [wt]; decide, by simp only [PyData.depth]; decide⟩
/-- a text of at most n plain signs -/
def okS (n : Nat) (x : Str) : Bool := decide (x.cps.toList.length ≤ n) && x.cps.toList.all fun c => decide (c < 1114112)
theorem okS.len {n : Nat} {x : Str} (h : okS n x = true) : x.length ≤ n := by
  unfold okS at h
  simp only [Bool.and_eq_true, decide_eq_true_eq] at h
  have e : x.cps.toList.length = x.length := by simp [Str.length]
  omega
theorem okS.lt {n : Nat} {x : Str} (h : okS n x = true) : ∀ c ∈ x.cps.toList, c < 16 ^ 8 := by
  unfold okS at h
  simp only [Bool.and_eq_true, List.all_eq_true, decide_eq_true_eq] at h
  intro c hc
  exact Nat.lt_trans (h.2 c hc) (by decide)
theorem okw_str {n : Nat} {x : Str} (h : okS n x = true) : OkW (.str x) (10 * n + 2) 0 :=
  ⟨okS.lt h, by simp only [wt]; have := okS.len h; omega, by simp only [PyData.depth]; decide⟩
theorem okw_tup {ds : List PyData} {n k : Nat} (h : OkWs ds n k) : OkW (.tuple ds) (n + 3) (k + 1) :=
  ⟨h.ok, by simp only [wt]; have := h.wt; omega, by simp only [PyData.depth]; have := h.dp; omega⟩
theorem okw_lst {ds : List PyData} {n k : Nat} (h : OkWs ds n k) : OkW (.list ds) (n + 2) (k + 1) :=
  ⟨h.ok, by simp only [wt]; have := h.wt; omega, by simp only [PyData.depth]; have := h.dp; omega⟩
theorem okws_nil : OkWs [] 0 0 := ⟨trivial, by simp only [wts]; decide, by simp only [PyData.depthAll]; decide⟩
theorem okws_cons {d : PyData} {ds : List PyData} {n k n' k' : Nat} (h : OkW d n k) (t : OkWs ds n' k') : OkWs (d :: ds) (n + 2 + n') (max k k') :=
  ⟨⟨h.ok, t.ok⟩, by simp only [wts]; have := h.wt; have := t.wt; omega, by simp only [PyData.depthAll]; have := h.dp; have := t.dp; omega⟩
theorem okws_all {n k : Nat} : ∀ {ds : List PyData}, (∀ d ∈ ds, OkW d n k) → OkWs ds (ds.length * (n + 2)) k
  | [], _ => ⟨trivial, by simp only [wts]; omega, by simp only [PyData.depthAll]; omega⟩
  | d :: ds, h => by
    have h1 := h d (List.mem_cons_self ..)
    have h2 := okws_all (ds := ds) fun x hx => h x (List.mem_cons_of_mem _ hx)
    refine ⟨⟨h1.ok, h2.ok⟩, ?_, ?_⟩
    · simp only [wts, List.length_cons, Nat.succ_mul]
      have := h1.wt
      have := h2.wt
      omega
    · simp only [PyData.depthAll]
      have := h1.dp
      have := h2.dp
      omega
/-- all of them texts of which P holds -/
def AllS (P : Str → Bool) : List V → Bool
  | [] => true
  | .str z :: r => P z && AllS P r
  | _ :: _ => false
theorem AllS.at {P : Str → Bool} : ∀ {xs : List V} {v : V}, AllS P xs = true → v ∈ xs → ∃ z, v = .str z ∧ P z = true
  | [], _, _, h => by cases h
  | .str z :: r, v, a, h => by
    have a : (P z && AllS P r) = true := a
    rw [Bool.and_eq_true] at a
    rcases List.mem_cons.mp h with rfl | h
    · exact ⟨z, rfl, a.1⟩
    · exact AllS.at a.2 h
  | .non :: _, _, a, _ => by cases a
  | .bl _ :: _, _, a, _ => by cases a
  | .int _ :: _, _, a, _ => by cases a
  | .byt _ :: _, _, a, _ => by cases a
  | .flt _ :: _, _, a, _ => by cases a
  | .ref _ :: _, _, a, _ => by cases a
  | .ty _ :: _, _, a, _ => by cases a
section
variable {σ : L2.St} {H : Hp} {K : PySem.W.Frag} {a : Addr} {xs r : List V} {v : V} {QS : L2.St → Hp → Prop} {t : TG} {u : TGs}
theorem r_gtup {n : Nat} (h : SqT K H a xs) (l : xs.length = n) (q : u xs σ H QS) : gTup K n u (.ref a) σ H QS := ⟨a, xs, rfl, h, l, q⟩
theorem r_gcons (q : t v σ H fun σ' H' => u r σ' H' QS) : gCons t u (v :: r) σ H QS := ⟨v, r, rfl, q⟩
theorem r_gnil (q : QS σ H) : gNil [] σ H QS := ⟨rfl, q⟩
end
end Ts

namespace Ts
open PySem PySem.Spec PyProof.Rows L2
/-! ### texts by their signs -/
abbrev S (l : List Nat) : Str := ⟨l.toArray⟩
theorem S_cps (l : List Nat) : (S l).cps.toList = l := rfl
theorem S_of (x : Str) : S x.cps.toList = x := by
  cases x
  simp [S]
theorem S_len (l : List Nat) : (S l).length = l.length := by simp [Str.length, S]
theorem S_app (a b : List Nat) : S a ++ S b = S (a ++ b) := by
  show Str.append (S a) (S b) = _
  simp [Str.append, S]
theorem S_inj {a b : List Nat} : S a = S b ↔ a = b := by
  constructor
  · intro h
    have := congrArg (fun x : Str => x.cps.toList) h
    simpa using this
  · intro h
    rw [h]
theorem cutS_S (l : List Nat) (lo hi : Option Int) : cutS (S l) lo hi = S ((l.drop (HT.sIx l.length 0 lo)).take (HT.sIx l.length l.length hi - HT.sIx l.length 0 lo)) := by
  unfold cutS
  rw [S_len]
theorem cutS_nn (l : List Nat) (i j : Nat) : cutS (S l) (some (i : Int)) (some (j : Int)) = S ((l.take j).drop i) := by
  rw [cutS_S, HT.sIx_nat, HT.sIx_nat, List.drop_take]
  congr 1
  by_cases hi : i ≤ l.length
  · rw [Nat.min_eq_left hi]
    by_cases hj : j ≤ l.length
    · rw [Nat.min_eq_left hj]
    · rw [Nat.min_eq_right (Nat.le_of_not_le hj), List.take_of_length_le (by rw [List.length_drop]; omega), List.take_of_length_le (by rw [List.length_drop]; omega)]
  · have hl : l.length ≤ i := Nat.le_of_not_le hi
    rw [show min i l.length = l.length from Nat.min_eq_right hl, List.drop_eq_nil_of_le (Nat.le_refl l.length), List.drop_eq_nil_of_le hl, List.take_nil, List.take_nil]
theorem cutS_0n (l : List Nat) (j : Nat) : cutS (S l) none (some (j : Int)) = S (l.take j) := by
  rw [cutS_S, HT.sIx_none, HT.sIx_nat, List.drop_zero, Nat.sub_zero]
  congr 1
  by_cases hj : j ≤ l.length
  · rw [Nat.min_eq_left hj]
  · rw [Nat.min_eq_right (by omega), List.take_of_length_le (Nat.le_refl _), List.take_of_length_le (by omega)]
theorem cutS_n0 (l : List Nat) (i : Nat) : cutS (S l) (some (i : Int)) none = S (l.drop i) := by
  rw [cutS_S, HT.sIx_none, HT.sIx_nat]
  congr 1
  by_cases hi : i ≤ l.length
  · rw [Nat.min_eq_left hi, List.take_of_length_le (by rw [List.length_drop]; omega)]
  · have hl : l.length ≤ i := Nat.le_of_not_le hi
    rw [show min i l.length = l.length from Nat.min_eq_right hl, List.drop_eq_nil_of_le (Nat.le_refl l.length), List.drop_eq_nil_of_le hl, List.take_nil]
theorem eqV_S (a b : List Nat) : eqV (.str (S a)) (.str (S b)) = decide (a = b) := by
  show (S a == S b) = _
  by_cases h : a = b
  · rw [h]; simp
  · rw [beq_eq_false_iff_ne.mpr (fun z => h (S_inj.mp z)), decide_eq_false h]
theorem inV_S (x : List Nat) : ∀ ys : List (List Nat), inV (.str (S x)) (ys.map fun y => .str (S y)) = decide (x ∈ ys)
  | [] => by simp [inV]
  | y :: r => by
    have ih := inV_S x r
    unfold inV at ih ⊢
    rw [List.map_cons, List.any_cons, ih, eqV_S]
    by_cases h : y = x
    · simp [h]
    · have : ¬ x = y := fun z => h z.symm
      simp [h, this]
theorem all_flat_S : ∀ ys : List (List Nat), (ys.map fun y => V.str (S y)).all flatV = true
  | [] => rfl
  | _ :: r => all_flat_S r
section
variable {X : Cx}
theorem pe_strL (l : List Nat) {x : Str} {j : Nat} {pos : Pos} (e : x = S l := by rfl) : PE X (.Constant (.str x) j pos) (tC (.str (S l))) := by
  rw [← e]
  exact pe_str
/-- truth as a test -/
def tTru (K : PySem.W.Frag) (ta : TE) : TT := fun σ H Q => ta σ H fun x H' => ∃ k, TruV K x H' k ∧ Q k H'
def IsTru (K : PySem.W.Frag) (x : V) (H : Hp) (Q : Bool → Hp → Prop) : Prop := ∃ k, TruV K x H k ∧ Q k H
theorem pt_tru {a : Expr} {ta : TE} (ha : PE X a ta) (he : ∀ whole, isTrue a X.env whole = (do let v ← whole; standAt a.pos; holding [v] (truthy v))) : PT X a (tTru X.K ta) := pt_truth ha he
def rAddS : R2 := fun x y H Q => ∃ i j, x = .str i ∧ y = .str j ∧ i.length + j.length ≤ sizeLine ∧ Q (.str (i ++ j)) H
theorem o_addS : OpR X (binaryOp .Add) rAddS := op_add_str
theorem ip_addS : PIp X .Add rAddS := fun pins s σ H x y u v Q I rx ry h => iop_add_str pins s σ H x y u v Q I rx ry h
/-- built-in types' methods -/
def TyB (K : PySem.W.Frag) (T : String) (x : V) (H : Hp) (P : Prop) : Prop := tyV K T x H ∧ P
def IsS (x : V) (P : Prop) : Prop := (∃ a, x = .str a) ∧ P
def rJoin (K : PySem.W.Frag) : V → List V → Hp → VK → Prop := fun x xs H Q => ∃ a p, ∃ ys : List Str, x = .str a ∧ xs = [.ref p] ∧ (SqL K H p (ys.map V.str) ∨ SqT K H p (ys.map V.str)) ∧
    (ys.map (·.length)).sum + ys.length * a.length ≤ 16777216 ∧ Q (.str (Txt.join a ys)) H
end
section
variable {X : Cx} {o e : Expr} {to te : TE}
theorem pe_joinN {apos pos : Pos} (ho : PE X o to) (he : PE X e te) (hs : starEach [e] X.env = [(false, eval e X.env)] := by rfl)
    (hbase : attributeBase o "join" X.env (eval o X.env) = eval o X.env := by rfl) (hline : (apos.endLine == pos.line) = true := by rfl) :
    PE X (.Call (.Attribute o "join" apos) [e] [] pos) (tM1 (rJoin X.K) to te) := pe_join ho he hs hbase hline
end
section
variable {σ : L2.St} {H H1 : Hp} {Q : VK} {QA : List V → Hp → Prop} {QT : Bool → Hp → Prop} {ta tb te to : TE} {t tr : TA} {v x y : V}
  {D : Ends} {K : PySem.W.Frag} {m n : Int} {a l : Addr} {xs : List V} {i j : Nat} {z u : List Nat}
theorem r_tru (q : ta σ H fun x H1 => IsTru K x H1 QT) : tTru K ta σ H QT := q
theorem r_truS (h : z.length ≤ 1000000) (q : QT (!decide (z = [])) H) : IsTru K (.str (S z)) H QT := by
  refine ⟨!decide (z = []), ⟨?_, ?_⟩, q⟩
  · rw [S_len]; exact Nat.le_trans h (by decide)
  · rw [S_len]
    cases z with
    | nil => rfl
    | cons a r =>
      rw [decide_eq_false (by simp)]
      have : (((a :: r).length : Int) != 0) = true := by
        rw [List.length_cons, bne_iff_ne]
        omega
      rw [this]
      rfl
theorem r_addS (h : z.length + u.length ≤ 1000000) (q : Q (.str (S (z ++ u))) H) : rAddS (.str (S z)) (.str (S u)) H Q :=
  ⟨_, _, rfl, rfl, by rw [S_len, S_len]; exact Nat.le_trans h (by decide), by rw [S_app]; exact q⟩
theorem r_slS {lo hi : Option Int} {w : List Nat} (h : z.length ≤ 1000000) (e : cutS (S z) lo hi = S w) (q : Q (.str (S w)) H) : rSlS (.str (S z)) lo hi H Q :=
  ⟨_, rfl, by rw [S_len]; exact Nat.le_trans h (by decide), by rw [e]; exact q⟩
theorem r_ixS {c : Nat} (h : z.length ≤ 1000000) (e : atI z m = some c) (q : Q (.str (S [c])) H) : rIxS (.str (S z)) (.int m) H Q :=
  ⟨_, _, c, rfl, rfl, by rw [S_len]; exact Nat.le_trans h (by decide), e, q⟩
theorem r_lenSS (h : z.length ≤ 1000000) (q : Q (.int z.length) H) : rLenS [.str (S z)] H Q := r_lenS (by rw [S_len]; exact Nat.le_trans h (by decide)) (by rw [S_len]; exact q)
theorem r_eqSS (q : Q (.bl (decide (z = u))) H) : rEq (.str (S z)) (.str (S u)) H Q := r_eqS (by
  rw [show decide (S z = S u) = decide (z = u) from by simp only [S_inj]]
  exact q)
theorem r_neSS (q : Q (.bl (!decide (z = u))) H) : rNe (.str (S z)) (.str (S u)) H Q := r_neS (by
  rw [show decide (S z = S u) = decide (z = u) from by simp only [S_inj]]
  exact q)
theorem r_inT (ys : List (List Nat)) (h : SqT K H a xs) (e : xs = ys.map fun y => .str (S y)) (q : Q (.bl (decide (z ∈ ys))) H) : rIn K false (.str (S z)) (.ref a) H Q := by
  subst e
  exact ⟨a, _, rfl, .inr h, rfl, all_flat_S ys, by rw [if_neg Bool.false_ne_true, inV_S]; exact q⟩
theorem r_bm {T : String} {r : V → List V → Hp → VK → Prop} (q : to σ H fun x H1 => TyB K T x H1 (t σ H1 fun xs H2 => r x xs H2 Q)) : tBM K T r to t σ H Q := q
theorem r_bm0 {T : String} {r : V → List V → Hp → VK → Prop} (q : to σ H fun x H1 => TyB K T x H1 (r x [] H1 Q)) : tBM0 K T r to σ H Q := q
theorem r_tyL {P : Prop} (h : SqL K H a xs) (q : P) : TyB K "list" (.ref a) H P := ⟨.inl ⟨rfl, xs, h⟩, q⟩
theorem r_tyS {P : Prop} {z : Str} (q : P) : TyB K "str" (.str z) H P := ⟨rfl, q⟩
theorem r_m1 {r : V → List V → Hp → VK → Prop} (q : to σ H fun x H1 => IsS x (te σ H1 fun y H2 => r x [y] H2 Q)) : tM1 r to te σ H Q := q
theorem r_iss {P : Prop} {z : Str} (q : P) : IsS (.str z) P := ⟨⟨z, rfl⟩, q⟩
theorem r_app (h : H l = some (.lst xs)) (c : xs.length < 1000000) (q : ∀ H', Kp l H H' → H' l = some (.lst (xs ++ [y])) → Q .non H') : rAppend (.ref l) [y] H Q :=
  ⟨l, xs, y, rfl, rfl, h, Nat.lt_of_lt_of_le c (by decide), q _ Kp.upd upd_same⟩
theorem r_pop (h : H l = some (.lst (xs ++ [y]))) (q : ∀ H', Kp l H H' → H' l = some (.lst xs) → Q y H') : rPop (.ref l) [] H Q :=
  ⟨l, xs ++ [y], y, rfl, rfl, h, by simp, by
    have e : (xs ++ [y]).dropLast = xs := by simp
    rw [e]
    exact q _ Kp.upd upd_same⟩
theorem r_gsub {ts : TSet} {QS : L2.St → Hp → Prop} (q : to σ H fun o H1 => te σ H1 fun i H2 => ts o i v H2 fun H3 => QS σ H3) : gSub to te ts v σ H QS := q
theorem r_setL {C : Hp → Prop} (h : H l = some (.lst xs)) (e : ixN xs.length m = some j) (q : ∀ H', Kp l H H' → H' l = some (.lst (xs.set j v)) → C H') : rSetL (.ref l) (.int m) v H C :=
  ⟨l, xs, m, j, rfl, rfl, h, e, q _ Kp.upd upd_same⟩
def StarV (K : PySem.W.Frag) (x : V) (H : Hp) (P : List V → Prop) : Prop := ∃ p xs, x = V.ref p ∧ (SqT K H p xs ∨ SqL K H p xs) ∧ P xs
theorem r_star (q : te σ H fun x H1 => StarV K x H1 fun xs => t σ H1 fun ys H2 => QA (xs ++ ys) H2) : StX.tStar K te t σ H QA := q
theorem r_starL {P : List V → Prop} (h : SqL K H a xs) (q : P xs) : StarV K (.ref a) H P := ⟨a, xs, rfl, .inr h, q⟩
def rInt1 : List V → Hp → VK → Prop := fun xs H Q => (∃ i, xs = [.int i] ∧ Q (.int i) H) ∨ ∃ k, xs = [.bl k] ∧ Q (.int (if k then 1 else 0)) H
theorem r_intB {b : Bool} (q : Q (.int (if b then 1 else 0)) H) : rInt1 [.bl b] H Q := .inr ⟨b, rfl, q⟩
theorem r_joinL {w : List Nat} (zs : List (List Nat)) (h : SqL K H a xs) (e : xs = zs.map fun y => .str (S y)) (c : (zs.map List.length).sum + zs.length * w.length ≤ 1000000)
    (q : Q (.str (S (TL.joinL w zs))) H) : rJoin K (.str (S w)) [.ref a] H Q := by
  subst e
  refine ⟨S w, a, zs.map S, rfl, rfl, .inl (by rw [List.map_map]; exact h), ?_, ?_⟩
  · rw [List.map_map, List.length_map, S_len]
    have : (zs.map ((fun x : Str => x.length) ∘ S)) = zs.map List.length := List.map_congr_left fun y _ => S_len y
    rw [this]
    exact Nat.le_trans c (by decide)
  · have e : Txt.join (S w) (zs.map S) = S (TL.joinL w zs) := by
      rw [TL.join_eq, ← S_of (Str.join (S w) (zs.map S))]
      have := TL.tl_join (S w) (zs.map S)
      unfold TL.tl at this
      rw [this, List.map_map]
      congr 2
      exact (List.map_congr_left fun y _ => rfl).trans (List.map_id _)
    rw [e]
    exact q
/-- a while by what holds and a number that falls -/
def WhB (W : Nat → L2.St → Hp → Prop) (m : Nat) (tb : TS) (D : Ends) (σ : L2.St) (H : Hp) : Prop := ∃ N : L2.St → Hp → Prop, (∀ σ' H', N σ' H' → ∃ m', m' < m ∧ W m' σ' H') ∧ tb { D with nx := N, ct := N, bk := D.nx } σ H
theorem r_whb {tb : TS} {W : Nat → L2.St → Hp → Prop} {m : Nat} (q : tb { D with nx := fun σ' H' => ∃ m', m' < m ∧ W m' σ' H', ct := fun σ' H' => ∃ m', m' < m ∧ W m' σ' H', bk := D.nx } σ H) : WhB W m tb D σ H := ⟨_, fun _ _ n => n, q⟩
theorem r_while {tc : TT} {tb : TS} (W : Nat → L2.St → Hp → Prop) (m0 : Nat) (h0 : W m0 σ H)
    (hs : ∀ m σ H, W m σ H → tc σ H fun b H1 => IfB b (WhB W m tb D σ H1) (D.nx σ H1)) : tWhile tc tb D σ H := ⟨W, ⟨m0, h0⟩, hs⟩
def SetK (D : Ends) (σ : L2.St) (i : Nat) (z : V) (H : Hp) : Prop := D.nx (σ.set i (some z)) H
theorem r_augK {i : Nat} {ti : TIp} (h : σ[i]? = some (some x)) (q : te σ H fun y H1 => ti x y H1 fun z H2 => SetK D σ i z H2) : tAug i te ti D σ H := ⟨x, h, q⟩
theorem r_setK {i : Nat} (q : D.nx (σ.set i (some x)) H) : SetK D σ i x H := q
end
section
variable {X : Cx}
theorem c_int1 : CallR X (.type "int") rInt1 := call_int1
end
section
variable {σ : L2.St} {H : Hp} {Q : VK} {K : PySem.W.Frag} {a : Addr} {xs : List V} {m : Int} {D : Ends}
theorem r_intD {p : Prop} {_ : Decidable p} (h1 : p → Q (.int 1) H) (h2 : ¬ p → Q (.int 0) H) : rInt1 [.bl (decide p)] H Q := r_intB (by
  by_cases h : p
  · rw [decide_eq_true h, if_pos rfl]; exact h1 h
  · rw [decide_eq_false h, if_neg Bool.false_ne_true]; exact h2 h)
theorem cutS_ap (l : List Nat) (i k : Nat) : cutS (S l) (some (i : Int)) (some ((i : Int) + (k : Int))) = S ((l.drop i).take k) := by
  have := cutS_nn l i (i + k)
  rw [Int.natCast_add] at this
  rw [this, List.drop_take, Nat.add_sub_cancel_left]
theorem ex_kp {H0 H1 H2 : Hp} {p : Addr} (e : Ex H0 H1) (n : H0 p = none) (k : Kp p H1 H2) : Ex H0 H2 := fun b o h => k b o (ne_of_none h n) (e b o h)
/-- a list of texts, an item at a place that is not written -/
def AllT (P : List Nat → Bool) : List V → Bool
  | [] => true
  | .str z :: r => P z.cps.toList && AllT P r
  | _ :: _ => false
theorem AllT.at {P : List Nat → Bool} : ∀ {xs : List V} {v : V}, AllT P xs = true → v ∈ xs → ∃ z, v = .str (S z) ∧ P z = true
  | [], _, _, h => by cases h
  | .str z :: r, v, a, h => by
    have a : (P z.cps.toList && AllT P r) = true := a
    rw [Bool.and_eq_true] at a
    rcases List.mem_cons.mp h with rfl | h
    · exact ⟨z.cps.toList, by rw [S_of], a.1⟩
    · exact AllT.at a.2 h
  | .non :: _, _, a, _ => by cases a
  | .bl _ :: _, _, a, _ => by cases a
  | .int _ :: _, _, a, _ => by cases a
  | .byt _ :: _, _, a, _ => by cases a
  | .flt _ :: _, _, a, _ => by cases a
  | .ref _ :: _, _, a, _ => by cases a
  | .ty _ :: _, _, a, _ => by cases a
theorem r_ixTx (P : List Nat → Bool) (h : SqL K H a xs) (c : 0 ≤ m) (c2 : m < xs.length) (al : AllT P xs = true) (q : ∀ z, P z = true → Q (.str (S z)) H) : rIxL K (.ref a) (.int m) H Q :=
  r_ixM h c c2 fun v hv => by
    obtain ⟨z, rfl, z1⟩ := AllT.at al hv
    exact q z z1
-- comprehensions over a list
def LcK (J : It) (g : TG) (tt : TT) (te : TE) (vs : List Nat) (σ : L2.St) (H1 : Hp) (Q : VK) : Prop := ∀ D, H1 D = none → ∃ W : Nat → Nat → Hp → Prop, (∃ m, W 0 m (upd H1 D (.lst []))) ∧ ∀ i m H, W i m H →
  (J.stop i H ∧ Q (.ref D) H) ∨ (J.go i H ∧ ∃ Nx : Hp → Prop, (∀ H', Nx H' → ∃ m', m' < m ∧ W (i + 1) m' H') ∧ ∀ x H', J.yld i H x H' → g x (wipe σ vs) H' fun σ2 H2 => wipe σ2 vs = wipe σ vs ∧ tt σ2 H2 fun b H3 =>
    if b = true then te σ2 H3 fun y H4 => ∃ acc, H4 D = some (.lst acc) ∧ acc.length < sizeLine ∧ Nx (upd H4 D (.lst (acc ++ [y]))) else Nx H3)
theorem r_lc {wi : TI} {g : TG} {tt : TT} {te : TE} {vs : List Nat} (q : wi σ H fun J H1 => LcK J g tt te vs σ H1 Q) : tLc wi g tt te vs σ H Q := q
theorem filter_take_succ {α : Type} (p : α → Bool) (l : List α) (i : Nat) (x : α) (h : l[i]? = some x) : (l.take (i + 1)).filter p = (l.take i).filter p ++ (if p x = true then [x] else []) := by
  rw [List.take_add_one, h, List.filter_append]
  congr 1
  by_cases hp : p x = true
  · rw [if_pos hp]; simp [hp]
  · rw [if_neg hp]; simp [hp]
/-- each item tested by p, kept as f of it -/
theorem lc_all {tt : TT} {te : TE} {vs : List Nat} {j : Nat} (xs : List V) (hx : SqL K H a xs) (p : V → Bool) (f : V → V) (hz : xs.length < 1000000)
    (hw : ∀ x, wipe ((wipe σ vs).set j (some x)) vs = wipe σ vs)
    (ht : ∀ x ∈ xs, ∀ H2, Ex H H2 → ∀ QQ : Bool → Hp → Prop, (∀ H3, Ex H2 H3 → QQ (p x) H3) → tt ((wipe σ vs).set j (some x)) H2 QQ)
    (he : ∀ x ∈ xs, p x = true → ∀ H2, Ex H H2 → ∀ QQ : VK, (∀ H3, Ex H2 H3 → QQ (f x) H3) → te ((wipe σ vs).set j (some x)) H2 QQ)
    (q : ∀ D H2, H D = none → Ex H H2 → H2 D = some (.lst ((xs.filter p).map f)) → Q (.ref D) H2) : LcK (Itl K a) (gName j) tt te vs σ H Q := by
  intro D nD
  refine lc_list (K := K) (a := a) (xs := xs) (fun i H' => Ex H H' ∧ H' D = some (.lst (((xs.take i).filter p).map f))) ⟨Evl.Ex.new nD, upd_same⟩
    (fun i H' _ h => Ex.L h.1 hx) (fun i x H' hi h => ?_) (fun H' h => q D H' nD h.1 (by
      have := h.2
      rw [List.take_of_length_le (Nat.le_refl _)] at this
      exact this))
  obtain ⟨h1, h2⟩ := h
  have hm : x ∈ xs := List.mem_of_getElem? hi
  refine ⟨hw x, ht x hm H' h1 _ fun H3 e3 => ?_⟩
  have hf := filter_take_succ p xs i x hi
  by_cases hp : p x = true
  · rw [if_pos hp]
    refine he x hm hp H3 (h1.trans e3) _ fun H4 e4 => ?_
    refine ⟨_, e4 _ _ (e3 _ _ h2), ?_, ?_, ?_⟩
    · rw [List.length_map]
      have := List.length_filter_le p (xs.take i)
      rw [List.length_take] at this
      exact Nat.lt_of_lt_of_le (m := 1000000) (by omega) (by decide)
    · exact ex_kp ((h1.trans e3).trans e4) nD Kp.upd
    · rw [upd_same, hf, if_pos hp, List.map_append]
      rfl
  · rw [if_neg hp]
    refine ⟨h1.trans e3, ?_⟩
    rw [hf, if_neg hp, List.append_nil]
    exact e3 _ _ h2
abbrev SV : List Nat → V := fun y => .str (S y)
theorem lc_txt {tt : TT} {te : TE} {vs : List Nat} {j : Nat} (zs : List (List Nat)) (hx : SqL K H a (zs.map SV)) (p : List Nat → Bool) (f : List Nat → List Nat) (hz : zs.length < 1000000)
    (hw : ∀ x, wipe ((wipe σ vs).set j (some x)) vs = wipe σ vs)
    (ht : ∀ z ∈ zs, ∀ H2, Ex H H2 → ∀ QQ : Bool → Hp → Prop, (∀ H3, Ex H2 H3 → QQ (p z) H3) → tt ((wipe σ vs).set j (some (SV z))) H2 QQ)
    (he : ∀ z ∈ zs, p z = true → ∀ H2, Ex H H2 → ∀ QQ : VK, (∀ H3, Ex H2 H3 → QQ (SV (f z)) H3) → te ((wipe σ vs).set j (some (SV z))) H2 QQ)
    (q : ∀ D H2, H D = none → Ex H H2 → H2 D = some (.lst (((zs.filter p).map f).map SV)) → Q (.ref D) H2) : LcK (Itl K a) (gName j) tt te vs σ H Q := by
  refine lc_all (zs.map SV) hx (fun v => match v with | .str s => p s.cps.toList | _ => false) (fun v => match v with | .str s => SV (f s.cps.toList) | v => v) (by rw [List.length_map]; exact hz) hw ?_ ?_ ?_
  · intro x hx2 H2 e2 QQ k
    obtain ⟨z, hz2, rfl⟩ := List.mem_map.mp hx2
    exact ht z hz2 H2 e2 QQ k
  · intro x hx2 hp H2 e2 QQ k
    obtain ⟨z, hz2, rfl⟩ := List.mem_map.mp hx2
    exact he z hz2 hp H2 e2 QQ k
  · intro D H2 nD e2 h2
    refine q D H2 nD e2 ?_
    rw [h2]
    congr 2
    rw [List.filter_map, List.map_map, List.map_map]
    rfl
end
/-- texts of plain signs, at most n of them -/
def okL (n : Nat) (l : List Nat) : Prop := l.length ≤ n ∧ ∀ c ∈ l, c < 1114112
theorem okL.ok {n : Nat} {l : List Nat} (h : okL n l) : okS n (S l) = true := by
  unfold okS
  simp only [Bool.and_eq_true, decide_eq_true_eq, List.all_eq_true]
  exact ⟨h.1, fun c hc => h.2 c hc⟩
abbrev dS : List Nat → PyData := fun y => .str (S y)
section
variable {X : Cx} {K : PySem.W.Frag} {H : Hp} {Q : VK} {a : Addr} {xs : List V}
def rListOf (K : PySem.W.Frag) : List V → Hp → VK → Prop := fun xs H Q => ∃ p ys, xs = [.ref p] ∧ (SqL K H p ys ∨ SqT K H p ys) ∧ ∀ l, H l = none → Q (.ref l) (upd H l (.lst ys))
theorem c_listOf : CallR X (.type "list") (rListOf X.K) := call_list_of
theorem r_listOf (h : SqL K H a xs) (q : New H (.lst xs) Q) : rListOf K [.ref a] H Q := ⟨a, xs, rfl, .inl h, q⟩
theorem dp_strs : ∀ ws : List (List Nat), DpAll K H (ws.map SV) (ws.map dS)
  | [] => .nil
  | w :: r => .cons (.str _) (dp_strs r)
theorem dp_words {ws : List (List Nat)} (h : SqL K H a (ws.map SV)) : Dp K H (.ref a) (.list (ws.map dS)) := .lst h (dp_strs ws)
theorem r_eqDT {x y : V} (d e : PyData) (h1 : Dp K H x d) (h2 : Dp K H y e) (s : (SeqAt.shaped d && SeqAt.shaped e && PyData.eqv d e) = true) (q : Q (.bl true) H) : rEqD K x y H Q := by
  simp only [Bool.and_eq_true] at s
  exact ⟨d, e, h1, h2, s.1.1, s.1.2, by rw [s.2]; exact q⟩
end
theorem sh_strs {ws : List (List Nat)} {n m : Nat} (h : ws.length ≤ n) (hw : ∀ w ∈ ws, w.length ≤ m ∧ ∀ c ∈ w, c < 1114112) (hn : n * (10 * m + 2 + 2) + 2 ≤ sizeLine) : Sh (.list (ws.map dS)) := by
  have k := okws_all (ds := ws.map dS) (n := 10 * m + 2) (k := 0) fun d hd => by
    obtain ⟨w, hw1, rfl⟩ := List.mem_map.mp hd
    exact okw_str (okL.ok (hw w hw1))
  have k2 := okw_lst k
  refine Sh.of k2 (Nat.le_trans (Nat.add_le_add_right (Nat.mul_le_mul_right _ ?_) 2) hn) (by decide)
  rw [List.length_map]
  exact h
end Ts

namespace Ts
open PySem PySem.Spec PyProof.Rows L2
/-! ### tokens, by signs -/
abbrev mMark : List Nat := [92, 45]
abbrev mTab : List Nat := [92, 116]
abbrev mStroke : List Nat := [92, 92]
abbrev twos : List (List Nat) := [mMark, mTab, mStroke]
def toks : List Nat → List (List Nat)
  | [] => []
  | [c] => [[c]]
  | c :: d :: r => if [c, d] ∈ twos then [c, d] :: toks r else [c] :: toks (d :: r)
def tsz (l : List Nat) : Nat := if l.take 2 ∈ twos then 2 else 1
theorem two_len {l : List Nat} (h : l.take 2 ∈ twos) : 2 ≤ l.length := by
  match l, h with
  | [], h => simp at h
  | [c], h => simp at h
  | c :: d :: r, h => simp
theorem toks_two {l : List Nat} (h : l.take 2 ∈ twos) : toks l = l.take 2 :: toks (l.drop 2) := by
  match l, h with
  | [], h => simp at h
  | [c], h => simp at h
  | c :: d :: r, h =>
    have h : [c, d] ∈ twos := h
    rw [toks, if_pos h]
    rfl
theorem toks_one {l : List Nat} (h : ¬ l.take 2 ∈ twos) (n : l ≠ []) : toks l = l.take 1 :: toks (l.drop 1) := by
  match l, h with
  | [], h => exact absurd rfl n
  | [c], h => rfl
  | c :: d :: r, h =>
    have h : ¬ [c, d] ∈ twos := h
    rw [toks, if_neg h]
    rfl
theorem toks_len : ∀ l : List Nat, (toks l).length ≤ l.length
  | [] => Nat.le_refl _
  | [c] => Nat.le_refl _
  | c :: d :: r => by
    have h1 := toks_len r
    have h2 := toks_len (d :: r)
    rw [toks]
    split
    · simp only [List.length_cons]; omega
    · simp only [List.length_cons] at h2 ⊢; omega
theorem toks_flat : ∀ l : List Nat, (toks l).flatten = l
  | [] => rfl
  | [c] => rfl
  | c :: d :: r => by
    have h1 := toks_flat r
    have h2 := toks_flat (d :: r)
    rw [toks]
    split
    · rw [List.flatten_cons, h1]; rfl
    · rw [List.flatten_cons, h2]; rfl
theorem toks_form : ∀ (l : List Nat), ∀ t ∈ toks l, t ∈ twos ∨ ∃ c ∈ l, t = [c]
  | [], t, h => by cases h
  | [c], t, h => by
    rcases List.mem_singleton.mp h with rfl
    exact .inr ⟨c, by simp, rfl⟩
  | c :: d :: r, t, h => by
    rw [toks] at h
    split at h
    · rename_i hc
      rcases List.mem_cons.mp h with rfl | h
      · exact .inl hc
      · rcases toks_form r t h with q | ⟨e, he, q⟩
        · exact .inl q
        · exact .inr ⟨e, by simp [he], q⟩
    · rcases List.mem_cons.mp h with rfl | h
      · exact .inr ⟨c, by simp, rfl⟩
      · rcases toks_form (d :: r) t h with q | ⟨e, he, q⟩
        · exact .inl q
        · exact .inr ⟨e, List.mem_cons_of_mem _ he, q⟩
theorem toks_ne {l t : List Nat} (h : t ∈ toks l) : t ≠ [] := by
  rcases toks_form l t h with q | ⟨c, _, rfl⟩
  · intro e
    subst e
    simp at q
  · simp
theorem toks_le2 {l t : List Nat} (h : t ∈ toks l) : t.length ≤ 2 := by
  rcases toks_form l t h with q | ⟨c, _, rfl⟩
  · simp only [List.mem_cons, List.not_mem_nil, or_false] at q
    rcases q with rfl | rfl | rfl <;> decide
  · simp
/-- the program's cell of a token; the other reading's -/
def cell (t : List Nat) : List Nat := if t = mMark then [] else if t = mStroke then [92] else t
def cells (l : List Nat) : List Nat := ((toks l).map cell).flatten
def lastOf (t : List Nat) : List Nat := [t.getLastD 0]
def cells' (l : List Nat) : List Nat := (((toks l).filter fun t => !decide (t = mMark)).map lastOf).flatten
theorem joinL_nil : ∀ zs : List (List Nat), TL.joinL [] zs = zs.flatten
  | [] => rfl
  | [p] => by simp [TL.joinL]
  | p :: q :: r => by
    have ih := joinL_nil (q :: r)
    rw [TL.joinL, ih, List.nil_append]
    simp only [List.flatten_cons]
theorem cell_nil {l t : List Nat} (h : t ∈ toks l) : cell t = [] ↔ t = mMark := by
  unfold cell
  by_cases h1 : t = mMark
  · simp [h1]
  · rw [if_neg h1]
    by_cases h2 : t = mStroke
    · rw [if_pos h2]; simp [h1]
    · rw [if_neg h2]
      exact ⟨fun e => absurd e (toks_ne h), fun e => absurd e h1⟩
theorem cells_nil (l : List Nat) : cells l = [] ↔ ∀ t ∈ toks l, t = mMark := by
  unfold cells
  rw [List.flatten_eq_nil_iff]
  constructor
  · intro h t ht
    exact (cell_nil ht).mp (h _ (List.mem_map_of_mem ht))
  · intro h x hx
    obtain ⟨t, ht, rfl⟩ := List.mem_map.mp hx
    exact (cell_nil ht).mpr (h t ht)
theorem cells'_nil (l : List Nat) : cells' l = [] ↔ ∀ t ∈ toks l, t = mMark := by
  unfold cells'
  rw [List.flatten_eq_nil_iff]
  constructor
  · intro h t ht
    refine Decidable.byContradiction fun n => ?_
    have := h (lastOf t) (List.mem_map_of_mem (List.mem_filter.mpr ⟨ht, by simp [n]⟩))
    simp [lastOf] at this
  · intro h x hx
    obtain ⟨t, ht, rfl⟩ := List.mem_map.mp hx
    obtain ⟨h1, h2⟩ := List.mem_filter.mp ht
    rw [h t h1] at h2
    simp at h2
theorem cells_same (l : List Nat) : decide (cells l = []) = decide (cells' l = []) := by
  have : (cells l = []) ↔ (cells' l = []) := (cells_nil l).trans (cells'_nil l).symm
  simp [this]
theorem flat_cell_le : ∀ ts : List (List Nat), (ts.map cell).flatten.length ≤ ts.flatten.length
  | [] => Nat.le_refl _
  | t :: ts => by
    have ih := flat_cell_le ts
    simp only [List.map_cons, List.flatten_cons, List.length_append]
    have : (cell t).length ≤ t.length := by
      unfold cell
      split
      · simp
      · split
        · rename_i h; rw [h]; decide
        · exact Nat.le_refl _
    omega
theorem cells_len (l : List Nat) : (cells l).length ≤ l.length := by
  have h := flat_cell_le (toks l)
  rw [toks_flat] at h
  exact h
/-! ### words -/
abbrev isSep (t : List Nat) : Prop := t ∈ [[32], mTab]
def segs : List (List Nat) → List Nat → List (List Nat)
  | [], w => [w]
  | t :: ts, w => if isSep t then w :: segs ts [] else segs ts (w ++ t)
def wordsL (l : List Nat) : List (List Nat) := (segs (toks l) []).filter fun w => !decide (cells w = [])
theorem segs_end : ∀ (ts : List (List Nat)) (w : List Nat), segs (ts ++ [[32]]) w = segs ts w ++ [[]]
  | [], w => rfl
  | t :: ts, w => by
    rw [List.cons_append, segs, segs]
    split
    · rw [segs_end ts []]; rfl
    · exact segs_end ts (w ++ t)
theorem segs_len : ∀ (ts : List (List Nat)) (w : List Nat), (segs ts w).length ≤ ts.length + 1
  | [], w => Nat.le_refl _
  | t :: ts, w => by
    rw [segs]
    split
    · have := segs_len ts []
      simp only [List.length_cons]; omega
    · have := segs_len ts (w ++ t)
      simp only [List.length_cons]; omega
theorem segs_word : ∀ (ts : List (List Nat)) (w : List Nat), ∀ x ∈ segs ts w, x.length ≤ w.length + ts.flatten.length
  | [], w, x, h => by
    rcases List.mem_singleton.mp h with rfl
    simp
  | t :: ts, w, x, h => by
    rw [segs] at h
    split at h
    · rcases List.mem_cons.mp h with rfl | h
      · simp
      · have := segs_word ts [] x h
        simp only [List.length_nil, List.flatten_cons, List.length_append] at this ⊢
        omega
    · have := segs_word ts (w ++ t) x h
      simp only [List.flatten_cons, List.length_append] at this ⊢
      omega
theorem segs_signs {P : Nat → Prop} : ∀ (ts : List (List Nat)) (w : List Nat), (∀ c ∈ w, P c) → (∀ c ∈ ts.flatten, P c) → ∀ x ∈ segs ts w, ∀ c ∈ x, P c
  | [], w, hw, _, x, h => by
    rcases List.mem_singleton.mp h with rfl
    exact hw
  | t :: ts, w, hw, ht, x, h => by
    have ht1 : ∀ c ∈ t, P c := fun c hc => ht c (by simp [hc])
    have ht2 : ∀ c ∈ ts.flatten, P c := fun c hc => ht c (by
      rw [List.flatten_cons]
      exact List.mem_append_right _ hc)
    rw [segs] at h
    split at h
    · rcases List.mem_cons.mp h with rfl | h
      · exact hw
      · exact segs_signs ts [] (fun _ z => by cases z) ht2 x h
    · exact segs_signs ts (w ++ t) (fun c hc => (List.mem_append.mp hc).elim (hw c) (ht1 c)) ht2 x h
theorem wordsL_len (l : List Nat) : (wordsL l).length ≤ l.length + 1 := by
  unfold wordsL
  have h1 := List.length_filter_le (fun w => !decide (cells w = [])) (segs (toks l) [])
  have h2 := segs_len (toks l) []
  have h3 := toks_len l
  omega
theorem wordsL_word {l x : List Nat} (h : x ∈ wordsL l) : x.length ≤ l.length := by
  have h1 := segs_word (toks l) [] x (List.mem_filter.mp h).1
  rw [toks_flat] at h1
  simpa using h1
theorem wordsL_signs {P : Nat → Prop} {l : List Nat} (hl : ∀ c ∈ l, P c) {x : List Nat} (h : x ∈ wordsL l) : ∀ c ∈ x, P c :=
  segs_signs (toks l) [] (fun _ z => by cases z) (by rw [toks_flat]; exact hl) x (List.mem_filter.mp h).1
theorem wordsL' (l : List Nat) : wordsL l = (segs (toks l) []).filter fun w => !decide (cells' w = []) := by
  unfold wordsL
  congr 1
  funext w
  rw [cells_same]
end Ts

namespace Ts
open PySem PySem.Spec PyProof.Rows L2
/-! ### the text -/
def topS (i : Nat) : Stmt := PySem.Challenge.pw_trapsetter_k01_words_of_lines.main.body.getD i (.Pass ⟨0, 0, 0, 0⟩)
abbrev s_words_of : Stmt := topS 4
abbrev N_words_of : List Str := ["line", "words", "word", "token"]
abbrev P_words_of : List Str := ["line"]
theorem sc_words_of : FnScope N_words_of P_words_of (defScope s_words_of) := ⟨rfl, rfl, rfl, by decide +kernel, rfl, by decide +kernel, by decide +kernel⟩
abbrev s_cells_of : Stmt := topS 5
abbrev N_cells_of : List Str := ["word", "token"]
abbrev P_cells_of : List Str := ["word"]
theorem sc_cells_of : FnScope N_cells_of P_cells_of (defScope s_cells_of) := ⟨rfl, rfl, rfl, by decide +kernel, rfl, by decide +kernel, by decide +kernel⟩
abbrev s_tokens : Stmt := topS 6
abbrev N_tokens : List Str := ["text", "tokens", "at", "size"]
abbrev P_tokens : List Str := ["text"]
theorem sc_tokens : FnScope N_tokens P_tokens (defScope s_tokens) := ⟨rfl, rfl, rfl, by decide +kernel, rfl, by decide +kernel, by decide +kernel⟩
abbrev s_cell : Stmt := topS 7
abbrev N_cell : List Str := ["token"]
abbrev P_cell : List Str := ["token"]
theorem sc_cell : FnScope N_cell P_cell (defScope s_cell) := ⟨rfl, rfl, rfl, by decide +kernel, rfl, by decide +kernel, by decide +kernel⟩
abbrev s_draw : Stmt := topS 9
abbrev N_draw : List Str := ["_law_pen", "_law_many", "_law_digit", "_law_at", "_law_cell", "_law_stirred"]
abbrev P_draw : List Str := ["_law_pen", "_law_many"]
theorem sc_draw : FnScope N_draw P_draw (defScope s_draw) := ⟨rfl, rfl, rfl, by decide +kernel, rfl, by decide +kernel, by decide +kernel⟩
abbrev s_tokens_p : Stmt := topS 10
abbrev N_tokens_p : List Str := ["_law_row", "_law_found", "_law_left", "_law_size"]
abbrev P_tokens_p : List Str := ["_law_row"]
theorem sc_tokens_p : FnScope N_tokens_p P_tokens_p (defScope s_tokens_p) := ⟨rfl, rfl, rfl, by decide +kernel, rfl, by decide +kernel, by decide +kernel⟩
abbrev s_cells : Stmt := topS 11
abbrev N_cells : List Str := ["_law_word", "_law_token"]
abbrev P_cells : List Str := ["_law_word"]
theorem sc_cells : FnScope N_cells P_cells (defScope s_cells) := ⟨rfl, rfl, rfl, by decide +kernel, rfl, by decide +kernel, by decide +kernel⟩
abbrev s_words : Stmt := topS 12
abbrev N_words : List Str := ["_law_row", "_law_found", "_law_token", "_law_word"]
abbrev P_words : List Str := ["_law_row"]
theorem sc_words : FnScope N_words P_words (defScope s_words) := ⟨rfl, rfl, rfl, by decide +kernel, rfl, by decide +kernel, by decide +kernel⟩
abbrev s_any_line : Stmt := topS 13
abbrev N_any_line : List Str := ["_law_pen", "_law_some", "_law_found", "_law_k"]
abbrev P_any_line : List Str := ["_law_pen"]
theorem sc_any_line : FnScope N_any_line P_any_line (defScope s_any_line) := ⟨rfl, rfl, rfl, by decide +kernel, rfl, by decide +kernel, by decide +kernel⟩
abbrev s_law : Stmt := topS 14
abbrev N_law : List Str := ["_law_script", "_law_pen", "_law_time", "_law_row", "_law_due", "_law_told"]
abbrev P_law : List Str := ["_law_script"]
theorem sc_law : FnScope N_law P_law (defScope s_law) := ⟨rfl, rfl, rfl, by decide +kernel, rfl, by decide +kernel, by decide +kernel⟩
structure Txt (K : PySem.W.Frag) (mg : Str → Option Value) (a_words_of a_cells_of a_tokens a_cell a_draw a_tokens_p a_cells a_words a_any_line a_law : Addr) (d_words_of d_cells_of d_tokens d_cell d_draw d_tokens_p d_cells d_words d_any_line d_law : FuncData) : Prop where
  f_words_of : Fun K "words_of" "words_of" s_words_of a_words_of d_words_of
  g_words_of : mg "words_of" = some (.ref a_words_of)
  f_cells_of : Fun K "cells_of" "cells_of" s_cells_of a_cells_of d_cells_of
  g_cells_of : mg "cells_of" = some (.ref a_cells_of)
  f_tokens : Fun K "_tokens" "_tokens" s_tokens a_tokens d_tokens
  g_tokens : mg "_tokens" = some (.ref a_tokens)
  f_cell : Fun K "_cell" "_cell" s_cell a_cell d_cell
  g_cell : mg "_cell" = some (.ref a_cell)
  f_draw : Fun K "_law_draw" "_law_draw" s_draw a_draw d_draw
  g_draw : mg "_law_draw" = some (.ref a_draw)
  f_tokens_p : Fun K "_law_tokens" "_law_tokens" s_tokens_p a_tokens_p d_tokens_p
  g_tokens_p : mg "_law_tokens" = some (.ref a_tokens_p)
  f_cells : Fun K "_law_cells" "_law_cells" s_cells a_cells d_cells
  g_cells : mg "_law_cells" = some (.ref a_cells)
  f_words : Fun K "_law_words" "_law_words" s_words a_words d_words
  g_words : mg "_law_words" = some (.ref a_words)
  f_any_line : Fun K "_law_any_line" "_law_any_line" s_any_line a_any_line d_any_line
  g_any_line : mg "_law_any_line" = some (.ref a_any_line)
  f_law : Fun K "law" "law" s_law a_law d_law
  m_len : mg "len" = none
  m_abs : mg "abs" = none
  m_int : mg "int" = none
  m_range : mg "range" = none
  m_list : mg "list" = none
  m_repr : mg "repr" = none
  v_TAB : ∃ u, mg "TAB" = some u ∧ RelV (.str (S [92, 116])) u
  v_MARK : ∃ u, mg "MARK" = some u ∧ RelV (.str (S [92, 45])) u
  v_STROKE : ∃ u, mg "STROKE" = some u ∧ RelV (.str (S [92, 92])) u
local macro_rules | `(tactic| walk_at "ts var") => `(tactic| ((with_reducible refine' r_var ?hv ?hq); (case hv => rfl)))
local macro_rules | `(tactic| walk_at "ts in") => `(tactic| (simp only [L2.cxOf, L2.start, List.map_cons, List.map_nil, List.length_cons, List.length_nil, Nat.reduceAdd, Nat.reduceSub, List.replicate, List.cons_append, List.nil_append]))
local macro_rules | `(tactic| walk_at "ts set") => `(tactic| ((with_reducible refine r_set ?_); simp only [List.set_cons_zero, List.set_cons_succ]))
local macro_rules | `(tactic| walk_at "ts ix") => `(tactic| rfl)
local macro_rules | `(tactic| walk_at "ts ne") => `(tactic| first
  | assumption
  | (apply Ne.symm; assumption))
local macro_rules | `(tactic| walk_at "ts look") => `(tactic| first
  | assumption
  | exact SqL.at (by assumption)
  | exact SqT.at (by assumption)
  | exact ⟨_, by assumption⟩
  | (refine' Ex.L ?e ?n; (case e => assumption); (case n => walk_at "ts look"))
  | (refine' Ex.T ?e ?n; (case e => assumption); (case n => walk_at "ts look"))
  | (refine' Ex.at ?e ?n; (case e => assumption); (case n => walk_at "ts look"))
  | (refine' Kp.atL ?e ?d ?n; (case e => assumption); (case d => first | assumption | exact ⟨_, by assumption⟩); (case n => walk_at "ts look"))
  | (refine' Kp.atT ?e ?d ?n; (case e => assumption); (case d => first | assumption | exact ⟨_, by assumption⟩); (case n => walk_at "ts look"))
  | (refine' Kp.Ld ?e ?d ?n; (case e => assumption); (case d => first | assumption | exact ⟨_, by assumption⟩); (case n => walk_at "ts look"))
  | (refine' Kp.Td ?e ?d ?n; (case e => assumption); (case d => first | assumption | exact ⟨_, by assumption⟩); (case n => walk_at "ts look"))
  | (refine' Kp.L ?e ?d ?n; (case e => assumption); (case d => walk_at "ts ne"); (case n => walk_at "ts look"))
  | (refine' Kp.T ?e ?d ?n; (case e => assumption); (case d => walk_at "ts ne"); (case n => walk_at "ts look"))
  | (refine' Kp.at ?e ?d ?n; (case e => assumption); (case d => walk_at "ts ne"); (case n => walk_at "ts look")))
local macro_rules | `(tactic| walk_at "ts dp") => `(tactic| first
  | exact Dp.int _
  | exact Dp.str _
  | exact Dp.bl _
  | exact Dp.non
  | (refine' Dp.tup ?h ?d; (case h => walk_at "ts look"); (case d => walk_at "ts dps"))
  | (refine' Dp.lst ?h ?d; (case h => walk_at "ts look"); (case d => walk_at "ts dps")))
local macro_rules | `(tactic| walk_at "ts dps") => `(tactic| first
  | exact DpAll.nil
  | (refine' DpAll.cons ?h ?t; (case h => walk_at "ts dp"); (case t => walk_at "ts dps")))
local macro_rules | `(tactic| walk_at "ts okw") => `(tactic| first
  | exact okw_int (by omega) (by omega)
  | exact okw_str (by assumption)
  | exact okw_bool
  | exact okw_none
  | (refine' okw_tup ?h; (case h => walk_at "ts okws"))
  | (refine' okw_lst ?h; (case h => walk_at "ts okws")))
local macro_rules | `(tactic| walk_at "ts okws") => `(tactic| first
  | exact okws_nil
  | (refine' okws_cons ?h ?t; (case h => walk_at "ts okw"); (case t => walk_at "ts okws")))
local macro_rules | `(tactic| walk_at "ts sh") => `(tactic| first
  | exact sh_int (by omega) (by omega)
  | (refine' Sh.of ?h ?c ?d; (case h => walk_at "ts okw"); (case c => decide); (case d => decide)))
local macro_rules | `(tactic| walk_at "ts kp") => `(tactic| first
  | assumption
  | exact Kp.refl _ _
  | exact Evl.Ex.refl _
  | (refine' Kp.trans ?n ?e; (case e => assumption); (case n => walk_at "ts kp"))
  | (refine' Kp.ex ?n ?e; (case e => assumption); (case n => walk_at "ts kp"))
  | (refine' Evl.Ex.trans ?n ?e; (case e => assumption); (case n => walk_at "ts kp")))
local macro_rules | `(tactic| walk_at "ts ixb") => `(tactic| fail)
local macro_rules | `(tactic| walk_at "ts al") => `(tactic| (simp only [AllI, List.cons_append, List.nil_append, and_true]; omega))
local macro_rules | `(tactic| walk_at "tsx new") => `(tactic| fail)
local macro_rules | `(tactic| walk_at "ts use") => `(tactic| fail)
local macro_rules | `(tactic| walk_at "ts len") => `(tactic| first | omega | (simp only [List.length_append, List.length_cons, List.length_nil, List.length_take, List.length_drop, List.length_map, List.length_replicate]; omega))
local macro_rules | `(tactic| walk_at "ts cut") => `(tactic| first
  | exact cutS_ap _ _ 2
  | exact cutS_ap _ _ 1
  | exact cutS_0n _ 1
  | exact cutS_0n _ 2
  | exact cutS_n0 _ 1
  | exact cutS_n0 _ 2
  | exact cutS_0n _ 60
  | exact cutS_nn _ _ _
  | exact cutS_0n _ _
  | exact cutS_n0 _ _)
local macro_rules | `(tactic| walk_at "ts ys") => `(tactic| fail)
local macro_rules | `(tactic| walk_at "ts ixs") => `(tactic| fail)
local macro_rules | `(tactic| walk_at "ts same") => `(tactic| first | with_reducible rfl | (refine congrArg PyData.shown ?_; (simp only [PyData.tuple.injEq, PyData.list.injEq, List.cons.injEq, PyData.int.injEq, PyData.str.injEq, and_true, true_and, and_self]); first | done | omega))
local macro_rules | `(tactic| walk_at "ts put") => `(tactic| rfl)
local macro_rules | `(tactic| walk_at "ts div") => `(tactic| ((with_reducible refine r_div ?c ?d ?q); (case c => omega); (case d => omega)))
local macro_rules | `(tactic| walk_at "ts mod") => `(tactic| ((with_reducible refine r_mod ?c ?q); (case c => omega)))
local macro_rules | `(tactic| walk_at "ts") => `(tactic| first
  | (with_reducible refine r_seq ?_)
  | walk_at "ts var"
  | (with_reducible refine r_c ?_)
  | (with_reducible refine r_op ?_)
  | (with_reducible refine r_un ?_)
  | (with_reducible refine r_cb ?_)
  | (with_reducible refine r_cons ?_)
  | (with_reducible refine r_nil ?_)
  | (with_reducible refine r_call ?_)
  | (with_reducible refine r_lst ?_)
  | (with_reducible refine r_tup ?_)
  | (with_reducible refine r_sl ?_)
  | (with_reducible refine r_noP ?_)
  | (with_reducible refine r_part ?_)
  | (with_reducible refine r_isi ?_)
  | (with_reducible refine r_if ?_)
  | (with_reducible refine r_ifx ?_)
  | (with_reducible refine r_test ?_)
  | (with_reducible refine r_tB ?_)
  | (with_reducible refine r_isb ?_)
  | (with_reducible refine r_and ?_)
  | (with_reducible refine r_or ?_)
  | (with_reducible refine r_not ?_)
  | (with_reducible refine r_andV ?_)
  | (with_reducible refine r_orV ?_)
  | (with_reducible refine r_notV ?_)
  | (with_reducible refine r_T ?_)
  | (with_reducible refine r_F ?_)
  | (with_reducible refine r_ret ?_)
  | (with_reducible refine r_retN ?_)
  | (with_reducible refine r_drop ?_)
  | walk_at "ts set"
  | (with_reducible refine r_asg ?_)
  | ((with_reducible refine r_gname ?_); try simp only [List.set_cons_zero, List.set_cons_succ])
  | ((with_reducible refine' r_gtup ?l ?m ?q); (case l => walk_at "ts look"); (case m => rfl))
  | (with_reducible refine r_gcons ?_)
  | (with_reducible refine r_gnil ?_)
  | (with_reducible refine r_next ?_)
  | (with_reducible refine r_brk ?_)
  | (with_reducible refine r_cont ?_)
  | (with_reducible refine r_I0 ?_)
  | (with_reducible refine r_U ?_)
  | (with_reducible refine r_ipI ?_)
  | walk_at "tsx new"
  | (with_reducible refine r_tru ?_)
  | (with_reducible refine r_whb ?_)
  | ((with_reducible refine' r_augK ?h ?q); (case h => rfl))
  | ((with_reducible refine r_setK ?_); try simp only [List.set_cons_zero, List.set_cons_succ])
  | ((with_reducible refine' r_truS ?l ?q); (case l => walk_at "ts len"))
  | ((with_reducible refine' r_addS ?l ?q); (case l => walk_at "ts len"))
  | ((with_reducible refine' r_slS ?l ?e ?q); (case l => walk_at "ts len"); (case e => walk_at "ts cut"))
  | ((with_reducible refine' r_lenSS ?l ?q); (case l => walk_at "ts len"))
  | walk_at "ts ixs"
  | ((with_reducible refine' r_inT ?ys ?l ?e ?q); (case ys => walk_at "ts ys"); (case l => walk_at "ts look"); (case e => rfl))
  | (with_reducible refine r_bm ?_)
  | (with_reducible refine r_bm0 ?_)
  | (with_reducible refine r_tyS ?_)
  | ((with_reducible refine' r_tyL ?l ?q); (case l => walk_at "ts look"))
  | (with_reducible refine r_m1 ?_)
  | (with_reducible refine r_iss ?_)
  | ((with_reducible refine' r_app ?l ?c ?q); (case l => walk_at "ts look"); (case c => walk_at "ts len"); intro _ _ _)
  | ((with_reducible refine' r_pop ?l ?q); (case l => walk_at "ts look"); intro _ _ _)
  | ((with_reducible refine' r_listOf ?l ?q); (case l => walk_at "ts look"))
  | (with_reducible refine r_gsub ?_)
  | ((with_reducible refine' r_setL ?l ?e ?q); (case l => walk_at "ts look"); (case e => rfl); intro _ _ _)
  | (with_reducible refine r_star ?_)
  | ((with_reducible refine' r_starL ?l ?q); (case l => walk_at "ts look"))
  | ((with_reducible refine' r_intD ?c ?d) <;> intro _)
  | (with_reducible refine r_lc ?_)
  | ((with_reducible refine' r_isl ?l ?q); (case l => walk_at "ts look"))
  | ((with_reducible refine' r_ist ?l ?q); (case l => walk_at "ts look"))
  | ((with_reducible refine r_neSame ?e ?q); (case e => walk_at "ts same"))
  | ((with_reducible refine r_eqSame ?e ?q); (case e => walk_at "ts same"))
  | (with_reducible refine r_eqSS ?_)
  | (with_reducible refine r_neSS ?_)
  | (with_reducible refine r_eqI ?_)
  | (with_reducible refine r_neI ?_)
  | (with_reducible refine r_eqS ?_)
  | (with_reducible refine r_neS ?_)
  | (with_reducible refine r_eqB ?_)
  | (with_reducible refine r_neB ?_)
  | (with_reducible refine r_abs ?_)
  | (with_reducible refine r_max2 ?_)
  | (with_reducible refine r_min2 ?_)
  | walk_at "ts use"
  | (with_reducible refine r_for ?_)
  | (with_reducible refine r_rng1 ?_)
  | (with_reducible refine r_rng2 ?_)
  | ((with_reducible refine r_rng1v ?c ?d ?q); (case c => omega); (case d => omega))
  | ((with_reducible refine r_rng2v ?c ?d ?e ?f ?q); (case c => omega); (case d => omega); (case e => omega); (case f => omega))
  | (with_reducible refine r_ilist ?_)
  | (with_reducible refine r_itup ?_)
  | (with_reducible refine r_pnil ?_)
  | (with_reducible refine r_pcons ?_)
  | ((with_reducible refine r_disp ?_); intro _ _ _ _ _)
  | ((with_reducible refine r_new ?_); intro _ _ _ _ _)
  | ((refine And.intro (le_small rfl) ?_))
  | ((refine And.intro rfl ?_); try simp only [List.cons_append, List.nil_append, List.append_nil, List.map_nil, List.map_cons, List.take, List.drop])
  | (with_reducible refine r_callD ?_)
  | (with_reducible refine r_cd1 ?_)
  | (with_reducible refine r_cd2 ?_)
  | (with_reducible refine r_cd3 ?_)
  | (with_reducible refine r_callN ?_)
  | (with_reducible refine r_callN0 ?_)
  | walk_at "ts mod"
  | walk_at "ts div"
  | ((with_reducible refine r_mulL ?c ?d ?q); (case c => omega); (case d => omega))
  | ((with_reducible refine r_mulR ?c ?d ?q); (case c => omega); (case d => omega))
  | ((with_reducible refine r_pow ?c ?d ?e ?f ?q); (case c => omega); (case d => omega); (case e => omega); (case f => omega); try simp only [Int.reduceToNat, Int.reducePow])
  | ((with_reducible refine' r_ixLI ?l ?i ?j ?q); (case l => walk_at "ts look"); (case i => omega); (case j => omega); intro _ _)
  | walk_at "ts ixb"
  | ((with_reducible refine' r_ixT ?l ?i ?q); (case l => walk_at "ts look"); (case i => rfl))
  | ((with_reducible refine' r_ixL ?l ?i ?q); (case l => walk_at "ts look"); (case i => walk_at "ts ix"))
  | ((with_reducible refine' r_slL ?l ?q); (case l => walk_at "ts look"))
  | ((with_reducible refine' r_cat ?l ?m ?n ?q); (case l => walk_at "ts look"); (case m => walk_at "ts look"); (case n => exact le_small rfl); simp only [List.cons_append, List.nil_append])
  | ((with_reducible refine' r_repr ?l ?m ?q); (case l => walk_at "ts dp"); (case m => walk_at "ts sh"))
  | ((with_reducible refine' r_lenLI ?l ?q); (case l => walk_at "ts look"))
  | ((with_reducible refine' r_lenL ?l ?q); (case l => walk_at "ts look"))
  | ((with_reducible refine r_dec ?q1 ?q2) <;> intro _)
  | ((with_reducible refine r_decN ?q1 ?q2) <;> intro _)
  | ((with_reducible refine' g_dk ?h ?e ?q); (case h => walk_at "ts look"); (case e => rfl))
  | ((with_reducible refine' p_dk ?h ?l ?e ?q); (case h => walk_at "ts look"); (case l => exact lt_small rfl); (case e => walk_at "ts put"); intro _ _ _)
  | (with_reducible refine r_dget ?_)
  | (with_reducible refine r_dput ?_))

section
variable {P : Program} {w : World} {K : PySem.W.Frag} {mg : Str → Option Value} {base : Heap}
variable {a_words_of a_cells_of a_tokens a_cell a_draw a_tokens_p a_cells a_words a_any_line a_law : Addr} {d_words_of d_cells_of d_tokens d_cell d_draw d_tokens_p d_cells d_words d_any_line d_law : FuncData}
theorem Txt.k_words_of (T : Txt K mg a_words_of a_cells_of a_tokens a_cell a_draw a_tokens_p a_cells a_words a_any_line a_law d_words_of d_cells_of d_tokens d_cell d_draw d_tokens_p d_cells d_words d_any_line d_law) : PySem.W.keepIn K (.ref a_words_of) = true := T.f_words_of.kp
theorem Txt.b_words_of (T : Txt K mg a_words_of a_cells_of a_tokens a_cell a_draw a_tokens_p a_cells a_words a_any_line a_law d_words_of d_cells_of d_tokens d_cell d_draw d_tokens_p d_cells d_words d_any_line d_law) : Binds K d_words_of P_words_of [] := T.f_words_of.binds (ps := P_words_of) fun _ _ _ _ _ _ us hl => match us, hl with | [_], _ => rfl
theorem Txt.k_cells_of (T : Txt K mg a_words_of a_cells_of a_tokens a_cell a_draw a_tokens_p a_cells a_words a_any_line a_law d_words_of d_cells_of d_tokens d_cell d_draw d_tokens_p d_cells d_words d_any_line d_law) : PySem.W.keepIn K (.ref a_cells_of) = true := T.f_cells_of.kp
theorem Txt.b_cells_of (T : Txt K mg a_words_of a_cells_of a_tokens a_cell a_draw a_tokens_p a_cells a_words a_any_line a_law d_words_of d_cells_of d_tokens d_cell d_draw d_tokens_p d_cells d_words d_any_line d_law) : Binds K d_cells_of P_cells_of [] := T.f_cells_of.binds (ps := P_cells_of) fun _ _ _ _ _ _ us hl => match us, hl with | [_], _ => rfl
theorem Txt.k_tokens (T : Txt K mg a_words_of a_cells_of a_tokens a_cell a_draw a_tokens_p a_cells a_words a_any_line a_law d_words_of d_cells_of d_tokens d_cell d_draw d_tokens_p d_cells d_words d_any_line d_law) : PySem.W.keepIn K (.ref a_tokens) = true := T.f_tokens.kp
theorem Txt.b_tokens (T : Txt K mg a_words_of a_cells_of a_tokens a_cell a_draw a_tokens_p a_cells a_words a_any_line a_law d_words_of d_cells_of d_tokens d_cell d_draw d_tokens_p d_cells d_words d_any_line d_law) : Binds K d_tokens P_tokens [] := T.f_tokens.binds (ps := P_tokens) fun _ _ _ _ _ _ us hl => match us, hl with | [_], _ => rfl
theorem Txt.k_cell (T : Txt K mg a_words_of a_cells_of a_tokens a_cell a_draw a_tokens_p a_cells a_words a_any_line a_law d_words_of d_cells_of d_tokens d_cell d_draw d_tokens_p d_cells d_words d_any_line d_law) : PySem.W.keepIn K (.ref a_cell) = true := T.f_cell.kp
theorem Txt.b_cell (T : Txt K mg a_words_of a_cells_of a_tokens a_cell a_draw a_tokens_p a_cells a_words a_any_line a_law d_words_of d_cells_of d_tokens d_cell d_draw d_tokens_p d_cells d_words d_any_line d_law) : Binds K d_cell P_cell [] := T.f_cell.binds (ps := P_cell) fun _ _ _ _ _ _ us hl => match us, hl with | [_], _ => rfl
theorem Txt.k_draw (T : Txt K mg a_words_of a_cells_of a_tokens a_cell a_draw a_tokens_p a_cells a_words a_any_line a_law d_words_of d_cells_of d_tokens d_cell d_draw d_tokens_p d_cells d_words d_any_line d_law) : PySem.W.keepIn K (.ref a_draw) = true := T.f_draw.kp
theorem Txt.b_draw (T : Txt K mg a_words_of a_cells_of a_tokens a_cell a_draw a_tokens_p a_cells a_words a_any_line a_law d_words_of d_cells_of d_tokens d_cell d_draw d_tokens_p d_cells d_words d_any_line d_law) : Binds K d_draw P_draw [] := T.f_draw.binds (ps := P_draw) fun _ _ _ _ _ _ us hl => match us, hl with | [_, _], _ => rfl
theorem Txt.k_tokens_p (T : Txt K mg a_words_of a_cells_of a_tokens a_cell a_draw a_tokens_p a_cells a_words a_any_line a_law d_words_of d_cells_of d_tokens d_cell d_draw d_tokens_p d_cells d_words d_any_line d_law) : PySem.W.keepIn K (.ref a_tokens_p) = true := T.f_tokens_p.kp
theorem Txt.b_tokens_p (T : Txt K mg a_words_of a_cells_of a_tokens a_cell a_draw a_tokens_p a_cells a_words a_any_line a_law d_words_of d_cells_of d_tokens d_cell d_draw d_tokens_p d_cells d_words d_any_line d_law) : Binds K d_tokens_p P_tokens_p [] := T.f_tokens_p.binds (ps := P_tokens_p) fun _ _ _ _ _ _ us hl => match us, hl with | [_], _ => rfl
theorem Txt.k_cells (T : Txt K mg a_words_of a_cells_of a_tokens a_cell a_draw a_tokens_p a_cells a_words a_any_line a_law d_words_of d_cells_of d_tokens d_cell d_draw d_tokens_p d_cells d_words d_any_line d_law) : PySem.W.keepIn K (.ref a_cells) = true := T.f_cells.kp
theorem Txt.b_cells (T : Txt K mg a_words_of a_cells_of a_tokens a_cell a_draw a_tokens_p a_cells a_words a_any_line a_law d_words_of d_cells_of d_tokens d_cell d_draw d_tokens_p d_cells d_words d_any_line d_law) : Binds K d_cells P_cells [] := T.f_cells.binds (ps := P_cells) fun _ _ _ _ _ _ us hl => match us, hl with | [_], _ => rfl
theorem Txt.k_words (T : Txt K mg a_words_of a_cells_of a_tokens a_cell a_draw a_tokens_p a_cells a_words a_any_line a_law d_words_of d_cells_of d_tokens d_cell d_draw d_tokens_p d_cells d_words d_any_line d_law) : PySem.W.keepIn K (.ref a_words) = true := T.f_words.kp
theorem Txt.b_words (T : Txt K mg a_words_of a_cells_of a_tokens a_cell a_draw a_tokens_p a_cells a_words a_any_line a_law d_words_of d_cells_of d_tokens d_cell d_draw d_tokens_p d_cells d_words d_any_line d_law) : Binds K d_words P_words [] := T.f_words.binds (ps := P_words) fun _ _ _ _ _ _ us hl => match us, hl with | [_], _ => rfl
theorem Txt.k_any_line (T : Txt K mg a_words_of a_cells_of a_tokens a_cell a_draw a_tokens_p a_cells a_words a_any_line a_law d_words_of d_cells_of d_tokens d_cell d_draw d_tokens_p d_cells d_words d_any_line d_law) : PySem.W.keepIn K (.ref a_any_line) = true := T.f_any_line.kp
theorem Txt.b_any_line (T : Txt K mg a_words_of a_cells_of a_tokens a_cell a_draw a_tokens_p a_cells a_words a_any_line a_law d_words_of d_cells_of d_tokens d_cell d_draw d_tokens_p d_cells d_words d_any_line d_law) : Binds K d_any_line P_any_line [] := T.f_any_line.binds (ps := P_any_line) fun _ _ _ _ _ _ us hl => match us, hl with | [_], _ => rfl
/-! ### the pen, a list -/
abbrev penL (c : Addr) (n l : Int) : List V := [.ref c, .int n, .int l]
def Pen (K : PySem.W.Frag) (H : Hp) (p : Addr) (b : Int) : Prop := ∃ (c : Addr) (ns : List Int) (n l : Int), H p = some (.lst (penL c n l)) ∧ SqL K H c (ns.map V.int) ∧ c ≠ p ∧ 0 ≤ n ∧ n ≤ b ∧ 0 ≤ l
theorem Pen.le {H : Hp} {p : Addr} {b b' : Int} (h : Pen K H p b) (e : b ≤ b') : Pen K H p b' := by
  obtain ⟨c, ns, n, l, hp, hc, h1, h2, h3, h4⟩ := h
  exact ⟨c, ns, n, l, hp, hc, h1, h2, Int.le_trans h3 e, h4⟩
theorem Pen.ex {H H' : Hp} {p : Addr} {b : Int} (e : Ex H H') (h : Pen K H p b) : Pen K H' p b := by
  obtain ⟨c, ns, n, l, hp, hc, h1⟩ := h
  exact ⟨c, ns, n, l, e _ _ hp, Ex.L e hc, h1⟩
theorem Pen.ne {H : Hp} {p a : Addr} {b : Int} (h : Pen K H p b) (n : H a = none) : a ≠ p := by
  obtain ⟨c, ns, n', l, hp, hc, h1⟩ := h
  intro e
  subst e
  rw [n] at hp
  cases hp
theorem eqv_nil (ns : List Int) : PyData.eqv (.list (ns.map PyData.int)) (.list []) = decide (ns = []) := by
  cases ns with
  | nil => simp [PyData.eqv, PyData.eqvAll]
  | cons a r => simp [PyData.eqv, PyData.eqvAll]
theorem dp_ints {H : Hp} : ∀ ns : List Int, DpAll K H (ns.map V.int) (ns.map PyData.int)
  | [] => .nil
  | n :: r => .cons (.int n) (dp_ints r)
theorem lay_ints : ∀ ns : List Int, SeqAt.shaped (.list (ns.map PyData.int)) = true := by
  intro ns
  have h : ∀ ns : List Int, PyData.canLayAll0 (ns.map PyData.int) = true ∧ PyData.depthAll (ns.map PyData.int) = 0 := by
    intro ns
    induction ns with
    | nil => exact ⟨by simp [PyData.canLayAll0], by simp [PyData.depthAll]⟩
    | cons n r ih => exact ⟨by simp [PyData.canLayAll0, PyData.canLay0, ih.1], by simp [PyData.depthAll, PyData.depth, ih.2]⟩
  unfold SeqAt.shaped
  simp [PyData.canLay0, PyData.depth, (h ns).1, (h ns).2]
theorem r_neNil {H : Hp} {a e : Addr} {ns : List Int} {Q : VK} (h : SqL K H a (ns.map V.int)) (g : SqL K H e []) (q : Q (.bl (!decide (ns.length = 0))) H) : rNeD K (.ref a) (.ref e) H Q :=
  ⟨_, _, .lst h (dp_ints ns), .lst g .nil, lay_ints ns, lay_ints [], by
    show Q (.bl (!PyData.eqv (.list (ns.map PyData.int)) (.list []))) H
    rw [eqv_nil, show decide (ns = []) = decide (ns.length = 0) from by simp]
    exact q⟩
theorem r_mulF {m n A B : Int} {H : Hp} {Q : VK} (c : 0 ≤ m) (c1 : m ≤ A) (d : 12 ≤ n) (d1 : n ≤ B) (e : A < 2 ^ 64) (q : ∀ r, 0 ≤ r → r ≤ A * B → Q (.int r) H) : rI CMul (fun i j => .int (i * j)) (.int m) (.int n) H Q :=
  ⟨m, n, rfl, rfl, .inl ⟨by omega, by omega⟩, q _ (Int.mul_nonneg c (by omega)) (Int.mul_le_mul c1 d1 (by omega) (Int.le_trans c c1))⟩
theorem r_powF {m : Int} {H : Hp} {Q : VK} (c : 0 ≤ m) (c1 : m < 2 ^ 64) (q : ∀ r, 0 ≤ r → Q (.int r) H) : rI CPow (fun i j => .int (i ^ j.toNat)) (.int m) (.int 3) H Q :=
  ⟨m, 3, rfl, rfl, ⟨by decide, by decide, by omega⟩, q _ (Int.pow_nonneg c)⟩
section
local macro_rules | `(tactic| walk_at "ts div") => `(tactic| ((with_reducible refine r_divF ?c ?d ?e ?q); (case c => omega); (case d => omega); (case e => omega); intro _ _ _))
local macro_rules | `(tactic| walk_at "ts mod") => `(tactic| ((with_reducible refine r_modF ?c ?q); (case c => omega); intro _ _ _))
local macro_rules | `(tactic| walk_at "ts mod") => `(tactic| ((with_reducible refine r_powF ?c ?d ?q); (case c => omega); (case d => omega); intro _ _))
local macro_rules | `(tactic| walk_at "ts mod") => `(tactic| ((with_reducible refine r_mulF (A := 2147483647) (B := 17000012) ?c ?d ?e ?f ?g ?q); (case c => omega); (case d => omega); (case e => omega); (case f => omega); (case g => decide); intro _ _ _))
local macro_rules | `(tactic| walk_at "ts use") => `(tactic| ((with_reducible refine' r_neNil ?l ?m ?q); (case l => walk_at "ts look"); (case m => walk_at "ts look")))
def spDraw (K : PySem.W.Frag) : Sp := fun vs H Q _ => ∃ (p : Addr) (n b : Int), vs = [.ref p, .int n] ∧ 0 < n ∧ n < 1000000 ∧ b < 1000000 ∧ Pen K H p b ∧
  ∀ r H', 0 ≤ r → r < n → Pen K H' p (b + 1) → Kp p H H' → Q (.int r) H'
theorem ok_draw (T : Txt K mg a_words_of a_cells_of a_tokens a_cell a_draw a_tokens_p a_cells a_words a_any_line a_law d_words_of d_cells_of d_tokens d_cell d_draw d_tokens_p d_cells d_words d_any_line d_law) : FnOk P w K mg base CX0 1 a_draw d_draw P_draw (spDraw K) := by
  refine T.f_draw.ok sc_draw (fun vs H Q E h => ?_) (fun cdv A outer s H vs Q E hr h => ?_)
  · obtain ⟨p, n, b, rfl, _⟩ := h
    rfl
  · obtain ⟨p, n, b, rfl, n0, n1, hb, ⟨c, ns, at', lf, hp, hc, hcp, a0, a1, l0⟩, q⟩ := h
    have hu := hu_of hr
    have sq0 : 0 ≤ 60013 * at' * at' := Int.mul_nonneg (by omega) a0
    have sq1 : 60013 * at' * at' ≤ 60013000000 * 1000000 := Int.mul_le_mul (by omega) (by omega) a0 (by decide)
    refine ⟨_, (pss_cons (ps_if (pt_cmpR op_gt (pe_ix ix_list (pv 0) pe_int (fun _ _ => rfl)) pe_int (nomark _))
      (pss_cons (ps_set (i := 2) sc_draw.nd rfl (.inl rfl) (pe_op op_mod (pe_ix ix_list (pv 0) pe_int (fun _ _ => rfl)) (pv 1)))
      (pss_cons (ps_asg (pe_op op_fdiv (pe_ix ix_list (pv 0) pe_int (fun _ _ => rfl)) (pv 1)) (pg_sub (pv 0) pe_int set_list))
      (pss_one (ps_ret (pv 2)))))
      pss_nil)
      (pss_cons (ps_set (i := 3) sc_draw.nd rfl (.inl rfl) (pe_ix ix_list (pv 0) pe_int (fun _ _ => rfl)))
      (pss_cons (ps_asg (pe_op op_add (pv 3) pe_int) (pg_sub (pv 0) pe_int set_list))
      (pss_cons (ps_set (i := 4) sc_draw.nd rfl (.inl rfl) (pe_op op_add (pe_op op_mul pe_int (pv 3)) pe_int))
      (pss_cons (ps_if (pt_cmpR (op_neD hr.units) (pe_ix ix_list (pv 0) pe_int (fun _ _ => rfl)) (pe_lst pa_nil) (nomark _))
      (pss_one (ps_set (i := 4) sc_draw.nd rfl (.inl rfl) (pe_ix ix_list (pe_ix ix_list (pv 0) pe_int (fun _ _ => rfl)) (pe_op op_mod (pv 3) (pe_callB c_lenQ (by rfl) T.m_len PySem.boot_len (pa_cons (pe_ix ix_list (pv 0) pe_int (fun _ _ => rfl)) pa_nil))) (fun _ _ => rfl))))
      pss_nil)
      (pss_cons (ps_if (PW.pt (pw_and (pt_cmpR op_lt (pv 3) (pe_callB c_lenQ (by rfl) T.m_len PySem.boot_len (pa_cons (pe_ix ix_list (pv 0) pe_int (fun _ _ => rfl)) pa_nil)) (nomark _)) (pw_and1 (pt_cmpR op_ge (pe_callB c_abs (by rfl) T.m_abs (by decide +kernel) (pa_cons (pv 4) pa_nil)) (pe_op op_pow pe_int pe_int) (nomark _)))))
      (pss_cons (ps_asg (pe_op op_fdiv (pe_callB c_abs (by rfl) T.m_abs (by decide +kernel) (pa_cons (pv 4) pa_nil)) (pv 1)) (pg_sub (pv 0) pe_int set_list))
      (pss_one (ps_ret (pe_op op_mod (pe_callB c_abs (by rfl) T.m_abs (by decide +kernel) (pa_cons (pv 4) pa_nil)) (pv 1)))))
      pss_nil)
      (pss_cons (ps_set (i := 5) sc_draw.nd rfl (.inl rfl) (pe_op op_mod (pe_op op_pow (pe_op op_add (pe_op op_add (pe_op op_add (pe_op op_mod (pv 4) pe_int) (pe_op op_mul (pe_op op_mul pe_int (pv 3)) (pv 3))) (pe_op op_mul pe_int (pv 3))) pe_int) pe_int) pe_int))
      (pss_cons (ps_set (i := 5) sc_draw.nd rfl (.inl rfl) (pe_op op_mod (pe_op op_pow (pe_op op_add (pe_op op_mul (pv 5) (pe_op op_add (pe_op op_mul pe_int (pv 3)) pe_int)) pe_int) pe_int) pe_int))
      (pss_one (ps_ret (pe_op op_mod (pe_op op_fdiv (pv 5) pe_int) (pv 1)))))))))))), ?_⟩
    walk_at "ts in"
    repeat' walk_at "ts"

    all_goals refine q _ _ (by omega) (by omega) ⟨c, ns, _, _, by walk_at "ts look", by walk_at "ts look", hcp, by omega, by omega, by omega⟩ (by walk_at "ts kp")
end

/-! ### tokens, cells -/
def spTok (K : PySem.W.Frag) : Sp := fun vs H Q _ => ∃ z : List Nat, vs = [.str (S z)] ∧ z.length ≤ 1000 ∧ ∀ p H', H p = none → Ex H H' → H' p = some (.lst ((toks z).map SV)) → Q (.ref p) H'
local macro_rules | `(tactic| walk_at "ts ys") => `(tactic| exact twos)
theorem ok_tokens (T : Txt K mg a_words_of a_cells_of a_tokens a_cell a_draw a_tokens_p a_cells a_words a_any_line a_law d_words_of d_cells_of d_tokens d_cell d_draw d_tokens_p d_cells d_words d_any_line d_law) : FnOk P w K mg base CX0 1 a_tokens d_tokens P_tokens (spTok K) := by
  refine T.f_tokens.ok sc_tokens (fun vs H Q E h => ?_) (fun cdv A outer s H vs Q E hr h => ?_)
  · obtain ⟨z, rfl, _⟩ := h
    rfl
  · obtain ⟨z, rfl, hz, q⟩ := h
    refine ⟨_, (pss_cons (ps_set (i := 1) sc_tokens.nd rfl (.inl rfl) (pe_lst pa_nil))
      (pss_cons (ps_set (i := 2) sc_tokens.nd rfl (.inl rfl) pe_int)
      (pss_cons (ps_while PassesOwn.never (pt_cmpR op_lt (pv 2) (pe_callB c_lenS (by rfl) T.m_len PySem.boot_len (pa_cons (pv 0) pa_nil)) (nomark _))
      (pss_cons (ps_set (i := 3) sc_tokens.nd rfl (.inl rfl) (pe_ifExp (pt_cmpR op_in_seq (pe_slice sl_str (pv 0) (po_some (pv 2)) (po_some (pe_op op_add (pv 2) pe_int))) (pe_tup (pa_cons (pe_globE rfl T.v_MARK) (pa_cons (pe_globE rfl T.v_TAB) (pa_cons (pe_globE rfl T.v_STROKE) pa_nil)))) (by rfl)) pe_int pe_int))
      (pss_cons (ps_expr (pe_bm PySem.F.plainAttrs_list PySem.F.slot_list_append PySem.F.type_list_append mt_append (pv 1) (pa_cons (pe_slice sl_str (pv 0) (po_some (pv 2)) (po_some (pe_op op_add (pv 2) (pv 3)))) pa_nil)))
      (pss_one (ps_aug (i := 2) sc_tokens.nd rfl (.inl rfl) (pv 3) ip_add)))))
      (pss_one (ps_ret (pv 1)))))), ?_⟩
    walk_at "ts in"
    repeat' walk_at "ts"
    rename_i p H1 np e1 hp
    refine r_while (fun m σ H' => ∃ (i : Nat) (ds : List (List Nat)) (v3 : Option V), σ = [some (.str (S z)), some (.ref p), some (.int i), v3] ∧ m = z.length - i ∧ i ≤ z.length ∧
      H' p = some (.lst (ds.map SV)) ∧ Ex H H' ∧ ds.length ≤ i ∧ ds ++ toks (z.drop i) = toks z) z.length ⟨0, [], none, rfl, rfl, Nat.zero_le _, hp, e1, Nat.le_refl _, rfl⟩ ?_
    rintro m σ H2 ⟨i, ds, v3, rfl, rfl, hi, hp2, e2, hl, hd⟩
    repeat' walk_at "ts"
    · rename_i hc p2 H3 np2 e3 hp3 h2 H4 k4 hp4
      have h3 := two_len h2
      rw [List.length_drop] at h3
      refine ⟨z.length - (i + 2), by omega, i + 2, ds ++ [(z.drop i).take 2], _, rfl, rfl, by omega, by rw [List.map_append]; exact hp4, ex_kp (e2.trans e3) np k4, ?_, ?_⟩
      · rw [List.length_append]; simp only [List.length_cons, List.length_nil]; omega
      · rw [← hd, toks_two h2, List.append_assoc, List.drop_drop]; rfl
    · rename_i hc p2 H3 np2 e3 hp3 h2 H4 k4 hp4
      refine ⟨z.length - (i + 1), by omega, i + 1, ds ++ [(z.drop i).take 1], _, rfl, rfl, by omega, by rw [List.map_append]; exact hp4, ex_kp (e2.trans e3) np k4, ?_, ?_⟩
      · rw [List.length_append]; simp only [List.length_cons, List.length_nil]; omega
      · rw [← hd, toks_one h2 (by rw [ne_eq, List.drop_eq_nil_iff]; omega), List.append_assoc, List.drop_drop]; rfl
    · have hi2 : i = z.length := by omega
      subst hi2
      rw [List.drop_length] at hd
      have hd : ds ++ [] = toks z := hd
      rw [List.append_nil] at hd
      exact q p H2 np e2 (by rw [← hd]; exact hp2)
theorem u_tokens {z : List Nat} {H : Hp} {Q : VK} {E : XK} (h : z.length ≤ 1000) (q : ∀ p H', H p = none → Ex H H' → H' p = some (.lst ((toks z).map SV)) → Q (.ref p) H') : spTok K [.str (S z)] H Q E := ⟨z, rfl, h, q⟩
local macro_rules | `(tactic| walk_at "ts use") => `(tactic| ((with_reducible refine u_tokens ?h ?q); (case h => omega); intro _ _ _ _ _))
def spCell (K : PySem.W.Frag) : Sp := fun vs H Q _ => ∃ t : List Nat, vs = [.str (S t)] ∧ Q (.str (S (cell t))) H
theorem ok_cell (T : Txt K mg a_words_of a_cells_of a_tokens a_cell a_draw a_tokens_p a_cells a_words a_any_line a_law d_words_of d_cells_of d_tokens d_cell d_draw d_tokens_p d_cells d_words d_any_line d_law) : FnOk P w K mg base CX0 1 a_cell d_cell P_cell (spCell K) := by
  refine T.f_cell.ok sc_cell (fun vs H Q E h => ?_) (fun cdv A outer s H vs Q E hr h => ?_)
  · obtain ⟨t, rfl, _⟩ := h
    rfl
  · obtain ⟨t, rfl, q⟩ := h
    refine ⟨_, (pss_cons (ps_if (pt_cmpR op_eq (pv 0) (pe_globE rfl T.v_MARK) (nomark _))
      (pss_one (ps_ret (pe_strL [])))
      pss_nil)
      (pss_cons (ps_if (pt_cmpR op_eq (pv 0) (pe_globE rfl T.v_STROKE) (nomark _))
      (pss_one (ps_ret (pe_strL [92])))
      pss_nil)
      (pss_one (ps_ret (pv 0))))), ?_⟩
    unfold cell at q
    walk_at "ts in"
    repeat' walk_at "ts"
    · rename_i h1
      rw [if_pos h1] at q
      exact q
    · rename_i h1 h2
      rw [if_neg h1, if_pos h2] at q
      exact q
    · rename_i h1 h2
      rw [if_neg h1, if_neg h2] at q
      exact q
theorem u_cell {t : List Nat} {H : Hp} {Q : VK} {E : XK} (q : Q (.str (S (cell t))) H) : spCell K [.str (S t)] H Q E := ⟨t, rfl, q⟩
local macro_rules | `(tactic| walk_at "ts use") => `(tactic| (with_reducible refine u_cell ?_))
def spCells (K : PySem.W.Frag) : Sp := fun vs H Q _ => ∃ z : List Nat, vs = [.str (S z)] ∧ z.length ≤ 1000 ∧ ∀ H', Ex H H' → Q (.str (S (cells z))) H'
theorem sum_le_flat : ∀ zs : List (List Nat), (zs.map List.length).sum = zs.flatten.length
  | [] => rfl
  | z :: r => by
    rw [List.map_cons, List.sum_cons, List.flatten_cons, List.length_append, sum_le_flat r]
theorem ok_cells_of (T : Txt K mg a_words_of a_cells_of a_tokens a_cell a_draw a_tokens_p a_cells a_words a_any_line a_law d_words_of d_cells_of d_tokens d_cell d_draw d_tokens_p d_cells d_words d_any_line d_law) : FnOk P w K mg base CX0 2 a_cells_of d_cells_of P_cells_of (spCells K) := by
  have O_tokens : FnOk P w K mg base CX0 1 a_tokens d_tokens P_tokens (spTok K) := ok_tokens T
  have O_cell : FnOk P w K mg base CX0 1 a_cell d_cell P_cell (spCell K) := ok_cell T
  refine T.f_cells_of.ok sc_cells_of (fun vs H Q E h => ?_) (fun cdv A outer s H vs Q E hr h => ?_)
  · obtain ⟨z, rfl, _⟩ := h
    rfl
  · obtain ⟨z, rfl, hz, q⟩ := h
    refine ⟨_, (pss_one (ps_ret (pe_joinN (pe_strL []) (pe_lc (own := [("token", 1)]) (g := gName 1) (tt := tYes) rfl sc_cells_of.nd (pi_list (pe_call O_tokens (hr.mono (by decide)) (by rfl) T.g_tokens T.k_tokens T.b_tokens .nil pass0 (pa_cons (pv 0) pa_nil))) (blkOk_by (own := [("token", 1)]) (N := N_cells_of) (sc := defScope s_cells_of) (by decide +kernel)) (fun _ _ _ _ _ => pg_name (i := 1) sc_cells_of.nd rfl (Or.inl rfl)) (fun _ _ _ _ _ => pts_nil) (fun _ _ _ _ _ => (pe_call O_cell (hr.mono (by decide)) (by rfl) T.g_cell T.k_cell T.b_cell .nil pass0 (pa_cons (pv 1) pa_nil))))))), ?_⟩
    walk_at "ts in"
    repeat' walk_at "ts"
    rename_i p H1 np e1 hp
    have hl := toks_len z
    refine lc_txt (toks z) (by walk_at "ts look") (fun _ => true) cell (by omega) (fun _ => rfl) ?_ ?_ ?_
    · intro t ht H2 e2 QQ k
      exact k H2 (Evl.Ex.refl _)
    · intro t ht _ H2 e2 QQ k
      simp only [L2.wipe, List.map_cons, List.map_nil, List.set_cons_zero, List.set_cons_succ]
      repeat' walk_at "ts"
      exact k _ (by walk_at "ts kp")
    · intro d H2 nd e2 hd
      rw [List.filter_eq_self.mpr (fun _ _ => rfl)] at hd
      have hc := cells_len z
      refine r_joinL ((toks z).map cell) (by walk_at "ts look") rfl ?_ ?_
      · rw [sum_le_flat]
        show (cells z).length + _ ≤ _
        simp only [List.length_nil, Nat.mul_zero]
        omega
      · rw [joinL_nil]
        exact q H2 (by walk_at "ts kp")
theorem u_cells_of {z : List Nat} {H : Hp} {Q : VK} {E : XK} (h : z.length ≤ 1000) (q : ∀ H', Ex H H' → Q (.str (S (cells z))) H') : spCells K [.str (S z)] H Q E := ⟨z, rfl, h, q⟩
/-! ### the other reading -/
theorem ok_tokens_p (T : Txt K mg a_words_of a_cells_of a_tokens a_cell a_draw a_tokens_p a_cells a_words a_any_line a_law d_words_of d_cells_of d_tokens d_cell d_draw d_tokens_p d_cells d_words d_any_line d_law) : FnOk P w K mg base CX0 1 a_tokens_p d_tokens_p P_tokens_p (spTok K) := by
  refine T.f_tokens_p.ok sc_tokens_p (fun vs H Q E h => ?_) (fun cdv A outer s H vs Q E hr h => ?_)
  · obtain ⟨z, rfl, _⟩ := h
    rfl
  · obtain ⟨z, rfl, hz, q⟩ := h
    refine ⟨_, (pss_cons (ps_set (i := 1) sc_tokens_p.nd rfl (.inl rfl) (pe_lst pa_nil))
      (pss_cons (ps_set (i := 2) sc_tokens_p.nd rfl (.inl rfl) (pv 0))
      (pss_cons (ps_while PassesOwn.never (pt_cmpR op_ne (pv 2) (pe_strL []) (nomark _))
      (pss_cons (ps_set (i := 3) sc_tokens_p.nd rfl (.inl rfl) (pe_op op_add pe_int (pe_callTy c_int1 (by rfl) T.m_int (by decide +kernel) (pa_cons (pe_cmpR op_in_seq (pe_slice sl_str (pv 2) po_none (po_some pe_int)) (pe_tup (pa_cons (pe_strL [92, 45]) (pa_cons (pe_strL [92, 116]) (pa_cons (pe_strL [92, 92]) pa_nil)))) (by rfl)) pa_nil))))
      (pss_cons (ps_expr (pe_bm PySem.F.plainAttrs_list PySem.F.slot_list_append PySem.F.type_list_append mt_append (pv 1) (pa_cons (pe_slice sl_str (pv 2) po_none (po_some (pv 3))) pa_nil)))
      (pss_one (ps_set (i := 2) sc_tokens_p.nd rfl (.inl rfl) (pe_slice sl_str (pv 2) (po_some (pv 3)) po_none))))))
      (pss_one (ps_ret (pv 1)))))), ?_⟩
    walk_at "ts in"
    repeat' walk_at "ts"
    rename_i p H1 np e1 hp
    refine r_while (fun m σ H' => ∃ (u : List Nat) (ds : List (List Nat)) (v3 : Option V), σ = [some (.str (S z)), some (.ref p), some (.str (S u)), v3] ∧ m = u.length ∧ u.length ≤ z.length ∧
      H' p = some (.lst (ds.map SV)) ∧ Ex H H' ∧ ds.length + u.length ≤ z.length ∧ ds ++ toks u = toks z) z.length ⟨z, [], none, rfl, rfl, Nat.le_refl _, hp, e1, by simp, rfl⟩ ?_
    rintro m σ H2 ⟨u, ds, v3, rfl, rfl, hu, hp2, e2, hl, hd⟩
    repeat' walk_at "ts"
    · rename_i hc p2 H3 np2 e3 hp3 h2 H4 k4 hp4
      have h2 : u.take 2 ∈ twos := h2
      have h3 := two_len h2
      refine ⟨u.length - 2, by omega, u.drop 2, ds ++ [u.take 2], _, rfl, by rw [List.length_drop], by rw [List.length_drop]; omega, by rw [List.map_append]; exact hp4, ex_kp (e2.trans e3) np k4, ?_, ?_⟩
      · rw [List.length_append, List.length_drop]; simp only [List.length_cons, List.length_nil]; omega
      · rw [← hd, toks_two h2, List.append_assoc]; rfl
    · rename_i hc p2 H3 np2 e3 hp3 h2 H4 k4 hp4
      have h2 : ¬ u.take 2 ∈ twos := h2
      have h3 : 0 < u.length := List.length_pos_iff.mpr hc
      refine ⟨u.length - 1, by omega, u.drop 1, ds ++ [u.take 1], _, rfl, by rw [List.length_drop], by rw [List.length_drop]; omega, by rw [List.map_append]; exact hp4, ex_kp (e2.trans e3) np k4, ?_, ?_⟩
      · rw [List.length_append, List.length_drop]; simp only [List.length_cons, List.length_nil]; omega
      · rw [← hd, toks_one h2 hc, List.append_assoc]; rfl
    · rename_i hc
      subst hc
      have hd : ds ++ [] = toks z := hd
      rw [List.append_nil] at hd
      exact q p H2 np e2 (by rw [← hd]; exact hp2)
/-! ### drawn lines -/
theorem u_draw {H : Hp} {p : Addr} {n b : Int} {Q : VK} {E : XK} (h : Pen K H p b) (c : 0 < n) (d : n < 1000000) (e : b < 1000000)
    (q : ∀ r H', 0 ≤ r → r < n → Pen K H' p (b + 1) → Kp p H H' → Q (.int r) H') : spDraw K [.ref p, .int n] H Q E := ⟨p, n, b, rfl, c, d, e, h, q⟩
local macro_rules | `(tactic| walk_at "ts pen") => `(tactic| first
  | assumption
  | (refine' Pen.ex ?e ?n; (case e => assumption); (case n => walk_at "ts pen")))
local macro_rules | `(tactic| walk_at "ts ne") => `(tactic| first
  | assumption
  | (apply Ne.symm; assumption)
  | (refine' Pen.ne ?h ?n; (case n => assumption); (case h => walk_at "ts pen")))
local macro_rules | `(tactic| walk_at "ts use") => `(tactic| ((with_reducible refine' u_draw ?h ?c ?d ?e ?q); (case h => walk_at "ts pen"); (case c => omega); (case d => omega); (case e => omega); intro _ _ _ _ _ _))
local macro_rules | `(tactic| walk_at "ts ixb") => `(tactic| ((with_reducible refine' r_ixB (lo := 0) (hi := 1000) ?l ?i ?j ?al ?q); (case l => walk_at "ts look"); (case i => omega); (case j => (simp only [List.length_cons, List.length_nil]; omega)); (case al => walk_at "ts al"); intro _ _ _))
abbrev okA (n : Nat) (z : List Nat) : Bool := decide (z.length ≤ n) && z.all fun c => decide (c < 128)
theorem okA.le {n : Nat} {z : List Nat} (h : okA n z = true) : z.length ≤ n := by
  simp only [okA, Bool.and_eq_true, decide_eq_true_eq] at h
  exact h.1
theorem okA.lt {n : Nat} {z : List Nat} (h : okA n z = true) : ∀ c ∈ z, c < 128 := by
  simp only [okA, Bool.and_eq_true, List.all_eq_true, decide_eq_true_eq] at h
  exact h.2
theorem r_ixA {H : Hp} {a : Addr} {xs : List V} {m : Int} {Q : VK} (n : Nat) (h : SqL K H a xs) (c : 0 ≤ m) (c2 : m < xs.length) (al : AllT (okA n) xs = true) (q : ∀ z, z.length ≤ n → (∀ c ∈ z, c < 128) → Q (.str (S z)) H) : rIxL K (.ref a) (.int m) H Q :=
  r_ixTx (okA n) h c c2 al fun z hz => q z (okA.le hz) (okA.lt hz)
local macro_rules | `(tactic| walk_at "ts ixs") => `(tactic| ((with_reducible refine' r_ixA 3 ?l ?i ?j ?al ?q); (case l => walk_at "ts look"); (case i => omega); (case j => (simp only [List.length_cons, List.length_nil]; omega)); (case al => rfl); intro _ _ _))
def spLine (K : PySem.W.Frag) : Sp := fun vs H Q _ => ∃ (p : Addr) (b : Int), vs = [.ref p] ∧ b < 900000 ∧ Pen K H p b ∧
  ∀ z H', z.length ≤ 60 → (∀ c ∈ z, c < 128) → Pen K H' p (b + 2000) → Kp p H H' → Q (.str (S z)) H'
theorem ok_any_line (T : Txt K mg a_words_of a_cells_of a_tokens a_cell a_draw a_tokens_p a_cells a_words a_any_line a_law d_words_of d_cells_of d_tokens d_cell d_draw d_tokens_p d_cells d_words d_any_line d_law) : FnOk P w K mg base CX0 2 a_any_line d_any_line P_any_line (spLine K) := by
  have O_draw : FnOk P w K mg base CX0 1 a_draw d_draw P_draw (spDraw K) := ok_draw T
  refine T.f_any_line.ok sc_any_line (fun vs H Q E h => ?_) (fun cdv A outer s H vs Q E hr h => ?_)
  · obtain ⟨p, b, rfl, _⟩ := h
    rfl
  · obtain ⟨p, b, rfl, hb, hp, q⟩ := h
    refine ⟨_, (pss_cons (ps_set (i := 1) sc_any_line.nd rfl (.inl rfl) (pe_lst (pa_cons (pe_strL [92]) (pa_cons (pe_strL [92, 45]) (pa_cons (pe_strL [92, 116]) (pa_cons (pe_strL [92, 92]) (pa_cons (pe_strL [32]) (pa_cons (pe_strL [32, 32]) (pa_cons (pe_strL [97]) (pa_cons (pe_strL [98]) (pa_cons (pe_strL [99, 100, 101]) (pa_cons (pe_strL [116]) (pa_cons (pe_strL [45]) (pa_cons (pe_strL [46]) (pa_cons (pe_strL [126]) (pa_cons (pe_strL [40]) (pa_cons (pe_strL [82]) (pa_cons (pe_strL [120, 32, 121]) pa_nil))))))))))))))))))
      (pss_cons (ps_set (i := 2) sc_any_line.nd rfl (.inl rfl) (pe_strL []))
      (pss_cons (ps_for PassesOwn.never rfl (pi_range1 rfl T.m_range (pa_cons (pe_ix ix_list (pe_lst (pa_cons pe_int (pa_cons pe_int (pa_cons (pe_call O_draw (hr.mono (by decide)) (by rfl) T.g_draw T.k_draw T.b_draw .nil pass0 (pa_cons (pv 0) (pa_cons pe_int pa_nil))) (pa_cons (pe_op op_add pe_int (pe_call O_draw (hr.mono (by decide)) (by rfl) T.g_draw T.k_draw T.b_draw .nil pass0 (pa_cons (pv 0) (pa_cons pe_int pa_nil)))) pa_nil))))) (pe_call O_draw (hr.mono (by decide)) (by rfl) T.g_draw T.k_draw T.b_draw .nil pass0 (pa_cons (pv 0) (pa_cons pe_int pa_nil))) (fun _ _ => rfl)) pa_nil)) (pg_name (i := 3) sc_any_line.nd rfl (.inl rfl))
      (pss_one (ps_set (i := 2) sc_any_line.nd rfl (.inl rfl) (pe_op o_addS (pv 2) (pe_ix ix_list (pv 1) (pe_call O_draw (hr.mono (by decide)) (by rfl) T.g_draw T.k_draw T.b_draw .nil pass0 (pa_cons (pv 0) (pa_cons pe_int pa_nil))) (fun _ _ => rfl))))))
      (pss_one (ps_ret (pe_slice sl_str (pv 2) po_none (po_some pe_int))))))), ?_⟩
    walk_at "ts in"
    repeat' walk_at "ts"
    rename_i n n0 n1
    rename_i Hn _ _ hpn _
    refine f_range (fun i σ H' => ∃ (u : List Nat) (v3 : Option V), σ = [some (.ref p), some (.ref _), some (.str (S u)), v3] ∧ u.length ≤ 3 * i ∧ (∀ c ∈ u, c < 128) ∧ Pen K H' p (b + 3 + i) ∧ Kp p Hn H') ⟨[], none, rfl, by simp, by simp, Pen.le hpn (by omega), Kp.refl _ _⟩ ?_ ?_
    · rintro i σ H4 hi ⟨u, v3, rfl, hu, hu2, hp4, k4⟩
      have hi : i < n.toNat := hi
      repeat' walk_at "ts"
      rename_i y hy hy2
      refine ⟨u ++ y, _, rfl, ?_, ?_, Pen.le (by walk_at "ts pen") (by omega), by walk_at "ts kp"⟩
      · rw [List.length_append]
        omega
      · intro c hc
        exact (List.mem_append.mp hc).elim (hu2 c) (hy2 c)
    · rintro σ H4 ⟨u, v3, rfl, hu, hu2, hp4, k4⟩
      repeat' walk_at "ts"
      refine q _ _ (by rw [List.length_take]; omega) (fun c hc => hu2 c (List.mem_of_mem_take hc)) (Pen.le hp4 (by omega)) (by walk_at "ts kp")
/-! ### the other reading's cells -/
theorem last_of {t : List Nat} (h : t ≠ []) : atI t (-1) = some (t.getLastD 0) := by
  have e : t = t.dropLast ++ [t.getLast h] := (List.dropLast_concat_getLast h).symm
  have e2 : t.getLastD 0 = t.getLast h := by
    rw [List.getLastD_eq_getLast?, List.getLast?_eq_some_getLast h]
    rfl
  rw [e2]
  conv => lhs; rw [e]
  exact atI_last _ _
def spCells' (K : PySem.W.Frag) : Sp := fun vs H Q _ => ∃ z : List Nat, vs = [.str (S z)] ∧ z.length ≤ 1000 ∧ ∀ H', Ex H H' → Q (.str (S (cells' z))) H'
theorem flat_last_len : ∀ ts : List (List Nat), (ts.map lastOf).flatten.length = ts.length
  | [] => rfl
  | t :: ts => by
    have ih := flat_last_len ts
    simp only [List.map_cons, List.flatten_cons, List.length_append, List.length_cons, ih, lastOf, List.length_nil]
    omega
theorem cells'_len (z : List Nat) : (cells' z).length ≤ z.length := by
  unfold cells'
  rw [flat_last_len]
  exact Nat.le_trans (List.length_filter_le _ _) (toks_len z)
theorem ok_cells (T : Txt K mg a_words_of a_cells_of a_tokens a_cell a_draw a_tokens_p a_cells a_words a_any_line a_law d_words_of d_cells_of d_tokens d_cell d_draw d_tokens_p d_cells d_words d_any_line d_law) : FnOk P w K mg base CX0 2 a_cells d_cells P_cells (spCells' K) := by
  have O_tokens_p : FnOk P w K mg base CX0 1 a_tokens_p d_tokens_p P_tokens_p (spTok K) := ok_tokens_p T
  refine T.f_cells.ok sc_cells (fun vs H Q E h => ?_) (fun cdv A outer s H vs Q E hr h => ?_)
  · obtain ⟨z, rfl, _⟩ := h
    rfl
  · obtain ⟨z, rfl, hz, q⟩ := h
    refine ⟨_, (pss_one (ps_ret (pe_joinN (pe_strL []) (pe_lc (own := [("_law_token", 1)]) (g := gName 1) rfl sc_cells.nd (pi_list (pe_call O_tokens_p (hr.mono (by decide)) (by rfl) T.g_tokens_p T.k_tokens_p T.b_tokens_p .nil pass0 (pa_cons (pv 0) pa_nil))) (blkOk_by (own := [("_law_token", 1)]) (N := N_cells) (sc := defScope s_cells) (by decide +kernel)) (fun _ _ _ _ _ => pg_name (i := 1) sc_cells.nd rfl (Or.inl rfl)) (fun _ _ _ _ _ => (pts_one (pt_cmpR op_ne (pv 1) (pe_strL [92, 45]) (nomark _)))) (fun _ _ _ _ _ => (pe_ix ix_str (pv 1) (pe_un un_neg pe_int) (fun _ _ => rfl))))))), ?_⟩
    walk_at "ts in"
    repeat' walk_at "ts"
    rename_i p H1 np e1 hp
    have hl := toks_len z
    refine lc_txt (toks z) (by walk_at "ts look") (fun t => !decide (t = mMark)) lastOf (by omega) (fun _ => rfl) ?_ ?_ ?_
    · intro t ht H2 e2 QQ k
      simp only [L2.wipe, List.map_cons, List.map_nil, List.set_cons_zero, List.set_cons_succ]
      repeat' walk_at "ts"
      exact k _ (by walk_at "ts kp")
    · intro t ht _ H2 e2 QQ k
      have t2 := toks_le2 ht
      simp only [L2.wipe, List.map_cons, List.map_nil, List.set_cons_zero, List.set_cons_succ]
      repeat' walk_at "ts"
      refine r_ixS (by omega) (last_of (toks_ne ht)) ?_
      exact k _ (by walk_at "ts kp")
    · intro d H2 nd e2 hd
      have hc := cells'_len z
      refine r_joinL (((toks z).filter fun t => !decide (t = mMark)).map lastOf) (by walk_at "ts look") rfl ?_ ?_
      · rw [sum_le_flat]
        show (cells' z).length + _ ≤ _
        simp only [List.length_nil, Nat.mul_zero]
        omega
      · rw [joinL_nil]
        exact q H2 (by walk_at "ts kp")
theorem u_cells {z : List Nat} {H : Hp} {Q : VK} {E : XK} (h : z.length ≤ 1000) (q : ∀ H', Ex H H' → Q (.str (S (cells' z))) H') : spCells' K [.str (S z)] H Q E := ⟨z, rfl, h, q⟩

/-! ### words -/
local macro_rules | `(tactic| walk_at "ts ys") => `(tactic| exact [[32], mTab])
local macro_rules | `(tactic| walk_at "ts use") => `(tactic| ((with_reducible refine u_cells_of ?h ?q); (case h => omega); intro _ _))
def spWords (K : PySem.W.Frag) : Sp := fun vs H Q _ => ∃ z : List Nat, vs = [.str (S z)] ∧ z.length ≤ 60 ∧ ∀ p H', H p = none → Ex H H' → H' p = some (.lst ((wordsL z).map SV)) → Q (.ref p) H'
theorem ok_words_of (T : Txt K mg a_words_of a_cells_of a_tokens a_cell a_draw a_tokens_p a_cells a_words a_any_line a_law d_words_of d_cells_of d_tokens d_cell d_draw d_tokens_p d_cells d_words d_any_line d_law) : FnOk P w K mg base CX0 3 a_words_of d_words_of P_words_of (spWords K) := by
  have O_tokens : FnOk P w K mg base CX0 1 a_tokens d_tokens P_tokens (spTok K) := ok_tokens T
  have O_cells_of : FnOk P w K mg base CX0 2 a_cells_of d_cells_of P_cells_of (spCells K) := ok_cells_of T
  refine T.f_words_of.ok sc_words_of (fun vs H Q E h => ?_) (fun cdv A outer s H vs Q E hr h => ?_)
  · obtain ⟨z, rfl, _⟩ := h
    rfl
  · obtain ⟨z, rfl, hz, q⟩ := h
    have hz2 : z.length ≤ 1000 := by omega
    refine ⟨_, (pss_cons (ps_set (i := 1) sc_words_of.nd rfl (.inl rfl) (pe_lst pa_nil))
      (pss_cons (ps_set (i := 2) sc_words_of.nd rfl (.inl rfl) (pe_strL []))
      (pss_cons (ps_for PassesOwn.never rfl (pi_list (pe_lst (StX.pa_star (pe_call O_tokens (hr.mono (by decide)) (by rfl) T.g_tokens T.k_tokens T.b_tokens .nil pass0 (pa_cons (pv 0) pa_nil)) (pa_cons (pe_strL [32]) pa_nil)))) (pg_name (i := 3) sc_words_of.nd rfl (.inl rfl))
      (pss_one (ps_if (pt_cmpR op_in_seq (pv 3) (pe_tup (pa_cons (pe_strL [32]) (pa_cons (pe_globE rfl T.v_TAB) pa_nil))) (by rfl))
      (pss_cons (ps_if (pt_tru (pe_call O_cells_of (hr.mono (by decide)) (by rfl) T.g_cells_of T.k_cells_of T.b_cells_of .nil pass0 (pa_cons (pv 2) pa_nil)) (by intro _; rfl))
      (pss_one (ps_expr (pe_bm PySem.F.plainAttrs_list PySem.F.slot_list_append PySem.F.type_list_append mt_append (pv 1) (pa_cons (pv 2) pa_nil))))
      pss_nil)
      (pss_one (ps_set (i := 2) sc_words_of.nd rfl (.inl rfl) (pe_strL []))))
      (pss_one (ps_aug (i := 2) sc_words_of.nd rfl (.inl rfl) (pv 3) ip_addS)))))
      (pss_one (ps_ret (pv 1)))))), ?_⟩
    walk_at "ts in"
    repeat' walk_at "ts"
    rename_i p H1 np e1 hp pt H2 npt e2 hpt
    have hl := toks_len z
    refine ⟨Nat.le_trans (m := 1000000) (by walk_at "ts len") (by decide), ?_⟩
    repeat' walk_at "ts"
    rename_i pl H3 npl e3 hpl
    have hpl : H3 pl = some (.lst ((toks z ++ [[32]]).map SV)) := by rw [hpl, List.map_append]; rfl
    have hnp : p ≠ pl := fun e => by
      subst e
      rw [e2 _ _ hp] at npl
      cases npl
    refine f_list ((toks z ++ [[32]]).map SV) (fun i σ H' => ∃ (done : List (List Nat)) (cur : List Nat) (v3 : Option V), σ = [some (.str (S z)), some (.ref p), some (.str (S cur)), v3] ∧
      H' p = some (.lst ((done.filter fun w => !decide (cells w = [])).map SV)) ∧ Ex H H' ∧ SqL K H' pl ((toks z ++ [[32]]).map SV) ∧ done.length ≤ i ∧
      cur.length + ((toks z ++ [[32]]).drop i).flatten.length ≤ z.length + 1 ∧ done ++ segs ((toks z ++ [[32]]).drop i) cur = segs (toks z ++ [[32]]) []) ?_ ?_ ?_ ?_
    · refine ⟨[], [], none, rfl, ?_, (e1.trans e2).trans e3, SqL.at hpl, Nat.zero_le _, ?_, rfl⟩
      · exact e3 _ _ (e2 _ _ hp)
      · rw [List.drop_zero, List.flatten_append, toks_flat, List.length_append]
        simp only [List.length_nil, List.flatten_cons, List.flatten_nil, List.append_nil, List.length_cons]
        omega
    · rintro i σ H4 hi ⟨done, cur, v3, rfl, h1, h2, h3, h4⟩
      exact h3
    · rintro i x σ H4 hx ⟨done, cur, v3, rfl, h1, h2, h3, h4, h5, h6⟩
      rw [List.getElem?_map] at hx
      obtain ⟨t, ht, rfl⟩ := Option.map_eq_some_iff.mp hx
      have hd : (toks z ++ [[32]]).drop i = t :: (toks z ++ [[32]]).drop (i + 1) := by
        obtain ⟨hlt, he⟩ := List.getElem?_eq_some_iff.mp ht
        rw [List.drop_eq_getElem_cons hlt, he]
      rw [hd, List.flatten_cons, List.length_append] at h5
      rw [hd, segs] at h6
      have hlen := (List.getElem?_eq_some_iff.mp ht).1
      rw [List.length_append] at hlen
      simp only [List.length_cons, List.length_nil] at hlen
      have hdl := List.length_filter_le (fun w => !decide (cells w = [])) done
      have hcl := cells_len cur
      repeat' walk_at "ts"
      · -- a word is told
        rename_i pt2 H5 np5 e5 h5' hsep H6 e6 hne H7 k7 h7
        rw [if_pos hsep] at h6
        have n7 : ∀ {b}, H b = none → b = p ∨ True := fun _ => .inr trivial
        refine ⟨done ++ [cur], [], _, rfl, ?_, ex_kp ((h2.trans e5).trans e6) np k7, Kp.L k7 hnp.symm (Ex.L (e5.trans e6) h3), ?_, ?_, ?_⟩
        · rw [List.filter_append, List.map_append, h7]
          congr 3
          rw [List.filter_cons, decide_eq_false hne]
          rfl
        · rw [List.length_append]; simp only [List.length_cons, List.length_nil]; omega
        · simp only [List.length_nil]; omega
        · rw [← h6, List.append_assoc]; rfl
      · -- no cell
        rename_i pt2 H5 np5 e5 h5' hsep H6 e6 hne
        rw [if_pos hsep] at h6
        refine ⟨done ++ [cur], [], _, rfl, ?_, (h2.trans e5).trans e6, Ex.L (e5.trans e6) h3, ?_, ?_, ?_⟩
        · rw [List.filter_append, List.map_append]
          have : List.filter (fun w => !decide (cells w = [])) [cur] = [] := by
            rw [List.filter_cons, decide_eq_true hne]
            rfl
          rw [this, List.map_nil, List.append_nil]
          exact e6 _ _ (e5 _ _ h1)
        · rw [List.length_append]; simp only [List.length_cons, List.length_nil]; omega
        · simp only [List.length_nil]; omega
        · rw [← h6, List.append_assoc]; rfl
      · rename_i pt2 H5 np5 e5 h5' hsep
        rw [if_neg hsep] at h6
        refine ⟨done, cur ++ t, _, rfl, e5 _ _ h1, h2.trans e5, Ex.L e5 h3, by omega, ?_, h6⟩
        rw [List.length_append]; omega
    · rintro σ H4 ⟨done, cur, v3, rfl, h1, h2, h3, h4, h5, h6⟩
      repeat' walk_at "ts"
      refine q p _ np h2 ?_
      rw [List.length_map, List.drop_length] at h6
      rw [h1]
      congr 2
      have e : segs (toks z ++ [[32]]) [] = segs (toks z) [] ++ [[]] := segs_end (toks z) []
      rw [e] at h6
      have hs : segs [] cur = [cur] := rfl
      rw [hs] at h6
      have := List.append_inj_left' h6 rfl
      rw [this]
      rfl
theorem u_words_of {z : List Nat} {H : Hp} {Q : VK} {E : XK} (h : z.length ≤ 60) (q : ∀ p H', H p = none → Ex H H' → H' p = some (.lst ((wordsL z).map SV)) → Q (.ref p) H') : spWords K [.str (S z)] H Q E := ⟨z, rfl, h, q⟩
local macro_rules | `(tactic| walk_at "ts use") => `(tactic| ((with_reducible refine u_words_of ?h ?q); (case h => first | omega | (show (_ : Nat) ≤ _; decide)); intro _ _ _ _ _))
local macro_rules | `(tactic| walk_at "ts use") => `(tactic| ((with_reducible refine u_cells ?h ?q); (case h => omega); intro _ _))
theorem ok_words (T : Txt K mg a_words_of a_cells_of a_tokens a_cell a_draw a_tokens_p a_cells a_words a_any_line a_law d_words_of d_cells_of d_tokens d_cell d_draw d_tokens_p d_cells d_words d_any_line d_law) : FnOk P w K mg base CX0 3 a_words d_words P_words (spWords K) := by
  have O_tokens_p : FnOk P w K mg base CX0 1 a_tokens_p d_tokens_p P_tokens_p (spTok K) := ok_tokens_p T
  have O_cells : FnOk P w K mg base CX0 2 a_cells d_cells P_cells (spCells' K) := ok_cells T
  refine T.f_words.ok sc_words (fun vs H Q E h => ?_) (fun cdv A outer s H vs Q E hr h => ?_)
  · obtain ⟨z, rfl, _⟩ := h
    rfl
  · obtain ⟨z, rfl, hz, q⟩ := h
    have hz2 : z.length ≤ 1000 := by omega
    refine ⟨_, (pss_cons (ps_set (i := 1) sc_words.nd rfl (.inl rfl) (pe_lst (pa_cons (pe_strL []) pa_nil)))
      (pss_cons (ps_for PassesOwn.never rfl (pi_list (pe_call O_tokens_p (hr.mono (by decide)) (by rfl) T.g_tokens_p T.k_tokens_p T.b_tokens_p .nil pass0 (pa_cons (pv 0) pa_nil))) (pg_name (i := 2) sc_words.nd rfl (.inl rfl))
      (pss_one (ps_if (pt_cmpR op_in_seq (pv 2) (pe_tup (pa_cons (pe_strL [32]) (pa_cons (pe_strL [92, 116]) pa_nil))) (by rfl))
      (pss_one (ps_expr (pe_bm PySem.F.plainAttrs_list PySem.F.slot_list_append PySem.F.type_list_append mt_append (pv 1) (pa_cons (pe_strL []) pa_nil))))
      (pss_one (ps_expr (pe_bm PySem.F.plainAttrs_list PySem.F.slot_list_append PySem.F.type_list_append mt_append (pv 1) (pa_cons (pe_op o_addS (pe_bm0 PySem.F.plainAttrs_list PySem.F.slot_list_pop PySem.F.type_list_pop mt_pop (pv 1)) (pv 2)) pa_nil)))))))
      (pss_one (ps_ret (pe_lc (own := [("_law_word", 3)]) (g := gName 3) rfl sc_words.nd (pi_list (pv 1)) (blkOk_by (own := [("_law_word", 3)]) (N := N_words) (sc := defScope s_words) (by decide +kernel)) (fun _ _ _ _ _ => pg_name (i := 3) sc_words.nd rfl (Or.inl rfl)) (fun _ _ _ _ _ => (pts_one (pt_cmpR op_ne (pe_call O_cells (hr.mono (by decide)) (by rfl) T.g_cells T.k_cells T.b_cells .nil pass0 (pa_cons (pv 3) pa_nil)) (pe_strL []) (nomark _)))) (fun _ _ _ _ _ => (pv 3))))))), ?_⟩
    walk_at "ts in"
    repeat' walk_at "ts"
    rename_i p H1 np e1 hp pt H2 npt e2 hpt
    have hl := toks_len z
    have hnp : p ≠ pt := fun e => by
      subst e
      rw [hp] at npt
      cases npt
    refine f_list ((toks z).map SV) (fun i σ H' => ∃ (done : List (List Nat)) (cur : List Nat) (v2 : Option V), σ = [some (.str (S z)), some (.ref p), v2, none] ∧
      H' p = some (.lst (done.map SV ++ [SV cur])) ∧ Ex H H' ∧ SqL K H' pt ((toks z).map SV) ∧ done.length ≤ i ∧
      cur.length + ((toks z).drop i).flatten.length ≤ z.length ∧ done ++ segs ((toks z).drop i) cur = segs (toks z) []) ?_ ?_ ?_ ?_
    · refine ⟨[], [], none, rfl, e2 _ _ hp, e1.trans e2, SqL.at hpt, Nat.zero_le _, ?_, rfl⟩
      rw [List.drop_zero, toks_flat]
      simp only [List.length_nil]
      omega
    · rintro i σ H4 hi ⟨done, cur, v2, rfl, h1, h2, h3, h4⟩
      exact h3
    · rintro i x σ H4 hx ⟨done, cur, v2, rfl, h1, h2, h3, h4, h5, h6⟩
      rw [List.getElem?_map] at hx
      obtain ⟨t, ht, rfl⟩ := Option.map_eq_some_iff.mp hx
      have hd : (toks z).drop i = t :: (toks z).drop (i + 1) := by
        obtain ⟨hlt, he⟩ := List.getElem?_eq_some_iff.mp ht
        rw [List.drop_eq_getElem_cons hlt, he]
      rw [hd, List.flatten_cons, List.length_append] at h5
      rw [hd, segs] at h6
      have hlen := (List.getElem?_eq_some_iff.mp ht).1
      repeat' walk_at "ts"
      · rename_i pt2 H5 np5 e5 h5' hsep H7 k7 h7
        rw [if_pos hsep] at h6
        refine ⟨done ++ [cur], [], _, rfl, ?_, ex_kp (h2.trans e5) np k7, Kp.L k7 hnp.symm (Ex.L e5 h3), ?_, ?_, ?_⟩
        · rw [h7, List.map_append]; rfl
        · rw [List.length_append]; simp only [List.length_cons, List.length_nil]; omega
        · simp only [List.length_nil]; omega
        · rw [← h6, List.append_assoc]; rfl
      · rename_i pt2 H5 np5 e5 h5' hsep H6 k6 h6' H7 k7 h7
        rw [if_neg hsep] at h6
        refine ⟨done, cur ++ t, _, rfl, h7, ex_kp (ex_kp (h2.trans e5) np k6) np k7, Kp.L k7 hnp.symm (Kp.L k6 hnp.symm (Ex.L e5 h3)), by omega, ?_, h6⟩
        rw [List.length_append]; omega
    · rintro σ H4 ⟨done, cur, v2, rfl, h1, h2, h3, h4, h5, h6⟩
      rw [List.length_map] at h4
      rw [List.length_map, List.drop_length] at h6
      have hs : segs [] cur = [cur] := rfl
      rw [hs] at h6
      have h1' : H4 p = some (.lst ((done ++ [cur]).map SV)) := by rw [h1, List.map_append]; rfl
      have hsg := segs_word (toks z) []
      rw [← h6, toks_flat] at hsg
      simp only [List.length_nil] at hsg
      repeat' walk_at "ts"
      refine lc_txt (done ++ [cur]) (by walk_at "ts look") (fun w => !decide (cells' w = [])) (fun w => w) ?_ (fun _ => rfl) ?_ ?_ ?_
      · rw [List.length_append]; simp only [List.length_cons, List.length_nil]; omega
      · intro t ht H5 e5 QQ k
        have t2 := hsg t ht
        simp only [L2.wipe, List.map_cons, List.map_nil, List.set_cons_zero, List.set_cons_succ]
        repeat' walk_at "ts"
        exact k _ (by walk_at "ts kp")
      · intro t ht _ H5 e5 QQ k
        simp only [L2.wipe, List.map_cons, List.map_nil, List.set_cons_zero, List.set_cons_succ]
        repeat' walk_at "ts"
        exact k _ (by walk_at "ts kp")
      · intro d H5 nd e5 hd
        refine q d H5 ?_ (h2.trans e5) ?_
        · cases hh : H d with
          | none => rfl
          | some o => rw [h2 _ _ hh] at nd; cases nd
        · rw [hd, h6, wordsL', List.map_id']
/-! ### the law -/
theorem u_any_line {H : Hp} {p : Addr} {b : Int} {Q : VK} {E : XK} (h : Pen K H p b) (e : b < 900000)
    (q : ∀ z H', z.length ≤ 60 → (∀ c ∈ z, c < 128) → Pen K H' p (b + 2000) → Kp p H H' → Q (.str (S z)) H') : spLine K [.ref p] H Q E := ⟨p, b, rfl, e, h, q⟩
local macro_rules | `(tactic| walk_at "ts use") => `(tactic| ((with_reducible refine' u_any_line ?h ?e ?q); (case h => walk_at "ts pen"); (case e => omega); intro _ _ _ _ _ _))
local macro_rules | `(tactic| walk_at "ts dp") => `(tactic| (refine' dp_words ?h; (case h => walk_at "ts look")))
theorem sh_words {z : List Nat} (h : z.length ≤ 60) (hc : ∀ c ∈ z, c < 128) : Sh (.list ((wordsL z).map dS)) :=
  sh_strs (n := 61) (m := 60) (by have := wordsL_len z; omega) (fun w hw => ⟨by have := wordsL_word hw; omega, fun c hc' => Nat.lt_trans (wordsL_signs (P := fun c => c < 128) hc hw c hc') (by decide)⟩) (by decide)
theorem lt_words {z : List Nat} (h : z.length ≤ 60) : ((wordsL z).map SV).length < 1000000 := by
  have := wordsL_len z
  rw [List.length_map]
  omega
local macro_rules | `(tactic| walk_at "ts len") => `(tactic| first | omega | exact lt_words (by assumption))
local macro_rules | `(tactic| walk_at "ts sh") => `(tactic| exact sh_words (by assumption) (by assumption))
theorem cut63 (ns : List Int) : cutV (ns.map V.int) none (some 63) = (ns.take 63).map V.int := by
  unfold cutV
  rw [HT.sIx_none, show HT.sIx (ns.map V.int).length (ns.map V.int).length (some 63) = min 63 (ns.map V.int).length from HT.sIx_nat _ _ 63, List.drop_zero, List.map_take, Nat.sub_zero]
  by_cases h : 63 ≤ (ns.map V.int).length
  · rw [Nat.min_eq_left h]
  · rw [Nat.min_eq_right (by omega), List.take_of_length_le (Nat.le_refl _), List.take_of_length_le (by omega)]
def spLaw (K : PySem.W.Frag) : Sp := fun vs H Q _ => ∃ (a : Addr) (ns : List Int), vs = [.ref a] ∧ SqL K H a (ns.map V.int) ∧ ns.length ≤ 63 ∧ ∀ H', Q (.bl true) H'
theorem ok_law (T : Txt K mg a_words_of a_cells_of a_tokens a_cell a_draw a_tokens_p a_cells a_words a_any_line a_law d_words_of d_cells_of d_tokens d_cell d_draw d_tokens_p d_cells d_words d_any_line d_law) : FnG P w K mg base CX0 4 a_law d_law P_law (spLaw K) := by
  have O_any_line : FnOk P w K mg base CX0 2 a_any_line d_any_line P_any_line (spLine K) := ok_any_line T
  have O_words : FnOk P w K mg base CX0 3 a_words d_words P_words (spWords K) := ok_words T
  have O_words_of : FnOk P w K mg base CX0 3 a_words_of d_words_of P_words_of (spWords K) := ok_words_of T
  have KB_words_of_0_line := kbF T.f_words_of (ps := P_words_of) 0 ["line"] (fun _ ws => ws) (fun _ r => r)
    (fun kV doc pm an cdv ct us ws h1 h2 => (match us, ws, h1, h2 with | [], [_], _, _ => rfl))
  refine okG T.f_law sc_law (fun vs H Q E h => ?_) (fun cdv A outer s H vs Q E hr hg h => ?_)
  · obtain ⟨a, ns, rfl, _⟩ := h
    rfl
  · obtain ⟨a, ns, rfl, ha, hl, q⟩ := h
    have hu := hu_of hr
    refine ⟨_, (pss_cons (ps_set (i := 1) sc_law.nd rfl (.inl rfl) (pe_lst (pa_cons (pe_callTy c_listOf (by rfl) T.m_list (by decide +kernel) (pa_cons (pe_slice sl_list (pv 0) po_none (po_some pe_int)) pa_nil)) (pa_cons pe_int (pa_cons pe_int pa_nil)))))
      (pss_cons (ps_for PassesOwn.never rfl (pi_range1 rfl T.m_range (pa_cons pe_int pa_nil)) (pg_name (i := 2) sc_law.nd rfl (.inl rfl))
      (pss_cons (ps_set (i := 3) sc_law.nd rfl (.inl rfl) (pe_call O_any_line (hr.mono (by decide)) (by rfl) T.g_any_line T.k_any_line T.b_any_line .nil pass0 (pa_cons (pv 1) pa_nil)))
      (pss_cons (ps_set (i := 4) sc_law.nd rfl (.inl rfl) (pe_callB (call_repr hr hg) (by rfl) T.m_repr (by decide +kernel) (pa_cons (pe_call O_words (hr.mono (by decide)) (by rfl) T.g_words T.k_words T.b_words .nil pass0 (pa_cons (pv 3) pa_nil)) pa_nil)))
      (pss_cons (ps_set (i := 5) sc_law.nd rfl (.inl rfl) (pe_call O_words_of (hr.mono (by decide)) (by rfl) T.g_words_of T.k_words_of T.b_words_of .nil pass0 (pa_cons (pv 3) pa_nil)))
      (pss_cons (ps_if (pt_cmpR op_ne (pe_callB (call_repr hr hg) (by rfl) T.m_repr (by decide +kernel) (pa_cons (pv 5) pa_nil)) (pv 4) (nomark _))
      (pss_one (ps_ret pe_bl))
      pss_nil)
      (pss_cons (ps_expr (pe_bm PySem.F.plainAttrs_list PySem.F.slot_list_append PySem.F.type_list_append mt_append (pv 5) (pa_cons (pe_strL [120]) pa_nil)))
      (pss_one (ps_if (pt_cmpR op_ne (pe_callB (call_repr hr hg) (by rfl) T.m_repr (by decide +kernel) (pa_cons (pe_callN0 O_words_of (hr.mono (by decide)) (by rfl) T.g_words_of T.k_words_of KB_words_of_0_line pass0 (pk_cons (pv 3) pk_nil)) pa_nil)) (pv 4) (nomark _))
      (pss_one (ps_ret pe_bl))
      pss_nil))))))))
      (pss_one (ps_ret (pe_and (pe_cmpR (op_eqD hr.units) (pe_call O_words_of (hr.mono (by decide)) (by rfl) T.g_words_of T.k_words_of T.b_words_of .nil pass0 (pa_cons (pe_strL []) pa_nil)) (pe_lst pa_nil) (nomark _)) (pe_one (pe_cmpR (op_eqD hr.units) (pe_call O_words_of (hr.mono (by decide)) (by rfl) T.g_words_of T.k_words_of T.b_words_of .nil pass0 (pa_cons (pe_strL [97, 92, 92, 116, 98, 32, 92, 45, 32, 99]) pa_nil)) (pe_lst (pa_cons (pe_strL [97, 92, 92, 116, 98]) (pa_cons (pe_strL [99]) pa_nil))) (nomark _)))))))), ?_⟩
    walk_at "ts in"
    repeat' walk_at "ts"
    rename_i s1 H1 ns1 e1 hs1 c H2 nc e2 hc p H3 np e3 hp
    rw [cut63] at hc
    have hcp : c ≠ p := fun e => by
      subst e
      rw [hc] at np
      cases np
    have hpen : Pen K H3 p 0 := ⟨c, ns.take 63, 0, 0, hp, SqL.at (e3 _ _ hc), hcp, Int.le_refl _, Int.le_refl _, Int.le_refl _⟩
    refine f_range (fun i σ H' => ∃ v2 v3 v4 v5, σ = [some (.ref a), some (.ref p), v2, v3, v4, v5] ∧ Pen K H' p (2000 * i)) ⟨_, _, _, _, rfl, Pen.le hpen (by omega)⟩ ?_ ?_
    · rintro i σ H4 hi ⟨v2, v3, v4, v5, rfl, hp4⟩
      have hi : i < 30 := hi
      repeat' walk_at "ts"
      rename_i z H4 hz hzc hp4 k4 p5 H5 np5 e5 h5 p6 H6 np6 e6 h6 H7 k7 h7 p8 H8 np8 e8 h8
      exact ⟨_, _, _, _, rfl, Pen.le (Pen.ex (e5.trans ((ex_kp e6 np6 k7).trans e8)) hp4) (by omega)⟩
    · rintro σ H4 ⟨v2, v3, v4, v5, rfl, hp4⟩
      repeat' walk_at "ts"
      refine r_eqDT (.list ((wordsL []).map dS)) (.list []) (dp_words (by walk_at "ts look")) (.lst (by walk_at "ts look") .nil) (by decide +kernel) ?_
      repeat' walk_at "ts"
      refine r_eqDT (.list ((wordsL [97, 92, 92, 116, 98, 32, 92, 45, 32, 99]).map dS)) (.list ([[97, 92, 92, 116, 98], [99]].map dS)) (dp_words (by walk_at "ts look")) (dp_words (by walk_at "ts look")) (by decide +kernel) ?_
      exact q _
end
theorem all_mk {l : PySem.W.OpenLaw} {w : World} {K : PySem.W.Frag} {h : Heap} {mg : Str → Option Value} {fa : Addr} (X : K.In h) (G : h.Ns mainGlobals mg) (hfa : mg "law" = some (.ref fa))
    {f_words_of : Addr} {oc_words_of dc_words_of pm_words_of cd_words_of ct_words_of : Value} {od_words_of an_words_of : Option Addr} {sl_words_of : Array (Option Value)}
    {kV_words_of : Value}
    {f_cells_of : Addr} {oc_cells_of dc_cells_of pm_cells_of cd_cells_of ct_cells_of : Value} {od_cells_of an_cells_of : Option Addr} {sl_cells_of : Array (Option Value)}
    {kV_cells_of : Value}
    {f_tokens : Addr} {oc_tokens dc_tokens pm_tokens cd_tokens ct_tokens : Value} {od_tokens an_tokens : Option Addr} {sl_tokens : Array (Option Value)}
    {kV_tokens : Value}
    {f_cell : Addr} {oc_cell dc_cell pm_cell cd_cell ct_cell : Value} {od_cell an_cell : Option Addr} {sl_cell : Array (Option Value)}
    {kV_cell : Value}
    {f_draw : Addr} {oc_draw dc_draw pm_draw cd_draw ct_draw : Value} {od_draw an_draw : Option Addr} {sl_draw : Array (Option Value)}
    {kV_draw : Value}
    {f_tokens_p : Addr} {oc_tokens_p dc_tokens_p pm_tokens_p cd_tokens_p ct_tokens_p : Value} {od_tokens_p an_tokens_p : Option Addr} {sl_tokens_p : Array (Option Value)}
    {kV_tokens_p : Value}
    {f_cells : Addr} {oc_cells dc_cells pm_cells cd_cells ct_cells : Value} {od_cells an_cells : Option Addr} {sl_cells : Array (Option Value)}
    {kV_cells : Value}
    {f_words : Addr} {oc_words dc_words pm_words cd_words ct_words : Value} {od_words an_words : Option Addr} {sl_words : Array (Option Value)}
    {kV_words : Value}
    {f_any_line : Addr} {oc_any_line dc_any_line pm_any_line cd_any_line ct_any_line : Value} {od_any_line an_any_line : Option Addr} {sl_any_line : Array (Option Value)}
    {kV_any_line : Value}
    {f_law : Addr} {oc_law dc_law pm_law cd_law ct_law : Value} {od_law an_law : Option Addr} {sl_law : Array (Option Value)}
    {kV_law : Value}
    {t_TAB : Tok}
    {t_MARK : Tok}
    {t_STROKE : Tok}
    (a_words_of : PySem.W.nsIn K mainGlobals "words_of" = some (some (.ref f_words_of)))
    (l_words_of : K.lookup f_words_of = some ⟨oc_words_of, od_words_of, .func (PySem.W.fnOf "words_of" "words_of" (defArgs s_words_of) (defBody s_words_of) (defScope s_words_of) .none kV_words_of dc_words_of pm_words_of an_words_of cd_words_of ct_words_of), sl_words_of⟩)
    (c_words_of : PySem.W.codeIn K cd_words_of "words_of" = true)
    (k_words_of : PySem.W.keepIn K (.ref f_words_of) = true)
    (a_cells_of : PySem.W.nsIn K mainGlobals "cells_of" = some (some (.ref f_cells_of)))
    (l_cells_of : K.lookup f_cells_of = some ⟨oc_cells_of, od_cells_of, .func (PySem.W.fnOf "cells_of" "cells_of" (defArgs s_cells_of) (defBody s_cells_of) (defScope s_cells_of) .none kV_cells_of dc_cells_of pm_cells_of an_cells_of cd_cells_of ct_cells_of), sl_cells_of⟩)
    (c_cells_of : PySem.W.codeIn K cd_cells_of "cells_of" = true)
    (k_cells_of : PySem.W.keepIn K (.ref f_cells_of) = true)
    (a_tokens : PySem.W.nsIn K mainGlobals "_tokens" = some (some (.ref f_tokens)))
    (l_tokens : K.lookup f_tokens = some ⟨oc_tokens, od_tokens, .func (PySem.W.fnOf "_tokens" "_tokens" (defArgs s_tokens) (defBody s_tokens) (defScope s_tokens) .none kV_tokens dc_tokens pm_tokens an_tokens cd_tokens ct_tokens), sl_tokens⟩)
    (c_tokens : PySem.W.codeIn K cd_tokens "_tokens" = true)
    (k_tokens : PySem.W.keepIn K (.ref f_tokens) = true)
    (a_cell : PySem.W.nsIn K mainGlobals "_cell" = some (some (.ref f_cell)))
    (l_cell : K.lookup f_cell = some ⟨oc_cell, od_cell, .func (PySem.W.fnOf "_cell" "_cell" (defArgs s_cell) (defBody s_cell) (defScope s_cell) .none kV_cell dc_cell pm_cell an_cell cd_cell ct_cell), sl_cell⟩)
    (c_cell : PySem.W.codeIn K cd_cell "_cell" = true)
    (k_cell : PySem.W.keepIn K (.ref f_cell) = true)
    (a_draw : PySem.W.nsIn K mainGlobals "_law_draw" = some (some (.ref f_draw)))
    (l_draw : K.lookup f_draw = some ⟨oc_draw, od_draw, .func (PySem.W.fnOf "_law_draw" "_law_draw" (defArgs s_draw) (defBody s_draw) (defScope s_draw) .none kV_draw dc_draw pm_draw an_draw cd_draw ct_draw), sl_draw⟩)
    (c_draw : PySem.W.codeIn K cd_draw "_law_draw" = true)
    (k_draw : PySem.W.keepIn K (.ref f_draw) = true)
    (a_tokens_p : PySem.W.nsIn K mainGlobals "_law_tokens" = some (some (.ref f_tokens_p)))
    (l_tokens_p : K.lookup f_tokens_p = some ⟨oc_tokens_p, od_tokens_p, .func (PySem.W.fnOf "_law_tokens" "_law_tokens" (defArgs s_tokens_p) (defBody s_tokens_p) (defScope s_tokens_p) .none kV_tokens_p dc_tokens_p pm_tokens_p an_tokens_p cd_tokens_p ct_tokens_p), sl_tokens_p⟩)
    (c_tokens_p : PySem.W.codeIn K cd_tokens_p "_law_tokens" = true)
    (k_tokens_p : PySem.W.keepIn K (.ref f_tokens_p) = true)
    (a_cells : PySem.W.nsIn K mainGlobals "_law_cells" = some (some (.ref f_cells)))
    (l_cells : K.lookup f_cells = some ⟨oc_cells, od_cells, .func (PySem.W.fnOf "_law_cells" "_law_cells" (defArgs s_cells) (defBody s_cells) (defScope s_cells) .none kV_cells dc_cells pm_cells an_cells cd_cells ct_cells), sl_cells⟩)
    (c_cells : PySem.W.codeIn K cd_cells "_law_cells" = true)
    (k_cells : PySem.W.keepIn K (.ref f_cells) = true)
    (a_words : PySem.W.nsIn K mainGlobals "_law_words" = some (some (.ref f_words)))
    (l_words : K.lookup f_words = some ⟨oc_words, od_words, .func (PySem.W.fnOf "_law_words" "_law_words" (defArgs s_words) (defBody s_words) (defScope s_words) .none kV_words dc_words pm_words an_words cd_words ct_words), sl_words⟩)
    (c_words : PySem.W.codeIn K cd_words "_law_words" = true)
    (k_words : PySem.W.keepIn K (.ref f_words) = true)
    (a_any_line : PySem.W.nsIn K mainGlobals "_law_any_line" = some (some (.ref f_any_line)))
    (l_any_line : K.lookup f_any_line = some ⟨oc_any_line, od_any_line, .func (PySem.W.fnOf "_law_any_line" "_law_any_line" (defArgs s_any_line) (defBody s_any_line) (defScope s_any_line) .none kV_any_line dc_any_line pm_any_line an_any_line cd_any_line ct_any_line), sl_any_line⟩)
    (c_any_line : PySem.W.codeIn K cd_any_line "_law_any_line" = true)
    (k_any_line : PySem.W.keepIn K (.ref f_any_line) = true)
    (a_law : PySem.W.nsIn K mainGlobals "law" = some (some (.ref f_law)))
    (l_law : K.lookup f_law = some ⟨oc_law, od_law, .func (PySem.W.fnOf "law" "law" (defArgs s_law) (defBody s_law) (defScope s_law) .none kV_law dc_law pm_law an_law cd_law ct_law), sl_law⟩)
    (c_law : PySem.W.codeIn K cd_law "law" = true)
    (k_law : PySem.W.keepIn K (.ref f_law) = true)
    (z_len : PySem.W.nsIn K mainGlobals "len" = some none)
    (z_abs : PySem.W.nsIn K mainGlobals "abs" = some none)
    (z_int : PySem.W.nsIn K mainGlobals "int" = some none)
    (z_range : PySem.W.nsIn K mainGlobals "range" = some none)
    (z_list : PySem.W.nsIn K mainGlobals "list" = some none)
    (z_repr : PySem.W.nsIn K mainGlobals "repr" = some none)
    (v_TAB : PySem.W.nsIn K mainGlobals "TAB" = some (some (.str "\\t" t_TAB)))
    (v_MARK : PySem.W.nsIn K mainGlobals "MARK" = some (some (.str "\\-" t_MARK)))
    (v_STROKE : PySem.W.nsIn K mainGlobals "STROKE" = some (some (.str "\\\\" t_STROKE))) :
    ∃ fd : FuncData, (∀ (s : Shared) (v : Value), BindsTo s fd ⟨[v], []⟩ [("_law_script", v)]) ∧ ∀ base : Heap, K.In base → base.Ns mainGlobals mg → FnG l.prog w K mg base CX0 4 fa fd ["_law_script"] (spLaw K) := by
  have e := hfa.symm.trans (PySem.W.mg_of X G a_law)
  cases e
  have T : Txt K mg f_words_of f_cells_of f_tokens f_cell f_draw f_tokens_p f_cells f_words f_any_line fa _ _ _ _ _ _ _ _ _ _ := {
    f_words_of := fun_mk (st := s_words_of) l_words_of c_words_of k_words_of
    g_words_of := PySem.W.mg_of X G a_words_of
    f_cells_of := fun_mk (st := s_cells_of) l_cells_of c_cells_of k_cells_of
    g_cells_of := PySem.W.mg_of X G a_cells_of
    f_tokens := fun_mk (st := s_tokens) l_tokens c_tokens k_tokens
    g_tokens := PySem.W.mg_of X G a_tokens
    f_cell := fun_mk (st := s_cell) l_cell c_cell k_cell
    g_cell := PySem.W.mg_of X G a_cell
    f_draw := fun_mk (st := s_draw) l_draw c_draw k_draw
    g_draw := PySem.W.mg_of X G a_draw
    f_tokens_p := fun_mk (st := s_tokens_p) l_tokens_p c_tokens_p k_tokens_p
    g_tokens_p := PySem.W.mg_of X G a_tokens_p
    f_cells := fun_mk (st := s_cells) l_cells c_cells k_cells
    g_cells := PySem.W.mg_of X G a_cells
    f_words := fun_mk (st := s_words) l_words c_words k_words
    g_words := PySem.W.mg_of X G a_words
    f_any_line := fun_mk (st := s_any_line) l_any_line c_any_line k_any_line
    g_any_line := PySem.W.mg_of X G a_any_line
    f_law := fun_mk (st := s_law) l_law c_law k_law
    m_len := PySem.W.mg_none_of X G z_len
    m_abs := PySem.W.mg_none_of X G z_abs
    m_int := PySem.W.mg_none_of X G z_int
    m_range := PySem.W.mg_none_of X G z_range
    m_list := PySem.W.mg_none_of X G z_list
    m_repr := PySem.W.mg_none_of X G z_repr
    v_TAB := ⟨_, PySem.W.mg_of X G v_TAB, ⟨_, rfl⟩⟩
    v_MARK := ⟨_, PySem.W.mg_of X G v_MARK, ⟨_, rfl⟩⟩
    v_STROKE := ⟨_, PySem.W.mg_of X G v_STROKE, ⟨_, rfl⟩⟩ }
  exact ⟨_, fun s v => .of_eq rfl, fun base _ _ => ok_law T⟩
end Ts
open PySem PySem.W PyProof.Rows
set_option maxHeartbeats 0 in
theorem PySem.Challenge.cw_trapsetter_k01_words_of_lines_holds : PySem.Challenge.rw_trapsetter_k01_words_of_lines.Holds := by
  w_on; o_law; k_head; (case hw => w_witness2)
  k_fill
  refine Ts.walkG (l := PySem.Challenge.rw_trapsetter_k01_words_of_lines) (n := 63) (k := 4) (x := "_law_script") (sp := Ts.spLaw) rfl (by decide) rfl ⟨rfl, by decide, by decide⟩ (fun w h Y => PySem.W.kIn_of Y) ?F (fun K H a ns hl _ hS => ⟨a, ns, rfl, hS, hl, fun _ => rfl⟩)
  case F =>
    intro w mg fa h KX G hmg
    refine' Ts.all_mk KX G hmg ?a_words_of ?l_words_of ?c_words_of ?k_words_of ?a_cells_of ?l_cells_of ?c_cells_of ?k_cells_of ?a_tokens ?l_tokens ?c_tokens ?k_tokens ?a_cell ?l_cell ?c_cell ?k_cell ?a_draw ?l_draw ?c_draw ?k_draw ?a_tokens_p ?l_tokens_p ?c_tokens_p ?k_tokens_p ?a_cells ?l_cells ?c_cells ?k_cells ?a_words ?l_words ?c_words ?k_words ?a_any_line ?l_any_line ?c_any_line ?k_any_line ?a_law ?l_law ?c_law ?k_law ?z_len ?z_abs ?z_int ?z_range ?z_list ?z_repr ?v_TAB ?v_MARK ?v_STROKE
    (case a_words_of => k_is); (case l_words_of => k_is); (case c_words_of => k_is); (case k_words_of => k_is); (case a_cells_of => k_is); (case l_cells_of => k_is); (case c_cells_of => k_is); (case k_cells_of => k_is); (case a_tokens => k_is); (case l_tokens => k_is); (case c_tokens => k_is); (case k_tokens => k_is); (case a_cell => k_is); (case l_cell => k_is); (case c_cell => k_is); (case k_cell => k_is); (case a_draw => k_is); (case l_draw => k_is); (case c_draw => k_is); (case k_draw => k_is); (case a_tokens_p => k_is); (case l_tokens_p => k_is); (case c_tokens_p => k_is); (case k_tokens_p => k_is); (case a_cells => k_is); (case l_cells => k_is); (case c_cells => k_is); (case k_cells => k_is); (case a_words => k_is); (case l_words => k_is); (case c_words => k_is); (case k_words => k_is); (case a_any_line => k_is); (case l_any_line => k_is); (case c_any_line => k_is); (case k_any_line => k_is); (case a_law => k_is); (case l_law => k_is); (case c_law => k_is); (case k_law => k_is); (case z_len => k_is); (case z_abs => k_is); (case z_int => k_is); (case z_range => k_is); (case z_list => k_is); (case z_repr => k_is); (case v_TAB => k_is); (case v_MARK => k_is); (case v_STROKE => k_is)
