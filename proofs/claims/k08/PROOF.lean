import PyProof.Rows.All
import Wide.All
import OpenK.AllK
import Wide.FinOn
import PyProof.ReprRoads
import PyProof.StrLawsRepr
import HandS.ForMost
import HandS.Defaults
import HandS.Evl
import HandS.EndBits
import PySem.Challenge.RW_trapsetter_k08_steps_added
set_option Elab.async false
set_option linter.all false
set_option maxRecDepth 100000
set_option maxHeartbeats 4000000
namespace Ts
open PySem PySem.Spec PyProof.Rows L2

/-! ### no repr is under way: promises of defs that show data -/
section
variable {P : Program} {w : World} {K : PySem.W.Frag} {mg : Str → Option Value} {base : Heap} {CX : CXT}
structure FnG (P : Program) (w : World) (K : PySem.W.Frag) (mg : Str → Option Value)
    (base : Heap) (CX : CXT) (k : Nat) (f : Addr) (fd : FuncData) (ps : List Str) (sp : Sp) : Prop where
  len : ∀ vs H Q E, sp vs H Q E → vs.length = ps.length
  run : ∀ (A : Around) (outer : List Env) (s : Shared) (H : Hp) (args : Args) (us : List Value)
    (vs : List V) (Q : VK) (E : XK), Room k A → A.guards = some [] →
    Env0 P w K mg base A outer s H → BindsTo s fd args (ps.zip us) → Vals vs us → sp vs H Q E →
    codeAny (model P w) A (.call (.ref f) args) (CR CX outer P w H s Q E) s

theorem FnG.of {k : Nat} {f : Addr} {fd : FuncData} {ps : List Str} {sp : Sp}
    (F : FnOk P w K mg base CX k f fd ps sp) : FnG P w K mg base CX k f fd ps sp :=
  ⟨F.len, fun A outer s H args us vs Q E hr _ => F.run A outer s H args us vs Q E hr⟩

theorem fnG_of {k : Nat} {f : Addr} {name qual : Str} {params : Arguments} {body : List Stmt}
    {scope : Scope} {dV kV doc pm cdv ct oc : Value} {an od : Option Addr}
    {osl : Array (Option Value)} {N ps : List Str} {sp : Sp}
    (lk : K.lookup f = some ⟨oc, od,
      .func (PySem.W.fnOf name qual params body scope dV kV doc pm an cdv ct), osl⟩)
    (hcd : PySem.W.codeIn K cdv qual = true) (S : FnScope N ps scope)
    (len : ∀ vs H Q E, sp vs H Q E → vs.length = ps.length)
    (hbody : ∀ (A : Around) (outer : List Env) (s : Shared) (H : Hp) (vs : List V) (Q : VK) (E : XK),
      Room k (A.deeper (envOfC qual scope s.heap.objs.size f cdv)) → A.guards = some [] → sp vs H Q E →
      ∃ t, PSs (cxOf CX P w K mg base N qual scope f cdv A outer s H E) body t ∧
        t { nx := fun _ H' => Q .non H', rt := Q } (start N vs) H) :
    FnG P w K mg base CX (k + 1) f (PySem.W.fnOf name qual params body scope dV kV doc pm an cdv ct) ps sp := by
  refine ⟨len, fun A outer s H args us vs Q E hr hgd e0 hb r hsp => ?_⟩
  have hlen := len _ _ _ _ hsp
  have hin : K.In s.heap := e0.mod.kin.keeps fun b o e => (e0.bs b o e).1
  have hlim : s.heap.NoLimit := e0.mod.nolimit.keeps fun b o e => (e0.bs b o e).1
  have hpar : ∀ y ∈ ps.zip us, scope.names.lookup y.1 = some .local ∨
      (scope.names.lookup y.1 = some .cell ∧
        ((cellsFrom (s.heap.objs.size + 1) scope.names []).lookup y.1).isSome = true) := by
    rintro ⟨n, v⟩ hy
    rcases S.par n (List.of_mem_zip hy).1 with q | q
    · exact Or.inl q
    · exact Or.inr ⟨q, PySem.W.cellsFrom_some _ _ _ (Or.inl q)⟩
  refine codeAny_call_function hr.depth (hin _ _ lk) rfl S.co S.gen rfl
    (PySem.W.codeRec_of hin hcd) (hb _ _ _ _ ?_)
  refine wpAny_newFunctionEnv_cells S.kind hpar fun env he s1 x => ?_
  subst he
  refine ⟨hlim.keeps x.toInCall.keep, codeAny_func ?_⟩
  obtain ⟨t, ht, hq⟩ := hbody A outer s H vs Q E (hr.deeper _) hgd hsp
  have I := inv_start (CX := CX) (P := P) (w := w) (mg := mg) (base := base) (E := E) S hr.hd e0 hlen r x
  refine wpAny_mono (ht.run [] s1 (start N vs) H _ I hq) ?_ (fun e s' hs => hs)
  intro fl s' hs
  cases fl with
  | next =>
    obtain ⟨σ', H', J, q⟩ := hs
    exact ⟨V.non, H', J.os, J.bare, J.base, J.hok, rfl, q⟩
  | ret u =>
    obtain ⟨v, σ', H', J, rv, q⟩ := hs
    exact ⟨v, H', J.os, J.bare, J.base, J.hok, rv, q⟩
  | brk =>
    obtain ⟨_, _, _, q⟩ := hs
    exact q.elim
  | cont =>
    obtain ⟨_, _, _, q⟩ := hs
    exact q.elim

theorem okG {x qual : Str} {st : Stmt} {f : Addr} {fd : FuncData} {N ps : List Str} {k : Nat} {sp : Sp}
    (F : Fun K x qual st f fd) (S : FnScope N ps (defScope st))
    (len : ∀ vs H Q E, sp vs H Q E → vs.length = ps.length)
    (hbody : ∀ (cdv : Value) (A : Around) (outer : List Env) (s : Shared) (H : Hp) (vs : List V) (Q : VK) (E : XK),
      Room k (A.deeper (envOfC qual (defScope st) s.heap.objs.size f cdv)) → A.guards = some [] → sp vs H Q E →
      ∃ t, PSs (cxOf CX0 P w K mg base N qual (defScope st) f cdv A outer s H E).nox (defBody st) t ∧
        t { nx := fun _ H' => Q .non H', rt := Q } (start N vs) H) :
    FnG P w K mg base CX0 (k + 1) f fd ps sp := by
  obtain ⟨oc, od, kV, doc, pm, an, cdv, ct, osl, rfl, lk, hcd⟩ := F.ex
  refine fnG_of lk hcd S len ?_
  intro A outer s H vs Q E hr hg hsp
  obtain ⟨t, h, q⟩ := hbody cdv A outer s H vs Q E hr hg hsp
  exact ⟨t, h.nox, q⟩
end

section
variable {X : Cx} {CX : CXT} {k : Nat} {f : Addr} {fd : FuncData} {ps : List Str} {sp : Sp} {dvs : List V} {ds : List Value}
  {E : XK} {x : Str} {p pos : Pos} {e : Expr} {es : List Expr} {t : TA}
theorem run_G {pins : List (Addr × Obj)} {σ : L2.St} {H : Hp} {s : Shared} {Q : VK} {us : List Value} {vs : List V}
    (F : FnG X.prog X.w X.K X.mg X.base CX k f fd ps sp) (hr : Room k X.A) (hg : X.A.guards = some [])
    (hb : Binds X.K fd ps ds) (hd : Vals dvs ds) (hx : Passes CX X E) (I : Inv X pins σ H s)
    (r : Vals vs us) (h : sp (vs ++ dvs) H Q E) :
    wpAny (model X.prog X.w) X.A (call (.ref f) us) (EP X pins σ Q) X.xe s := by
  have r2 : Vals (vs ++ dvs) (us ++ ds) := r.append hd
  have hl : (us ++ ds).length = ps.length := r2.length.symm.trans (F.len _ _ _ _ h)
  refine wpAny_call (codeAny_mono
    (F.run X.A X.stack s H ⟨us, []⟩ (us ++ ds) (vs ++ dvs) Q E hr hg I.env0 (hb s us I.kIn hl) r2 h) ?_)
  intro r s' hq
  cases r with
  | ok fl =>
    cases fl with
    | next => exact hq.elim
    | brk => exact hq.elim
    | cont => exact hq.elim
    | ret u => exact I.after hq
  | error e => exact hx pins σ H s e s' I hq
theorem pe_callG (F : FnG X.prog X.w X.K X.mg X.base CX k f fd ps sp) (hr : Room k X.A) (hgd : X.A.guards = some [])
    (hg : Gl X x) (hm : X.mg x = some (.ref f)) (hk : PySem.W.keepIn X.K (.ref f) = true)
    (hb : Binds X.K fd ps ds) (hd : Vals dvs ds) (hx : Passes CX X E) (ha : PA X (e :: es) t)
    (hdb : (x == ("__debug__" : Str)) = false := by decide)
    (he : starEach (e :: es) X.env = (false, eval e X.env) :: starEach es X.env := by rfl)
    (hpl : (backTo pos (starEach es X.env)).any (·.1) = false := by rfl) :
    PE X (.Call (.Name x p) (e :: es) [] pos) (tCall sp dvs E t) := by
  refine ⟨fun pins s σ H Q I h => ?_⟩
  refine wpAny_Call_Name_kw (ld_glob I hg hm ?_ hdb)
  exact PySem.W.callWith_K (h₀ := X.base) I.ok.mod.kin hk
    (thn (ha.run pos pins s σ H _ I h) fun us s1 ⟨vs, H1, I1, r, q⟩ =>
      ⟨I1.kIn, run_G F hr hgd hb hd hx I1 r q⟩) he hpl
end

/-! ### repr of data -/
mutual
def wt : PyData → Nat
  | .none => 4
  | .bool _ => 5
  | .int i => (Str.ofString (toString i)).length
  | .str x => 10 * x.length + 2
  | .list xs => wts xs + 2
  | .tuple xs => wts xs + 3
  | .dict _ => 0
def wts : List PyData → Nat
  | [] => 0
  | x :: xs => wt x + 2 + wts xs
end
mutual
def okD : PyData → Prop
  | .none => True
  | .bool _ => True
  | .int i => i.natAbs.log2 < 1920
  | .str x => ∀ c ∈ x.cps.toList, c < 16 ^ 8
  | .list xs => okDs xs
  | .tuple xs => okDs xs
  | .dict _ => False
def okDs : List PyData → Prop
  | [] => True
  | x :: xs => okD x ∧ okDs xs
end
mutual
theorem okD_show : ∀ d : PyData, okD d → d.showable = true ∧ d.hasDict = false
  | .none, _ => ⟨by simp only [PyData.showable], by simp only [PyData.hasDict]⟩
  | .bool _, _ => ⟨by simp only [PyData.showable], by simp only [PyData.hasDict]⟩
  | .int i, h => ⟨by simp only [PyData.showable, decide_eq_true_eq]; exact h, by simp only [PyData.hasDict]⟩
  | .str _, _ => ⟨by simp only [PyData.showable], by simp only [PyData.hasDict]⟩
  | .list xs, h => ⟨by simp only [PyData.showable]; exact (okDs_show xs h).1, by simp only [PyData.hasDict]; exact (okDs_show xs h).2⟩
  | .tuple xs, h => ⟨by simp only [PyData.showable]; exact (okDs_show xs h).1, by simp only [PyData.hasDict]; exact (okDs_show xs h).2⟩
  | .dict _, h => h.elim
theorem okDs_show : ∀ ds : List PyData, okDs ds → PyData.showableAll ds = true ∧ PyData.hasDictAll ds = false
  | [], _ => ⟨by simp only [PyData.showableAll], by simp only [PyData.hasDictAll]⟩
  | d :: ds, h => by
    obtain ⟨a, b⟩ := okD_show d h.1
    obtain ⟨c, e⟩ := okDs_show ds h.2
    exact ⟨by simp only [PyData.showableAll, a, c, Bool.and_self], by simp only [PyData.hasDictAll, b, e, Bool.or_self]⟩
end
end Ts

namespace Ts
open PySem PySem.Spec PyProof.Rows L2
theorem listText_le : ∀ ts : List Str, (listText ts).length ≤ piled ts + 2
  | [] => by decide
  | t :: r => by
    show (textFrom 1 (("[" : Str) ++ (if (0 : Nat) > 0 then ", " else "" : String) ++ t) r ++ "]").length ≤ _
    rw [strLen_append, textFrom_length_pos r 1 _ (Nat.succ_pos 0), strLen_append, strLen_append, piled_cons]
    have e1 : ((("[" : String) : Str)).length = 1 := rfl
    have e2 : ((("]" : String) : Str)).length = 1 := rfl
    have e3 : (((if (0 : Nat) > 0 then ", " else "" : String) : Str)).length = 0 := rfl
    omega
theorem tupleText_le (ts : List Str) : (tupleText ts).length ≤ piled ts + 3 := by
  unfold tupleText
  rw [strLen_append, strLen_append]
  have e1 : ((("(" : String) : Str)).length = 1 := rfl
  have e3 : (((if ts.length == 1 then ",)" else ")" : String) : Str)).length ≤ 2 := by split <;> decide
  by_cases h : ts = []
  · subst h
    have e4 : (Str.join ", " ([] : List Str)).length = 0 := rfl
    omega
  · have := join_length_add ts h
    omega
mutual
theorem shown_wt : ∀ d : PyData, okD d → d.shown.length ≤ wt d
  | .none, _ => by simp only [PyData.shown, wt]; decide
  | .bool b, _ => by cases b <;> (simp only [PyData.shown, wt]; decide)
  | .int i, h => by
    simp only [PyData.shown, wt]
    exact Nat.le_refl _
  | .str x, h => by
    simp only [PyData.shown, wt]
    exact StrLaws.reprText_len x h
  | .list xs, h => by
    have := shown_wts xs h
    have := listText_le (PyData.shownAll xs)
    simp only [PyData.shown, wt]
    omega
  | .tuple xs, h => by
    have := shown_wts xs h
    have := tupleText_le (PyData.shownAll xs)
    simp only [PyData.shown, wt]
    omega
  | .dict _, h => h.elim
theorem shown_wts : ∀ ds : List PyData, okDs ds → piled (PyData.shownAll ds) ≤ wts ds
  | [], _ => by simp only [PyData.shownAll, wts]; decide
  | d :: ds, h => by
    have h1 := shown_wt d h.1
    have h2 := shown_wts ds h.2
    simp only [PyData.shownAll, wts, piled_cons]
    omega
end
/-- data that can be shown -/
structure Sh (d : PyData) : Prop where
  ok : okD d
  wt : wt d ≤ sizeLine
  dp : d.depth ≤ 60
def rRepr (K : PySem.W.Frag) : List V → Hp → VK → Prop := fun xs H Q => ∃ v d, xs = [v] ∧ Dp K H v d ∧ Sh d ∧ Q (.str d.shown) H
section
variable {X : Cx}
theorem call_repr {k : Nat} (hr : Room k X.A) (hg : X.A.guards = some []) : CallR X (.builtin "repr") (rRepr X.K) := by
  intro pins s σ H xs us Q I r h
  obtain ⟨v, d, rfl, hd, sh, q⟩ := h
  obtain ⟨u, rfl, ru⟩ := vals1 r
  obtain ⟨as, rd⟩ := Dp.reads I d v u hd ru
  have hs := okD_show d sh.ok
  have hz : d.shown.length ≤ sizeLine := Nat.le_trans (shown_wt d sh.ok) sh.wt
  have hu := hr.un
  have hdp := sh.dp
  cases hd with
  | non => cases ru; exact PySem.P.repr_of_none ⟨.str _, H, I.tok _, ⟨_, rfl⟩, by simpa only [PyData.shown] using q⟩
  | bl b => cases ru; exact PySem.P.repr_of_bool ⟨.str _, H, I.tok _, ⟨_, rfl⟩, by simpa only [PyData.shown] using q⟩
  | int i =>
    obtain ⟨t, rfl⟩ := ru
    exact PySem.P.repr_of_int sh.ok ⟨.str _, H, I.tok _, ⟨_, rfl⟩, by simpa only [PyData.shown] using q⟩
  | str x =>
    obtain ⟨t, rfl⟩ := ru
    exact PySem.P.repr_of_str ⟨.str _, H, I.tok _, ⟨_, rfl⟩, by simpa only [PyData.shown] using q⟩ (by simpa only [PyData.shown] using hz)
  | lst _ _ =>
    cases ru
    exact repr_of_reads' rd hs.1 (PyData.noDict_hsm hs.2) hg (by omega) (fun _ _ e => e) (fun h' u tk hk => ⟨.str _, H, I.kept hk, ⟨_, rfl⟩, q⟩) hz
  | tup _ _ =>
    cases ru
    exact repr_of_reads' rd hs.1 (PyData.noDict_hsm hs.2) hg (by omega) (fun _ _ e => e) (fun h' u tk hk => ⟨.str _, H, I.kept hk, ⟨_, rfl⟩, q⟩) hz
end
end Ts

namespace Ts
open PySem PySem.Spec PyProof.Rows L2
section
variable {P : Program} {w : World} {K : PySem.W.Frag} {mg mb : Str → Option Value} {k : Nat} {fa a : Addr}
  {fd : FuncData} {x : Str} {sp : Sp} {s₁ : Shared} {vs : List Value} {ns : List Int}
/-- what the law's call must come to -/
abbrev Goal (s₁ : Shared) (r : Result) (s' : Shared) : Prop :=
  r = .ok (.ret (.bool true)) ∧ OldK s₁.heap s'.heap ∧ s'.os = s₁.os ∧ AllBare s'.gens
/-- an abstract heap in which the script alone may stand, at a -/
structure Lone (P : Program) (w : World) (K : PySem.W.Frag) (h : Heap) (a : Addr) (H : Hp) : Prop where
  only : Only H
  ok : HOk P w H h
  at_a : ∀ b, H b ≠ none → b = a
  free : H a ≠ none → K.lookup a = none
theorem Lone.call {H : Hp} (L : Lone P w K s₁.heap a H)
    (KX : K.In s₁.heap) (hns : s₁.heap.Ns mainGlobals mg) (hb : s₁.heap.Ns builtinsNs mb)
    (hbb : ∀ x : Str, x ≠ "__name__" → mb x = bootBuiltins x) (hlim : s₁.heap.NoLimit) (hg : s₁.gens = #[])
    (ha : s₁.heap.get? a = some { cls := .type "list", data := .seq vs.toArray }) (hr : Room k callerA)
    (F : ∀ base : Heap, K.In base → base.Ns mainGlobals mg → FnG P w K mg base CX0 k fa fd [x] sp)
    (hbind : ∀ (s : Shared) (u : Value), BindsTo s fd ⟨[u], []⟩ [(x, u)])
    (hsp : sp [.ref a] H (fun v _ => v = .bl true) fun _ _ _ => False) :
    codeAny (model P w) callerA (.call (.ref fa) ⟨[.ref a], []⟩) (Goal s₁) s₁ := by
  have plain : ∀ {b : Addr} {o : Obj} {es : Array DictEntry} {ep : Nat}, s₁.heap.get? b = some o → o.data = .dict es ep → H b = none := by
    intro b o es ep e d
    cases q : H b with
    | none => rfl
    | some u =>
      have hba : b = a := L.at_a b (by simp [q])
      subst hba
      rw [ha] at e
      cases e
      nomatch d
  have ns2 : ∀ {b : Addr} {m : Str → Option Value}, s₁.heap.Ns b m → (hidT s₁.heap H).Ns b m := by
    rintro b m ⟨o, es, ep, e, d, r⟩
    exact ⟨o, es, ep, hidT_get e (plain e d), d, r⟩
  have kin : K.In (hidT s₁.heap H) := by
    intro b o e
    refine hidT_get (KX b o e) ?_
    cases q : H b with
    | none => rfl
    | some u =>
      have hba : b = a := L.at_a b (by simp [q])
      subst hba
      rw [L.free (by simp [q])] at e
      nomatch e
  have md : Mod K mg (hidT s₁.heap H) := by
    obtain ⟨mc, h1, h2⟩ := hlim
    exact ⟨kin, ns2 hns, ⟨mb, ns2 hb, hbb⟩, mc, ns2 h1, h2⟩
  have e0 : Env0 P w K mg (hidT s₁.heap H) callerA [] s₁ H :=
    ⟨rfl, md, fun b o e => of_hidT e, Nat.le_of_eq (hidT_size _ _), trivial, (fun b hb => by cases hb), L.ok, .of_eq hg⟩
  refine codeAny_mono ((F _ kin (ns2 hns)).run callerA [] s₁ H ⟨[.ref a], []⟩ [.ref a] [.ref a] _ _ hr rfl e0
    (hbind s₁ (.ref a)) (.cons rfl .nil) hsp) ?_
  intro r s' h
  match r, h with
  | .error e, h => exact h.elim
  | .ok .next, h => exact h.elim
  | .ok .brk, h => exact h.elim
  | .ok .cont, h => exact h.elim
  | .ok (.ret u), h =>
    obtain ⟨v, H', os, bare, un, hok', r', q⟩ := h
    obtain rfl : v = .bl true := q
    obtain rfl : u = Value.bool true := r'
    refine ⟨rfl, OldK.of_keep ?_, os, bare⟩
    intro b o e
    rcases L.only b with z | ⟨ob, xs, z⟩
    · exact un.keep b o e z (by intro q; cases q) (by intro q; cases q)
    · obtain ⟨e1, _⟩ := L.ok b _ z
      obtain ⟨e2, _⟩ := hok' b _ (un.frzs b ob _ z)
      rw [e] at e1
      cases e1
      exact e2
theorem callG (KX : K.In s₁.heap) (hns : s₁.heap.Ns mainGlobals mg) (hb : s₁.heap.Ns builtinsNs mb)
    (hbb : ∀ x : Str, x ≠ "__name__" → mb x = bootBuiltins x) (hlim : s₁.heap.NoLimit) (hg : s₁.gens = #[])
    (ha : s₁.heap.get? a = some { cls := .type "list", data := .seq vs.toArray }) (hi : IntsAre vs ns)
    (hl : ns.length ≤ sizeLine) (hr : Room k callerA)
    (F : ∀ base : Heap, K.In base → base.Ns mainGlobals mg → FnG P w K mg base CX0 k fa fd [x] sp)
    (hbind : ∀ (s : Shared) (u : Value), BindsTo s fd ⟨[u], []⟩ [(x, u)])
    (hsp : ∀ H : Hp, Only H → SqL K H a (ns.map V.int) → sp [.ref a] H (fun v _ => v = .bl true) fun _ _ _ => False) :
    codeAny (model P w) callerA (.call (.ref fa) ⟨[.ref a], []⟩) (Goal s₁) s₁ := by
  have rv := vals_ints hi
  cases hk : K.lookup a with
  | some o =>
    have e := KX a o hk
    rw [ha] at e
    cases e
    have L : Lone P w K s₁.heap a (fun _ => none) :=
      ⟨fun _ => .inl rfl, (fun b u z => nomatch z), (fun b z => (z rfl).elim), fun z => (z rfl).elim⟩
    refine L.call KX hns hb hbb hlim hg ha hr F hbind (hsp _ L.only ?_)
    exact .inr ⟨_, vs.toArray, _, hk, rfl, rfl, rfl, by rw [List.size_toArray, hi.length]; exact hl, by simpa using rv⟩
  | none =>
    let H : Hp := fun b => if b = a then some (.frz { cls := .type "list", data := .seq vs.toArray } (.lst (ns.map V.int))) else none
    have yes : H a = some (.frz { cls := .type "list", data := .seq vs.toArray } (.lst (ns.map V.int))) := if_pos rfl
    have no : ∀ {b}, b ≠ a → H b = none := fun n => if_neg n
    have L : Lone P w K s₁.heap a H := by
      refine ⟨fun b => ?_, fun b u z => ?_, fun b z => ?_, fun _ => hk⟩
      · by_cases q : b = a
        · subst q
          exact .inr ⟨_, _, yes⟩
        · exact .inl (no q)
      · by_cases q : b = a
        · subst q
          rw [yes] at z
          cases z
          exact ⟨ha, by rw [List.length_map]; exact hl, vs, _, rv, ha⟩
        · rw [no q] at z
          cases z
      · exact Decidable.byContradiction fun q => z (no q)
    exact L.call KX hns hb hbb hlim hg ha hr F hbind (hsp H L.only (.inl (.inr ⟨_, yes⟩)))
end
/-- the goal that the head leaves -/
theorem walkG {l : PySem.W.OpenLaw} {n k : Nat} {q : Program} {loose : List Str} {XP : (Str → Option Value) → Heap → Prop}
    {YP : World → Heap → Prop} {d : DefRec} {K : Params → PySem.W.Frag} {sp : PySem.W.Frag → Sp} {x : Str}
    (hn : l.most = some n) (hn2 : n ≤ sizeLine) (hdf : d.params.defaults = []) (hr : Room k callerA)
    (hY : ∀ (w : World) (h : Heap), YP w h → (K w.params).In h)
    (F : ∀ (w : World) (mg : Str → Option Value) (fa : Addr) (h : Heap), (K w.params).In h → h.Ns mainGlobals mg →
      mg d.name = some (.ref fa) → ∃ fd : FuncData, (∀ (s : Shared) (u : Value), BindsTo s fd ⟨[u], []⟩ [(x, u)]) ∧
        ∀ base : Heap, (K w.params).In base → base.Ns mainGlobals mg → FnG l.prog w (K w.params) mg base CX0 k fa fd [x] (sp (K w.params)))
    (hsp : ∀ (K : PySem.W.Frag) (H : Hp) (a : Addr) (ns : List Int), ns.length ≤ n → Only H → SqL K H a (ns.map V.int) →
      sp K [.ref a] H (fun v _ => v = .bl true) fun _ _ _ => False) :
    PySem.W.WalkO q loose XP YP l.row.toRowW d [] (fun f vs => PySem.call f vs) := by
  refine Att.attach_call hn hdf ?_
  intro w s₀ s₁ mg mb fa o pm cd doc a vs ns G Y ho hd hcd hmg hobj hints hlen hg
  have KX := hY w _ Y
  obtain ⟨fd, hb, hF⟩ := F w mg fa _ KX G.T.g hmg
  exact callG KX G.T.g G.T.b G.T.builtins G.T.nolimit hg hobj hints (Nat.le_trans hlen hn2) hr hF hb
    fun H hO hS => hsp (K w.params) H a ns hlen hO hS
end Ts

namespace Ts
open PySem PySem.Spec PyProof.Rows L2

/-! ### links between heaps -/
/-- all that stood stands, but what is at l -/
def Kp (l : Addr) (H H' : Hp) : Prop := ∀ a o, a ≠ l → H a = some o → H' a = some o
/-- all that stood stands -/
abbrev Ex (H H' : Hp) : Prop := Evl.Ex H H'
theorem Ex.kp {l : Addr} {H H' : Hp} (e : Ex H H') : Kp l H H' := fun a o _ h => e a o h
theorem Kp.refl (l : Addr) (H : Hp) : Kp l H H := fun _ _ _ h => h
theorem Kp.trans {l : Addr} {H H1 H2 : Hp} (a : Kp l H H1) (b : Kp l H1 H2) : Kp l H H2 := fun x o n h => b x o n (a x o n h)
theorem Kp.ex {l : Addr} {H H1 H2 : Hp} (a : Kp l H H1) (b : Ex H1 H2) : Kp l H H2 := a.trans b.kp
theorem Kp.upd {l : Addr} {H : Hp} {o : HO} : Kp l H (upd H l o) := fun a u n h => by rw [upd_ne n]; exact h
theorem Kp.L {K : PySem.W.Frag} {l a : Addr} {H H' : Hp} {xs : List V} (k : Kp l H H') (n : a ≠ l) (h : SqL K H a xs) : SqL K H' a xs := by
  rcases h with (h | ⟨o, h⟩) | h
  · exact .inl (.inl (k _ _ n h))
  · exact .inl (.inr ⟨o, k _ _ n h⟩)
  · exact .inr h
theorem Kp.at {l a : Addr} {H H' : Hp} {o : HO} (k : Kp l H H') (n : a ≠ l) (h : H a = some o) : H' a = some o := k _ _ n h
theorem Kp.T {K : PySem.W.Frag} {l a : Addr} {H H' : Hp} {xs : List V} (k : Kp l H H') (n : a ≠ l) (h : SqT K H a xs) : SqT K H' a xs := by
  rcases h with (h | ⟨o, h⟩) | h
  · exact .inl (.inl (k _ _ n h))
  · exact .inl (.inr ⟨o, k _ _ n h⟩)
  · exact .inr h
/-- at l stands neither a list nor a tuple: any of those stays -/
def Od (H : Hp) (l : Addr) : Prop := ∃ kvs, H l = some (.dK kvs)
theorem Kp.Ld {K : PySem.W.Frag} {l a : Addr} {H H' : Hp} {xs : List V} (k : Kp l H H') (d : Od H l) (h : SqL K H a xs) : SqL K H' a xs := by
  obtain ⟨kvs, d⟩ := d
  rcases h with (h | ⟨o, h⟩) | h
  · exact .inl (.inl (k _ _ (fun e => by subst e; rw [d] at h; cases h) h))
  · exact .inl (.inr ⟨o, k _ _ (fun e => by subst e; rw [d] at h; cases h) h⟩)
  · exact .inr h
theorem Kp.Td {K : PySem.W.Frag} {l a : Addr} {H H' : Hp} {xs : List V} (k : Kp l H H') (d : Od H l) (h : SqT K H a xs) : SqT K H' a xs := by
  obtain ⟨kvs, d⟩ := d
  rcases h with (h | ⟨o, h⟩) | h
  · exact .inl (.inl (k _ _ (fun e => by subst e; rw [d] at h; cases h) h))
  · exact .inl (.inr ⟨o, k _ _ (fun e => by subst e; rw [d] at h; cases h) h⟩)
  · exact .inr h
theorem Kp.atL {l a : Addr} {H H' : Hp} {xs : List V} (k : Kp l H H') (d : Od H l) (h : H a = some (.lst xs)) : H' a = some (.lst xs) := by
  obtain ⟨kvs, d⟩ := d
  exact k _ _ (fun e => by subst e; rw [d] at h; cases h) h
theorem Kp.atT {l a : Addr} {H H' : Hp} {xs : List V} (k : Kp l H H') (d : Od H l) (h : H a = some (.tup xs)) : H' a = some (.tup xs) := by
  obtain ⟨kvs, d⟩ := d
  exact k _ _ (fun e => by subst e; rw [d] at h; cases h) h
theorem Ex.L {K : PySem.W.Frag} {a : Addr} {H H' : Hp} {xs : List V} (e : Ex H H') (h : SqL K H a xs) : SqL K H' a xs := Evl.ex_l e h
theorem Ex.T {K : PySem.W.Frag} {a : Addr} {H H' : Hp} {xs : List V} (e : Ex H H') (h : SqT K H a xs) : SqT K H' a xs := Evl.ex_t e h
theorem Ex.at {H H' : Hp} {a : Addr} {o : HO} (e : Ex H H') (h : H a = some o) : H' a = some o := e a o h
theorem SqL.at {K : PySem.W.Frag} {H : Hp} {a : Addr} {xs : List V} (h : H a = some (.lst xs)) : SqL K H a xs := .inl (.inl h)
theorem SqT.at {K : PySem.W.Frag} {H : Hp} {a : Addr} {xs : List V} (h : H a = some (.tup xs)) : SqT K H a xs := .inl (.inl h)

/-! ### reading, construct by construct -/
section
variable {σ : L2.St} {H H1 : Hp} {Q : VK} {QA : List V → Hp → Prop} {QT : Bool → Hp → Prop} {ta tb te td ty tv : TE} {t tr : TA} {v x y : V} {i : Nat} {r : R2}
  {D : Ends} {ts tu : TS} {tc td' : TT} {K : PySem.W.Frag} {m n : Int} {a : Addr} {xs : List V}
/-- a test's answer; a branch by it -/
def IsB (x : V) (H : Hp) (Q : Bool → Hp → Prop) : Prop := ∃ k, x = .bl k ∧ Q k H
def IfB (b : Bool) (A B : Prop) : Prop := if b = true then A else B
def New (H : Hp) (o : HO) (Q : V → Hp → Prop) : Prop := ∀ p, H p = none → Q (.ref p) (upd H p o)
theorem r_var (h : σ[i]? = some (some v)) (q : Q v H) : tVar i σ H Q := ⟨v, h, q⟩
theorem r_c (q : Q v H) : tC v σ H Q := q
theorem r_op (q : ta σ H fun x H1 => tb σ H1 fun y H2 => r x y H2 Q) : tOp r ta tb σ H Q := q
theorem r_un {r : V → Hp → VK → Prop} (q : ta σ H fun x H1 => r x H1 Q) : tUn r ta σ H Q := q
theorem r_cb {r : List V → Hp → VK → Prop} (q : t σ H fun vs H1 => r vs H1 Q) : tCB r t σ H Q := q
theorem r_nil (q : QA [] H) : tNil σ H QA := q
theorem r_cons (q : ta σ H fun x H1 => tr σ H1 fun xs H2 => QA (x :: xs) H2) : tCons ta tr σ H QA := q
theorem r_call {sp : Sp} {E : XK} (q : t σ H fun vs H1 => sp vs H1 Q E) : tCall sp [] E t σ H Q := by
  show t σ H fun vs H1 => sp (vs ++ []) H1 Q E
  have e : (fun (vs : List V) (H1 : Hp) => sp (vs ++ []) H1 Q E) = fun vs H1 => sp vs H1 Q E := by
    funext vs H1
    rw [List.append_nil]
  rw [e]
  exact q
theorem r_lst (q : t σ H fun xs H1 => xs.length ≤ sizeLine ∧ New H1 (.lst xs) Q) : tLst t σ H Q := q
theorem r_tup (q : t σ H fun xs H1 => xs.length ≤ sizeLine ∧ New H1 (.tup xs) Q) : tTup t σ H Q := q
theorem r_new {o : HO} (h : ∀ p H1, H p = none → Ex H H1 → H1 p = some o → Q (.ref p) H1) : New H o Q :=
  fun p np => h p _ np (Evl.Ex.new np) upd_same
theorem r_if (q : tc σ H fun b H1 => IfB b (ts D σ H1) (tu D σ H1)) : tIfS tc ts tu D σ H := q
theorem r_ifx (q : tc σ H fun b H1 => IfB b (ta σ H1 Q) (tb σ H1 Q)) : tIf tc ta tb σ H Q := q
theorem r_T {A B : Prop} (h : A) : IfB true A B := by
  unfold IfB
  rw [if_pos rfl]
  exact h
theorem r_F {A B : Prop} (h : B) : IfB false A B := by
  unfold IfB
  rw [if_neg Bool.false_ne_true]
  exact h
theorem r_dec {p A B : Prop} {_ : Decidable p} (h1 : p → A) (h2 : ¬ p → B) : IfB (decide p) A B := by
  by_cases h : p
  · rw [decide_eq_true h]; exact r_T (h1 h)
  · rw [decide_eq_false h]; exact r_F (h2 h)
theorem r_decN {p A B : Prop} {_ : Decidable p} (h1 : ¬ p → A) (h2 : p → B) : IfB (!decide p) A B := by
  by_cases h : p
  · rw [decide_eq_true h]; exact r_F (h2 h)
  · rw [decide_eq_false h]; exact r_T (h1 h)
theorem r_any {b : Bool} {A B : Prop} (h1 : b = true → A) (h2 : b = false → B) : IfB b A B := by
  cases b with
  | true => exact r_T (h1 rfl)
  | false => exact r_F (h2 rfl)
theorem r_test (q : te σ H fun x H1 => IsB x H1 QT) : tTest te σ H QT := q
theorem r_tB (q : te σ H fun x H1 => IsB x H1 QT) : tB te σ H QT := q
theorem r_isb {b : Bool} (q : QT b H) : IsB (.bl b) H QT := ⟨b, rfl, q⟩
theorem r_and (q : tc σ H fun c H1 => IfB c (td' σ H1 QT) (QT false H1)) : tAnd tc td' σ H QT := q
theorem r_or (q : tc σ H fun c H1 => IfB c (QT true H1) (td' σ H1 QT)) : tOr tc td' σ H QT := q
theorem r_not (q : tc σ H fun c H1 => QT (!c) H1) : tNot tc σ H QT := q
theorem r_andV (q : ta σ H fun x H1 => IsB x H1 fun c H2 => IfB c (tb σ H2 Q) (Q (.bl false) H2)) : tAndV ta tb σ H Q := by
  exact q
theorem r_orV (q : ta σ H fun x H1 => IsB x H1 fun c H2 => IfB c (Q (.bl true) H2) (tb σ H2 Q)) : tOrV ta tb σ H Q := q
theorem r_notV (q : ta σ H fun x H1 => IsB x H1 fun c H2 => Q (.bl (!c)) H2) : tNotV ta σ H Q := q
theorem r_seq (q : ts { D with nx := tu D } σ H) : tSeq ts tu D σ H := q
theorem r_next (q : D.nx σ H) : tNext D σ H := q
theorem r_brk (q : D.bk σ H) : tBreak D σ H := q
theorem r_cont (q : D.ct σ H) : tCont D σ H := q
theorem r_ret (q : te σ H D.rt) : tRet te D σ H := q
theorem r_retN (q : D.rt .non H) : tRetN D σ H := q
theorem r_drop (q : te σ H fun _ H1 => D.nx σ H1) : tDrop te D σ H := q
theorem r_set (q : te σ H fun v H1 => D.nx (σ.set i (some v)) H1) : tAsg te (gName i) D σ H := q
theorem r_asg {g : TG} (q : te σ H fun v H1 => g v σ H1 D.nx) : tAsg te g D σ H := q
theorem r_gname {QS : L2.St → Hp → Prop} (q : QS (σ.set i (some v)) H) : gName i v σ H QS := q
theorem r_aug {ti : TIp} (h : σ[i]? = some (some x)) (q : te σ H fun y H1 => ti x y H1 fun z H2 => D.nx (σ.set i (some z)) H2) : tAug i te ti D σ H := ⟨x, h, q⟩
-- whole numbers
theorem r_I0 {g : Int → Int → V} (q : Q (g m n) H) : rI0 g (.int m) (.int n) H Q := ⟨m, n, rfl, rfl, q⟩
theorem r_I {C : Int → Int → Prop} {g : Int → Int → V} (c : C m n) (q : Q (g m n) H) : rI C g (.int m) (.int n) H Q := ⟨m, n, rfl, rfl, c, q⟩
theorem r_U {g : Int → V} (q : Q (g m) H) : rU g (.int m) H Q := ⟨m, rfl, q⟩
theorem r_ipI {f : Int → Int → Int} (q : Q (.int (f m n)) H) : ipI f (.int m) (.int n) H Q := ⟨m, n, rfl, rfl, q⟩
theorem r_eqI (q : Q (.bl (decide (m = n))) H) : rEq (.int m) (.int n) H Q := ⟨rfl, by
  rw [show decide (V.int m = V.int n) = decide (m = n) from by simp]
  exact q⟩
theorem r_neI (q : Q (.bl (!decide (m = n))) H) : rNe (.int m) (.int n) H Q := ⟨rfl, by
  rw [show decide (V.int m = V.int n) = decide (m = n) from by simp]
  exact q⟩
theorem r_eqS {m n : Str} (q : Q (.bl (decide (m = n))) H) : rEq (.str m) (.str n) H Q := ⟨rfl, by
  rw [show decide (V.str m = V.str n) = decide (m = n) from by simp]
  exact q⟩
theorem r_neS {m n : Str} (q : Q (.bl (!decide (m = n))) H) : rNe (.str m) (.str n) H Q := ⟨rfl, by
  rw [show decide (V.str m = V.str n) = decide (m = n) from by simp]
  exact q⟩
theorem r_eqB {m n : Bool} (q : Q (.bl (decide (m = n))) H) : rEq (.bl m) (.bl n) H Q := ⟨rfl, by
  rw [show decide (V.bl m = V.bl n) = decide (m = n) from by simp]
  exact q⟩
theorem r_neB {m n : Bool} (q : Q (.bl (!decide (m = n))) H) : rNe (.bl m) (.bl n) H Q := ⟨rfl, by
  rw [show decide (V.bl m = V.bl n) = decide (m = n) from by simp]
  exact q⟩
-- lists
theorem r_ixL (h : SqL K H a xs) (e : atI xs m = some v) (q : Q v H) : rIxL K (.ref a) (.int m) H Q := ⟨a, xs, m, v, rfl, rfl, h, e, q⟩
theorem r_ixT (h : SqT K H a xs) (e : atI xs m = some v) (q : Q v H) : rIxT K (.ref a) (.int m) H Q := ⟨a, xs, m, v, rfl, rfl, h, e, q⟩
theorem r_slL {lo hi : Option Int} (h : SqL K H a xs) (q : New H (.lst (cutV xs lo hi)) Q) : rSlL K (.ref a) lo hi H Q := ⟨a, xs, rfl, h, q⟩
theorem r_sl {r : V → Option Int → Option Int → Hp → VK → Prop} {tl th : TO} (q : te σ H fun x H1 => tl σ H1 fun l H2 => th σ H2 fun u H3 => r x l u H3 Q) : tSl r te tl th σ H Q := q
theorem r_noP {QO : Option Int → Hp → Prop} (q : QO none H) : tNoPart σ H QO := q
/-- a whole number as a slice's end -/
def IsI (x : V) (H : Hp) (Q : Option Int → Hp → Prop) : Prop := ∃ k, x = .int k ∧ Q (some k) H
theorem r_part {QO : Option Int → Hp → Prop} (q : te σ H fun x H1 => IsI x H1 QO) : tPart te σ H QO := q
theorem r_isi {QO : Option Int → Hp → Prop} (q : QO (some m) H) : IsI (.int m) H QO := ⟨m, rfl, q⟩
-- built-ins by name
def rAbs : List V → Hp → VK → Prop := fun xs H Q => ∃ i, xs = [.int i] ∧ Q (.int (if i < 0 then -i else i)) H
def rMax2 : List V → Hp → VK → Prop := fun xs H Q => ∃ i j, xs = [.int i, .int j] ∧ Q (.int (if j > i then j else i)) H
def rMin2 : List V → Hp → VK → Prop := fun xs H Q => ∃ i j, xs = [.int i, .int j] ∧ Q (.int (if j < i then j else i)) H
def rLenQ (K : PySem.W.Frag) : List V → Hp → VK → Prop := fun xs H Q => ∃ p ys, xs = [.ref p] ∧ (SqL K H p ys ∨ SqT K H p ys) ∧ Q (.int ys.length) H
def rLenS : List V → Hp → VK → Prop := fun xs H Q => ∃ z, xs = [.str z] ∧ z.length ≤ sizeLine ∧ Q (.int z.length) H
theorem r_abs (q : Q (.int (m.natAbs : Int)) H) : rAbs [.int m] H Q := ⟨m, rfl, by
  rw [show (if m < 0 then -m else m) = (m.natAbs : Int) by split <;> omega]
  exact q⟩
theorem r_max2 (q : Q (.int (max m n)) H) : rMax2 [.int m, .int n] H Q := ⟨m, n, rfl, by
  rw [show (if n > m then n else m) = max m n by split <;> omega]
  exact q⟩
theorem r_min2 (q : Q (.int (min m n)) H) : rMin2 [.int m, .int n] H Q := ⟨m, n, rfl, by
  rw [show (if n < m then n else m) = min m n by split <;> omega]
  exact q⟩
theorem r_lenL (h : SqL K H a xs) (q : Q (.int xs.length) H) : rLenQ K [.ref a] H Q := ⟨a, xs, rfl, .inl h, q⟩
theorem r_lenT (h : SqT K H a xs) (q : Q (.int xs.length) H) : rLenQ K [.ref a] H Q := ⟨a, xs, rfl, .inr h, q⟩
theorem r_lenS {z : Str} (h : z.length ≤ sizeLine) (q : Q (.int z.length) H) : rLenS [.str z] H Q := ⟨z, rfl, h, q⟩
theorem r_repr {d : PyData} (h : Dp K H v d) (s : Sh d) (q : Q (.str d.shown) H) : rRepr K [v] H Q := ⟨v, d, rfl, h, s, q⟩
theorem lt_small {n : Nat} (h : decide (n < 1000) = true) : n < sizeLine := Nat.lt_of_lt_of_le (of_decide_eq_true h) (by decide)
theorem le_small {n : Nat} (h : decide (n < 1000) = true) : n ≤ sizeLine := Nat.le_of_lt (lt_small h)
theorem r_lenLI {ns : List Int} (h : SqL K H a (ns.map V.int)) (q : Q (.int ns.length) H) : rLenQ K [.ref a] H Q := r_lenL h (by rw [List.length_map]; exact q)
theorem r_ixLI {ns : List Int} (h : SqL K H a (ns.map V.int)) (c : 0 ≤ m) (c2 : m < ns.length) (q : ∀ z, ns[m.toNat]? = some z → Q (.int z) H) : rIxL K (.ref a) (.int m) H Q := by
  have hl : m.toNat < ns.length := by omega
  refine r_ixL (v := .int ns[m.toNat]) h ?_ (q _ (List.getElem?_eq_getElem hl))
  exact at_of (j := m.toNat) (by omega) (by rw [List.getElem?_map, List.getElem?_eq_getElem hl]; rfl)
-- loops
def ForK (J : It) (g : TG) (tb : TS) (D : Ends) (σ : L2.St) (H : Hp) : Prop := ∃ W : Nat → Nat → L2.St → Hp → Prop, (∃ m, W 0 m σ H) ∧ ∀ i m σ H, W i m σ H →
  (J.stop i H ∧ D.nx σ H) ∨ (J.go i H ∧ ∃ N : L2.St → Hp → Prop, (∀ σ' H', N σ' H' → ∃ m', m' < m ∧ W (i + 1) m' σ' H') ∧ ∀ x H', J.yld i H x H' → g x σ H' fun σ2 H2 => tb { D with nx := N, ct := N, bk := D.nx } σ2 H2)
theorem r_for {wi : TI} {g : TG} {tb : TS} (q : wi σ H fun J H1 => ForK J g tb D σ H1) : tFor wi g tb D σ H := q
def Rng1 (vs : List V) (H : Hp) (R : It → Hp → Prop) : Prop := ∃ j : Int, vs = [.int j] ∧ -(2 ^ 62) ≤ j ∧ j < 2 ^ 62 ∧ R (Itr 0 j.toNat) H
def Rng2 (vs : List V) (H : Hp) (R : It → Hp → Prop) : Prop := ∃ i j : Int, vs = [.int i, .int j] ∧ (-(2 ^ 62) ≤ i ∧ i < 2 ^ 62 ∧ -(2 ^ 62) ≤ j ∧ j < 2 ^ 62) ∧ R (Itr i (j - i).toNat) H
theorem r_rng1 {R : It → Hp → Prop} (q : t σ H fun vs H1 => Rng1 vs H1 R) : iRng1 t σ H R := q
theorem r_rng2 {R : It → Hp → Prop} (q : t σ H fun vs H1 => Rng2 vs H1 R) : iRng2 t σ H R := q
theorem r_rng1v {R : It → Hp → Prop} (c : -(2 ^ 62) ≤ m) (c2 : m < 2 ^ 62) (q : R (Itr 0 m.toNat) H) : Rng1 [.int m] H R := ⟨m, rfl, c, c2, q⟩
theorem r_rng2v {R : It → Hp → Prop} (c : -(2 ^ 62) ≤ m) (c2 : m < 2 ^ 62) (c3 : -(2 ^ 62) ≤ n) (c4 : n < 2 ^ 62) (q : R (Itr m (n - m).toNat) H) : Rng2 [.int m, .int n] H R := ⟨m, n, rfl, ⟨c, c2, c3, c4⟩, q⟩
def IsL (K : PySem.W.Frag) (x : V) (H : Hp) (R : It → Hp → Prop) : Prop := ∃ a, x = .ref a ∧ (∃ xs, SqL K H a xs) ∧ R (Itl K a) H
def IsT (K : PySem.W.Frag) (x : V) (H : Hp) (R : It → Hp → Prop) : Prop := ∃ a, x = .ref a ∧ (∃ xs, SqT K H a xs) ∧ R (Itt K a) H
theorem r_ilist {R : It → Hp → Prop} (q : te σ H fun x H1 => IsL K x H1 R) : iList K te σ H R := q
theorem r_itup {R : It → Hp → Prop} (q : te σ H fun x H1 => IsT K x H1 R) : iTup K te σ H R := q
theorem r_isl {R : It → Hp → Prop} (h : SqL K H a xs) (q : R (Itl K a) H) : IsL K (.ref a) H R := ⟨a, rfl, ⟨xs, h⟩, q⟩
theorem r_ist {R : It → Hp → Prop} (h : SqT K H a xs) (q : R (Itt K a) H) : IsT K (.ref a) H R := ⟨a, rfl, ⟨xs, h⟩, q⟩
theorem f_range {lo : Int} {n : Nat} {g : TG} {tb : TS} (Pv : Nat → L2.St → Hp → Prop) (h0 : Pv 0 σ H)
    (hs : ∀ i σ H, i < n → Pv i σ H → g (.int (lo + i)) σ H fun σ2 H2 => tb { D with nx := Pv (i + 1), ct := Pv (i + 1), bk := D.nx } σ2 H2)
    (hd : ∀ σ H, Pv n σ H → D.nx σ H) : ForK (Itr lo n) g tb D σ H := for_range Pv h0 hs hd
theorem f_list {g : TG} {tb : TS} (xs : List V) (Pv : Nat → L2.St → Hp → Prop) (h0 : Pv 0 σ H) (hl : ∀ i σ H, i ≤ xs.length → Pv i σ H → SqL K H a xs)
    (hs : ∀ i x σ H, xs[i]? = some x → Pv i σ H → g x σ H fun σ2 H2 => tb { D with nx := Pv (i + 1), ct := Pv (i + 1), bk := D.nx } σ2 H2)
    (hd : ∀ σ H, Pv xs.length σ H → D.nx σ H) : ForK (Itl K a) g tb D σ H := for_list Pv h0 hl hs hd
theorem f_tup {g : TG} {tb : TS} (xs : List V) (Pv : Nat → L2.St → Hp → Prop) (h0 : Pv 0 σ H) (hl : ∀ i σ H, i ≤ xs.length → Pv i σ H → SqT K H a xs)
    (hs : ∀ i x σ H, xs[i]? = some x → Pv i σ H → g x σ H fun σ2 H2 => tb { D with nx := Pv (i + 1), ct := Pv (i + 1), bk := D.nx } σ2 H2)
    (hd : ∀ σ H, Pv xs.length σ H → D.nx σ H) : ForK (Itt K a) g tb D σ H := for_tup Pv h0 hl hs hd
-- dict displays, lists joined
def MkD (p : Addr) (ps : List (V × V)) (H : Hp) (Q : VK) : Prop := H p = some (.dK []) ∧ ∃ kvs : List (Key × V), ps = kvs.map (fun kv => (kV kv.1, kv.2)) ∧ kvs.length ≤ 15 ∧ Q (.ref p) (upd H p (.dK (mergeK [] kvs)))
theorem r_disp {trs : List (TE × TE)} (q : ∀ p H1, H p = none → Ex H H1 → H1 p = some (.dK []) → tPairs trs σ H1 fun ps H2 => MkD p ps H2 Q) : tDisp trs σ H Q := fun p np => q p _ np (Evl.Ex.new np) upd_same
theorem r_pnil {QP : List (V × V) → Hp → Prop} (q : QP [] H) : tPairs [] σ H QP := q
theorem r_pcons {r : List (TE × TE)} {QP : List (V × V) → Hp → Prop} (q : ta σ H fun x H1 => tb σ H1 fun y H2 => tPairs r σ H2 fun ps H3 => QP ((x, y) :: ps) H3) : tPairs ((ta, tb) :: r) σ H QP := q
theorem r_mkd {p : Addr} {ps : List (V × V)} (kvs : List (Key × V)) {kw : List (Key × V)} (h : H p = some (.dK [])) (e : ps = kvs.map (fun kv => (kV kv.1, kv.2))) (l : kvs.length ≤ 15) (e2 : mergeK [] kvs = kw)
    (q : ∀ H1, Kp p H H1 → H1 p = some (.dK kw) → Q (.ref p) H1) : MkD p ps H Q := ⟨h, kvs, e, l, q _ Kp.upd (by rw [e2, upd_same])⟩
theorem r_cat {b : Addr} {ys : List V} (h1 : H a = some (.lst xs)) (h2 : H b = some (.lst ys)) (l : xs.length + ys.length ≤ sizeLine) (q : New H (.lst (xs ++ ys)) Q) : rCat (.ref a) (.ref b) H Q :=
  ⟨a, b, xs, ys, rfl, rfl, h1, h2, l, q⟩
/-- all of them whole numbers within the ends -/
def AllI (lo hi : Int) : List V → Prop
  | [] => True
  | .int z :: r => (lo ≤ z ∧ z ≤ hi) ∧ AllI lo hi r
  | _ :: _ => False
theorem AllI.at {lo hi : Int} : ∀ {xs : List V} {v : V}, AllI lo hi xs → v ∈ xs → ∃ z, v = .int z ∧ lo ≤ z ∧ z ≤ hi
  | [], _, _, h => by cases h
  | .int z :: r, v, a, h => by
    rcases List.mem_cons.mp h with rfl | h
    · exact ⟨z, rfl, a.1.1, a.1.2⟩
    · exact AllI.at a.2 h
  | .non :: _, _, a, _ => a.elim
  | .bl _ :: _, _, a, _ => a.elim
  | .str _ :: _, _, a, _ => a.elim
  | .byt _ :: _, _, a, _ => a.elim
  | .flt _ :: _, _, a, _ => a.elim
  | .ref _ :: _, _, a, _ => a.elim
  | .ty _ :: _, _, a, _ => a.elim
theorem r_ixM (h : SqL K H a xs) (c : 0 ≤ m) (c2 : m < xs.length) (q : ∀ v, v ∈ xs → Q v H) : rIxL K (.ref a) (.int m) H Q := by
  have hl : m.toNat < xs.length := by omega
  exact r_ixL (v := xs[m.toNat]) h (at_of (j := m.toNat) (by omega) (List.getElem?_eq_getElem hl)) (q _ (List.getElem_mem hl))
theorem r_ixB {lo hi : Int} (h : SqL K H a xs) (c : 0 ≤ m) (c2 : m < xs.length) (al : AllI lo hi xs) (q : ∀ z, lo ≤ z → z ≤ hi → Q (.int z) H) : rIxL K (.ref a) (.int m) H Q :=
  r_ixM h c c2 fun v hv => by
    obtain ⟨z, rfl, z1, z2⟩ := al.at hv
    exact q z z1 z2
-- arithmetic under conditions
theorem r_mod (c : 0 < n) (q : Q (.int (m % n)) H) : rI (fun _ j => 0 < j) (fun i j => .int (i % j)) (.int m) (.int n) H Q := ⟨m, n, rfl, rfl, c, q⟩
theorem r_modF (c : 0 < n) (q : ∀ r, 0 ≤ r → r < n → Q (.int r) H) : rI (fun _ j => 0 < j) (fun i j => .int (i % j)) (.int m) (.int n) H Q :=
  ⟨m, n, rfl, rfl, c, q _ (Int.emod_nonneg _ (by omega)) (Int.emod_lt_of_pos _ c)⟩
theorem r_div (c : 0 < n) (c2 : n < 1073741824) (q : Q (.int (m / n)) H) : rI CDiv (fun i j => .int (i / j)) (.int m) (.int n) H Q := ⟨m, n, rfl, rfl, ⟨c, c2⟩, q⟩
theorem r_divF (c : 0 < n) (c2 : n < 1073741824) (c3 : 0 ≤ m) (q : ∀ r, 0 ≤ r → r ≤ m → Q (.int r) H) : rI CDiv (fun i j => .int (i / j)) (.int m) (.int n) H Q :=
  ⟨m, n, rfl, rfl, ⟨c, c2⟩, q _ (Int.ediv_nonneg c3 (by omega)) (Int.ediv_le_self _ c3)⟩
theorem r_mulL (c : -(2 ^ 64) < m) (c2 : m < 2 ^ 64) (q : Q (.int (m * n)) H) : rI CMul (fun i j => .int (i * j)) (.int m) (.int n) H Q := ⟨m, n, rfl, rfl, .inl ⟨c, c2⟩, q⟩
theorem r_mulR (c : -(2 ^ 64) < n) (c2 : n < 2 ^ 64) (q : Q (.int (m * n)) H) : rI CMul (fun i j => .int (i * j)) (.int m) (.int n) H Q := ⟨m, n, rfl, rfl, .inr ⟨c, c2⟩, q⟩
theorem r_pow (c : 0 ≤ n) (c2 : n ≤ 1000000) (c3 : -(2 ^ 64) < m) (c4 : m < 2 ^ 64) (q : Q (.int (m ^ n.toNat)) H) : rI CPow (fun i j => .int (i ^ j.toNat)) (.int m) (.int n) H Q :=
  ⟨m, n, rfl, rfl, ⟨c, c2, by omega⟩, q⟩
-- dicts by written keys
def GetD (x y : V) (H : Hp) (Q : VK) : Prop := ∃ a v, x = .ref a ∧ DGet H a y (some v) ∧ Q v H
def PutD (x y v : V) (H : Hp) (C : Hp → Prop) : Prop := ∃ a H4, x = .ref a ∧ DPut H a y v H4 ∧ C H4
theorem r_dget (q : td σ H fun x H1 => ty σ H1 fun y H2 => GetD x y H2 Q) : tDGet td ty σ H Q := q
theorem r_dput (q : tv σ H fun v H1 => td σ H1 fun x H2 => ty σ H2 fun y H3 => PutD x y v H3 (D.nx σ)) : sDPut td ty tv D σ H := q
theorem g_dk {k : Str} {kvs : List (Key × V)} (h : H a = some (.dK kvs)) (e : valV kvs (Sum.inr k) = some v) (q : Q v H) : GetD (.ref a) (.str k) H Q :=
  ⟨a, v, rfl, by rw [← e]; exact DGet.k (k := Sum.inr k) h, q⟩
theorem p_dk {k : Str} {kvs kvs' : List (Key × V)} {C : Hp → Prop} (h : H a = some (.dK kvs)) (hl : kvs.length < sizeLine) (e : putK kvs (Sum.inr k) v = kvs')
    (q : ∀ H', Kp a H H' → H' a = some (.dK kvs') → C H') : PutD (.ref a) (.str k) v H C :=
  ⟨a, _, rfl, DPut.k (k := Sum.inr k) h hl, q _ Kp.upd (by rw [e, upd_same])⟩
end
section
variable {X : Cx}
theorem c_abs : CallR X (.builtin "abs") rAbs := call_abs
theorem c_max2 (hc : X.calm = true) : CallR X (.builtin "max") rMax2 := call_max2 hc
theorem c_min2 (hc : X.calm = true) : CallR X (.builtin "min") rMin2 := call_min2 hc
theorem c_lenQ : CallR X (.builtin "len") (rLenQ X.K) := call_len_seq
theorem c_lenS : CallR X (.builtin "len") rLenS := call_len_str
end
end Ts

namespace Ts
open PySem PySem.Spec PyProof.Rows L2
abbrev kC : Key := Sum.inr ("cells" : Str)
abbrev kA : Key := Sum.inr ("at" : Str)
abbrev kL : Key := Sum.inr ("left" : Str)
theorem kAC : ¬ kC = kA := by decide
theorem kLC : ¬ kC = kL := by decide
theorem kLA : ¬ kA = kL := by decide
abbrev penK (c : Addr) (n l : Int) : List (Key × V) := [(kC, .ref c), (kA, .int n), (kL, .int l)]
theorem pen_c (c : Addr) (n l : Int) : valV (penK c n l) kC = some (.ref c) := by
  rw [valV_pos rfl]
theorem pen_a (c : Addr) (n l : Int) : valV (penK c n l) kA = some (.int n) := by
  rw [valV_neg kAC, valV_pos rfl]
theorem pen_l (c : Addr) (n l : Int) : valV (penK c n l) kL = some (.int l) := by
  rw [valV_neg kLC, valV_neg kLA, valV_pos rfl]
theorem put_a (c : Addr) (n l m : Int) : putK (penK c n l) kA (.int m) = penK c m l := by rfl
theorem put_l (c : Addr) (n l m : Int) : putK (penK c n l) kL (.int m) = penK c n m := by rfl
theorem mergePen (c : Addr) (n l : Int) : mergeK [] (penK c n l) = penK c n l := by
  rfl
end Ts

namespace Ts
open PySem PySem.Spec PyProof.Rows L2
section
variable {X : Cx} {CX : CXT} {k n : Nat} {f : Addr} {fd : FuncData} {ps ks : List Str} {sp : Sp} {E : XK} {x : Str} {p pos : Pos}
  {kws : List Keyword} {t tk : TA} {g : List Value → List Value → List Value} {gV : List V → List V → List V}
/-- f(k = v, ..) -/
def tCallN0 (m : Nat) (sp : Sp) (gV : List V → List V → List V) (E : XK) (tk : TA) : TE := fun σ H Q => tk σ H fun zs H2 => zs.length = m ∧ sp (gV [] zs) H2 Q E
theorem pe_callN0 (F : FnOk X.prog X.w X.K X.mg X.base CX k f fd ps sp) (hr : Room k X.A) (hg : Gl X x)
    (hm : X.mg x = some (.ref f)) (hk : PySem.W.keepIn X.K (.ref f) = true) (hb : KBn X.K fd ps 0 ks g gV)
    (hx : Passes CX X E) (hkw : PK X kws tk)
    (hall : (backToKw pos (keywordEach kws X.env)).all (·.1.isSome) = true := by rfl)
    (hks : (backToKw pos (keywordEach kws X.env)).filterMap (·.1) = ks := by rfl)
    (hdb : (x == ("__debug__" : Str)) = false := by decide)
    (hpl : ((backTo pos (starEach [] X.env)).any (·.1) || (backToKw pos (keywordEach kws X.env)).any (·.1.isNone)) = false := by rfl) :
    PE X (.Call (.Name x p) [] kws pos) (tCallN0 ks.length sp gV E tk) := by
  refine ⟨fun pins s σ H Q I h => ?_⟩
  refine wpAny_Call_Name_kw (ld_glob I hg hm ?_ hdb)
  refine PySem.W.callWith_KW0 (h₀ := X.base) I.ok.mod.kin hk hall
    (thn (hkw.run pos pins s σ H _ I h) fun ws s2 ⟨zs, H2, I2, rz, l2, q2⟩ => ⟨I2.kIn, ?_⟩) hpl
  rw [hks]
  exact run_fnN (us := []) (vs := []) F hr hb hx I2 .nil rz rfl l2 q2
theorem pe_globE {y : Str} {v : V} {q : Pos} (hg : Gl X y) (hm : ∃ u, X.mg y = some u ∧ RelV v u) (hn : (y == ("__debug__" : Str)) = false := by decide) : PE X (.Name y q) (tC v) := by
  obtain ⟨u, h1, h2⟩ := hm
  exact pe_glob hg h1 h2 (hd := hn)
theorem r_neSame {a b : Str} {H : Hp} {Q : VK} (e : a = b) (q : Q (.bl false) H) : rNe (.str a) (.str b) H Q := by
  subst e
  exact r_neS (by rw [decide_eq_true rfl]; exact q)
theorem r_eqSame {a b : Str} {H : Hp} {Q : VK} (e : a = b) (q : Q (.bl true) H) : rEq (.str a) (.str b) H Q := by
  subst e
  exact r_eqS (by rw [decide_eq_true rfl]; exact q)
theorem r_callN {σ : L2.St} {H : Hp} {Q : VK} {m : Nat} (q : t σ H fun vs H1 => tk σ H1 fun zs H2 => vs.length = n ∧ zs.length = m ∧ sp (gV vs zs) H2 Q E) : tCallN n m sp gV E t tk σ H Q := q
theorem vals_take {vs : List V} {us : List Value} (r : Vals vs us) : ∀ n, Vals (vs.take n) (us.take n) := by
  intro n
  induction r generalizing n with
  | nil => simp only [List.take_nil]; exact .nil
  | cons a b ih =>
    cases n with
    | zero => exact .nil
    | succ n => exact .cons a (ih n)
def CallD (sp : Sp) (vs dvs : List V) (H : Hp) (Q : VK) (E : XK) : Prop := sp (vs ++ dvs) H Q E
theorem r_callD {σ : L2.St} {H : Hp} {Q : VK} {dvs : List V} (q : t σ H fun vs H1 => CallD sp vs dvs H1 Q E) : tCall sp dvs E t σ H Q := q
theorem r_cd1 {H : Hp} {Q : VK} {x : V} {dvs : List V} (q : sp (x :: dvs) H Q E) : CallD sp [x] dvs H Q E := q
theorem r_cd2 {H : Hp} {Q : VK} {x y : V} {dvs : List V} (q : sp (x :: y :: dvs) H Q E) : CallD sp [x, y] dvs H Q E := q
theorem r_cd3 {H : Hp} {Q : VK} {x y z : V} {dvs : List V} (q : sp (x :: y :: z :: dvs) H Q E) : CallD sp [x, y, z] dvs H Q E := q
theorem sh_int {i : Int} (h1 : -10000000000000000000000000000000000000000 < i) (h2 : i < 10000000000000000000000000000000000000000) : Sh (.int i) := by
  have hb : i.natAbs < 10 ^ 40 := by omega
  have hl : i.natAbs.log2 < 1920 := by
    rcases Nat.eq_zero_or_pos i.natAbs with h | h
    · rw [h]; decide
    · exact Nat.lt_trans ((Nat.log2_lt (by omega)).mpr (Nat.lt_trans hb (by decide : 10 ^ 40 < 2 ^ 140))) (by decide)
  refine ⟨hl, ?_, by simp only [PyData.depth]; decide⟩
  simp only [wt]
  exact int_text_fits hl
theorem r_callN0 {σ : L2.St} {H : Hp} {Q : VK} {m : Nat} (q : tk σ H fun zs H2 => zs.length = m ∧ sp (gV [] zs) H2 Q E) : tCallN0 m sp gV E tk σ H Q := q
end
section
variable {K : PySem.W.Frag} {x qual : Str} {params : Arguments} {body : List Stmt} {scope : Scope} {kws : List (Str × V)} {f : Addr} {fd : FuncData} {ps : List Str}
/-- keywords named ks of a def whose parameters behind * have defaults kws; ms: those that lack -/
theorem kb0 (F : FunD K x qual params body scope [] kws f fd) (n : Nat) (ks : List Str) (ms : List (Str × V))
    (g : {α : Type} → List α → List α → List α → List α) (hk : kws ≠ []) (hms : ∀ q ∈ ms, q ∈ kws)
    (hrel : ∀ {vs mz zs : List V} {us mv ws : List Value}, Vals vs us → Vals mz mv → Vals zs ws → Vals (g vs mz zs) (g us mv ws))
    (h : ∀ (D : Addr) (doc pm : Value) (an : Option Addr) (cdv ct : Value) (us mv ws : List Value), us.length = n → mv.length = ms.length → ws.length = ks.length →
      KwChain D ((ms.map (·.1)).zip mv) (bindArgs (PySem.W.fnOf x qual params body scope .none (.ref D) doc pm an cdv ct) ⟨us, ks.zip ws⟩) (ps.zip (g us mv ws))) :
    ∃ mv : List Value, KBn K fd ps n ks (fun us ws => g us mv ws) (fun vs zs => g vs (ms.map (·.2)) zs) := by
  obtain ⟨oc, od, dV, kV, doc, pm, an, cdv, ct, osl, rfl, lk, hcd, hD, hK⟩ := F.ex
  rcases hD with ⟨_, rfl⟩ | ⟨e, _⟩
  · rcases hK with e | ⟨D, rfl, hq⟩
    · exact (hk e).elim
    · obtain ⟨mv, hl, rk, hks⟩ := kwd_vals (ms := ms) fun q hm => hq q (hms q hm)
      refine ⟨mv, fun s us ws X l1 l2 => ?_, fun r1 r2 => hrel r1 rk r2⟩
      exact BindsTo.of_looks fun M => KwChain.looks X hks (h D doc pm an cdv ct us mv ws l1 hl l2)
  · exact (e rfl).elim
/-- keywords of a plain def -/
theorem kbF {st : Stmt} (F : Fun K x qual st f fd) (n : Nat) (ks : List Str) (g : {α : Type} → List α → List α → List α)
    (hrel : ∀ {vs zs : List V} {us ws : List Value}, Vals vs us → Vals zs ws → Vals (g vs zs) (g us ws))
    (h : ∀ (kV doc pm : Value) (an : Option Addr) (cdv ct : Value) (us ws : List Value), us.length = n → ws.length = ks.length →
      bindArgs (PySem.W.fnOf x qual (defArgs st) (defBody st) (defScope st) .none kV doc pm an cdv ct) ⟨us, ks.zip ws⟩ = pure (ps.zip (g us ws))) :
    KBn K fd ps n ks (fun us ws => g us ws) (fun vs zs => g vs zs) := by
  obtain ⟨oc, od, kV, doc, pm, an, cdv, ct, osl, rfl, lk, hcd⟩ := F.ex
  exact ⟨fun s us ws _ l1 l2 => .of_eq (h kV doc pm an cdv ct us ws l1 l2), fun r1 r2 => hrel r1 r2⟩
end
end Ts

namespace Ts
open PySem PySem.Spec PyProof.Rows L2
/-! ### data that can be shown, with its weight -/
structure OkW (d : PyData) (n k : Nat) : Prop where
  ok : okD d
  wt : wt d ≤ n
  dp : d.depth ≤ k
structure OkWs (ds : List PyData) (n k : Nat) : Prop where
  ok : okDs ds
  wt : wts ds ≤ n
  dp : PyData.depthAll ds ≤ k
theorem Sh.of {d : PyData} {n k : Nat} (h : OkW d n k) (hn : n ≤ sizeLine) (hk : k ≤ 60) : Sh d := ⟨h.ok, Nat.le_trans h.wt hn, Nat.le_trans h.dp hk⟩
theorem okw_int {i : Int} (h1 : -10000000000000000000000000000000000000000 < i) (h2 : i < 10000000000000000000000000000000000000000) : OkW (.int i) 41 0 := by
  have s := sh_int h1 h2
  refine ⟨s.ok, ?_, by simp only [PyData.depth]; decide⟩
  simp only [wt]
  rw [PySem.ofString_length]
  exact int_text_length_le10 (k := 40) (by decide) (by omega)
theorem okw_none : OkW .none 4 0 := ⟨trivial, by simp only [wt]; decide, by simp only [PyData.depth]; decide⟩
theorem okw_bool {b : Bool} : OkW (.bool b) 5 0 := ⟨trivial, by simp only [wt]; decide, by simp only [PyData.depth]; decide⟩
/-- a text of at most n plain signs -/
def okS (n : Nat) (x : Str) : Bool := decide (x.cps.toList.length ≤ n) && x.cps.toList.all fun c => decide (c < 1114112)
theorem okS.len {n : Nat} {x : Str} (h : okS n x = true) : x.length ≤ n := by
  unfold okS at h
  simp only [Bool.and_eq_true, decide_eq_true_eq] at h
  have e : x.cps.toList.length = x.length := by simp [Str.length]
  omega
theorem okS.lt {n : Nat} {x : Str} (h : okS n x = true) : ∀ c ∈ x.cps.toList, c < 16 ^ 8 := by
  unfold okS at h
  simp only [Bool.and_eq_true, List.all_eq_true, decide_eq_true_eq] at h
  intro c hc
  exact Nat.lt_trans (h.2 c hc) (by decide)
theorem okw_str {n : Nat} {x : Str} (h : okS n x = true) : OkW (.str x) (10 * n + 2) 0 :=
  ⟨okS.lt h, by simp only [wt]; have := okS.len h; omega, by simp only [PyData.depth]; decide⟩
theorem okw_tup {ds : List PyData} {n k : Nat} (h : OkWs ds n k) : OkW (.tuple ds) (n + 3) (k + 1) :=
  ⟨h.ok, by simp only [wt]; have := h.wt; omega, by simp only [PyData.depth]; have := h.dp; omega⟩
theorem okw_lst {ds : List PyData} {n k : Nat} (h : OkWs ds n k) : OkW (.list ds) (n + 2) (k + 1) :=
  ⟨h.ok, by simp only [wt]; have := h.wt; omega, by simp only [PyData.depth]; have := h.dp; omega⟩
theorem okws_nil : OkWs [] 0 0 := ⟨trivial, by simp only [wts]; decide, by simp only [PyData.depthAll]; decide⟩
theorem okws_cons {d : PyData} {ds : List PyData} {n k n' k' : Nat} (h : OkW d n k) (t : OkWs ds n' k') : OkWs (d :: ds) (n + 2 + n') (max k k') :=
  ⟨⟨h.ok, t.ok⟩, by simp only [wts]; have := h.wt; have := t.wt; omega, by simp only [PyData.depthAll]; have := h.dp; have := t.dp; omega⟩
theorem okws_all {n k : Nat} : ∀ {ds : List PyData}, (∀ d ∈ ds, OkW d n k) → OkWs ds (ds.length * (n + 2)) k
  | [], _ => ⟨trivial, by simp only [wts]; omega, by simp only [PyData.depthAll]; omega⟩
  | d :: ds, h => by
    have h1 := h d (List.mem_cons_self ..)
    have h2 := okws_all (ds := ds) fun x hx => h x (List.mem_cons_of_mem _ hx)
    refine ⟨⟨h1.ok, h2.ok⟩, ?_, ?_⟩
    · simp only [wts, List.length_cons, Nat.succ_mul]
      have := h1.wt
      have := h2.wt
      omega
    · simp only [PyData.depthAll]
      have := h1.dp
      have := h2.dp
      omega
/-- all of them texts of which P holds -/
def AllS (P : Str → Bool) : List V → Bool
  | [] => true
  | .str z :: r => P z && AllS P r
  | _ :: _ => false
theorem AllS.at {P : Str → Bool} : ∀ {xs : List V} {v : V}, AllS P xs = true → v ∈ xs → ∃ z, v = .str z ∧ P z = true
  | [], _, _, h => by cases h
  | .str z :: r, v, a, h => by
    have a : (P z && AllS P r) = true := a
    rw [Bool.and_eq_true] at a
    rcases List.mem_cons.mp h with rfl | h
    · exact ⟨z, rfl, a.1⟩
    · exact AllS.at a.2 h
  | .non :: _, _, a, _ => by cases a
  | .bl _ :: _, _, a, _ => by cases a
  | .int _ :: _, _, a, _ => by cases a
  | .byt _ :: _, _, a, _ => by cases a
  | .flt _ :: _, _, a, _ => by cases a
  | .ref _ :: _, _, a, _ => by cases a
  | .ty _ :: _, _, a, _ => by cases a
section
variable {σ : L2.St} {H : Hp} {K : PySem.W.Frag} {a : Addr} {xs r : List V} {v : V} {QS : L2.St → Hp → Prop} {t : TG} {u : TGs}
theorem r_gtup {n : Nat} (h : SqT K H a xs) (l : xs.length = n) (q : u xs σ H QS) : gTup K n u (.ref a) σ H QS := ⟨a, xs, rfl, h, l, q⟩
theorem r_gcons (q : t v σ H fun σ' H' => u r σ' H' QS) : gCons t u (v :: r) σ H QS := ⟨v, r, rfl, q⟩
theorem r_gnil (q : QS σ H) : gNil [] σ H QS := ⟨rfl, q⟩
end
end Ts

namespace Ts
open PySem PySem.Spec PyProof.Rows L2
/-! ### the text -/
def topS (i : Nat) : Stmt := PySem.Challenge.pw_trapsetter_k08_steps_added.main.body.getD i (.Pass ⟨0, 0, 0, 0⟩)
abbrev s_clamped : Stmt := topS 1
abbrev N_clamped : List Str := ["value", "least", "most"]
abbrev P_clamped : List Str := ["value", "least", "most"]
theorem sc_clamped : FnScope N_clamped P_clamped (defScope s_clamped) := ⟨rfl, rfl, rfl, by decide +kernel, rfl, by decide +kernel, by decide +kernel⟩
abbrev s_stepped : Stmt := topS 2
abbrev N_stepped : List Str := ["told", "value", "step", "form"]
abbrev P_stepped : List Str := ["told"]
theorem sc_stepped : FnScope N_stepped P_stepped (defScope s_stepped) := ⟨rfl, rfl, rfl, by decide +kernel, rfl, by decide +kernel, by decide +kernel⟩
abbrev s_pen : Stmt := topS 4
abbrev N_pen : List Str := ["_law_script"]
abbrev P_pen : List Str := ["_law_script"]
theorem sc_pen : FnScope N_pen P_pen (defScope s_pen) := ⟨rfl, rfl, rfl, by decide +kernel, rfl, by decide +kernel, by decide +kernel⟩
abbrev s_take : Stmt := topS 5
abbrev N_take : List Str := ["_law_pen_here", "_law_size", "_law_cells", "_law_found", "_law_at", "_law_raw", "_law_number_here"]
abbrev P_take : List Str := ["_law_pen_here", "_law_size"]
theorem sc_take : FnScope N_take P_take (defScope s_take) := ⟨rfl, rfl, rfl, by decide +kernel, rfl, by decide +kernel, by decide +kernel⟩
abbrev s_pick : Stmt := topS 6
abbrev N_pick : List Str := ["_law_pen_here", "_law_some"]
abbrev P_pick : List Str := ["_law_pen_here", "_law_some"]
theorem sc_pick : FnScope N_pick P_pick (defScope s_pick) := ⟨rfl, rfl, rfl, by decide +kernel, rfl, by decide +kernel, by decide +kernel⟩
abbrev s_number : Stmt := topS 7
abbrev N_number : List Str := ["_law_pen_here", "_law_some"]
abbrev P_number : List Str := ["_law_pen_here"]
theorem sc_number : FnScope N_number P_number (defScope s_number) := ⟨rfl, rfl, rfl, by decide +kernel, rfl, by decide +kernel, by decide +kernel⟩
abbrev s_law : Stmt := topS 8
abbrev N_law : List Str := ["_law_script", "_law_pen_here", "_law_k", "_law_one", "_law_stays", "_law_due"]
abbrev P_law : List Str := ["_law_script"]
theorem sc_law : FnScope N_law P_law (defScope s_law) := ⟨rfl, rfl, rfl, by decide +kernel, rfl, by decide +kernel, by decide +kernel⟩
structure Txt (K : PySem.W.Frag) (mg : Str → Option Value) (a_clamped a_stepped a_pen a_take a_pick a_number a_law : Addr) (d_clamped d_stepped d_pen d_take d_pick d_number d_law : FuncData) : Prop where
  f_clamped : FunD K "clamped" "clamped" (defArgs s_clamped) (defBody s_clamped) (defScope s_clamped) [] [("least", .int (-9999)), ("most", .int 9999)] a_clamped d_clamped
  g_clamped : mg "clamped" = some (.ref a_clamped)
  f_stepped : Fun K "stepped" "stepped" s_stepped a_stepped d_stepped
  g_stepped : mg "stepped" = some (.ref a_stepped)
  f_pen : Fun K "_law_pen" "_law_pen" s_pen a_pen d_pen
  g_pen : mg "_law_pen" = some (.ref a_pen)
  f_take : Fun K "_law_take" "_law_take" s_take a_take d_take
  g_take : mg "_law_take" = some (.ref a_take)
  f_pick : Fun K "_law_pick" "_law_pick" s_pick a_pick d_pick
  g_pick : mg "_law_pick" = some (.ref a_pick)
  f_number : Fun K "_law_number" "_law_number" s_number a_number d_number
  g_number : mg "_law_number" = some (.ref a_number)
  f_law : Fun K "law" "law" s_law a_law d_law
  m_max : mg "max" = none
  m_min : mg "min" = none
  m_len : mg "len" = none
  m_abs : mg "abs" = none
  m_range : mg "range" = none
  m_repr : mg "repr" = none
local macro_rules | `(tactic| walk_at "ts var") => `(tactic| ((with_reducible refine' r_var ?hv ?hq); (case hv => rfl)))
local macro_rules | `(tactic| walk_at "ts in") => `(tactic| (simp only [L2.cxOf, L2.start, List.map_cons, List.map_nil, List.length_cons, List.length_nil, Nat.reduceAdd, Nat.reduceSub, List.replicate, List.cons_append, List.nil_append]))
local macro_rules | `(tactic| walk_at "ts set") => `(tactic| ((with_reducible refine r_set ?_); simp only [List.set_cons_zero, List.set_cons_succ]))
local macro_rules | `(tactic| walk_at "ts ix") => `(tactic| rfl)
local macro_rules | `(tactic| walk_at "ts ne") => `(tactic| first
  | assumption
  | (apply Ne.symm; assumption))
local macro_rules | `(tactic| walk_at "ts look") => `(tactic| first
  | assumption
  | exact SqL.at (by assumption)
  | exact SqT.at (by assumption)
  | exact ⟨_, by assumption⟩
  | (refine' Ex.L ?e ?n; (case e => assumption); (case n => walk_at "ts look"))
  | (refine' Ex.T ?e ?n; (case e => assumption); (case n => walk_at "ts look"))
  | (refine' Ex.at ?e ?n; (case e => assumption); (case n => walk_at "ts look"))
  | (refine' Kp.atL ?e ?d ?n; (case e => assumption); (case d => first | assumption | exact ⟨_, by assumption⟩); (case n => walk_at "ts look"))
  | (refine' Kp.atT ?e ?d ?n; (case e => assumption); (case d => first | assumption | exact ⟨_, by assumption⟩); (case n => walk_at "ts look"))
  | (refine' Kp.Ld ?e ?d ?n; (case e => assumption); (case d => first | assumption | exact ⟨_, by assumption⟩); (case n => walk_at "ts look"))
  | (refine' Kp.Td ?e ?d ?n; (case e => assumption); (case d => first | assumption | exact ⟨_, by assumption⟩); (case n => walk_at "ts look"))
  | (refine' Kp.L ?e ?d ?n; (case e => assumption); (case d => walk_at "ts ne"); (case n => walk_at "ts look"))
  | (refine' Kp.T ?e ?d ?n; (case e => assumption); (case d => walk_at "ts ne"); (case n => walk_at "ts look"))
  | (refine' Kp.at ?e ?d ?n; (case e => assumption); (case d => walk_at "ts ne"); (case n => walk_at "ts look")))
local macro_rules | `(tactic| walk_at "ts dp") => `(tactic| first
  | exact Dp.int _
  | exact Dp.str _
  | exact Dp.bl _
  | exact Dp.non
  | (refine' Dp.tup ?h ?d; (case h => walk_at "ts look"); (case d => walk_at "ts dps"))
  | (refine' Dp.lst ?h ?d; (case h => walk_at "ts look"); (case d => walk_at "ts dps")))
local macro_rules | `(tactic| walk_at "ts dps") => `(tactic| first
  | exact DpAll.nil
  | (refine' DpAll.cons ?h ?t; (case h => walk_at "ts dp"); (case t => walk_at "ts dps")))
local macro_rules | `(tactic| walk_at "ts okw") => `(tactic| first
  | exact okw_int (by omega) (by omega)
  | exact okw_str (by assumption)
  | exact okw_bool
  | exact okw_none
  | (refine' okw_tup ?h; (case h => walk_at "ts okws"))
  | (refine' okw_lst ?h; (case h => walk_at "ts okws")))
local macro_rules | `(tactic| walk_at "ts okws") => `(tactic| first
  | exact okws_nil
  | (refine' okws_cons ?h ?t; (case h => walk_at "ts okw"); (case t => walk_at "ts okws")))
local macro_rules | `(tactic| walk_at "ts sh") => `(tactic| first
  | exact sh_int (by omega) (by omega)
  | (refine' Sh.of ?h ?c ?d; (case h => walk_at "ts okw"); (case c => decide); (case d => decide)))
local macro_rules | `(tactic| walk_at "ts kp") => `(tactic| first
  | assumption
  | exact Kp.refl _ _
  | exact Evl.Ex.refl _
  | (refine' Kp.trans ?n ?e; (case e => assumption); (case n => walk_at "ts kp"))
  | (refine' Kp.ex ?n ?e; (case e => assumption); (case n => walk_at "ts kp"))
  | (refine' Evl.Ex.trans ?n ?e; (case e => assumption); (case n => walk_at "ts kp")))
local macro_rules | `(tactic| walk_at "ts ixb") => `(tactic| fail)
local macro_rules | `(tactic| walk_at "ts al") => `(tactic| (simp only [AllI, List.cons_append, List.nil_append, and_true]; omega))
local macro_rules | `(tactic| walk_at "tsx new") => `(tactic| fail)
local macro_rules | `(tactic| walk_at "ts use") => `(tactic| fail)
local macro_rules | `(tactic| walk_at "ts len") => `(tactic| first | omega | (simp only [List.length_append, List.length_cons, List.length_nil, List.length_take, List.length_drop, List.length_map, List.length_replicate]; omega))
local macro_rules | `(tactic| walk_at "ts cut") => `(tactic| first
  | exact cutS_ap _ _ 2
  | exact cutS_ap _ _ 1
  | exact cutS_0n _ 1
  | exact cutS_0n _ 2
  | exact cutS_n0 _ 1
  | exact cutS_n0 _ 2
  | exact cutS_0n _ 60
  | exact cutS_nn _ _ _
  | exact cutS_0n _ _
  | exact cutS_n0 _ _)
local macro_rules | `(tactic| walk_at "ts ys") => `(tactic| fail)
local macro_rules | `(tactic| walk_at "ts ixs") => `(tactic| fail)
local macro_rules | `(tactic| walk_at "ts same") => `(tactic| first | with_reducible rfl | (refine congrArg PyData.shown ?_; (simp only [PyData.tuple.injEq, PyData.list.injEq, List.cons.injEq, PyData.int.injEq, PyData.str.injEq, and_true, true_and, and_self]); first | done | omega))
local macro_rules | `(tactic| walk_at "ts put") => `(tactic| rfl)
local macro_rules | `(tactic| walk_at "ts div") => `(tactic| ((with_reducible refine r_div ?c ?d ?q); (case c => omega); (case d => omega)))
local macro_rules | `(tactic| walk_at "ts mod") => `(tactic| ((with_reducible refine r_mod ?c ?q); (case c => omega)))
local macro_rules | `(tactic| walk_at "ts") => `(tactic| first
  | (with_reducible refine r_seq ?_)
  | walk_at "ts var"
  | (with_reducible refine r_c ?_)
  | (with_reducible refine r_op ?_)
  | (with_reducible refine r_un ?_)
  | (with_reducible refine r_cb ?_)
  | (with_reducible refine r_cons ?_)
  | (with_reducible refine r_nil ?_)
  | (with_reducible refine r_call ?_)
  | (with_reducible refine r_lst ?_)
  | (with_reducible refine r_tup ?_)
  | (with_reducible refine r_sl ?_)
  | (with_reducible refine r_noP ?_)
  | (with_reducible refine r_part ?_)
  | (with_reducible refine r_isi ?_)
  | (with_reducible refine r_if ?_)
  | (with_reducible refine r_ifx ?_)
  | (with_reducible refine r_test ?_)
  | (with_reducible refine r_tB ?_)
  | (with_reducible refine r_isb ?_)
  | (with_reducible refine r_and ?_)
  | (with_reducible refine r_or ?_)
  | (with_reducible refine r_not ?_)
  | (with_reducible refine r_andV ?_)
  | (with_reducible refine r_orV ?_)
  | (with_reducible refine r_notV ?_)
  | (with_reducible refine r_T ?_)
  | (with_reducible refine r_F ?_)
  | (with_reducible refine r_ret ?_)
  | (with_reducible refine r_retN ?_)
  | (with_reducible refine r_drop ?_)
  | walk_at "ts set"
  | (with_reducible refine r_asg ?_)
  | ((with_reducible refine r_gname ?_); try simp only [List.set_cons_zero, List.set_cons_succ])
  | ((with_reducible refine' r_gtup ?l ?m ?q); (case l => walk_at "ts look"); (case m => rfl))
  | (with_reducible refine r_gcons ?_)
  | (with_reducible refine r_gnil ?_)
  | (with_reducible refine r_next ?_)
  | (with_reducible refine r_brk ?_)
  | (with_reducible refine r_cont ?_)
  | (with_reducible refine r_I0 ?_)
  | (with_reducible refine r_U ?_)
  | (with_reducible refine r_ipI ?_)
  | walk_at "tsx new"
  | (with_reducible refine r_tru ?_)
  | (with_reducible refine r_whb ?_)
  | ((with_reducible refine' r_augK ?h ?q); (case h => rfl))
  | ((with_reducible refine r_setK ?_); try simp only [List.set_cons_zero, List.set_cons_succ])
  | ((with_reducible refine' r_truS ?l ?q); (case l => walk_at "ts len"))
  | ((with_reducible refine' r_addS ?l ?q); (case l => walk_at "ts len"))
  | ((with_reducible refine' r_slS ?l ?e ?q); (case l => walk_at "ts len"); (case e => walk_at "ts cut"))
  | ((with_reducible refine' r_lenSS ?l ?q); (case l => walk_at "ts len"))
  | walk_at "ts ixs"
  | ((with_reducible refine' r_inT ?ys ?l ?e ?q); (case ys => walk_at "ts ys"); (case l => walk_at "ts look"); (case e => rfl))
  | (with_reducible refine r_bm ?_)
  | (with_reducible refine r_bm0 ?_)
  | (with_reducible refine r_tyS ?_)
  | ((with_reducible refine' r_tyL ?l ?q); (case l => walk_at "ts look"))
  | (with_reducible refine r_m1 ?_)
  | (with_reducible refine r_iss ?_)
  | ((with_reducible refine' r_app ?l ?c ?q); (case l => walk_at "ts look"); (case c => walk_at "ts len"); intro _ _ _)
  | ((with_reducible refine' r_pop ?l ?q); (case l => walk_at "ts look"); intro _ _ _)
  | ((with_reducible refine' r_listOf ?l ?q); (case l => walk_at "ts look"))
  | (with_reducible refine r_gsub ?_)
  | ((with_reducible refine' r_setL ?l ?e ?q); (case l => walk_at "ts look"); (case e => rfl); intro _ _ _)
  | (with_reducible refine r_star ?_)
  | ((with_reducible refine' r_starL ?l ?q); (case l => walk_at "ts look"))
  | ((with_reducible refine' r_intD ?c ?d) <;> intro _)
  | (with_reducible refine r_lc ?_)
  | ((with_reducible refine' r_isl ?l ?q); (case l => walk_at "ts look"))
  | ((with_reducible refine' r_ist ?l ?q); (case l => walk_at "ts look"))
  | ((with_reducible refine r_neSame ?e ?q); (case e => walk_at "ts same"))
  | ((with_reducible refine r_eqSame ?e ?q); (case e => walk_at "ts same"))
  | (with_reducible refine r_eqSS ?_)
  | (with_reducible refine r_neSS ?_)
  | (with_reducible refine r_eqI ?_)
  | (with_reducible refine r_neI ?_)
  | (with_reducible refine r_eqS ?_)
  | (with_reducible refine r_neS ?_)
  | (with_reducible refine r_eqB ?_)
  | (with_reducible refine r_neB ?_)
  | (with_reducible refine r_abs ?_)
  | (with_reducible refine r_max2 ?_)
  | (with_reducible refine r_min2 ?_)
  | walk_at "ts use"
  | (with_reducible refine r_for ?_)
  | (with_reducible refine r_rng1 ?_)
  | (with_reducible refine r_rng2 ?_)
  | ((with_reducible refine r_rng1v ?c ?d ?q); (case c => omega); (case d => omega))
  | ((with_reducible refine r_rng2v ?c ?d ?e ?f ?q); (case c => omega); (case d => omega); (case e => omega); (case f => omega))
  | (with_reducible refine r_ilist ?_)
  | (with_reducible refine r_itup ?_)
  | (with_reducible refine r_pnil ?_)
  | (with_reducible refine r_pcons ?_)
  | ((with_reducible refine r_disp ?_); intro _ _ _ _ _)
  | ((with_reducible refine r_new ?_); intro _ _ _ _ _)
  | ((refine And.intro (le_small rfl) ?_))
  | ((refine And.intro rfl ?_); try simp only [List.cons_append, List.nil_append, List.append_nil, List.map_nil, List.map_cons, List.take, List.drop])
  | (with_reducible refine r_callD ?_)
  | (with_reducible refine r_cd1 ?_)
  | (with_reducible refine r_cd2 ?_)
  | (with_reducible refine r_cd3 ?_)
  | (with_reducible refine r_callN ?_)
  | (with_reducible refine r_callN0 ?_)
  | walk_at "ts mod"
  | walk_at "ts div"
  | ((with_reducible refine r_mulL ?c ?d ?q); (case c => omega); (case d => omega))
  | ((with_reducible refine r_mulR ?c ?d ?q); (case c => omega); (case d => omega))
  | ((with_reducible refine r_pow ?c ?d ?e ?f ?q); (case c => omega); (case d => omega); (case e => omega); (case f => omega); try simp only [Int.reduceToNat, Int.reducePow])
  | ((with_reducible refine' r_ixLI ?l ?i ?j ?q); (case l => walk_at "ts look"); (case i => omega); (case j => omega); intro _ _)
  | walk_at "ts ixb"
  | ((with_reducible refine' r_ixT ?l ?i ?q); (case l => walk_at "ts look"); (case i => rfl))
  | ((with_reducible refine' r_ixL ?l ?i ?q); (case l => walk_at "ts look"); (case i => walk_at "ts ix"))
  | ((with_reducible refine' r_slL ?l ?q); (case l => walk_at "ts look"))
  | ((with_reducible refine' r_cat ?l ?m ?n ?q); (case l => walk_at "ts look"); (case m => walk_at "ts look"); (case n => exact le_small rfl); simp only [List.cons_append, List.nil_append])
  | ((with_reducible refine' r_repr ?l ?m ?q); (case l => walk_at "ts dp"); (case m => walk_at "ts sh"))
  | ((with_reducible refine' r_lenLI ?l ?q); (case l => walk_at "ts look"))
  | ((with_reducible refine' r_lenL ?l ?q); (case l => walk_at "ts look"))
  | ((with_reducible refine r_dec ?q1 ?q2) <;> intro _)
  | ((with_reducible refine r_decN ?q1 ?q2) <;> intro _)
  | ((with_reducible refine' g_dk ?h ?e ?q); (case h => walk_at "ts look"); (case e => rfl))
  | ((with_reducible refine' p_dk ?h ?l ?e ?q); (case h => walk_at "ts look"); (case l => exact lt_small rfl); (case e => walk_at "ts put"); intro _ _ _)
  | (with_reducible refine r_dget ?_)
  | (with_reducible refine r_dput ?_))

section
variable {P : Program} {w : World} {K : PySem.W.Frag} {mg : Str → Option Value} {base : Heap}
variable {a_clamped a_stepped a_pen a_take a_pick a_number a_law : Addr} {d_clamped d_stepped d_pen d_take d_pick d_number d_law : FuncData}
theorem Txt.k_clamped (T : Txt K mg a_clamped a_stepped a_pen a_take a_pick a_number a_law d_clamped d_stepped d_pen d_take d_pick d_number d_law) : PySem.W.keepIn K (.ref a_clamped) = true := T.f_clamped.kp
theorem Txt.k_stepped (T : Txt K mg a_clamped a_stepped a_pen a_take a_pick a_number a_law d_clamped d_stepped d_pen d_take d_pick d_number d_law) : PySem.W.keepIn K (.ref a_stepped) = true := T.f_stepped.kp
theorem Txt.b_stepped (T : Txt K mg a_clamped a_stepped a_pen a_take a_pick a_number a_law d_clamped d_stepped d_pen d_take d_pick d_number d_law) : Binds K d_stepped P_stepped [] := T.f_stepped.binds (ps := P_stepped) fun _ _ _ _ _ _ us hl => match us, hl with | [_], _ => rfl
theorem Txt.k_pen (T : Txt K mg a_clamped a_stepped a_pen a_take a_pick a_number a_law d_clamped d_stepped d_pen d_take d_pick d_number d_law) : PySem.W.keepIn K (.ref a_pen) = true := T.f_pen.kp
theorem Txt.b_pen (T : Txt K mg a_clamped a_stepped a_pen a_take a_pick a_number a_law d_clamped d_stepped d_pen d_take d_pick d_number d_law) : Binds K d_pen P_pen [] := T.f_pen.binds (ps := P_pen) fun _ _ _ _ _ _ us hl => match us, hl with | [_], _ => rfl
theorem Txt.k_take (T : Txt K mg a_clamped a_stepped a_pen a_take a_pick a_number a_law d_clamped d_stepped d_pen d_take d_pick d_number d_law) : PySem.W.keepIn K (.ref a_take) = true := T.f_take.kp
theorem Txt.b_take (T : Txt K mg a_clamped a_stepped a_pen a_take a_pick a_number a_law d_clamped d_stepped d_pen d_take d_pick d_number d_law) : Binds K d_take P_take [] := T.f_take.binds (ps := P_take) fun _ _ _ _ _ _ us hl => match us, hl with | [_, _], _ => rfl
theorem Txt.k_pick (T : Txt K mg a_clamped a_stepped a_pen a_take a_pick a_number a_law d_clamped d_stepped d_pen d_take d_pick d_number d_law) : PySem.W.keepIn K (.ref a_pick) = true := T.f_pick.kp
theorem Txt.b_pick (T : Txt K mg a_clamped a_stepped a_pen a_take a_pick a_number a_law d_clamped d_stepped d_pen d_take d_pick d_number d_law) : Binds K d_pick P_pick [] := T.f_pick.binds (ps := P_pick) fun _ _ _ _ _ _ us hl => match us, hl with | [_, _], _ => rfl
theorem Txt.k_number (T : Txt K mg a_clamped a_stepped a_pen a_take a_pick a_number a_law d_clamped d_stepped d_pen d_take d_pick d_number d_law) : PySem.W.keepIn K (.ref a_number) = true := T.f_number.kp
theorem Txt.b_number (T : Txt K mg a_clamped a_stepped a_pen a_take a_pick a_number a_law d_clamped d_stepped d_pen d_take d_pick d_number d_law) : Binds K d_number P_number [] := T.f_number.binds (ps := P_number) fun _ _ _ _ _ _ us hl => match us, hl with | [_], _ => rfl
/-! ### the pen -/
def Pen (K : PySem.W.Frag) (H : Hp) (p : Addr) (b : Int) : Prop := ∃ (c : Addr) (ns : List Int) (n l : Int), H p = some (.dK (penK c n l)) ∧ SqL K H c (ns.map V.int) ∧ 0 ≤ n ∧ n ≤ b ∧ 0 ≤ l
theorem Pen.od {H : Hp} {p : Addr} {b : Int} (h : Pen K H p b) : Od H p := by
  obtain ⟨c, ns, n, l, hp, _⟩ := h
  exact ⟨_, hp⟩
theorem Pen.le {H : Hp} {p : Addr} {b b' : Int} (h : Pen K H p b) (e : b ≤ b') : Pen K H p b' := by
  obtain ⟨c, ns, n, l, hp, hc, h1, h2, h3⟩ := h
  exact ⟨c, ns, n, l, hp, hc, h1, Int.le_trans h2 e, h3⟩
theorem Pen.ex {H H' : Hp} {p : Addr} {b : Int} (e : Ex H H') (h : Pen K H p b) : Pen K H' p b := by
  obtain ⟨c, ns, n, l, hp, hc, h1⟩ := h
  exact ⟨c, ns, n, l, e _ _ hp, Ex.L e hc, h1⟩
section
local macro_rules | `(tactic| walk_at "ts put") => `(tactic| first | exact put_a _ _ _ _ | exact put_l _ _ _ _ | rfl)
local macro_rules | `(tactic| walk_at "ts div") => `(tactic| ((with_reducible refine r_divF ?c ?d ?e ?q); (case c => omega); (case d => omega); (case e => omega); intro _ _ _))
local macro_rules | `(tactic| walk_at "ts mod") => `(tactic| ((with_reducible refine r_modF ?c ?q); (case c => omega); intro _ _ _))
def spTake (K : PySem.W.Frag) : Sp := fun vs H Q _ => ∃ (p : Addr) (n b : Int), vs = [.ref p, .int n] ∧ 0 < n ∧ n < 1000000 ∧ b ≤ 1000000000 ∧ Pen K H p b ∧
  ∀ r H', 0 ≤ r → r < n → Pen K H' p (b + 1) → Kp p H H' → Q (.int r) H'
theorem ok_take (T : Txt K mg a_clamped a_stepped a_pen a_take a_pick a_number a_law d_clamped d_stepped d_pen d_take d_pick d_number d_law) : FnOk P w K mg base CX0 1 a_take d_take P_take (spTake K) := by
  refine T.f_take.ok sc_take (fun vs H Q E h => ?_) (fun cdv A outer s H vs Q E hr h => ?_)
  · obtain ⟨p, n, b, rfl, _⟩ := h
    rfl
  · obtain ⟨p, n, b, rfl, n0, n1, hb, ⟨c, ns, at', lf, hp, hc, a0, a1, l0⟩, q⟩ := h
    have hu := hu_of hr
    refine ⟨_, (pss_cons (ps_set (i := 2) sc_take.nd rfl (.inl rfl) (pe_dget hu (pv 0) pe_str (fun _ _ => rfl)))
      (pss_cons (ps_if (pt_cmpR op_gt (pe_dget hu (pv 0) pe_str (fun _ _ => rfl)) pe_int (nomark _))
      (pss_cons (ps_set (i := 3) sc_take.nd rfl (.inl rfl) (pe_op op_mod (pe_dget hu (pv 0) pe_str (fun _ _ => rfl)) (pv 1)))
      (pss_cons (ps_dput hu (pv 0) pe_str (pe_op op_fdiv (pe_dget hu (pv 0) pe_str (fun _ _ => rfl)) (pv 1)) rfl)
      (pss_one (ps_ret (pv 3)))))
      pss_nil)
      (pss_cons (ps_set (i := 4) sc_take.nd rfl (.inl rfl) (pe_dget hu (pv 0) pe_str (fun _ _ => rfl)))
      (pss_cons (ps_dput hu (pv 0) pe_str (pe_op op_add (pv 4) pe_int) rfl)
      (pss_cons (ps_set (i := 5) sc_take.nd rfl (.inl rfl) (pe_op op_add (pe_op op_add (pe_op op_mul (pe_op op_mul pe_int (pv 4)) (pv 4)) (pe_op op_mul pe_int (pv 4))) pe_int))
      (pss_cons (ps_if (pt_cmpR op_lt (pv 4) (pe_callB c_lenQ (by rfl) T.m_len PySem.boot_len (pa_cons (pv 2) pa_nil)) (nomark _))
      (pss_cons (ps_set (i := 5) sc_take.nd rfl (.inl rfl) (pe_ix ix_list (pv 2) (pv 4) (fun _ _ => rfl)))
      (pss_one (ps_if (pt_cmpR op_ge (pe_callB c_abs (by rfl) T.m_abs (by decide +kernel) (pa_cons (pv 5) pa_nil)) (pe_op op_pow pe_int pe_int) (nomark _))
      (pss_cons (ps_dput hu (pv 0) pe_str (pe_op op_fdiv (pe_callB c_abs (by rfl) T.m_abs (by decide +kernel) (pa_cons (pv 5) pa_nil)) (pv 1)) rfl)
      (pss_one (ps_ret (pe_op op_mod (pe_callB c_abs (by rfl) T.m_abs (by decide +kernel) (pa_cons (pv 5) pa_nil)) (pv 1)))))
      pss_nil)))
      (pss_one (ps_if (pt_cmpR op_gt (pe_callB c_lenQ (by rfl) T.m_len PySem.boot_len (pa_cons (pv 2) pa_nil)) pe_int (nomark _))
      (pss_one (ps_set (i := 5) sc_take.nd rfl (.inl rfl) (pe_op op_add (pe_op op_mod (pe_ix ix_list (pv 2) (pe_op op_mod (pv 4) (pe_callB c_lenQ (by rfl) T.m_len PySem.boot_len (pa_cons (pv 2) pa_nil))) (fun _ _ => rfl)) (pe_op op_pow pe_int pe_int)) (pe_op op_mul pe_int (pv 4)))))
      pss_nil)))
      (pss_cons (ps_set (i := 6) sc_take.nd rfl (.inl rfl) (pe_op op_mod (pe_op op_mul (pe_op op_add (pe_op op_add (pe_op op_mod (pv 5) pe_int) (pe_op op_mul pe_int (pv 4))) pe_int) pe_int) pe_int))
      (pss_cons (ps_set (i := 6) sc_take.nd rfl (.inl rfl) (pe_op op_mod (pe_op op_add (pe_op op_mul (pv 6) (pe_op op_add (pe_op op_mod (pv 6) pe_int) pe_int)) (pe_op op_mul pe_int (pv 4))) pe_int))
      (pss_one (ps_ret (pe_op op_mod (pe_op op_fdiv (pe_op op_mod (pe_op op_mul (pv 6) (pe_op op_add (pe_op op_mod (pv 6) pe_int) pe_int)) pe_int) pe_int) (pv 1)))))))))))), ?_⟩
    walk_at "ts in"
    repeat' walk_at "ts"
    all_goals refine q _ _ (by omega) (by omega) ⟨c, ns, _, _, by assumption, by walk_at "ts look", by omega, by omega, by omega⟩ (by walk_at "ts kp")
end
theorem u_take {H : Hp} {p : Addr} {n b : Int} {Q : VK} {E : XK} (h : Pen K H p b) (c : 0 < n) (d : n < 1000000) (e : b ≤ 1000000000)
    (q : ∀ r H', 0 ≤ r → r < n → Pen K H' p (b + 1) → Kp p H H' → Od H p → Q (.int r) H') : spTake K [.ref p, .int n] H Q E := ⟨p, n, b, rfl, c, d, e, h, fun r H' h1 h2 h3 h4 => q r H' h1 h2 h3 h4 h.od⟩
local macro_rules | `(tactic| walk_at "ts pen") => `(tactic| first
  | assumption
  | (refine' Pen.ex ?e ?n; (case e => assumption); (case n => walk_at "ts pen")))
local macro_rules | `(tactic| walk_at "ts use") => `(tactic| ((with_reducible refine' u_take ?h ?c ?d ?e ?q); (case h => walk_at "ts pen"); (case c => omega); (case d => omega); (case e => omega); intro _ _ _ _ _ _ _))
def spPick (K : PySem.W.Frag) : Sp := fun vs H Q _ => ∃ (p l : Addr) (xs : List V) (b : Int), vs = [.ref p, .ref l] ∧ SqL K H l xs ∧ 0 < xs.length ∧ xs.length < 1000000 ∧ b ≤ 1000000000 ∧ Pen K H p b ∧
  ∀ v H', v ∈ xs → Pen K H' p (b + 1) → Kp p H H' → Q v H'
theorem ok_pick (T : Txt K mg a_clamped a_stepped a_pen a_take a_pick a_number a_law d_clamped d_stepped d_pen d_take d_pick d_number d_law) : FnOk P w K mg base CX0 2 a_pick d_pick P_pick (spPick K) := by
  have O_take : FnOk P w K mg base CX0 1 a_take d_take P_take (spTake K) := ok_take T
  refine T.f_pick.ok sc_pick (fun vs H Q E h => ?_) (fun cdv A outer s H vs Q E hr h => ?_)
  · obtain ⟨p, l, xs, b, rfl, _⟩ := h
    rfl
  · obtain ⟨p, l, xs, b, rfl, hl, x0, x1, hb, hp, q⟩ := h
    have hu := hu_of hr
    have hod := hp.od
    refine ⟨_, (pss_one (ps_ret (pe_ix ix_list (pv 1) (pe_call O_take (hr.mono (by decide)) (by rfl) T.g_take T.k_take T.b_take .nil pass0 (pa_cons (pv 0) (pa_cons (pe_callB c_lenQ (by rfl) T.m_len PySem.boot_len (pa_cons (pv 1) pa_nil)) pa_nil))) (fun _ _ => rfl)))), ?_⟩
    walk_at "ts in"
    repeat' walk_at "ts"
    refine r_ixM (xs := xs) (by walk_at "ts look") (by assumption) (by assumption) fun v hv => ?_
    exact q v _ hv (by assumption) (by walk_at "ts kp")
theorem u_pick {H : Hp} {p l : Addr} {xs : List V} {b : Int} {Q : VK} {E : XK} (h : Pen K H p b) (hl : SqL K H l xs) (c : decide (0 < xs.length ∧ xs.length < 1000) = true) (e : b ≤ 1000000000)
    (q : ∀ v H', v ∈ xs → Pen K H' p (b + 1) → Kp p H H' → Od H p → Q v H') : spPick K [.ref p, .ref l] H Q E := by
  have c := of_decide_eq_true c
  exact ⟨p, l, xs, b, rfl, hl, c.1, by omega, e, h, fun r H' h1 h2 h3 => q r H' h1 h2 h3 h.od⟩
theorem u_pickI {lo hi : Int} {H : Hp} {p l : Addr} {xs : List V} {b : Int} {Q : VK} {E : XK} (h : Pen K H p b) (hl : SqL K H l xs) (c : decide (0 < xs.length ∧ xs.length < 1000) = true) (al : AllI lo hi xs) (e : b ≤ 1000000000)
    (q : ∀ z H', lo ≤ z → z ≤ hi → Pen K H' p (b + 1) → Kp p H H' → Od H p → Q (.int z) H') : spPick K [.ref p, .ref l] H Q E :=
  u_pick h hl c e fun v H' hv h1 h2 h3 => by
    obtain ⟨z, rfl, z1, z2⟩ := al.at hv
    exact q z H' z1 z2 h1 h2 h3
local macro_rules | `(tactic| walk_at "ts ixb") => `(tactic| ((with_reducible refine' r_ixB (lo := -20000) (hi := 20000) ?l ?i ?j ?al ?q); (case l => walk_at "ts look"); (case i => omega); (case j => (simp only [List.length_cons, List.length_nil]; omega)); (case al => walk_at "ts al"); intro _ _ _))
local macro_rules | `(tactic| walk_at "ts use") => `(tactic| ((with_reducible refine' u_pickI (lo := -20000) (hi := 20000) ?h ?l ?c ?al ?e ?q); (case h => walk_at "ts pen"); (case l => walk_at "ts look"); (case c => rfl); (case al => walk_at "ts al"); (case e => omega); intro _ _ _ _ _ _ _))
def spNum (K : PySem.W.Frag) : Sp := fun vs H Q _ => ∃ (p : Addr) (b : Int), vs = [.ref p] ∧ b ≤ 1000000000 - 10 ∧ Pen K H p b ∧
  ∀ v H', -20000 ≤ v → v ≤ 20000 → Pen K H' p (b + 5) → Kp p H H' → Q (.int v) H'
theorem ok_number (T : Txt K mg a_clamped a_stepped a_pen a_take a_pick a_number a_law d_clamped d_stepped d_pen d_take d_pick d_number d_law) : FnOk P w K mg base CX0 3 a_number d_number P_number (spNum K) := by
  have O_take : FnOk P w K mg base CX0 1 a_take d_take P_take (spTake K) := ok_take T
  have O_pick : FnOk P w K mg base CX0 2 a_pick d_pick P_pick (spPick K) := ok_pick T
  refine T.f_number.ok sc_number (fun vs H Q E h => ?_) (fun cdv A outer s H vs Q E hr h => ?_)
  · obtain ⟨p, b, rfl, _⟩ := h
    rfl
  · obtain ⟨p, b, rfl, hb, hp, q⟩ := h
    have hu := hu_of hr
    have hod := hp.od
    refine ⟨_, (pss_cons (ps_set (i := 1) sc_number.nd rfl (.inl rfl) (pe_lst (pa_cons (pe_op op_sub (pe_call O_take (hr.mono (by decide)) (by rfl) T.g_take T.k_take T.b_take .nil pass0 (pa_cons (pv 0) (pa_cons pe_int pa_nil))) pe_int) (pa_cons (pe_ix ix_list (pe_lst (pa_cons pe_int (pa_cons pe_int (pa_cons pe_int (pa_cons pe_int (pa_cons pe_int (pa_cons pe_int (pa_cons pe_int (pa_cons pe_int (pa_cons (pe_un un_neg pe_int) (pa_cons (pe_un un_neg pe_int) (pa_cons (pe_un un_neg pe_int) pa_nil)))))))))))) (pe_call O_take (hr.mono (by decide)) (by rfl) T.g_take T.k_take T.b_take .nil pass0 (pa_cons (pv 0) (pa_cons pe_int pa_nil))) (fun _ _ => rfl)) pa_nil))))
      (pss_cons (ps_set (i := 1) sc_number.nd rfl (.inl rfl) (pe_op op_cat (pv 1) (pe_lst (pa_cons (pe_ix ix_list (pe_lst (pa_cons pe_int (pa_cons (pe_un un_neg pe_int) (pa_cons pe_int (pa_cons pe_int (pa_cons pe_int (pa_cons pe_int pa_nil))))))) (pe_call O_take (hr.mono (by decide)) (by rfl) T.g_take T.k_take T.b_take .nil pass0 (pa_cons (pv 0) (pa_cons pe_int pa_nil))) (fun _ _ => rfl)) (pa_cons (pe_op op_sub (pe_call O_take (hr.mono (by decide)) (by rfl) T.g_take T.k_take T.b_take .nil pass0 (pa_cons (pv 0) (pa_cons pe_int pa_nil))) pe_int) pa_nil)))))
      (pss_one (ps_ret (pe_call O_pick (hr.mono (by decide)) (by rfl) T.g_pick T.k_pick T.b_pick .nil pass0 (pa_cons (pv 0) (pa_cons (pv 1) pa_nil))))))), ?_⟩
    walk_at "ts in"
    repeat' walk_at "ts"
    exact q _ _ (by assumption) (by assumption) (Pen.le (by assumption) (by omega)) (by walk_at "ts kp")
def spPen (K : PySem.W.Frag) : Sp := fun vs H Q _ => ∃ (a : Addr) (ns : List Int), vs = [.ref a] ∧ SqL K H a (ns.map V.int) ∧ ∀ p H', Pen K H' p 0 → Q (.ref p) H'
theorem cut63 (ns : List Int) : cutV (ns.map V.int) none (some 63) = (ns.take 63).map V.int := by
  unfold cutV
  rw [HT.sIx_none, show HT.sIx (ns.map V.int).length (ns.map V.int).length (some 63) = min 63 (ns.map V.int).length from HT.sIx_nat _ _ 63, List.drop_zero, List.map_take, Nat.sub_zero]
  by_cases h : 63 ≤ (ns.map V.int).length
  · rw [Nat.min_eq_left h]
  · rw [Nat.min_eq_right (by omega), List.take_of_length_le (Nat.le_refl _), List.take_of_length_le (by omega)]
theorem ok_pen (T : Txt K mg a_clamped a_stepped a_pen a_take a_pick a_number a_law d_clamped d_stepped d_pen d_take d_pick d_number d_law) : FnOk P w K mg base CX0 1 a_pen d_pen P_pen (spPen K) := by
  refine T.f_pen.ok sc_pen (fun vs H Q E h => ?_) (fun cdv A outer s H vs Q E hr h => ?_)
  · obtain ⟨a, ns, rfl, _⟩ := h
    rfl
  · obtain ⟨a, ns, rfl, ha, q⟩ := h
    have hu := hu_of hr
    refine ⟨_, (pss_one (ps_ret (pe_disp (pps_cons pe_str (pe_slice sl_list (pv 0) po_none (po_some pe_int)) (pps_cons pe_str pe_int (pps_cons pe_str pe_int pps_nil))) (by rfl) (by rfl) (fun z => by cases z) (by decide)))), ?_⟩
    walk_at "ts in"
    repeat' walk_at "ts"
    rename_i p H1 np e1 hp c H2 nc e2 hc
    rw [cut63] at hc
    refine r_mkd (penK c 0 0) (kw := penK c 0 0) (by walk_at "ts look") rfl (by show 3 ≤ 15; decide) rfl fun H3 k3 h3 => ?_
    refine q p H3 ⟨c, ns.take 63, 0, 0, h3, ?_, Int.le_refl _, Int.le_refl _, Int.le_refl _⟩
    exact Kp.L k3 (fun e => by subst e; rw [hp] at nc; cases nc) (SqL.at hc)
theorem u_number {H : Hp} {p : Addr} {b : Int} {Q : VK} {E : XK} (h : Pen K H p b) (e : b ≤ 1000000000 - 10)
    (q : ∀ v H', -20000 ≤ v → v ≤ 20000 → Pen K H' p (b + 5) → Kp p H H' → Od H p → Q (.int v) H') : spNum K [.ref p] H Q E := ⟨p, b, rfl, e, h, fun v H' h1 h2 h3 h4 => q v H' h1 h2 h3 h4 h.od⟩

/-! ### the law -/
def spClamped (K : PySem.W.Frag) : Sp := fun vs H Q _ => ∃ v lo hi : Int, vs = [.int v, .int lo, .int hi] ∧ Q (.int (max lo (min v hi))) H
theorem ok_clamped (T : Txt K mg a_clamped a_stepped a_pen a_take a_pick a_number a_law d_clamped d_stepped d_pen d_take d_pick d_number d_law) : FnOk P w K mg base CX0 1 a_clamped d_clamped P_clamped (spClamped K) := by
  refine T.f_clamped.ok sc_clamped (fun vs H Q E h => ?_) (fun cdv A outer s H vs Q E hr h => ?_)
  · obtain ⟨v, lo, hi, rfl, _⟩ := h
    rfl
  · obtain ⟨v, lo, hi, rfl, q⟩ := h
    refine ⟨_, (pss_one (ps_ret (pe_callB (c_max2 rfl) (by rfl) T.m_max (by decide +kernel) (pa_cons (pv 1) (pa_cons (pe_callB (c_min2 rfl) (by rfl) T.m_min (by decide +kernel) (pa_cons (pv 0) (pa_cons (pv 2) pa_nil))) pa_nil))))), ?_⟩
    walk_at "ts in"
    repeat' walk_at "ts"
    exact q
theorem u_clamped {H : Hp} {v lo hi : Int} {Q : VK} {E : XK} (q : Q (.int (max lo (min v hi))) H) : spClamped K [.int v, .int lo, .int hi] H Q E := ⟨v, lo, hi, rfl, q⟩

local macro_rules | `(tactic| walk_at "ts use") => `(tactic| ((with_reducible refine' u_number ?h ?e ?q); (case h => walk_at "ts pen"); (case e => omega); intro _ _ _ _ _ _ _))
local macro_rules | `(tactic| walk_at "ts use") => `(tactic| (with_reducible refine u_clamped ?_))
theorem u_pickS (P : Str → Bool) {H : Hp} {p l : Addr} {xs : List V} {b : Int} {Q : VK} {E : XK} (h : Pen K H p b) (hl : SqL K H l xs) (c : decide (0 < xs.length ∧ xs.length < 1000) = true) (al : AllS P xs = true) (e : b ≤ 1000000000)
    (q : ∀ z H', P z = true → Pen K H' p (b + 1) → Kp p H H' → Od H p → Q (.str z) H') : spPick K [.ref p, .ref l] H Q E :=
  u_pick h hl c e fun v H' hv h1 h2 h3 => by
    obtain ⟨z, rfl, z1⟩ := AllS.at al hv
    exact q z H' z1 h1 h2 h3
local macro_rules | `(tactic| walk_at "ts use") => `(tactic| ((with_reducible refine' u_pickS (okS 9) ?h ?l ?c ?al ?e ?q); (case h => walk_at "ts pen"); (case l => walk_at "ts look"); (case c => rfl); (case al => rfl); (case e => omega); intro _ _ _ _ _ _))
def spStepped (K : PySem.W.Frag) : Sp := fun vs H Q _ => ∃ (a : Addr) (v s : Int) (f : Str), vs = [.ref a] ∧ SqT K H a [.int v, .int s, .str f] ∧
  ∀ p H', Ex H H' → H' p = some (.tup [.int (max (-9999) (min (v + s) 9999)), .int s, .str f]) → Q (.ref p) H'
theorem ok_stepped (T : Txt K mg a_clamped a_stepped a_pen a_take a_pick a_number a_law d_clamped d_stepped d_pen d_take d_pick d_number d_law) : FnOk P w K mg base CX0 2 a_stepped d_stepped P_stepped (spStepped K) := by
  have O_clamped : FnOk P w K mg base CX0 1 a_clamped d_clamped P_clamped (spClamped K) := ok_clamped T
  obtain ⟨ds1, D0, B_clamped1⟩ := T.f_clamped.binds0 (ps := P_clamped) 1 (by decide) rfl (fun D doc pm an cdv ct us ks h1 h2 => (match us, ks, h1, h2 with
    | [_], [_, _], _, _ => ⟨_, _, _, _, _, _, rfl, rfl, _, _, _, _, _, _, rfl, rfl, rfl⟩))
  have D_clamped1 : Vals [V.int (-9999), V.int 9999] ds1 := D0
  refine T.f_stepped.ok sc_stepped (fun vs H Q E h => ?_) (fun cdv A outer s H vs Q E hr h => ?_)
  · obtain ⟨a, v, s, f, rfl, _⟩ := h
    rfl
  · obtain ⟨a, v, st, f, rfl, ha, q⟩ := h
    refine ⟨_, (pss_cons (ps_asg (pv 0) (pg_tup (by rfl) (pgs_cons (pg_name (i := 1) sc_stepped.nd rfl (.inl rfl)) (pgs_cons (pg_name (i := 2) sc_stepped.nd rfl (.inl rfl)) (pgs_cons (pg_name (i := 3) sc_stepped.nd rfl (.inl rfl)) pgs_nil)))))
      (pss_one (ps_ret (pe_tup (pa_cons (pe_call O_clamped (hr.mono (by decide)) (by rfl) T.g_clamped T.k_clamped B_clamped1 D_clamped1 pass0 (pa_cons (pe_op op_add (pv 1) (pv 2)) pa_nil)) (pa_cons (pv 2) (pa_cons (pv 3) pa_nil))))))), ?_⟩
    walk_at "ts in"
    repeat' walk_at "ts"
    exact q _ _ (by assumption) (by assumption)
theorem u_stepped {H : Hp} {a : Addr} {v s : Int} {f : Str} {Q : VK} {E : XK} (h : SqT K H a [.int v, .int s, .str f])
    (q : ∀ p H', Ex H H' → H' p = some (.tup [.int (max (-9999) (min (v + s) 9999)), .int s, .str f]) → Q (.ref p) H') : spStepped K [.ref a] H Q E := ⟨a, v, s, f, rfl, h, q⟩
local macro_rules | `(tactic| walk_at "ts use") => `(tactic| ((with_reducible refine' u_stepped ?h ?q); (case h => walk_at "ts look"); intro _ _ _ _))
def spLaw (K : PySem.W.Frag) : Sp := fun vs H Q _ => ∃ (a : Addr) (ns : List Int), vs = [.ref a] ∧ SqL K H a (ns.map V.int) ∧ ns.length ≤ 63 ∧ ∀ H', Q (.bl true) H'
theorem ok_law (T : Txt K mg a_clamped a_stepped a_pen a_take a_pick a_number a_law d_clamped d_stepped d_pen d_take d_pick d_number d_law) : FnG P w K mg base CX0 4 a_law d_law P_law (spLaw K) := by
  have O_take : FnOk P w K mg base CX0 1 a_take d_take P_take (spTake K) := ok_take T
  have O_pick : FnOk P w K mg base CX0 2 a_pick d_pick P_pick (spPick K) := ok_pick T
  have O_number : FnOk P w K mg base CX0 3 a_number d_number P_number (spNum K) := ok_number T
  have O_pen : FnOk P w K mg base CX0 1 a_pen d_pen P_pen (spPen K) := ok_pen T
  have O_stepped : FnOk P w K mg base CX0 2 a_stepped d_stepped P_stepped (spStepped K) := ok_stepped T
  have KB_stepped_0_told := kbF T.f_stepped (ps := P_stepped) 0 ["told"] (fun _ ws => ws) (fun _ r => r)
    (fun kV doc pm an cdv ct us ws h1 h2 => (match us, ws, h1, h2 with | [], [_], _, _ => rfl))
  refine okG T.f_law sc_law (fun vs H Q E h => ?_) (fun cdv A outer s H vs Q E hr hg h => ?_)
  · obtain ⟨a, ns, rfl, _⟩ := h
    rfl
  · obtain ⟨a, ns, rfl, ha, hl, q⟩ := h
    have hu := hu_of hr
    refine ⟨_, (pss_cons (ps_set (i := 1) sc_law.nd rfl (.inl rfl) (pe_call O_pen (hr.mono (by decide)) (by rfl) T.g_pen T.k_pen T.b_pen .nil pass0 (pa_cons (pv 0) pa_nil)))
      (pss_cons (ps_for PassesOwn.never rfl (pi_range1 rfl T.m_range (pa_cons pe_int pa_nil)) (pg_name (i := 2) sc_law.nd rfl (.inl rfl))
      (pss_cons (ps_set (i := 3) sc_law.nd rfl (.inl rfl) (pe_tup (pa_cons (pe_call O_number (hr.mono (by decide)) (by rfl) T.g_number T.k_number T.b_number .nil pass0 (pa_cons (pv 1) pa_nil)) (pa_cons (pe_call O_number (hr.mono (by decide)) (by rfl) T.g_number T.k_number T.b_number .nil pass0 (pa_cons (pv 1) pa_nil)) (pa_cons (pe_call O_pick (hr.mono (by decide)) (by rfl) T.g_pick T.k_pick T.b_pick .nil pass0 (pa_cons (pv 1) (pa_cons (pe_lst (pa_cons pe_str (pa_cons pe_str (pa_cons pe_str (pa_cons pe_str pa_nil))))) pa_nil))) pa_nil)))))
      (pss_cons (ps_set (i := 4) sc_law.nd rfl (.inl rfl) (pe_callB (call_repr hr hg) (by rfl) T.m_repr (by decide +kernel) (pa_cons (pv 3) pa_nil)))
      (pss_cons (ps_set (i := 5) sc_law.nd rfl (.inl rfl) (pe_callB (call_repr hr hg) (by rfl) T.m_repr (by decide +kernel) (pa_cons (pe_tup (pa_cons (pe_callB (c_min2 rfl) (by rfl) T.m_min (by decide +kernel) (pa_cons pe_int (pa_cons (pe_callB (c_max2 rfl) (by rfl) T.m_max (by decide +kernel) (pa_cons (pe_un un_neg pe_int) (pa_cons (pe_op op_add (pe_ix ix_tup (pv 3) pe_int (fun _ _ => rfl)) (pe_ix ix_tup (pv 3) pe_int (fun _ _ => rfl))) pa_nil))) pa_nil))) (pa_cons (pe_ix ix_tup (pv 3) pe_int (fun _ _ => rfl)) (pa_cons (pe_ix ix_tup (pv 3) pe_int (fun _ _ => rfl)) pa_nil)))) pa_nil)))
      (pss_one (ps_if (PW.pt (pw_or (pt_cmpR op_ne (pe_callB (call_repr hr hg) (by rfl) T.m_repr (by decide +kernel) (pa_cons (pe_call O_stepped (hr.mono (by decide)) (by rfl) T.g_stepped T.k_stepped T.b_stepped .nil pass0 (pa_cons (pv 3) pa_nil)) pa_nil)) (pv 5) (nomark _)) (pw_or (pt_cmpR op_ne (pe_callB (call_repr hr hg) (by rfl) T.m_repr (by decide +kernel) (pa_cons (pe_callN0 O_stepped (hr.mono (by decide)) (by rfl) T.g_stepped T.k_stepped KB_stepped_0_told pass0 (pk_cons (pv 3) pk_nil)) pa_nil)) (pv 5) (nomark _)) (pw_or1 (pt_cmpR op_ne (pe_callB (call_repr hr hg) (by rfl) T.m_repr (by decide +kernel) (pa_cons (pv 3) pa_nil)) (pv 4) (nomark _))))))
      (pss_one (ps_ret pe_bl))
      pss_nil))))))
      (pss_one (ps_ret pe_bl)))), ?_⟩
    walk_at "ts in"
    repeat' walk_at "ts"
    refine ⟨a, ns, rfl, ha, fun p H1 hp => ?_⟩
    repeat' walk_at "ts"
    refine f_range (fun i σ H' => ∃ v2 v3 v4 v5, σ = [some (.ref a), some (.ref p), v2, v3, v4, v5] ∧ Pen K H' p (100 * i)) ⟨_, _, _, _, rfl, Pen.le hp (by omega)⟩ ?_ ?_
    · rintro i σ H2 hi ⟨v2, v3, v4, v5, rfl, hp2⟩
      have hi : i < 60 := hi
      repeat' walk_at "ts"
      all_goals exact ⟨_, _, _, _, rfl, Pen.le (by walk_at "ts pen") (by omega)⟩
    · rintro σ H2 ⟨v2, v3, v4, v5, rfl, hp2⟩
      repeat' walk_at "ts"
      exact q _
end
theorem all_mk {l : PySem.W.OpenLaw} {w : World} {K : PySem.W.Frag} {h : Heap} {mg : Str → Option Value} {fa : Addr} (X : K.In h) (G : h.Ns mainGlobals mg) (hfa : mg "law" = some (.ref fa))
    {f_clamped : Addr} {oc_clamped dc_clamped pm_clamped cd_clamped ct_clamped : Value} {od_clamped an_clamped : Option Addr} {sl_clamped : Array (Option Value)}
    {D_clamped : Addr}
    {t_clamped_most : Tok}
    {t_clamped_least : Tok}
    {f_stepped : Addr} {oc_stepped dc_stepped pm_stepped cd_stepped ct_stepped : Value} {od_stepped an_stepped : Option Addr} {sl_stepped : Array (Option Value)}
    {kV_stepped : Value}
    {f_pen : Addr} {oc_pen dc_pen pm_pen cd_pen ct_pen : Value} {od_pen an_pen : Option Addr} {sl_pen : Array (Option Value)}
    {kV_pen : Value}
    {f_take : Addr} {oc_take dc_take pm_take cd_take ct_take : Value} {od_take an_take : Option Addr} {sl_take : Array (Option Value)}
    {kV_take : Value}
    {f_pick : Addr} {oc_pick dc_pick pm_pick cd_pick ct_pick : Value} {od_pick an_pick : Option Addr} {sl_pick : Array (Option Value)}
    {kV_pick : Value}
    {f_number : Addr} {oc_number dc_number pm_number cd_number ct_number : Value} {od_number an_number : Option Addr} {sl_number : Array (Option Value)}
    {kV_number : Value}
    {f_law : Addr} {oc_law dc_law pm_law cd_law ct_law : Value} {od_law an_law : Option Addr} {sl_law : Array (Option Value)}
    {kV_law : Value}
    (a_clamped : PySem.W.nsIn K mainGlobals "clamped" = some (some (.ref f_clamped)))
    (l_clamped : K.lookup f_clamped = some ⟨oc_clamped, od_clamped, .func (PySem.W.fnOf "clamped" "clamped" (defArgs s_clamped) (defBody s_clamped) (defScope s_clamped) .none (.ref D_clamped) dc_clamped pm_clamped an_clamped cd_clamped ct_clamped), sl_clamped⟩)
    (c_clamped : PySem.W.codeIn K cd_clamped "clamped" = true)
    (k_clamped : PySem.W.keepIn K (.ref f_clamped) = true)
    (q_clamped_most : PySem.W.nsIn K D_clamped "most" = some (some (.int 9999 t_clamped_most)))
    (q_clamped_least : PySem.W.nsIn K D_clamped "least" = some (some (.int (-9999) t_clamped_least)))
    (a_stepped : PySem.W.nsIn K mainGlobals "stepped" = some (some (.ref f_stepped)))
    (l_stepped : K.lookup f_stepped = some ⟨oc_stepped, od_stepped, .func (PySem.W.fnOf "stepped" "stepped" (defArgs s_stepped) (defBody s_stepped) (defScope s_stepped) .none kV_stepped dc_stepped pm_stepped an_stepped cd_stepped ct_stepped), sl_stepped⟩)
    (c_stepped : PySem.W.codeIn K cd_stepped "stepped" = true)
    (k_stepped : PySem.W.keepIn K (.ref f_stepped) = true)
    (a_pen : PySem.W.nsIn K mainGlobals "_law_pen" = some (some (.ref f_pen)))
    (l_pen : K.lookup f_pen = some ⟨oc_pen, od_pen, .func (PySem.W.fnOf "_law_pen" "_law_pen" (defArgs s_pen) (defBody s_pen) (defScope s_pen) .none kV_pen dc_pen pm_pen an_pen cd_pen ct_pen), sl_pen⟩)
    (c_pen : PySem.W.codeIn K cd_pen "_law_pen" = true)
    (k_pen : PySem.W.keepIn K (.ref f_pen) = true)
    (a_take : PySem.W.nsIn K mainGlobals "_law_take" = some (some (.ref f_take)))
    (l_take : K.lookup f_take = some ⟨oc_take, od_take, .func (PySem.W.fnOf "_law_take" "_law_take" (defArgs s_take) (defBody s_take) (defScope s_take) .none kV_take dc_take pm_take an_take cd_take ct_take), sl_take⟩)
    (c_take : PySem.W.codeIn K cd_take "_law_take" = true)
    (k_take : PySem.W.keepIn K (.ref f_take) = true)
    (a_pick : PySem.W.nsIn K mainGlobals "_law_pick" = some (some (.ref f_pick)))
    (l_pick : K.lookup f_pick = some ⟨oc_pick, od_pick, .func (PySem.W.fnOf "_law_pick" "_law_pick" (defArgs s_pick) (defBody s_pick) (defScope s_pick) .none kV_pick dc_pick pm_pick an_pick cd_pick ct_pick), sl_pick⟩)
    (c_pick : PySem.W.codeIn K cd_pick "_law_pick" = true)
    (k_pick : PySem.W.keepIn K (.ref f_pick) = true)
    (a_number : PySem.W.nsIn K mainGlobals "_law_number" = some (some (.ref f_number)))
    (l_number : K.lookup f_number = some ⟨oc_number, od_number, .func (PySem.W.fnOf "_law_number" "_law_number" (defArgs s_number) (defBody s_number) (defScope s_number) .none kV_number dc_number pm_number an_number cd_number ct_number), sl_number⟩)
    (c_number : PySem.W.codeIn K cd_number "_law_number" = true)
    (k_number : PySem.W.keepIn K (.ref f_number) = true)
    (a_law : PySem.W.nsIn K mainGlobals "law" = some (some (.ref f_law)))
    (l_law : K.lookup f_law = some ⟨oc_law, od_law, .func (PySem.W.fnOf "law" "law" (defArgs s_law) (defBody s_law) (defScope s_law) .none kV_law dc_law pm_law an_law cd_law ct_law), sl_law⟩)
    (c_law : PySem.W.codeIn K cd_law "law" = true)
    (k_law : PySem.W.keepIn K (.ref f_law) = true)
    (z_max : PySem.W.nsIn K mainGlobals "max" = some none)
    (z_min : PySem.W.nsIn K mainGlobals "min" = some none)
    (z_len : PySem.W.nsIn K mainGlobals "len" = some none)
    (z_abs : PySem.W.nsIn K mainGlobals "abs" = some none)
    (z_range : PySem.W.nsIn K mainGlobals "range" = some none)
    (z_repr : PySem.W.nsIn K mainGlobals "repr" = some none) :
    ∃ fd : FuncData, (∀ (s : Shared) (v : Value), BindsTo s fd ⟨[v], []⟩ [("_law_script", v)]) ∧ ∀ base : Heap, K.In base → base.Ns mainGlobals mg → FnG l.prog w K mg base CX0 4 fa fd ["_law_script"] (spLaw K) := by
  have e := hfa.symm.trans (PySem.W.mg_of X G a_law)
  cases e
  have T : Txt K mg f_clamped f_stepped f_pen f_take f_pick f_number fa _ _ _ _ _ _ _ := {
    f_clamped := ⟨⟨_, _, _, _, _, _, _, _, _, _, rfl, l_clamped, c_clamped, .inl ⟨rfl, rfl⟩, .inr ⟨_, rfl, List.forall_mem_cons.mpr ⟨⟨_, q_clamped_least, ⟨_, rfl⟩⟩, List.forall_mem_cons.mpr ⟨⟨_, q_clamped_most, ⟨_, rfl⟩⟩, List.forall_mem_nil _⟩⟩⟩⟩, k_clamped⟩
    g_clamped := PySem.W.mg_of X G a_clamped
    f_stepped := fun_mk (st := s_stepped) l_stepped c_stepped k_stepped
    g_stepped := PySem.W.mg_of X G a_stepped
    f_pen := fun_mk (st := s_pen) l_pen c_pen k_pen
    g_pen := PySem.W.mg_of X G a_pen
    f_take := fun_mk (st := s_take) l_take c_take k_take
    g_take := PySem.W.mg_of X G a_take
    f_pick := fun_mk (st := s_pick) l_pick c_pick k_pick
    g_pick := PySem.W.mg_of X G a_pick
    f_number := fun_mk (st := s_number) l_number c_number k_number
    g_number := PySem.W.mg_of X G a_number
    f_law := fun_mk (st := s_law) l_law c_law k_law
    m_max := PySem.W.mg_none_of X G z_max
    m_min := PySem.W.mg_none_of X G z_min
    m_len := PySem.W.mg_none_of X G z_len
    m_abs := PySem.W.mg_none_of X G z_abs
    m_range := PySem.W.mg_none_of X G z_range
    m_repr := PySem.W.mg_none_of X G z_repr }
  exact ⟨_, fun s v => .of_eq rfl, fun base _ _ => ok_law T⟩
end Ts
open PySem PySem.W PyProof.Rows
set_option maxHeartbeats 0 in
theorem PySem.Challenge.cw_trapsetter_k08_steps_added_holds : PySem.Challenge.rw_trapsetter_k08_steps_added.Holds := by
  w_on; o_law; k_head; (case hw => w_witness2)
  k_fill
  refine Ts.walkG (l := PySem.Challenge.rw_trapsetter_k08_steps_added) (n := 63) (k := 4) (x := "_law_script") (sp := Ts.spLaw) rfl (by decide) rfl ⟨rfl, by decide, by decide⟩ (fun w h Y => PySem.W.kIn_of Y) ?F (fun K H a ns hl _ hS => ⟨a, ns, rfl, hS, hl, fun _ => rfl⟩)
  case F =>
    intro w mg fa h KX G hmg
    refine' Ts.all_mk KX G hmg ?a_clamped ?l_clamped ?c_clamped ?k_clamped ?q_clamped_most ?q_clamped_least ?a_stepped ?l_stepped ?c_stepped ?k_stepped ?a_pen ?l_pen ?c_pen ?k_pen ?a_take ?l_take ?c_take ?k_take ?a_pick ?l_pick ?c_pick ?k_pick ?a_number ?l_number ?c_number ?k_number ?a_law ?l_law ?c_law ?k_law ?z_max ?z_min ?z_len ?z_abs ?z_range ?z_repr
    (case a_clamped => k_is); (case l_clamped => k_is); (case c_clamped => k_is); (case k_clamped => k_is); (case q_clamped_most => k_is); (case q_clamped_least => k_is); (case a_stepped => k_is); (case l_stepped => k_is); (case c_stepped => k_is); (case k_stepped => k_is); (case a_pen => k_is); (case l_pen => k_is); (case c_pen => k_is); (case k_pen => k_is); (case a_take => k_is); (case l_take => k_is); (case c_take => k_is); (case k_take => k_is); (case a_pick => k_is); (case l_pick => k_is); (case c_pick => k_is); (case k_pick => k_is); (case a_number => k_is); (case l_number => k_is); (case c_number => k_is); (case k_number => k_is); (case a_law => k_is); (case l_law => k_is); (case c_law => k_is); (case k_law => k_is); (case z_max => k_is); (case z_min => k_is); (case z_len => k_is); (case z_abs => k_is); (case z_range => k_is); (case z_repr => k_is)
