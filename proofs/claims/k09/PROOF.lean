import PyProof.Rows.All
import Wide.All
import OpenK.AllK
import Wide.FinOn
import PyProof.ReprRoads
import PyProof.StrLawsRepr
import HandS.ForMost
import HandS.Defaults
import HandS.Evl
import HandS.EndBits
import HandS.Star
import HandS.StrMore
import HandS.More
import HandS.FStr
import PyProof.FString3
import HandS.IsInst
import HandS.Deep
import HandS.TupAny
import HandS.Rev
import PyProof.MinMaxWalk
import PyProof.WalkInts
import PyProof.Rows.CallKwBuiltin
import HandS.SortKw
import HandS.Style
import HandS.Codes
import HandS.Text
import HandS.Replace
import HandS.ReplaceLit
import HandS.ReplaceList
import HandS.Dict
import PyProof.StrLawsAffix
import HandS.DeepEq
import HandS.DictEq
import HandS.ListEq
import HandS.TupMul
import HandS.SetFor
import HandS.SetTxt0
import HandS.Strs
import PyProof.SetRoads
import KE.IntTextLaws
import KE.KIntText
import PySem.Challenge.RW_trapsetter_k09_whole_registers_go_on
set_option Elab.async false
set_option linter.all false
set_option maxRecDepth 100000
set_option maxHeartbeats 4000000
namespace Ts
open PySem PySem.Spec PyProof.Rows L2

/-! ### no repr is under way: promises of defs that show data -/
section
variable {P : Program} {w : World} {K : PySem.W.Frag} {mg : Str → Option Value} {base : Heap} {CX : CXT}
structure FnG (P : Program) (w : World) (K : PySem.W.Frag) (mg : Str → Option Value)
    (base : Heap) (CX : CXT) (k : Nat) (f : Addr) (fd : FuncData) (ps : List Str) (sp : Sp) : Prop where
  len : ∀ vs H Q E, sp vs H Q E → vs.length = ps.length
  run : ∀ (A : Around) (outer : List Env) (s : Shared) (H : Hp) (args : Args) (us : List Value)
    (vs : List V) (Q : VK) (E : XK), Room k A → A.guards = some [] →
    Env0 P w K mg base A outer s H → BindsTo s fd args (ps.zip us) → Vals vs us → sp vs H Q E →
    codeAny (model P w) A (.call (.ref f) args) (CR CX outer P w H s Q E) s

theorem FnG.of {k : Nat} {f : Addr} {fd : FuncData} {ps : List Str} {sp : Sp}
    (F : FnOk P w K mg base CX k f fd ps sp) : FnG P w K mg base CX k f fd ps sp :=
  ⟨F.len, fun A outer s H args us vs Q E hr _ => F.run A outer s H args us vs Q E hr⟩

theorem fnG_of {k : Nat} {f : Addr} {name qual : Str} {params : Arguments} {body : List Stmt}
    {scope : Scope} {dV kV doc pm cdv ct oc : Value} {an od : Option Addr}
    {osl : Array (Option Value)} {N ps : List Str} {sp : Sp}
    (lk : K.lookup f = some ⟨oc, od,
      .func (PySem.W.fnOf name qual params body scope dV kV doc pm an cdv ct), osl⟩)
    (hcd : PySem.W.codeIn K cdv qual = true) (S : FnScope N ps scope)
    (len : ∀ vs H Q E, sp vs H Q E → vs.length = ps.length)
    (hbody : ∀ (A : Around) (outer : List Env) (s : Shared) (H : Hp) (vs : List V) (Q : VK) (E : XK),
      Room k (A.deeper (envOfC qual scope s.heap.objs.size f cdv)) → A.guards = some [] → sp vs H Q E →
      ∃ t, PSs (cxOf CX P w K mg base N qual scope f cdv A outer s H E) body t ∧
        t { nx := fun _ H' => Q .non H', rt := Q } (start N vs) H) :
    FnG P w K mg base CX (k + 1) f (PySem.W.fnOf name qual params body scope dV kV doc pm an cdv ct) ps sp := by
  refine ⟨len, fun A outer s H args us vs Q E hr hgd e0 hb r hsp => ?_⟩
  have hlen := len _ _ _ _ hsp
  have hin : K.In s.heap := e0.mod.kin.keeps fun b o e => (e0.bs b o e).1
  have hlim : s.heap.NoLimit := e0.mod.nolimit.keeps fun b o e => (e0.bs b o e).1
  have hpar : ∀ y ∈ ps.zip us, scope.names.lookup y.1 = some .local ∨
      (scope.names.lookup y.1 = some .cell ∧
        ((cellsFrom (s.heap.objs.size + 1) scope.names []).lookup y.1).isSome = true) := by
    rintro ⟨n, v⟩ hy
    rcases S.par n (List.of_mem_zip hy).1 with q | q
    · exact Or.inl q
    · exact Or.inr ⟨q, PySem.W.cellsFrom_some _ _ _ (Or.inl q)⟩
  refine codeAny_call_function hr.depth (hin _ _ lk) rfl S.co S.gen rfl
    (PySem.W.codeRec_of hin hcd) (hb _ _ _ _ ?_)
  refine wpAny_newFunctionEnv_cells S.kind hpar fun env he s1 x => ?_
  subst he
  refine ⟨hlim.keeps x.toInCall.keep, codeAny_func ?_⟩
  obtain ⟨t, ht, hq⟩ := hbody A outer s H vs Q E (hr.deeper _) hgd hsp
  have I := inv_start (CX := CX) (P := P) (w := w) (mg := mg) (base := base) (E := E) S hr.hd e0 hlen r x
  refine wpAny_mono (ht.run [] s1 (start N vs) H _ I hq) ?_ (fun e s' hs => hs)
  intro fl s' hs
  cases fl with
  | next =>
    obtain ⟨σ', H', J, q⟩ := hs
    exact ⟨V.non, H', J.os, J.bare, J.base, J.hok, rfl, q⟩
  | ret u =>
    obtain ⟨v, σ', H', J, rv, q⟩ := hs
    exact ⟨v, H', J.os, J.bare, J.base, J.hok, rv, q⟩
  | brk =>
    obtain ⟨_, _, _, q⟩ := hs
    exact q.elim
  | cont =>
    obtain ⟨_, _, _, q⟩ := hs
    exact q.elim

theorem okG {x qual : Str} {st : Stmt} {f : Addr} {fd : FuncData} {N ps : List Str} {k : Nat} {sp : Sp}
    (F : Fun K x qual st f fd) (S : FnScope N ps (defScope st))
    (len : ∀ vs H Q E, sp vs H Q E → vs.length = ps.length)
    (hbody : ∀ (cdv : Value) (A : Around) (outer : List Env) (s : Shared) (H : Hp) (vs : List V) (Q : VK) (E : XK),
      Room k (A.deeper (envOfC qual (defScope st) s.heap.objs.size f cdv)) → A.guards = some [] → sp vs H Q E →
      ∃ t, PSs (cxOf CX0 P w K mg base N qual (defScope st) f cdv A outer s H E).nox (defBody st) t ∧
        t { nx := fun _ H' => Q .non H', rt := Q } (start N vs) H) :
    FnG P w K mg base CX0 (k + 1) f fd ps sp := by
  obtain ⟨oc, od, kV, doc, pm, an, cdv, ct, osl, rfl, lk, hcd⟩ := F.ex
  refine fnG_of lk hcd S len ?_
  intro A outer s H vs Q E hr hg hsp
  obtain ⟨t, h, q⟩ := hbody cdv A outer s H vs Q E hr hg hsp
  exact ⟨t, h.nox, q⟩
end

section
variable {X : Cx} {CX : CXT} {k : Nat} {f : Addr} {fd : FuncData} {ps : List Str} {sp : Sp} {dvs : List V} {ds : List Value}
  {E : XK} {x : Str} {p pos : Pos} {e : Expr} {es : List Expr} {t : TA}
theorem run_G {pins : List (Addr × Obj)} {σ : L2.St} {H : Hp} {s : Shared} {Q : VK} {us : List Value} {vs : List V}
    (F : FnG X.prog X.w X.K X.mg X.base CX k f fd ps sp) (hr : Room k X.A) (hg : X.A.guards = some [])
    (hb : Binds X.K fd ps ds) (hd : Vals dvs ds) (hx : Passes CX X E) (I : Inv X pins σ H s)
    (r : Vals vs us) (h : sp (vs ++ dvs) H Q E) :
    wpAny (model X.prog X.w) X.A (call (.ref f) us) (EP X pins σ Q) X.xe s := by
  have r2 : Vals (vs ++ dvs) (us ++ ds) := r.append hd
  have hl : (us ++ ds).length = ps.length := r2.length.symm.trans (F.len _ _ _ _ h)
  refine wpAny_call (codeAny_mono
    (F.run X.A X.stack s H ⟨us, []⟩ (us ++ ds) (vs ++ dvs) Q E hr hg I.env0 (hb s us I.kIn hl) r2 h) ?_)
  intro r s' hq
  cases r with
  | ok fl =>
    cases fl with
    | next => exact hq.elim
    | brk => exact hq.elim
    | cont => exact hq.elim
    | ret u => exact I.after hq
  | error e => exact hx pins σ H s e s' I hq
theorem pe_callG (F : FnG X.prog X.w X.K X.mg X.base CX k f fd ps sp) (hr : Room k X.A) (hgd : X.A.guards = some [])
    (hg : Gl X x) (hm : X.mg x = some (.ref f)) (hk : PySem.W.keepIn X.K (.ref f) = true)
    (hb : Binds X.K fd ps ds) (hd : Vals dvs ds) (hx : Passes CX X E) (ha : PA X (e :: es) t)
    (hdb : (x == ("__debug__" : Str)) = false := by decide)
    (he : starEach (e :: es) X.env = (false, eval e X.env) :: starEach es X.env := by rfl)
    (hpl : (backTo pos (starEach es X.env)).any (·.1) = false := by rfl) :
    PE X (.Call (.Name x p) (e :: es) [] pos) (tCall sp dvs E t) := by
  refine ⟨fun pins s σ H Q I h => ?_⟩
  refine wpAny_Call_Name_kw (ld_glob I hg hm ?_ hdb)
  exact PySem.W.callWith_K (h₀ := X.base) I.ok.mod.kin hk
    (thn (ha.run pos pins s σ H _ I h) fun us s1 ⟨vs, H1, I1, r, q⟩ =>
      ⟨I1.kIn, run_G F hr hgd hb hd hx I1 r q⟩) he hpl
end

/-! ### repr of data -/
mutual
def wt : PyData → Nat
  | .none => 4
  | .bool _ => 5
  | .int i => (Str.ofString (toString i)).length
  | .str x => 10 * x.length + 2
  | .list xs => wts xs + 2
  | .tuple xs => wts xs + 3
  | .dict _ => 0
def wts : List PyData → Nat
  | [] => 0
  | x :: xs => wt x + 2 + wts xs
end
mutual
def okD : PyData → Prop
  | .none => True
  | .bool _ => True
  | .int i => i.natAbs.log2 < 1920
  | .str x => ∀ c ∈ x.cps.toList, c < 16 ^ 8
  | .list xs => okDs xs
  | .tuple xs => okDs xs
  | .dict _ => False
def okDs : List PyData → Prop
  | [] => True
  | x :: xs => okD x ∧ okDs xs
end
mutual
theorem okD_show : ∀ d : PyData, okD d → d.showable = true ∧ d.hasDict = false
  | .none, _ => ⟨by simp only [PyData.showable], by simp only [PyData.hasDict]⟩
  | .bool _, _ => ⟨by simp only [PyData.showable], by simp only [PyData.hasDict]⟩
  | .int i, h => ⟨by simp only [PyData.showable, decide_eq_true_eq]; exact h, by simp only [PyData.hasDict]⟩
  | .str _, _ => ⟨by simp only [PyData.showable], by simp only [PyData.hasDict]⟩
  | .list xs, h => ⟨by simp only [PyData.showable]; exact (okDs_show xs h).1, by simp only [PyData.hasDict]; exact (okDs_show xs h).2⟩
  | .tuple xs, h => ⟨by simp only [PyData.showable]; exact (okDs_show xs h).1, by simp only [PyData.hasDict]; exact (okDs_show xs h).2⟩
  | .dict _, h => h.elim
theorem okDs_show : ∀ ds : List PyData, okDs ds → PyData.showableAll ds = true ∧ PyData.hasDictAll ds = false
  | [], _ => ⟨by simp only [PyData.showableAll], by simp only [PyData.hasDictAll]⟩
  | d :: ds, h => by
    obtain ⟨a, b⟩ := okD_show d h.1
    obtain ⟨c, e⟩ := okDs_show ds h.2
    exact ⟨by simp only [PyData.showableAll, a, c, Bool.and_self], by simp only [PyData.hasDictAll, b, e, Bool.or_self]⟩
end
end Ts

namespace Ts
open PySem PySem.Spec PyProof.Rows L2
theorem listText_le : ∀ ts : List Str, (listText ts).length ≤ piled ts + 2
  | [] => by decide
  | t :: r => by
    show (textFrom 1 (("[" : Str) ++ (if (0 : Nat) > 0 then ", " else "" : String) ++ t) r ++ "]").length ≤ _
    rw [strLen_append, textFrom_length_pos r 1 _ (Nat.succ_pos 0), strLen_append, strLen_append, piled_cons]
    have e1 : ((("[" : String) : Str)).length = 1 := rfl
    have e2 : ((("]" : String) : Str)).length = 1 := rfl
    have e3 : (((if (0 : Nat) > 0 then ", " else "" : String) : Str)).length = 0 := rfl
    omega
theorem tupleText_le (ts : List Str) : (tupleText ts).length ≤ piled ts + 3 := by
  unfold tupleText
  rw [strLen_append, strLen_append]
  have e1 : ((("(" : String) : Str)).length = 1 := rfl
  have e3 : (((if ts.length == 1 then ",)" else ")" : String) : Str)).length ≤ 2 := by split <;> decide
  by_cases h : ts = []
  · subst h
    have e4 : (Str.join ", " ([] : List Str)).length = 0 := rfl
    omega
  · have := join_length_add ts h
    omega
mutual
theorem shown_wt : ∀ d : PyData, okD d → d.shown.length ≤ wt d
  | .none, _ => by simp only [PyData.shown, wt]; decide
  | .bool b, _ => by cases b <;> (simp only [PyData.shown, wt]; decide)
  | .int i, h => by
    simp only [PyData.shown, wt]
    exact Nat.le_refl _
  | .str x, h => by
    simp only [PyData.shown, wt]
    exact StrLaws.reprText_len x h
  | .list xs, h => by
    have := shown_wts xs h
    have := listText_le (PyData.shownAll xs)
    simp only [PyData.shown, wt]
    omega
  | .tuple xs, h => by
    have := shown_wts xs h
    have := tupleText_le (PyData.shownAll xs)
    simp only [PyData.shown, wt]
    omega
  | .dict _, h => h.elim
theorem shown_wts : ∀ ds : List PyData, okDs ds → piled (PyData.shownAll ds) ≤ wts ds
  | [], _ => by simp only [PyData.shownAll, wts]; decide
  | d :: ds, h => by
    have h1 := shown_wt d h.1
    have h2 := shown_wts ds h.2
    simp only [PyData.shownAll, wts, piled_cons]
    omega
end
/-- data that can be shown -/
structure Sh (d : PyData) : Prop where
  ok : okD d
  wt : wt d ≤ sizeLine
  dp : d.depth ≤ 60
def rRepr (K : PySem.W.Frag) : List V → Hp → VK → Prop := fun xs H Q => ∃ v d, xs = [v] ∧ Dp K H v d ∧ Sh d ∧ Q (.str d.shown) H
section
variable {X : Cx}
theorem call_repr {k : Nat} (hr : Room k X.A) (hg : X.A.guards = some []) : CallR X (.builtin "repr") (rRepr X.K) := by
  intro pins s σ H xs us Q I r h
  obtain ⟨v, d, rfl, hd, sh, q⟩ := h
  obtain ⟨u, rfl, ru⟩ := vals1 r
  obtain ⟨as, rd⟩ := Dp.reads I d v u hd ru
  have hs := okD_show d sh.ok
  have hz : d.shown.length ≤ sizeLine := Nat.le_trans (shown_wt d sh.ok) sh.wt
  have hu := hr.un
  have hdp := sh.dp
  cases hd with
  | non => cases ru; exact PySem.P.repr_of_none ⟨.str _, H, I.tok _, ⟨_, rfl⟩, by simpa only [PyData.shown] using q⟩
  | bl b => cases ru; exact PySem.P.repr_of_bool ⟨.str _, H, I.tok _, ⟨_, rfl⟩, by simpa only [PyData.shown] using q⟩
  | int i =>
    obtain ⟨t, rfl⟩ := ru
    exact PySem.P.repr_of_int sh.ok ⟨.str _, H, I.tok _, ⟨_, rfl⟩, by simpa only [PyData.shown] using q⟩
  | str x =>
    obtain ⟨t, rfl⟩ := ru
    exact PySem.P.repr_of_str ⟨.str _, H, I.tok _, ⟨_, rfl⟩, by simpa only [PyData.shown] using q⟩ (by simpa only [PyData.shown] using hz)
  | lst _ _ =>
    cases ru
    exact repr_of_reads' rd hs.1 (PyData.noDict_hsm hs.2) hg (by omega) (fun _ _ e => e) (fun h' u tk hk => ⟨.str _, H, I.kept hk, ⟨_, rfl⟩, q⟩) hz
  | tup _ _ =>
    cases ru
    exact repr_of_reads' rd hs.1 (PyData.noDict_hsm hs.2) hg (by omega) (fun _ _ e => e) (fun h' u tk hk => ⟨.str _, H, I.kept hk, ⟨_, rfl⟩, q⟩) hz
end
end Ts

namespace Ts
open PySem PySem.Spec PyProof.Rows L2
section
variable {P : Program} {w : World} {K : PySem.W.Frag} {mg mb : Str → Option Value} {k : Nat} {fa a : Addr}
  {fd : FuncData} {x : Str} {sp : Sp} {s₁ : Shared} {vs : List Value} {ns : List Int}
/-- what the law's call must come to -/
abbrev Goal (s₁ : Shared) (r : Result) (s' : Shared) : Prop :=
  r = .ok (.ret (.bool true)) ∧ OldK s₁.heap s'.heap ∧ s'.os = s₁.os ∧ AllBare s'.gens
/-- an abstract heap in which the script alone may stand, at a -/
structure Lone (P : Program) (w : World) (K : PySem.W.Frag) (h : Heap) (a : Addr) (H : Hp) : Prop where
  only : Only H
  ok : HOk P w H h
  at_a : ∀ b, H b ≠ none → b = a
  free : H a ≠ none → K.lookup a = none
theorem Lone.call {H : Hp} (L : Lone P w K s₁.heap a H)
    (KX : K.In s₁.heap) (hns : s₁.heap.Ns mainGlobals mg) (hb : s₁.heap.Ns builtinsNs mb)
    (hbb : ∀ x : Str, x ≠ "__name__" → mb x = bootBuiltins x) (hlim : s₁.heap.NoLimit) (hg : s₁.gens = #[])
    (ha : s₁.heap.get? a = some { cls := .type "list", data := .seq vs.toArray }) (hr : Room k callerA)
    (F : ∀ base : Heap, K.In base → base.Ns mainGlobals mg → FnG P w K mg base CX0 k fa fd [x] sp)
    (hbind : ∀ (s : Shared) (u : Value), BindsTo s fd ⟨[u], []⟩ [(x, u)])
    (hsp : sp [.ref a] H (fun v _ => v = .bl true) fun _ _ _ => False) :
    codeAny (model P w) callerA (.call (.ref fa) ⟨[.ref a], []⟩) (Goal s₁) s₁ := by
  have plain : ∀ {b : Addr} {o : Obj} {es : Array DictEntry} {ep : Nat}, s₁.heap.get? b = some o → o.data = .dict es ep → H b = none := by
    intro b o es ep e d
    cases q : H b with
    | none => rfl
    | some u =>
      have hba : b = a := L.at_a b (by simp [q])
      subst hba
      rw [ha] at e
      cases e
      nomatch d
  have ns2 : ∀ {b : Addr} {m : Str → Option Value}, s₁.heap.Ns b m → (hidT s₁.heap H).Ns b m := by
    rintro b m ⟨o, es, ep, e, d, r⟩
    exact ⟨o, es, ep, hidT_get e (plain e d), d, r⟩
  have kin : K.In (hidT s₁.heap H) := by
    intro b o e
    refine hidT_get (KX b o e) ?_
    cases q : H b with
    | none => rfl
    | some u =>
      have hba : b = a := L.at_a b (by simp [q])
      subst hba
      rw [L.free (by simp [q])] at e
      nomatch e
  have md : Mod K mg (hidT s₁.heap H) := by
    obtain ⟨mc, h1, h2⟩ := hlim
    exact ⟨kin, ns2 hns, ⟨mb, ns2 hb, hbb⟩, mc, ns2 h1, h2⟩
  have e0 : Env0 P w K mg (hidT s₁.heap H) callerA [] s₁ H :=
    ⟨rfl, md, fun b o e => of_hidT e, Nat.le_of_eq (hidT_size _ _), trivial, (fun b hb => by cases hb), L.ok, .of_eq hg⟩
  refine codeAny_mono ((F _ kin (ns2 hns)).run callerA [] s₁ H ⟨[.ref a], []⟩ [.ref a] [.ref a] _ _ hr rfl e0
    (hbind s₁ (.ref a)) (.cons rfl .nil) hsp) ?_
  intro r s' h
  match r, h with
  | .error e, h => exact h.elim
  | .ok .next, h => exact h.elim
  | .ok .brk, h => exact h.elim
  | .ok .cont, h => exact h.elim
  | .ok (.ret u), h =>
    obtain ⟨v, H', os, bare, un, hok', r', q⟩ := h
    obtain rfl : v = .bl true := q
    obtain rfl : u = Value.bool true := r'
    refine ⟨rfl, OldK.of_keep ?_, os, bare⟩
    intro b o e
    rcases L.only b with z | ⟨ob, xs, z⟩
    · exact un.keep b o e z (by intro q; cases q) (by intro q; cases q)
    · obtain ⟨e1, _⟩ := L.ok b _ z
      obtain ⟨e2, _⟩ := hok' b _ (un.frzs b ob _ z)
      rw [e] at e1
      cases e1
      exact e2
theorem callG (KX : K.In s₁.heap) (hns : s₁.heap.Ns mainGlobals mg) (hb : s₁.heap.Ns builtinsNs mb)
    (hbb : ∀ x : Str, x ≠ "__name__" → mb x = bootBuiltins x) (hlim : s₁.heap.NoLimit) (hg : s₁.gens = #[])
    (ha : s₁.heap.get? a = some { cls := .type "list", data := .seq vs.toArray }) (hi : IntsAre vs ns)
    (hl : ns.length ≤ sizeLine) (hr : Room k callerA)
    (F : ∀ base : Heap, K.In base → base.Ns mainGlobals mg → FnG P w K mg base CX0 k fa fd [x] sp)
    (hbind : ∀ (s : Shared) (u : Value), BindsTo s fd ⟨[u], []⟩ [(x, u)])
    (hsp : ∀ H : Hp, Only H → SqL K H a (ns.map V.int) → sp [.ref a] H (fun v _ => v = .bl true) fun _ _ _ => False) :
    codeAny (model P w) callerA (.call (.ref fa) ⟨[.ref a], []⟩) (Goal s₁) s₁ := by
  have rv := vals_ints hi
  cases hk : K.lookup a with
  | some o =>
    have e := KX a o hk
    rw [ha] at e
    cases e
    have L : Lone P w K s₁.heap a (fun _ => none) :=
      ⟨fun _ => .inl rfl, (fun b u z => nomatch z), (fun b z => (z rfl).elim), fun z => (z rfl).elim⟩
    refine L.call KX hns hb hbb hlim hg ha hr F hbind (hsp _ L.only ?_)
    exact .inr ⟨_, vs.toArray, _, hk, rfl, rfl, rfl, by rw [List.size_toArray, hi.length]; exact hl, by simpa using rv⟩
  | none =>
    let H : Hp := fun b => if b = a then some (.frz { cls := .type "list", data := .seq vs.toArray } (.lst (ns.map V.int))) else none
    have yes : H a = some (.frz { cls := .type "list", data := .seq vs.toArray } (.lst (ns.map V.int))) := if_pos rfl
    have no : ∀ {b}, b ≠ a → H b = none := fun n => if_neg n
    have L : Lone P w K s₁.heap a H := by
      refine ⟨fun b => ?_, fun b u z => ?_, fun b z => ?_, fun _ => hk⟩
      · by_cases q : b = a
        · subst q
          exact .inr ⟨_, _, yes⟩
        · exact .inl (no q)
      · by_cases q : b = a
        · subst q
          rw [yes] at z
          cases z
          exact ⟨ha, by rw [List.length_map]; exact hl, vs, _, rv, ha⟩
        · rw [no q] at z
          cases z
      · exact Decidable.byContradiction fun q => z (no q)
    exact L.call KX hns hb hbb hlim hg ha hr F hbind (hsp H L.only (.inl (.inr ⟨_, yes⟩)))
end
/-- the goal that the head leaves -/
theorem walkG {l : PySem.W.OpenLaw} {n k : Nat} {q : Program} {loose : List Str} {XP : (Str → Option Value) → Heap → Prop}
    {YP : World → Heap → Prop} {d : DefRec} {K : Params → PySem.W.Frag} {sp : PySem.W.Frag → Sp} {x : Str}
    (hn : l.most = some n) (hn2 : n ≤ sizeLine) (hdf : d.params.defaults = []) (hr : Room k callerA)
    (hY : ∀ (w : World) (h : Heap), YP w h → (K w.params).In h)
    (F : ∀ (w : World) (mg : Str → Option Value) (fa : Addr) (h : Heap), (K w.params).In h → h.Ns mainGlobals mg →
      mg d.name = some (.ref fa) → ∃ fd : FuncData, (∀ (s : Shared) (u : Value), BindsTo s fd ⟨[u], []⟩ [(x, u)]) ∧
        ∀ base : Heap, (K w.params).In base → base.Ns mainGlobals mg → FnG l.prog w (K w.params) mg base CX0 k fa fd [x] (sp (K w.params)))
    (hsp : ∀ (K : PySem.W.Frag) (H : Hp) (a : Addr) (ns : List Int), ns.length ≤ n → Only H → SqL K H a (ns.map V.int) →
      sp K [.ref a] H (fun v _ => v = .bl true) fun _ _ _ => False) :
    PySem.W.WalkO q loose XP YP l.row.toRowW d [] (fun f vs => PySem.call f vs) := by
  refine Att.attach_call hn hdf ?_
  intro w s₀ s₁ mg mb fa o pm cd doc a vs ns G Y ho hd hcd hmg hobj hints hlen hg
  have KX := hY w _ Y
  obtain ⟨fd, hb, hF⟩ := F w mg fa _ KX G.T.g hmg
  exact callG KX G.T.g G.T.b G.T.builtins G.T.nolimit hg hobj hints (Nat.le_trans hlen hn2) hr hF hb
    fun H hO hS => hsp (K w.params) H a ns hlen hO hS
end Ts

namespace Ts
open PySem PySem.Spec PyProof.Rows L2

/-! ### links between heaps -/
/-- all that stood stands, but what is at l -/
def Kp (l : Addr) (H H' : Hp) : Prop := ∀ a o, a ≠ l → H a = some o → H' a = some o
/-- all that stood stands -/
abbrev Ex (H H' : Hp) : Prop := Evl.Ex H H'
theorem Ex.kp {l : Addr} {H H' : Hp} (e : Ex H H') : Kp l H H' := fun a o _ h => e a o h
theorem Kp.refl (l : Addr) (H : Hp) : Kp l H H := fun _ _ _ h => h
theorem Kp.trans {l : Addr} {H H1 H2 : Hp} (a : Kp l H H1) (b : Kp l H1 H2) : Kp l H H2 := fun x o n h => b x o n (a x o n h)
theorem Kp.ex {l : Addr} {H H1 H2 : Hp} (a : Kp l H H1) (b : Ex H1 H2) : Kp l H H2 := a.trans b.kp
theorem Kp.upd {l : Addr} {H : Hp} {o : HO} : Kp l H (upd H l o) := fun a u n h => by rw [upd_ne n]; exact h
theorem Kp.L {K : PySem.W.Frag} {l a : Addr} {H H' : Hp} {xs : List V} (k : Kp l H H') (n : a ≠ l) (h : SqL K H a xs) : SqL K H' a xs := by
  rcases h with (h | ⟨o, h⟩) | h
  · exact .inl (.inl (k _ _ n h))
  · exact .inl (.inr ⟨o, k _ _ n h⟩)
  · exact .inr h
theorem Kp.at {l a : Addr} {H H' : Hp} {o : HO} (k : Kp l H H') (n : a ≠ l) (h : H a = some o) : H' a = some o := k _ _ n h
theorem Kp.T {K : PySem.W.Frag} {l a : Addr} {H H' : Hp} {xs : List V} (k : Kp l H H') (n : a ≠ l) (h : SqT K H a xs) : SqT K H' a xs := by
  rcases h with (h | ⟨o, h⟩) | h
  · exact .inl (.inl (k _ _ n h))
  · exact .inl (.inr ⟨o, k _ _ n h⟩)
  · exact .inr h
/-- at l stands neither a list nor a tuple: any of those stays -/
def Od (H : Hp) (l : Addr) : Prop := ∃ kvs, H l = some (.dK kvs)
theorem Kp.Ld {K : PySem.W.Frag} {l a : Addr} {H H' : Hp} {xs : List V} (k : Kp l H H') (d : Od H l) (h : SqL K H a xs) : SqL K H' a xs := by
  obtain ⟨kvs, d⟩ := d
  rcases h with (h | ⟨o, h⟩) | h
  · exact .inl (.inl (k _ _ (fun e => by subst e; rw [d] at h; cases h) h))
  · exact .inl (.inr ⟨o, k _ _ (fun e => by subst e; rw [d] at h; cases h) h⟩)
  · exact .inr h
theorem Kp.Td {K : PySem.W.Frag} {l a : Addr} {H H' : Hp} {xs : List V} (k : Kp l H H') (d : Od H l) (h : SqT K H a xs) : SqT K H' a xs := by
  obtain ⟨kvs, d⟩ := d
  rcases h with (h | ⟨o, h⟩) | h
  · exact .inl (.inl (k _ _ (fun e => by subst e; rw [d] at h; cases h) h))
  · exact .inl (.inr ⟨o, k _ _ (fun e => by subst e; rw [d] at h; cases h) h⟩)
  · exact .inr h
theorem Kp.atL {l a : Addr} {H H' : Hp} {xs : List V} (k : Kp l H H') (d : Od H l) (h : H a = some (.lst xs)) : H' a = some (.lst xs) := by
  obtain ⟨kvs, d⟩ := d
  exact k _ _ (fun e => by subst e; rw [d] at h; cases h) h
theorem Kp.atT {l a : Addr} {H H' : Hp} {xs : List V} (k : Kp l H H') (d : Od H l) (h : H a = some (.tup xs)) : H' a = some (.tup xs) := by
  obtain ⟨kvs, d⟩ := d
  exact k _ _ (fun e => by subst e; rw [d] at h; cases h) h
theorem Ex.L {K : PySem.W.Frag} {a : Addr} {H H' : Hp} {xs : List V} (e : Ex H H') (h : SqL K H a xs) : SqL K H' a xs := Evl.ex_l e h
theorem Ex.T {K : PySem.W.Frag} {a : Addr} {H H' : Hp} {xs : List V} (e : Ex H H') (h : SqT K H a xs) : SqT K H' a xs := Evl.ex_t e h
theorem Ex.at {H H' : Hp} {a : Addr} {o : HO} (e : Ex H H') (h : H a = some o) : H' a = some o := e a o h
theorem SqL.at {K : PySem.W.Frag} {H : Hp} {a : Addr} {xs : List V} (h : H a = some (.lst xs)) : SqL K H a xs := .inl (.inl h)
theorem SqT.at {K : PySem.W.Frag} {H : Hp} {a : Addr} {xs : List V} (h : H a = some (.tup xs)) : SqT K H a xs := .inl (.inl h)

/-! ### reading, construct by construct -/
section
variable {σ : L2.St} {H H1 : Hp} {Q : VK} {QA : List V → Hp → Prop} {QT : Bool → Hp → Prop} {ta tb te td ty tv : TE} {t tr : TA} {v x y : V} {i : Nat} {r : R2}
  {D : Ends} {ts tu : TS} {tc td' : TT} {K : PySem.W.Frag} {m n : Int} {a : Addr} {xs : List V}
/-- a test's answer; a branch by it -/
def IsB (x : V) (H : Hp) (Q : Bool → Hp → Prop) : Prop := ∃ k, x = .bl k ∧ Q k H
def IfB (b : Bool) (A B : Prop) : Prop := if b = true then A else B
def New (H : Hp) (o : HO) (Q : V → Hp → Prop) : Prop := ∀ p, H p = none → Q (.ref p) (upd H p o)
theorem r_var (h : σ[i]? = some (some v)) (q : Q v H) : tVar i σ H Q := ⟨v, h, q⟩
theorem r_c (q : Q v H) : tC v σ H Q := q
theorem r_op (q : ta σ H fun x H1 => tb σ H1 fun y H2 => r x y H2 Q) : tOp r ta tb σ H Q := q
theorem r_un {r : V → Hp → VK → Prop} (q : ta σ H fun x H1 => r x H1 Q) : tUn r ta σ H Q := q
theorem r_cb {r : List V → Hp → VK → Prop} (q : t σ H fun vs H1 => r vs H1 Q) : tCB r t σ H Q := q
theorem r_nil (q : QA [] H) : tNil σ H QA := q
theorem r_cons (q : ta σ H fun x H1 => tr σ H1 fun xs H2 => QA (x :: xs) H2) : tCons ta tr σ H QA := q
theorem r_call {sp : Sp} {E : XK} (q : t σ H fun vs H1 => sp vs H1 Q E) : tCall sp [] E t σ H Q := by
  show t σ H fun vs H1 => sp (vs ++ []) H1 Q E
  have e : (fun (vs : List V) (H1 : Hp) => sp (vs ++ []) H1 Q E) = fun vs H1 => sp vs H1 Q E := by
    funext vs H1
    rw [List.append_nil]
  rw [e]
  exact q
theorem r_lst (q : t σ H fun xs H1 => xs.length ≤ sizeLine ∧ New H1 (.lst xs) Q) : tLst t σ H Q := q
theorem r_tup (q : t σ H fun xs H1 => xs.length ≤ sizeLine ∧ New H1 (.tup xs) Q) : tTup t σ H Q := q
theorem r_new {o : HO} (h : ∀ p H1, H p = none → Ex H H1 → H1 p = some o → Q (.ref p) H1) : New H o Q :=
  fun p np => h p _ np (Evl.Ex.new np) upd_same
theorem r_if (q : tc σ H fun b H1 => IfB b (ts D σ H1) (tu D σ H1)) : tIfS tc ts tu D σ H := q
theorem r_ifx (q : tc σ H fun b H1 => IfB b (ta σ H1 Q) (tb σ H1 Q)) : tIf tc ta tb σ H Q := q
theorem r_T {A B : Prop} (h : A) : IfB true A B := by
  unfold IfB
  rw [if_pos rfl]
  exact h
theorem r_F {A B : Prop} (h : B) : IfB false A B := by
  unfold IfB
  rw [if_neg Bool.false_ne_true]
  exact h
theorem r_dec {p A B : Prop} {_ : Decidable p} (h1 : p → A) (h2 : ¬ p → B) : IfB (decide p) A B := by
  by_cases h : p
  · rw [decide_eq_true h]; exact r_T (h1 h)
  · rw [decide_eq_false h]; exact r_F (h2 h)
theorem r_decN {p A B : Prop} {_ : Decidable p} (h1 : ¬ p → A) (h2 : p → B) : IfB (!decide p) A B := by
  by_cases h : p
  · rw [decide_eq_true h]; exact r_F (h2 h)
  · rw [decide_eq_false h]; exact r_T (h1 h)
theorem r_any {b : Bool} {A B : Prop} (h1 : b = true → A) (h2 : b = false → B) : IfB b A B := by
  cases b with
  | true => exact r_T (h1 rfl)
  | false => exact r_F (h2 rfl)
theorem r_test (q : te σ H fun x H1 => IsB x H1 QT) : tTest te σ H QT := q
theorem r_tB (q : te σ H fun x H1 => IsB x H1 QT) : tB te σ H QT := q
theorem r_isb {b : Bool} (q : QT b H) : IsB (.bl b) H QT := ⟨b, rfl, q⟩
theorem r_and (q : tc σ H fun c H1 => IfB c (td' σ H1 QT) (QT false H1)) : tAnd tc td' σ H QT := q
theorem r_or (q : tc σ H fun c H1 => IfB c (QT true H1) (td' σ H1 QT)) : tOr tc td' σ H QT := q
theorem r_not (q : tc σ H fun c H1 => QT (!c) H1) : tNot tc σ H QT := q
theorem r_andV (q : ta σ H fun x H1 => IsB x H1 fun c H2 => IfB c (tb σ H2 Q) (Q (.bl false) H2)) : tAndV ta tb σ H Q := by
  exact q
theorem r_orV (q : ta σ H fun x H1 => IsB x H1 fun c H2 => IfB c (Q (.bl true) H2) (tb σ H2 Q)) : tOrV ta tb σ H Q := q
theorem r_notV (q : ta σ H fun x H1 => IsB x H1 fun c H2 => Q (.bl (!c)) H2) : tNotV ta σ H Q := q
theorem r_seq (q : ts { D with nx := tu D } σ H) : tSeq ts tu D σ H := q
theorem r_next (q : D.nx σ H) : tNext D σ H := q
theorem r_brk (q : D.bk σ H) : tBreak D σ H := q
theorem r_cont (q : D.ct σ H) : tCont D σ H := q
theorem r_ret (q : te σ H D.rt) : tRet te D σ H := q
theorem r_retN (q : D.rt .non H) : tRetN D σ H := q
theorem r_drop (q : te σ H fun _ H1 => D.nx σ H1) : tDrop te D σ H := q
theorem r_set (q : te σ H fun v H1 => D.nx (σ.set i (some v)) H1) : tAsg te (gName i) D σ H := q
theorem r_asg {g : TG} (q : te σ H fun v H1 => g v σ H1 D.nx) : tAsg te g D σ H := q
theorem r_gname {QS : L2.St → Hp → Prop} (q : QS (σ.set i (some v)) H) : gName i v σ H QS := q
theorem r_aug {ti : TIp} (h : σ[i]? = some (some x)) (q : te σ H fun y H1 => ti x y H1 fun z H2 => D.nx (σ.set i (some z)) H2) : tAug i te ti D σ H := ⟨x, h, q⟩
-- whole numbers
theorem r_I0 {g : Int → Int → V} (q : Q (g m n) H) : rI0 g (.int m) (.int n) H Q := ⟨m, n, rfl, rfl, q⟩
theorem r_I {C : Int → Int → Prop} {g : Int → Int → V} (c : C m n) (q : Q (g m n) H) : rI C g (.int m) (.int n) H Q := ⟨m, n, rfl, rfl, c, q⟩
theorem r_U {g : Int → V} (q : Q (g m) H) : rU g (.int m) H Q := ⟨m, rfl, q⟩
theorem r_ipI {f : Int → Int → Int} (q : Q (.int (f m n)) H) : ipI f (.int m) (.int n) H Q := ⟨m, n, rfl, rfl, q⟩
theorem r_eqI (q : Q (.bl (decide (m = n))) H) : rEq (.int m) (.int n) H Q := ⟨rfl, by
  rw [show decide (V.int m = V.int n) = decide (m = n) from by simp]
  exact q⟩
theorem r_neI (q : Q (.bl (!decide (m = n))) H) : rNe (.int m) (.int n) H Q := ⟨rfl, by
  rw [show decide (V.int m = V.int n) = decide (m = n) from by simp]
  exact q⟩
theorem r_eqS {m n : Str} (q : Q (.bl (decide (m = n))) H) : rEq (.str m) (.str n) H Q := ⟨rfl, by
  rw [show decide (V.str m = V.str n) = decide (m = n) from by simp]
  exact q⟩
theorem r_neS {m n : Str} (q : Q (.bl (!decide (m = n))) H) : rNe (.str m) (.str n) H Q := ⟨rfl, by
  rw [show decide (V.str m = V.str n) = decide (m = n) from by simp]
  exact q⟩
theorem r_eqB {m n : Bool} (q : Q (.bl (decide (m = n))) H) : rEq (.bl m) (.bl n) H Q := ⟨rfl, by
  rw [show decide (V.bl m = V.bl n) = decide (m = n) from by simp]
  exact q⟩
theorem r_neB {m n : Bool} (q : Q (.bl (!decide (m = n))) H) : rNe (.bl m) (.bl n) H Q := ⟨rfl, by
  rw [show decide (V.bl m = V.bl n) = decide (m = n) from by simp]
  exact q⟩
-- lists
theorem r_ixL (h : SqL K H a xs) (e : atI xs m = some v) (q : Q v H) : rIxL K (.ref a) (.int m) H Q := ⟨a, xs, m, v, rfl, rfl, h, e, q⟩
theorem r_ixT (h : SqT K H a xs) (e : atI xs m = some v) (q : Q v H) : rIxT K (.ref a) (.int m) H Q := ⟨a, xs, m, v, rfl, rfl, h, e, q⟩
theorem r_slL {lo hi : Option Int} (h : SqL K H a xs) (q : New H (.lst (cutV xs lo hi)) Q) : rSlL K (.ref a) lo hi H Q := ⟨a, xs, rfl, h, q⟩
theorem r_sl {r : V → Option Int → Option Int → Hp → VK → Prop} {tl th : TO} (q : te σ H fun x H1 => tl σ H1 fun l H2 => th σ H2 fun u H3 => r x l u H3 Q) : tSl r te tl th σ H Q := q
theorem r_noP {QO : Option Int → Hp → Prop} (q : QO none H) : tNoPart σ H QO := q
/-- a whole number as a slice's end -/
def IsI (x : V) (H : Hp) (Q : Option Int → Hp → Prop) : Prop := ∃ k, x = .int k ∧ Q (some k) H
theorem r_part {QO : Option Int → Hp → Prop} (q : te σ H fun x H1 => IsI x H1 QO) : tPart te σ H QO := q
theorem r_isi {QO : Option Int → Hp → Prop} (q : QO (some m) H) : IsI (.int m) H QO := ⟨m, rfl, q⟩
-- built-ins by name
def rAbs : List V → Hp → VK → Prop := fun xs H Q => ∃ i, xs = [.int i] ∧ Q (.int (if i < 0 then -i else i)) H
def rMax2 : List V → Hp → VK → Prop := fun xs H Q => ∃ i j, xs = [.int i, .int j] ∧ Q (.int (if j > i then j else i)) H
def rMin2 : List V → Hp → VK → Prop := fun xs H Q => ∃ i j, xs = [.int i, .int j] ∧ Q (.int (if j < i then j else i)) H
def rLenQ (K : PySem.W.Frag) : List V → Hp → VK → Prop := fun xs H Q => ∃ p ys, xs = [.ref p] ∧ (SqL K H p ys ∨ SqT K H p ys) ∧ Q (.int ys.length) H
def rLenS : List V → Hp → VK → Prop := fun xs H Q => ∃ z, xs = [.str z] ∧ z.length ≤ sizeLine ∧ Q (.int z.length) H
theorem r_abs (q : Q (.int (m.natAbs : Int)) H) : rAbs [.int m] H Q := ⟨m, rfl, by
  rw [show (if m < 0 then -m else m) = (m.natAbs : Int) by split <;> omega]
  exact q⟩
theorem r_max2 (q : Q (.int (max m n)) H) : rMax2 [.int m, .int n] H Q := ⟨m, n, rfl, by
  rw [show (if n > m then n else m) = max m n by split <;> omega]
  exact q⟩
theorem r_min2 (q : Q (.int (min m n)) H) : rMin2 [.int m, .int n] H Q := ⟨m, n, rfl, by
  rw [show (if n < m then n else m) = min m n by split <;> omega]
  exact q⟩
theorem r_lenL (h : SqL K H a xs) (q : Q (.int xs.length) H) : rLenQ K [.ref a] H Q := ⟨a, xs, rfl, .inl h, q⟩
theorem r_lenT (h : SqT K H a xs) (q : Q (.int xs.length) H) : rLenQ K [.ref a] H Q := ⟨a, xs, rfl, .inr h, q⟩
theorem r_lenS {z : Str} (h : z.length ≤ sizeLine) (q : Q (.int z.length) H) : rLenS [.str z] H Q := ⟨z, rfl, h, q⟩
theorem r_repr {d : PyData} (h : Dp K H v d) (s : Sh d) (q : Q (.str d.shown) H) : rRepr K [v] H Q := ⟨v, d, rfl, h, s, q⟩
theorem lt_small {n : Nat} (h : decide (n < 1000) = true) : n < sizeLine := Nat.lt_of_lt_of_le (of_decide_eq_true h) (by decide)
theorem le_small {n : Nat} (h : decide (n < 1000) = true) : n ≤ sizeLine := Nat.le_of_lt (lt_small h)
theorem r_lenLI {ns : List Int} (h : SqL K H a (ns.map V.int)) (q : Q (.int ns.length) H) : rLenQ K [.ref a] H Q := r_lenL h (by rw [List.length_map]; exact q)
theorem r_ixLI {ns : List Int} (h : SqL K H a (ns.map V.int)) (c : 0 ≤ m) (c2 : m < ns.length) (q : ∀ z, ns[m.toNat]? = some z → Q (.int z) H) : rIxL K (.ref a) (.int m) H Q := by
  have hl : m.toNat < ns.length := by omega
  refine r_ixL (v := .int ns[m.toNat]) h ?_ (q _ (List.getElem?_eq_getElem hl))
  exact at_of (j := m.toNat) (by omega) (by rw [List.getElem?_map, List.getElem?_eq_getElem hl]; rfl)
-- loops
def ForK (J : It) (g : TG) (tb : TS) (D : Ends) (σ : L2.St) (H : Hp) : Prop := ∃ W : Nat → Nat → L2.St → Hp → Prop, (∃ m, W 0 m σ H) ∧ ∀ i m σ H, W i m σ H →
  (J.stop i H ∧ D.nx σ H) ∨ (J.go i H ∧ ∃ N : L2.St → Hp → Prop, (∀ σ' H', N σ' H' → ∃ m', m' < m ∧ W (i + 1) m' σ' H') ∧ ∀ x H', J.yld i H x H' → g x σ H' fun σ2 H2 => tb { D with nx := N, ct := N, bk := D.nx } σ2 H2)
theorem r_for {wi : TI} {g : TG} {tb : TS} (q : wi σ H fun J H1 => ForK J g tb D σ H1) : tFor wi g tb D σ H := q
def Rng1 (vs : List V) (H : Hp) (R : It → Hp → Prop) : Prop := ∃ j : Int, vs = [.int j] ∧ -(2 ^ 62) ≤ j ∧ j < 2 ^ 62 ∧ R (Itr 0 j.toNat) H
def Rng2 (vs : List V) (H : Hp) (R : It → Hp → Prop) : Prop := ∃ i j : Int, vs = [.int i, .int j] ∧ (-(2 ^ 62) ≤ i ∧ i < 2 ^ 62 ∧ -(2 ^ 62) ≤ j ∧ j < 2 ^ 62) ∧ R (Itr i (j - i).toNat) H
theorem r_rng1 {R : It → Hp → Prop} (q : t σ H fun vs H1 => Rng1 vs H1 R) : iRng1 t σ H R := q
theorem r_rng2 {R : It → Hp → Prop} (q : t σ H fun vs H1 => Rng2 vs H1 R) : iRng2 t σ H R := q
theorem r_rng1v {R : It → Hp → Prop} (c : -(2 ^ 62) ≤ m) (c2 : m < 2 ^ 62) (q : R (Itr 0 m.toNat) H) : Rng1 [.int m] H R := ⟨m, rfl, c, c2, q⟩
theorem r_rng2v {R : It → Hp → Prop} (c : -(2 ^ 62) ≤ m) (c2 : m < 2 ^ 62) (c3 : -(2 ^ 62) ≤ n) (c4 : n < 2 ^ 62) (q : R (Itr m (n - m).toNat) H) : Rng2 [.int m, .int n] H R := ⟨m, n, rfl, ⟨c, c2, c3, c4⟩, q⟩
def IsL (K : PySem.W.Frag) (x : V) (H : Hp) (R : It → Hp → Prop) : Prop := ∃ a, x = .ref a ∧ (∃ xs, SqL K H a xs) ∧ R (Itl K a) H
def IsT (K : PySem.W.Frag) (x : V) (H : Hp) (R : It → Hp → Prop) : Prop := ∃ a, x = .ref a ∧ (∃ xs, SqT K H a xs) ∧ R (Itt K a) H
theorem r_ilist {R : It → Hp → Prop} (q : te σ H fun x H1 => IsL K x H1 R) : iList K te σ H R := q
theorem r_itup {R : It → Hp → Prop} (q : te σ H fun x H1 => IsT K x H1 R) : iTup K te σ H R := q
theorem r_isl {R : It → Hp → Prop} (h : SqL K H a xs) (q : R (Itl K a) H) : IsL K (.ref a) H R := ⟨a, rfl, ⟨xs, h⟩, q⟩
theorem r_ist {R : It → Hp → Prop} (h : SqT K H a xs) (q : R (Itt K a) H) : IsT K (.ref a) H R := ⟨a, rfl, ⟨xs, h⟩, q⟩
theorem f_range {lo : Int} {n : Nat} {g : TG} {tb : TS} (Pv : Nat → L2.St → Hp → Prop) (h0 : Pv 0 σ H)
    (hs : ∀ i σ H, i < n → Pv i σ H → g (.int (lo + i)) σ H fun σ2 H2 => tb { D with nx := Pv (i + 1), ct := Pv (i + 1), bk := D.nx } σ2 H2)
    (hd : ∀ σ H, Pv n σ H → D.nx σ H) : ForK (Itr lo n) g tb D σ H := for_range Pv h0 hs hd
theorem f_list {g : TG} {tb : TS} (xs : List V) (Pv : Nat → L2.St → Hp → Prop) (h0 : Pv 0 σ H) (hl : ∀ i σ H, i ≤ xs.length → Pv i σ H → SqL K H a xs)
    (hs : ∀ i x σ H, xs[i]? = some x → Pv i σ H → g x σ H fun σ2 H2 => tb { D with nx := Pv (i + 1), ct := Pv (i + 1), bk := D.nx } σ2 H2)
    (hd : ∀ σ H, Pv xs.length σ H → D.nx σ H) : ForK (Itl K a) g tb D σ H := for_list Pv h0 hl hs hd
theorem f_tup {g : TG} {tb : TS} (xs : List V) (Pv : Nat → L2.St → Hp → Prop) (h0 : Pv 0 σ H) (hl : ∀ i σ H, i ≤ xs.length → Pv i σ H → SqT K H a xs)
    (hs : ∀ i x σ H, xs[i]? = some x → Pv i σ H → g x σ H fun σ2 H2 => tb { D with nx := Pv (i + 1), ct := Pv (i + 1), bk := D.nx } σ2 H2)
    (hd : ∀ σ H, Pv xs.length σ H → D.nx σ H) : ForK (Itt K a) g tb D σ H := for_tup Pv h0 hl hs hd
-- dict displays, lists joined
def MkD (p : Addr) (ps : List (V × V)) (H : Hp) (Q : VK) : Prop := H p = some (.dK []) ∧ ∃ kvs : List (Key × V), ps = kvs.map (fun kv => (kV kv.1, kv.2)) ∧ kvs.length ≤ 15 ∧ Q (.ref p) (upd H p (.dK (mergeK [] kvs)))
theorem r_disp {trs : List (TE × TE)} (q : ∀ p H1, H p = none → Ex H H1 → H1 p = some (.dK []) → tPairs trs σ H1 fun ps H2 => MkD p ps H2 Q) : tDisp trs σ H Q := fun p np => q p _ np (Evl.Ex.new np) upd_same
theorem r_pnil {QP : List (V × V) → Hp → Prop} (q : QP [] H) : tPairs [] σ H QP := q
theorem r_pcons {r : List (TE × TE)} {QP : List (V × V) → Hp → Prop} (q : ta σ H fun x H1 => tb σ H1 fun y H2 => tPairs r σ H2 fun ps H3 => QP ((x, y) :: ps) H3) : tPairs ((ta, tb) :: r) σ H QP := q
theorem r_mkd {p : Addr} {ps : List (V × V)} (kvs : List (Key × V)) {kw : List (Key × V)} (h : H p = some (.dK [])) (e : ps = kvs.map (fun kv => (kV kv.1, kv.2))) (l : kvs.length ≤ 15) (e2 : mergeK [] kvs = kw)
    (q : ∀ H1, Kp p H H1 → H1 p = some (.dK kw) → Q (.ref p) H1) : MkD p ps H Q := ⟨h, kvs, e, l, q _ Kp.upd (by rw [e2, upd_same])⟩
theorem r_cat {b : Addr} {ys : List V} (h1 : H a = some (.lst xs)) (h2 : H b = some (.lst ys)) (l : xs.length + ys.length ≤ sizeLine) (q : New H (.lst (xs ++ ys)) Q) : rCat (.ref a) (.ref b) H Q :=
  ⟨a, b, xs, ys, rfl, rfl, h1, h2, l, q⟩
/-- all of them whole numbers within the ends -/
def AllI (lo hi : Int) : List V → Prop
  | [] => True
  | .int z :: r => (lo ≤ z ∧ z ≤ hi) ∧ AllI lo hi r
  | _ :: _ => False
theorem AllI.at {lo hi : Int} : ∀ {xs : List V} {v : V}, AllI lo hi xs → v ∈ xs → ∃ z, v = .int z ∧ lo ≤ z ∧ z ≤ hi
  | [], _, _, h => by cases h
  | .int z :: r, v, a, h => by
    rcases List.mem_cons.mp h with rfl | h
    · exact ⟨z, rfl, a.1.1, a.1.2⟩
    · exact AllI.at a.2 h
  | .non :: _, _, a, _ => a.elim
  | .bl _ :: _, _, a, _ => a.elim
  | .str _ :: _, _, a, _ => a.elim
  | .byt _ :: _, _, a, _ => a.elim
  | .flt _ :: _, _, a, _ => a.elim
  | .ref _ :: _, _, a, _ => a.elim
  | .ty _ :: _, _, a, _ => a.elim
theorem r_ixM (h : SqL K H a xs) (c : 0 ≤ m) (c2 : m < xs.length) (q : ∀ v, v ∈ xs → Q v H) : rIxL K (.ref a) (.int m) H Q := by
  have hl : m.toNat < xs.length := by omega
  exact r_ixL (v := xs[m.toNat]) h (at_of (j := m.toNat) (by omega) (List.getElem?_eq_getElem hl)) (q _ (List.getElem_mem hl))
theorem r_ixB {lo hi : Int} (h : SqL K H a xs) (c : 0 ≤ m) (c2 : m < xs.length) (al : AllI lo hi xs) (q : ∀ z, lo ≤ z → z ≤ hi → Q (.int z) H) : rIxL K (.ref a) (.int m) H Q :=
  r_ixM h c c2 fun v hv => by
    obtain ⟨z, rfl, z1, z2⟩ := al.at hv
    exact q z z1 z2
-- arithmetic under conditions
theorem r_mod (c : 0 < n) (q : Q (.int (m % n)) H) : rI (fun _ j => 0 < j) (fun i j => .int (i % j)) (.int m) (.int n) H Q := ⟨m, n, rfl, rfl, c, q⟩
theorem r_modF (c : 0 < n) (q : ∀ r, 0 ≤ r → r < n → Q (.int r) H) : rI (fun _ j => 0 < j) (fun i j => .int (i % j)) (.int m) (.int n) H Q :=
  ⟨m, n, rfl, rfl, c, q _ (Int.emod_nonneg _ (by omega)) (Int.emod_lt_of_pos _ c)⟩
theorem r_div (c : 0 < n) (c2 : n < 1073741824) (q : Q (.int (m / n)) H) : rI CDiv (fun i j => .int (i / j)) (.int m) (.int n) H Q := ⟨m, n, rfl, rfl, ⟨c, c2⟩, q⟩
theorem r_divF (c : 0 < n) (c2 : n < 1073741824) (c3 : 0 ≤ m) (q : ∀ r, 0 ≤ r → r ≤ m → Q (.int r) H) : rI CDiv (fun i j => .int (i / j)) (.int m) (.int n) H Q :=
  ⟨m, n, rfl, rfl, ⟨c, c2⟩, q _ (Int.ediv_nonneg c3 (by omega)) (Int.ediv_le_self _ c3)⟩
theorem r_mulL (c : -(2 ^ 64) < m) (c2 : m < 2 ^ 64) (q : Q (.int (m * n)) H) : rI CMul (fun i j => .int (i * j)) (.int m) (.int n) H Q := ⟨m, n, rfl, rfl, .inl ⟨c, c2⟩, q⟩
theorem r_mulR (c : -(2 ^ 64) < n) (c2 : n < 2 ^ 64) (q : Q (.int (m * n)) H) : rI CMul (fun i j => .int (i * j)) (.int m) (.int n) H Q := ⟨m, n, rfl, rfl, .inr ⟨c, c2⟩, q⟩
theorem r_pow (c : 0 ≤ n) (c2 : n ≤ 1000000) (c3 : -(2 ^ 64) < m) (c4 : m < 2 ^ 64) (q : Q (.int (m ^ n.toNat)) H) : rI CPow (fun i j => .int (i ^ j.toNat)) (.int m) (.int n) H Q :=
  ⟨m, n, rfl, rfl, ⟨c, c2, by omega⟩, q⟩
-- dicts by written keys
def GetD (x y : V) (H : Hp) (Q : VK) : Prop := ∃ a v, x = .ref a ∧ DGet H a y (some v) ∧ Q v H
def PutD (x y v : V) (H : Hp) (C : Hp → Prop) : Prop := ∃ a H4, x = .ref a ∧ DPut H a y v H4 ∧ C H4
theorem r_dget (q : td σ H fun x H1 => ty σ H1 fun y H2 => GetD x y H2 Q) : tDGet td ty σ H Q := q
theorem r_dput (q : tv σ H fun v H1 => td σ H1 fun x H2 => ty σ H2 fun y H3 => PutD x y v H3 (D.nx σ)) : sDPut td ty tv D σ H := q
theorem g_dk {k : Str} {kvs : List (Key × V)} (h : H a = some (.dK kvs)) (e : valV kvs (Sum.inr k) = some v) (q : Q v H) : GetD (.ref a) (.str k) H Q :=
  ⟨a, v, rfl, by rw [← e]; exact DGet.k (k := Sum.inr k) h, q⟩
theorem p_dk {k : Str} {kvs kvs' : List (Key × V)} {C : Hp → Prop} (h : H a = some (.dK kvs)) (hl : kvs.length < sizeLine) (e : putK kvs (Sum.inr k) v = kvs')
    (q : ∀ H', Kp a H H' → H' a = some (.dK kvs') → C H') : PutD (.ref a) (.str k) v H C :=
  ⟨a, _, rfl, DPut.k (k := Sum.inr k) h hl, q _ Kp.upd (by rw [e, upd_same])⟩
end
section
variable {X : Cx}
theorem c_abs : CallR X (.builtin "abs") rAbs := call_abs
theorem c_max2 (hc : X.calm = true) : CallR X (.builtin "max") rMax2 := call_max2 hc
theorem c_min2 (hc : X.calm = true) : CallR X (.builtin "min") rMin2 := call_min2 hc
theorem c_lenQ : CallR X (.builtin "len") (rLenQ X.K) := call_len_seq
theorem c_lenS : CallR X (.builtin "len") rLenS := call_len_str
end
end Ts

namespace Ts
open PySem PySem.Spec PyProof.Rows L2
abbrev kC : Key := Sum.inr ("cells" : Str)
abbrev kA : Key := Sum.inr ("at" : Str)
abbrev kL : Key := Sum.inr ("left" : Str)
theorem kAC : ¬ kC = kA := by decide
theorem kLC : ¬ kC = kL := by decide
theorem kLA : ¬ kA = kL := by decide
abbrev penK (c : Addr) (n l : Int) : List (Key × V) := [(kC, .ref c), (kA, .int n), (kL, .int l)]
theorem pen_c (c : Addr) (n l : Int) : valV (penK c n l) kC = some (.ref c) := by
  rw [valV_pos rfl]
theorem pen_a (c : Addr) (n l : Int) : valV (penK c n l) kA = some (.int n) := by
  rw [valV_neg kAC, valV_pos rfl]
theorem pen_l (c : Addr) (n l : Int) : valV (penK c n l) kL = some (.int l) := by
  rw [valV_neg kLC, valV_neg kLA, valV_pos rfl]
theorem put_a (c : Addr) (n l m : Int) : putK (penK c n l) kA (.int m) = penK c m l := by rfl
theorem put_l (c : Addr) (n l m : Int) : putK (penK c n l) kL (.int m) = penK c n m := by rfl
theorem mergePen (c : Addr) (n l : Int) : mergeK [] (penK c n l) = penK c n l := by
  rfl
end Ts

namespace Ts
open PySem PySem.Spec PyProof.Rows L2
section
variable {X : Cx} {CX : CXT} {k n : Nat} {f : Addr} {fd : FuncData} {ps ks : List Str} {sp : Sp} {E : XK} {x : Str} {p pos : Pos}
  {kws : List Keyword} {t tk : TA} {g : List Value → List Value → List Value} {gV : List V → List V → List V}
/-- f(k = v, ..) -/
def tCallN0 (m : Nat) (sp : Sp) (gV : List V → List V → List V) (E : XK) (tk : TA) : TE := fun σ H Q => tk σ H fun zs H2 => zs.length = m ∧ sp (gV [] zs) H2 Q E
theorem pe_callN0 (F : FnOk X.prog X.w X.K X.mg X.base CX k f fd ps sp) (hr : Room k X.A) (hg : Gl X x)
    (hm : X.mg x = some (.ref f)) (hk : PySem.W.keepIn X.K (.ref f) = true) (hb : KBn X.K fd ps 0 ks g gV)
    (hx : Passes CX X E) (hkw : PK X kws tk)
    (hall : (backToKw pos (keywordEach kws X.env)).all (·.1.isSome) = true := by rfl)
    (hks : (backToKw pos (keywordEach kws X.env)).filterMap (·.1) = ks := by rfl)
    (hdb : (x == ("__debug__" : Str)) = false := by decide)
    (hpl : ((backTo pos (starEach [] X.env)).any (·.1) || (backToKw pos (keywordEach kws X.env)).any (·.1.isNone)) = false := by rfl) :
    PE X (.Call (.Name x p) [] kws pos) (tCallN0 ks.length sp gV E tk) := by
  refine ⟨fun pins s σ H Q I h => ?_⟩
  refine wpAny_Call_Name_kw (ld_glob I hg hm ?_ hdb)
  refine PySem.W.callWith_KW0 (h₀ := X.base) I.ok.mod.kin hk hall
    (thn (hkw.run pos pins s σ H _ I h) fun ws s2 ⟨zs, H2, I2, rz, l2, q2⟩ => ⟨I2.kIn, ?_⟩) hpl
  rw [hks]
  exact run_fnN (us := []) (vs := []) F hr hb hx I2 .nil rz rfl l2 q2
theorem pe_globE {y : Str} {v : V} {q : Pos} (hg : Gl X y) (hm : ∃ u, X.mg y = some u ∧ RelV v u) (hn : (y == ("__debug__" : Str)) = false := by decide) : PE X (.Name y q) (tC v) := by
  obtain ⟨u, h1, h2⟩ := hm
  exact pe_glob hg h1 h2 (hd := hn)
theorem r_neSame {a b : Str} {H : Hp} {Q : VK} (e : a = b) (q : Q (.bl false) H) : rNe (.str a) (.str b) H Q := by
  subst e
  exact r_neS (by rw [decide_eq_true rfl]; exact q)
theorem r_eqSame {a b : Str} {H : Hp} {Q : VK} (e : a = b) (q : Q (.bl true) H) : rEq (.str a) (.str b) H Q := by
  subst e
  exact r_eqS (by rw [decide_eq_true rfl]; exact q)
theorem r_callN {σ : L2.St} {H : Hp} {Q : VK} {m : Nat} (q : t σ H fun vs H1 => tk σ H1 fun zs H2 => vs.length = n ∧ zs.length = m ∧ sp (gV vs zs) H2 Q E) : tCallN n m sp gV E t tk σ H Q := q
theorem vals_take {vs : List V} {us : List Value} (r : Vals vs us) : ∀ n, Vals (vs.take n) (us.take n) := by
  intro n
  induction r generalizing n with
  | nil => simp only [List.take_nil]; exact .nil
  | cons a b ih =>
    cases n with
    | zero => exact .nil
    | succ n => exact .cons a (ih n)
def CallD (sp : Sp) (vs dvs : List V) (H : Hp) (Q : VK) (E : XK) : Prop := sp (vs ++ dvs) H Q E
theorem r_callD {σ : L2.St} {H : Hp} {Q : VK} {dvs : List V} (q : t σ H fun vs H1 => CallD sp vs dvs H1 Q E) : tCall sp dvs E t σ H Q := q
theorem r_cd1 {H : Hp} {Q : VK} {x : V} {dvs : List V} (q : sp (x :: dvs) H Q E) : CallD sp [x] dvs H Q E := q
theorem r_cd2 {H : Hp} {Q : VK} {x y : V} {dvs : List V} (q : sp (x :: y :: dvs) H Q E) : CallD sp [x, y] dvs H Q E := q
theorem r_cd3 {H : Hp} {Q : VK} {x y z : V} {dvs : List V} (q : sp (x :: y :: z :: dvs) H Q E) : CallD sp [x, y, z] dvs H Q E := q
theorem sh_int {i : Int} (h1 : -10000000000000000000000000000000000000000 < i) (h2 : i < 10000000000000000000000000000000000000000) : Sh (.int i) := by
  have hb : i.natAbs < 10 ^ 40 := by omega
  have hl : i.natAbs.log2 < 1920 := by
    rcases Nat.eq_zero_or_pos i.natAbs with h | h
    · rw [h]; decide
    · exact Nat.lt_trans ((Nat.log2_lt (by omega)).mpr (Nat.lt_trans hb (by decide : 10 ^ 40 < 2 ^ 140))) (by decide)
  refine ⟨hl, ?_, by simp only [PyData.depth]; decide⟩
  simp only [wt]
  exact int_text_fits hl
theorem r_callN0 {σ : L2.St} {H : Hp} {Q : VK} {m : Nat} (q : tk σ H fun zs H2 => zs.length = m ∧ sp (gV [] zs) H2 Q E) : tCallN0 m sp gV E tk σ H Q := q
end
section
variable {K : PySem.W.Frag} {x qual : Str} {params : Arguments} {body : List Stmt} {scope : Scope} {kws : List (Str × V)} {f : Addr} {fd : FuncData} {ps : List Str}
/-- keywords named ks of a def whose parameters behind * have defaults kws; ms: those that lack -/
theorem kb0 (F : FunD K x qual params body scope [] kws f fd) (n : Nat) (ks : List Str) (ms : List (Str × V))
    (g : {α : Type} → List α → List α → List α → List α) (hk : kws ≠ []) (hms : ∀ q ∈ ms, q ∈ kws)
    (hrel : ∀ {vs mz zs : List V} {us mv ws : List Value}, Vals vs us → Vals mz mv → Vals zs ws → Vals (g vs mz zs) (g us mv ws))
    (h : ∀ (D : Addr) (doc pm : Value) (an : Option Addr) (cdv ct : Value) (us mv ws : List Value), us.length = n → mv.length = ms.length → ws.length = ks.length →
      KwChain D ((ms.map (·.1)).zip mv) (bindArgs (PySem.W.fnOf x qual params body scope .none (.ref D) doc pm an cdv ct) ⟨us, ks.zip ws⟩) (ps.zip (g us mv ws))) :
    ∃ mv : List Value, KBn K fd ps n ks (fun us ws => g us mv ws) (fun vs zs => g vs (ms.map (·.2)) zs) := by
  obtain ⟨oc, od, dV, kV, doc, pm, an, cdv, ct, osl, rfl, lk, hcd, hD, hK⟩ := F.ex
  rcases hD with ⟨_, rfl⟩ | ⟨e, _⟩
  · rcases hK with e | ⟨D, rfl, hq⟩
    · exact (hk e).elim
    · obtain ⟨mv, hl, rk, hks⟩ := kwd_vals (ms := ms) fun q hm => hq q (hms q hm)
      refine ⟨mv, fun s us ws X l1 l2 => ?_, fun r1 r2 => hrel r1 rk r2⟩
      exact BindsTo.of_looks fun M => KwChain.looks X hks (h D doc pm an cdv ct us mv ws l1 hl l2)
  · exact (e rfl).elim
/-- keywords of a plain def -/
theorem kbF {st : Stmt} (F : Fun K x qual st f fd) (n : Nat) (ks : List Str) (g : {α : Type} → List α → List α → List α)
    (hrel : ∀ {vs zs : List V} {us ws : List Value}, Vals vs us → Vals zs ws → Vals (g vs zs) (g us ws))
    (h : ∀ (kV doc pm : Value) (an : Option Addr) (cdv ct : Value) (us ws : List Value), us.length = n → ws.length = ks.length →
      bindArgs (PySem.W.fnOf x qual (defArgs st) (defBody st) (defScope st) .none kV doc pm an cdv ct) ⟨us, ks.zip ws⟩ = pure (ps.zip (g us ws))) :
    KBn K fd ps n ks (fun us ws => g us ws) (fun vs zs => g vs zs) := by
  obtain ⟨oc, od, kV, doc, pm, an, cdv, ct, osl, rfl, lk, hcd⟩ := F.ex
  exact ⟨fun s us ws _ l1 l2 => .of_eq (h kV doc pm an cdv ct us ws l1 l2), fun r1 r2 => hrel r1 r2⟩
end
end Ts

namespace Ts
open PySem PySem.Spec PyProof.Rows L2
/-! ### data that can be shown, with its weight -/
structure OkW (d : PyData) (n k : Nat) : Prop where
  ok : okD d
  wt : wt d ≤ n
  dp : d.depth ≤ k
structure OkWs (ds : List PyData) (n k : Nat) : Prop where
  ok : okDs ds
  wt : wts ds ≤ n
  dp : PyData.depthAll ds ≤ k
theorem Sh.of {d : PyData} {n k : Nat} (h : OkW d n k) (hn : n ≤ sizeLine) (hk : k ≤ 60) : Sh d := ⟨h.ok, Nat.le_trans h.wt hn, Nat.le_trans h.dp hk⟩
theorem okw_int {i : Int} (h1 : -10000000000000000000000000000000000000000 < i) (h2 : i < 10000000000000000000000000000000000000000) : OkW (.int i) 41 0 := by
  have s := sh_int h1 h2
  refine ⟨s.ok, ?_, by simp only [PyData.depth]; decide⟩
  simp only [wt]
  rw [PySem.ofString_length]
  exact int_text_length_le10 (k := 40) (by decide) (by omega)
theorem okw_none : OkW .none 4 0 := ⟨trivial, by simp only [wt]; decide, by simp only [PyData.depth]; decide⟩
theorem okw_bool {b : Bool} : OkW (.bool b) 5 0 := ⟨trivial, by simp only [wt]; decide, by simp only [PyData.depth]; decide⟩
/-- a text of at most n plain signs -/
def okS (n : Nat) (x : Str) : Bool := decide (x.cps.toList.length ≤ n) && x.cps.toList.all fun c => decide (c < 1114112)
theorem okS.len {n : Nat} {x : Str} (h : okS n x = true) : x.length ≤ n := by
  unfold okS at h
  simp only [Bool.and_eq_true, decide_eq_true_eq] at h
  have e : x.cps.toList.length = x.length := by simp [Str.length]
  omega
theorem okS.lt {n : Nat} {x : Str} (h : okS n x = true) : ∀ c ∈ x.cps.toList, c < 16 ^ 8 := by
  unfold okS at h
  simp only [Bool.and_eq_true, List.all_eq_true, decide_eq_true_eq] at h
  intro c hc
  exact Nat.lt_trans (h.2 c hc) (by decide)
theorem okw_str {n : Nat} {x : Str} (h : okS n x = true) : OkW (.str x) (10 * n + 2) 0 :=
  ⟨okS.lt h, by simp only [wt]; have := okS.len h; omega, by simp only [PyData.depth]; decide⟩
theorem okw_tup {ds : List PyData} {n k : Nat} (h : OkWs ds n k) : OkW (.tuple ds) (n + 3) (k + 1) :=
  ⟨h.ok, by simp only [wt]; have := h.wt; omega, by simp only [PyData.depth]; have := h.dp; omega⟩
theorem okw_lst {ds : List PyData} {n k : Nat} (h : OkWs ds n k) : OkW (.list ds) (n + 2) (k + 1) :=
  ⟨h.ok, by simp only [wt]; have := h.wt; omega, by simp only [PyData.depth]; have := h.dp; omega⟩
theorem okws_nil : OkWs [] 0 0 := ⟨trivial, by simp only [wts]; decide, by simp only [PyData.depthAll]; decide⟩
theorem okws_cons {d : PyData} {ds : List PyData} {n k n' k' : Nat} (h : OkW d n k) (t : OkWs ds n' k') : OkWs (d :: ds) (n + 2 + n') (max k k') :=
  ⟨⟨h.ok, t.ok⟩, by simp only [wts]; have := h.wt; have := t.wt; omega, by simp only [PyData.depthAll]; have := h.dp; have := t.dp; omega⟩
theorem okws_all {n k : Nat} : ∀ {ds : List PyData}, (∀ d ∈ ds, OkW d n k) → OkWs ds (ds.length * (n + 2)) k
  | [], _ => ⟨trivial, by simp only [wts]; omega, by simp only [PyData.depthAll]; omega⟩
  | d :: ds, h => by
    have h1 := h d (List.mem_cons_self ..)
    have h2 := okws_all (ds := ds) fun x hx => h x (List.mem_cons_of_mem _ hx)
    refine ⟨⟨h1.ok, h2.ok⟩, ?_, ?_⟩
    · simp only [wts, List.length_cons, Nat.succ_mul]
      have := h1.wt
      have := h2.wt
      omega
    · simp only [PyData.depthAll]
      have := h1.dp
      have := h2.dp
      omega
/-- all of them texts of which P holds -/
def AllS (P : Str → Bool) : List V → Bool
  | [] => true
  | .str z :: r => P z && AllS P r
  | _ :: _ => false
theorem AllS.at {P : Str → Bool} : ∀ {xs : List V} {v : V}, AllS P xs = true → v ∈ xs → ∃ z, v = .str z ∧ P z = true
  | [], _, _, h => by cases h
  | .str z :: r, v, a, h => by
    have a : (P z && AllS P r) = true := a
    rw [Bool.and_eq_true] at a
    rcases List.mem_cons.mp h with rfl | h
    · exact ⟨z, rfl, a.1⟩
    · exact AllS.at a.2 h
  | .non :: _, _, a, _ => by cases a
  | .bl _ :: _, _, a, _ => by cases a
  | .int _ :: _, _, a, _ => by cases a
  | .byt _ :: _, _, a, _ => by cases a
  | .flt _ :: _, _, a, _ => by cases a
  | .ref _ :: _, _, a, _ => by cases a
  | .ty _ :: _, _, a, _ => by cases a
section
variable {σ : L2.St} {H : Hp} {K : PySem.W.Frag} {a : Addr} {xs r : List V} {v : V} {QS : L2.St → Hp → Prop} {t : TG} {u : TGs}
theorem r_gtup {n : Nat} (h : SqT K H a xs) (l : xs.length = n) (q : u xs σ H QS) : gTup K n u (.ref a) σ H QS := ⟨a, xs, rfl, h, l, q⟩
theorem r_gcons (q : t v σ H fun σ' H' => u r σ' H' QS) : gCons t u (v :: r) σ H QS := ⟨v, r, rfl, q⟩
theorem r_gnil (q : QS σ H) : gNil [] σ H QS := ⟨rfl, q⟩
end
end Ts

namespace Ts
open PySem PySem.Spec PyProof.Rows L2
/-! ### texts by their signs -/
abbrev S (l : List Nat) : Str := ⟨l.toArray⟩
theorem S_cps (l : List Nat) : (S l).cps.toList = l := rfl
theorem S_of (x : Str) : S x.cps.toList = x := by
  cases x
  simp [S]
theorem S_len (l : List Nat) : (S l).length = l.length := by simp [Str.length, S]
theorem S_app (a b : List Nat) : S a ++ S b = S (a ++ b) := by
  show Str.append (S a) (S b) = _
  simp [Str.append, S]
theorem S_inj {a b : List Nat} : S a = S b ↔ a = b := by
  constructor
  · intro h
    have := congrArg (fun x : Str => x.cps.toList) h
    simpa using this
  · intro h
    rw [h]
theorem cutS_S (l : List Nat) (lo hi : Option Int) : cutS (S l) lo hi = S ((l.drop (HT.sIx l.length 0 lo)).take (HT.sIx l.length l.length hi - HT.sIx l.length 0 lo)) := by
  unfold cutS
  rw [S_len]
theorem cutS_nn (l : List Nat) (i j : Nat) : cutS (S l) (some (i : Int)) (some (j : Int)) = S ((l.take j).drop i) := by
  rw [cutS_S, HT.sIx_nat, HT.sIx_nat, List.drop_take]
  congr 1
  by_cases hi : i ≤ l.length
  · rw [Nat.min_eq_left hi]
    by_cases hj : j ≤ l.length
    · rw [Nat.min_eq_left hj]
    · rw [Nat.min_eq_right (Nat.le_of_not_le hj), List.take_of_length_le (by rw [List.length_drop]; omega), List.take_of_length_le (by rw [List.length_drop]; omega)]
  · have hl : l.length ≤ i := Nat.le_of_not_le hi
    rw [show min i l.length = l.length from Nat.min_eq_right hl, List.drop_eq_nil_of_le (Nat.le_refl l.length), List.drop_eq_nil_of_le hl, List.take_nil, List.take_nil]
theorem cutS_0n (l : List Nat) (j : Nat) : cutS (S l) none (some (j : Int)) = S (l.take j) := by
  rw [cutS_S, HT.sIx_none, HT.sIx_nat, List.drop_zero, Nat.sub_zero]
  congr 1
  by_cases hj : j ≤ l.length
  · rw [Nat.min_eq_left hj]
  · rw [Nat.min_eq_right (by omega), List.take_of_length_le (Nat.le_refl _), List.take_of_length_le (by omega)]
theorem cutS_n0 (l : List Nat) (i : Nat) : cutS (S l) (some (i : Int)) none = S (l.drop i) := by
  rw [cutS_S, HT.sIx_none, HT.sIx_nat]
  congr 1
  by_cases hi : i ≤ l.length
  · rw [Nat.min_eq_left hi, List.take_of_length_le (by rw [List.length_drop]; omega)]
  · have hl : l.length ≤ i := Nat.le_of_not_le hi
    rw [show min i l.length = l.length from Nat.min_eq_right hl, List.drop_eq_nil_of_le (Nat.le_refl l.length), List.drop_eq_nil_of_le hl, List.take_nil]
theorem eqV_S (a b : List Nat) : eqV (.str (S a)) (.str (S b)) = decide (a = b) := by
  show (S a == S b) = _
  by_cases h : a = b
  · rw [h]; simp
  · rw [beq_eq_false_iff_ne.mpr (fun z => h (S_inj.mp z)), decide_eq_false h]
theorem inV_S (x : List Nat) : ∀ ys : List (List Nat), inV (.str (S x)) (ys.map fun y => .str (S y)) = decide (x ∈ ys)
  | [] => by simp [inV]
  | y :: r => by
    have ih := inV_S x r
    unfold inV at ih ⊢
    rw [List.map_cons, List.any_cons, ih, eqV_S]
    by_cases h : y = x
    · simp [h]
    · have : ¬ x = y := fun z => h z.symm
      simp [h, this]
theorem all_flat_S : ∀ ys : List (List Nat), (ys.map fun y => V.str (S y)).all flatV = true
  | [] => rfl
  | _ :: r => all_flat_S r
section
variable {X : Cx}
theorem pe_strL (l : List Nat) {x : Str} {j : Nat} {pos : Pos} (e : x = S l := by rfl) : PE X (.Constant (.str x) j pos) (tC (.str (S l))) := by
  rw [← e]
  exact pe_str
/-- truth as a test -/
def tTru (K : PySem.W.Frag) (ta : TE) : TT := fun σ H Q => ta σ H fun x H' => ∃ k, TruV K x H' k ∧ Q k H'
def IsTru (K : PySem.W.Frag) (x : V) (H : Hp) (Q : Bool → Hp → Prop) : Prop := ∃ k, TruV K x H k ∧ Q k H
theorem pt_tru {a : Expr} {ta : TE} (ha : PE X a ta) (he : ∀ whole, isTrue a X.env whole = (do let v ← whole; standAt a.pos; holding [v] (truthy v))) : PT X a (tTru X.K ta) := pt_truth ha he
def rAddS : R2 := fun x y H Q => ∃ i j, x = .str i ∧ y = .str j ∧ i.length + j.length ≤ sizeLine ∧ Q (.str (i ++ j)) H
theorem o_addS : OpR X (binaryOp .Add) rAddS := op_add_str
theorem ip_addS : PIp X .Add rAddS := fun pins s σ H x y u v Q I rx ry h => iop_add_str pins s σ H x y u v Q I rx ry h
/-- built-in types' methods -/
def TyB (K : PySem.W.Frag) (T : String) (x : V) (H : Hp) (P : Prop) : Prop := tyV K T x H ∧ P
def IsS (x : V) (P : Prop) : Prop := (∃ a, x = .str a) ∧ P
def rJoin (K : PySem.W.Frag) : V → List V → Hp → VK → Prop := fun x xs H Q => ∃ a p, ∃ ys : List Str, x = .str a ∧ xs = [.ref p] ∧ (SqL K H p (ys.map V.str) ∨ SqT K H p (ys.map V.str)) ∧
    (ys.map (·.length)).sum + ys.length * a.length ≤ 16777216 ∧ Q (.str (Txt.join a ys)) H
end
section
variable {X : Cx} {o e : Expr} {to te : TE}
theorem pe_joinN {apos pos : Pos} (ho : PE X o to) (he : PE X e te) (hs : starEach [e] X.env = [(false, eval e X.env)] := by rfl)
    (hbase : attributeBase o "join" X.env (eval o X.env) = eval o X.env := by rfl) (hline : (apos.endLine == pos.line) = true := by rfl) :
    PE X (.Call (.Attribute o "join" apos) [e] [] pos) (tM1 (rJoin X.K) to te) := pe_join ho he hs hbase hline
end
section
variable {σ : L2.St} {H H1 : Hp} {Q : VK} {QA : List V → Hp → Prop} {QT : Bool → Hp → Prop} {ta tb te to : TE} {t tr : TA} {v x y : V}
  {D : Ends} {K : PySem.W.Frag} {m n : Int} {a l : Addr} {xs : List V} {i j : Nat} {z u : List Nat}
theorem r_tru (q : ta σ H fun x H1 => IsTru K x H1 QT) : tTru K ta σ H QT := q
theorem r_truS (h : z.length ≤ 1000000) (q : QT (!decide (z = [])) H) : IsTru K (.str (S z)) H QT := by
  refine ⟨!decide (z = []), ⟨?_, ?_⟩, q⟩
  · rw [S_len]; exact Nat.le_trans h (by decide)
  · rw [S_len]
    cases z with
    | nil => rfl
    | cons a r =>
      rw [decide_eq_false (by simp)]
      have : (((a :: r).length : Int) != 0) = true := by
        rw [List.length_cons, bne_iff_ne]
        omega
      rw [this]
      rfl
theorem r_addS (h : z.length + u.length ≤ 1000000) (q : Q (.str (S (z ++ u))) H) : rAddS (.str (S z)) (.str (S u)) H Q :=
  ⟨_, _, rfl, rfl, by rw [S_len, S_len]; exact Nat.le_trans h (by decide), by rw [S_app]; exact q⟩
theorem r_slS {lo hi : Option Int} {w : List Nat} (h : z.length ≤ 1000000) (e : cutS (S z) lo hi = S w) (q : Q (.str (S w)) H) : rSlS (.str (S z)) lo hi H Q :=
  ⟨_, rfl, by rw [S_len]; exact Nat.le_trans h (by decide), by rw [e]; exact q⟩
theorem r_ixS {c : Nat} (h : z.length ≤ 1000000) (e : atI z m = some c) (q : Q (.str (S [c])) H) : rIxS (.str (S z)) (.int m) H Q :=
  ⟨_, _, c, rfl, rfl, by rw [S_len]; exact Nat.le_trans h (by decide), e, q⟩
theorem r_lenSS (h : z.length ≤ 1000000) (q : Q (.int z.length) H) : rLenS [.str (S z)] H Q := r_lenS (by rw [S_len]; exact Nat.le_trans h (by decide)) (by rw [S_len]; exact q)
theorem r_eqSS (q : Q (.bl (decide (z = u))) H) : rEq (.str (S z)) (.str (S u)) H Q := r_eqS (by
  rw [show decide (S z = S u) = decide (z = u) from by simp only [S_inj]]
  exact q)
theorem r_neSS (q : Q (.bl (!decide (z = u))) H) : rNe (.str (S z)) (.str (S u)) H Q := r_neS (by
  rw [show decide (S z = S u) = decide (z = u) from by simp only [S_inj]]
  exact q)
theorem r_inT (ys : List (List Nat)) (h : SqT K H a xs) (e : xs = ys.map fun y => .str (S y)) (q : Q (.bl (decide (z ∈ ys))) H) : rIn K false (.str (S z)) (.ref a) H Q := by
  subst e
  exact ⟨a, _, rfl, .inr h, rfl, all_flat_S ys, by rw [if_neg Bool.false_ne_true, inV_S]; exact q⟩
theorem r_bm {T : String} {r : V → List V → Hp → VK → Prop} (q : to σ H fun x H1 => TyB K T x H1 (t σ H1 fun xs H2 => r x xs H2 Q)) : tBM K T r to t σ H Q := q
theorem r_bm0 {T : String} {r : V → List V → Hp → VK → Prop} (q : to σ H fun x H1 => TyB K T x H1 (r x [] H1 Q)) : tBM0 K T r to σ H Q := q
theorem r_tyL {P : Prop} (h : SqL K H a xs) (q : P) : TyB K "list" (.ref a) H P := ⟨.inl ⟨rfl, xs, h⟩, q⟩
theorem r_tyS {P : Prop} {z : Str} (q : P) : TyB K "str" (.str z) H P := ⟨rfl, q⟩
theorem r_m1 {r : V → List V → Hp → VK → Prop} (q : to σ H fun x H1 => IsS x (te σ H1 fun y H2 => r x [y] H2 Q)) : tM1 r to te σ H Q := q
theorem r_iss {P : Prop} {z : Str} (q : P) : IsS (.str z) P := ⟨⟨z, rfl⟩, q⟩
theorem r_app (h : H l = some (.lst xs)) (c : xs.length < 1000000) (q : ∀ H', Kp l H H' → H' l = some (.lst (xs ++ [y])) → Q .non H') : rAppend (.ref l) [y] H Q :=
  ⟨l, xs, y, rfl, rfl, h, Nat.lt_of_lt_of_le c (by decide), q _ Kp.upd upd_same⟩
theorem r_pop (h : H l = some (.lst (xs ++ [y]))) (q : ∀ H', Kp l H H' → H' l = some (.lst xs) → Q y H') : rPop (.ref l) [] H Q :=
  ⟨l, xs ++ [y], y, rfl, rfl, h, by simp, by
    have e : (xs ++ [y]).dropLast = xs := by simp
    rw [e]
    exact q _ Kp.upd upd_same⟩
theorem r_gsub {ts : TSet} {QS : L2.St → Hp → Prop} (q : to σ H fun o H1 => te σ H1 fun i H2 => ts o i v H2 fun H3 => QS σ H3) : gSub to te ts v σ H QS := q
theorem r_setL {C : Hp → Prop} (h : H l = some (.lst xs)) (e : ixN xs.length m = some j) (q : ∀ H', Kp l H H' → H' l = some (.lst (xs.set j v)) → C H') : rSetL (.ref l) (.int m) v H C :=
  ⟨l, xs, m, j, rfl, rfl, h, e, q _ Kp.upd upd_same⟩
def StarV (K : PySem.W.Frag) (x : V) (H : Hp) (P : List V → Prop) : Prop := ∃ p xs, x = V.ref p ∧ (SqT K H p xs ∨ SqL K H p xs) ∧ P xs
theorem r_star (q : te σ H fun x H1 => StarV K x H1 fun xs => t σ H1 fun ys H2 => QA (xs ++ ys) H2) : StX.tStar K te t σ H QA := q
theorem r_starL {P : List V → Prop} (h : SqL K H a xs) (q : P xs) : StarV K (.ref a) H P := ⟨a, xs, rfl, .inr h, q⟩
def rInt1 : List V → Hp → VK → Prop := fun xs H Q => (∃ i, xs = [.int i] ∧ Q (.int i) H) ∨ ∃ k, xs = [.bl k] ∧ Q (.int (if k then 1 else 0)) H
theorem r_intB {b : Bool} (q : Q (.int (if b then 1 else 0)) H) : rInt1 [.bl b] H Q := .inr ⟨b, rfl, q⟩
theorem r_joinL {w : List Nat} (zs : List (List Nat)) (h : SqL K H a xs) (e : xs = zs.map fun y => .str (S y)) (c : (zs.map List.length).sum + zs.length * w.length ≤ 1000000)
    (q : Q (.str (S (TL.joinL w zs))) H) : rJoin K (.str (S w)) [.ref a] H Q := by
  subst e
  refine ⟨S w, a, zs.map S, rfl, rfl, .inl (by rw [List.map_map]; exact h), ?_, ?_⟩
  · rw [List.map_map, List.length_map, S_len]
    have : (zs.map ((fun x : Str => x.length) ∘ S)) = zs.map List.length := List.map_congr_left fun y _ => S_len y
    rw [this]
    exact Nat.le_trans c (by decide)
  · have e : Txt.join (S w) (zs.map S) = S (TL.joinL w zs) := by
      rw [TL.join_eq, ← S_of (Str.join (S w) (zs.map S))]
      have := TL.tl_join (S w) (zs.map S)
      unfold TL.tl at this
      rw [this, List.map_map]
      congr 2
      exact (List.map_congr_left fun y _ => rfl).trans (List.map_id _)
    rw [e]
    exact q
/-- a while by what holds and a number that falls -/
def WhB (W : Nat → L2.St → Hp → Prop) (m : Nat) (tb : TS) (D : Ends) (σ : L2.St) (H : Hp) : Prop := ∃ N : L2.St → Hp → Prop, (∀ σ' H', N σ' H' → ∃ m', m' < m ∧ W m' σ' H') ∧ tb { D with nx := N, ct := N, bk := D.nx } σ H
theorem r_whb {tb : TS} {W : Nat → L2.St → Hp → Prop} {m : Nat} (q : tb { D with nx := fun σ' H' => ∃ m', m' < m ∧ W m' σ' H', ct := fun σ' H' => ∃ m', m' < m ∧ W m' σ' H', bk := D.nx } σ H) : WhB W m tb D σ H := ⟨_, fun _ _ n => n, q⟩
theorem r_while {tc : TT} {tb : TS} (W : Nat → L2.St → Hp → Prop) (m0 : Nat) (h0 : W m0 σ H)
    (hs : ∀ m σ H, W m σ H → tc σ H fun b H1 => IfB b (WhB W m tb D σ H1) (D.nx σ H1)) : tWhile tc tb D σ H := ⟨W, ⟨m0, h0⟩, hs⟩
def SetK (D : Ends) (σ : L2.St) (i : Nat) (z : V) (H : Hp) : Prop := D.nx (σ.set i (some z)) H
theorem r_augK {i : Nat} {ti : TIp} (h : σ[i]? = some (some x)) (q : te σ H fun y H1 => ti x y H1 fun z H2 => SetK D σ i z H2) : tAug i te ti D σ H := ⟨x, h, q⟩
theorem r_setK {i : Nat} (q : D.nx (σ.set i (some x)) H) : SetK D σ i x H := q
end
section
variable {X : Cx}
theorem c_int1 : CallR X (.type "int") rInt1 := call_int1
end
section
variable {σ : L2.St} {H : Hp} {Q : VK} {K : PySem.W.Frag} {a : Addr} {xs : List V} {m : Int} {D : Ends}
theorem r_intD {p : Prop} {_ : Decidable p} (h1 : p → Q (.int 1) H) (h2 : ¬ p → Q (.int 0) H) : rInt1 [.bl (decide p)] H Q := r_intB (by
  by_cases h : p
  · rw [decide_eq_true h, if_pos rfl]; exact h1 h
  · rw [decide_eq_false h, if_neg Bool.false_ne_true]; exact h2 h)
theorem cutS_ap (l : List Nat) (i k : Nat) : cutS (S l) (some (i : Int)) (some ((i : Int) + (k : Int))) = S ((l.drop i).take k) := by
  have := cutS_nn l i (i + k)
  rw [Int.natCast_add] at this
  rw [this, List.drop_take, Nat.add_sub_cancel_left]
theorem ex_kp {H0 H1 H2 : Hp} {p : Addr} (e : Ex H0 H1) (n : H0 p = none) (k : Kp p H1 H2) : Ex H0 H2 := fun b o h => k b o (ne_of_none h n) (e b o h)
/-- a list of texts, an item at a place that is not written -/
def AllT (P : List Nat → Bool) : List V → Bool
  | [] => true
  | .str z :: r => P z.cps.toList && AllT P r
  | _ :: _ => false
theorem AllT.at {P : List Nat → Bool} : ∀ {xs : List V} {v : V}, AllT P xs = true → v ∈ xs → ∃ z, v = .str (S z) ∧ P z = true
  | [], _, _, h => by cases h
  | .str z :: r, v, a, h => by
    have a : (P z.cps.toList && AllT P r) = true := a
    rw [Bool.and_eq_true] at a
    rcases List.mem_cons.mp h with rfl | h
    · exact ⟨z.cps.toList, by rw [S_of], a.1⟩
    · exact AllT.at a.2 h
  | .non :: _, _, a, _ => by cases a
  | .bl _ :: _, _, a, _ => by cases a
  | .int _ :: _, _, a, _ => by cases a
  | .byt _ :: _, _, a, _ => by cases a
  | .flt _ :: _, _, a, _ => by cases a
  | .ref _ :: _, _, a, _ => by cases a
  | .ty _ :: _, _, a, _ => by cases a
theorem r_ixTx (P : List Nat → Bool) (h : SqL K H a xs) (c : 0 ≤ m) (c2 : m < xs.length) (al : AllT P xs = true) (q : ∀ z, P z = true → Q (.str (S z)) H) : rIxL K (.ref a) (.int m) H Q :=
  r_ixM h c c2 fun v hv => by
    obtain ⟨z, rfl, z1⟩ := AllT.at al hv
    exact q z z1
-- comprehensions over a list
def LcK (J : It) (g : TG) (tt : TT) (te : TE) (vs : List Nat) (σ : L2.St) (H1 : Hp) (Q : VK) : Prop := ∀ D, H1 D = none → ∃ W : Nat → Nat → Hp → Prop, (∃ m, W 0 m (upd H1 D (.lst []))) ∧ ∀ i m H, W i m H →
  (J.stop i H ∧ Q (.ref D) H) ∨ (J.go i H ∧ ∃ Nx : Hp → Prop, (∀ H', Nx H' → ∃ m', m' < m ∧ W (i + 1) m' H') ∧ ∀ x H', J.yld i H x H' → g x (wipe σ vs) H' fun σ2 H2 => wipe σ2 vs = wipe σ vs ∧ tt σ2 H2 fun b H3 =>
    if b = true then te σ2 H3 fun y H4 => ∃ acc, H4 D = some (.lst acc) ∧ acc.length < sizeLine ∧ Nx (upd H4 D (.lst (acc ++ [y]))) else Nx H3)
theorem r_lc {wi : TI} {g : TG} {tt : TT} {te : TE} {vs : List Nat} (q : wi σ H fun J H1 => LcK J g tt te vs σ H1 Q) : tLc wi g tt te vs σ H Q := q
theorem filter_take_succ {α : Type} (p : α → Bool) (l : List α) (i : Nat) (x : α) (h : l[i]? = some x) : (l.take (i + 1)).filter p = (l.take i).filter p ++ (if p x = true then [x] else []) := by
  rw [List.take_add_one, h, List.filter_append]
  congr 1
  by_cases hp : p x = true
  · rw [if_pos hp]; simp [hp]
  · rw [if_neg hp]; simp [hp]
/-- each item tested by p, kept as f of it -/
theorem lc_all {tt : TT} {te : TE} {vs : List Nat} {j : Nat} (xs : List V) (hx : SqL K H a xs) (p : V → Bool) (f : V → V) (hz : xs.length < 1000000)
    (hw : ∀ x, wipe ((wipe σ vs).set j (some x)) vs = wipe σ vs)
    (ht : ∀ x ∈ xs, ∀ H2, Ex H H2 → ∀ QQ : Bool → Hp → Prop, (∀ H3, Ex H2 H3 → QQ (p x) H3) → tt ((wipe σ vs).set j (some x)) H2 QQ)
    (he : ∀ x ∈ xs, p x = true → ∀ H2, Ex H H2 → ∀ QQ : VK, (∀ H3, Ex H2 H3 → QQ (f x) H3) → te ((wipe σ vs).set j (some x)) H2 QQ)
    (q : ∀ D H2, H D = none → Ex H H2 → H2 D = some (.lst ((xs.filter p).map f)) → Q (.ref D) H2) : LcK (Itl K a) (gName j) tt te vs σ H Q := by
  intro D nD
  refine lc_list (K := K) (a := a) (xs := xs) (fun i H' => Ex H H' ∧ H' D = some (.lst (((xs.take i).filter p).map f))) ⟨Evl.Ex.new nD, upd_same⟩
    (fun i H' _ h => Ex.L h.1 hx) (fun i x H' hi h => ?_) (fun H' h => q D H' nD h.1 (by
      have := h.2
      rw [List.take_of_length_le (Nat.le_refl _)] at this
      exact this))
  obtain ⟨h1, h2⟩ := h
  have hm : x ∈ xs := List.mem_of_getElem? hi
  refine ⟨hw x, ht x hm H' h1 _ fun H3 e3 => ?_⟩
  have hf := filter_take_succ p xs i x hi
  by_cases hp : p x = true
  · rw [if_pos hp]
    refine he x hm hp H3 (h1.trans e3) _ fun H4 e4 => ?_
    refine ⟨_, e4 _ _ (e3 _ _ h2), ?_, ?_, ?_⟩
    · rw [List.length_map]
      have := List.length_filter_le p (xs.take i)
      rw [List.length_take] at this
      exact Nat.lt_of_lt_of_le (m := 1000000) (by omega) (by decide)
    · exact ex_kp ((h1.trans e3).trans e4) nD Kp.upd
    · rw [upd_same, hf, if_pos hp, List.map_append]
      rfl
  · rw [if_neg hp]
    refine ⟨h1.trans e3, ?_⟩
    rw [hf, if_neg hp, List.append_nil]
    exact e3 _ _ h2
abbrev SV : List Nat → V := fun y => .str (S y)
theorem lc_txt {tt : TT} {te : TE} {vs : List Nat} {j : Nat} (zs : List (List Nat)) (hx : SqL K H a (zs.map SV)) (p : List Nat → Bool) (f : List Nat → List Nat) (hz : zs.length < 1000000)
    (hw : ∀ x, wipe ((wipe σ vs).set j (some x)) vs = wipe σ vs)
    (ht : ∀ z ∈ zs, ∀ H2, Ex H H2 → ∀ QQ : Bool → Hp → Prop, (∀ H3, Ex H2 H3 → QQ (p z) H3) → tt ((wipe σ vs).set j (some (SV z))) H2 QQ)
    (he : ∀ z ∈ zs, p z = true → ∀ H2, Ex H H2 → ∀ QQ : VK, (∀ H3, Ex H2 H3 → QQ (SV (f z)) H3) → te ((wipe σ vs).set j (some (SV z))) H2 QQ)
    (q : ∀ D H2, H D = none → Ex H H2 → H2 D = some (.lst (((zs.filter p).map f).map SV)) → Q (.ref D) H2) : LcK (Itl K a) (gName j) tt te vs σ H Q := by
  refine lc_all (zs.map SV) hx (fun v => match v with | .str s => p s.cps.toList | _ => false) (fun v => match v with | .str s => SV (f s.cps.toList) | v => v) (by rw [List.length_map]; exact hz) hw ?_ ?_ ?_
  · intro x hx2 H2 e2 QQ k
    obtain ⟨z, hz2, rfl⟩ := List.mem_map.mp hx2
    exact ht z hz2 H2 e2 QQ k
  · intro x hx2 hp H2 e2 QQ k
    obtain ⟨z, hz2, rfl⟩ := List.mem_map.mp hx2
    exact he z hz2 hp H2 e2 QQ k
  · intro D H2 nD e2 h2
    refine q D H2 nD e2 ?_
    rw [h2]
    congr 2
    rw [List.filter_map, List.map_map, List.map_map]
    rfl
end
/-- texts of plain signs, at most n of them -/
def okL (n : Nat) (l : List Nat) : Prop := l.length ≤ n ∧ ∀ c ∈ l, c < 1114112
theorem okL.ok {n : Nat} {l : List Nat} (h : okL n l) : okS n (S l) = true := by
  unfold okS
  simp only [Bool.and_eq_true, decide_eq_true_eq, List.all_eq_true]
  exact ⟨h.1, fun c hc => h.2 c hc⟩
abbrev dS : List Nat → PyData := fun y => .str (S y)
section
variable {X : Cx} {K : PySem.W.Frag} {H : Hp} {Q : VK} {a : Addr} {xs : List V}
def rListOf (K : PySem.W.Frag) : List V → Hp → VK → Prop := fun xs H Q => ∃ p ys, xs = [.ref p] ∧ (SqL K H p ys ∨ SqT K H p ys) ∧ ∀ l, H l = none → Q (.ref l) (upd H l (.lst ys))
theorem c_listOf : CallR X (.type "list") (rListOf X.K) := call_list_of
theorem r_listOf (h : SqL K H a xs) (q : New H (.lst xs) Q) : rListOf K [.ref a] H Q := ⟨a, xs, rfl, .inl h, q⟩
theorem dp_strs : ∀ ws : List (List Nat), DpAll K H (ws.map SV) (ws.map dS)
  | [] => .nil
  | w :: r => .cons (.str _) (dp_strs r)
theorem dp_words {ws : List (List Nat)} (h : SqL K H a (ws.map SV)) : Dp K H (.ref a) (.list (ws.map dS)) := .lst h (dp_strs ws)
theorem r_eqDT {x y : V} (d e : PyData) (h1 : Dp K H x d) (h2 : Dp K H y e) (s : (SeqAt.shaped d && SeqAt.shaped e && PyData.eqv d e) = true) (q : Q (.bl true) H) : rEqD K x y H Q := by
  simp only [Bool.and_eq_true] at s
  exact ⟨d, e, h1, h2, s.1.1, s.1.2, by rw [s.2]; exact q⟩
end
theorem sh_strs {ws : List (List Nat)} {n m : Nat} (h : ws.length ≤ n) (hw : ∀ w ∈ ws, w.length ≤ m ∧ ∀ c ∈ w, c < 1114112) (hn : n * (10 * m + 2 + 2) + 2 ≤ sizeLine) : Sh (.list (ws.map dS)) := by
  have k := okws_all (ds := ws.map dS) (n := 10 * m + 2) (k := 0) fun d hd => by
    obtain ⟨w, hw1, rfl⟩ := List.mem_map.mp hd
    exact okw_str (okL.ok (hw w hw1))
  have k2 := okw_lst k
  refine Sh.of k2 (Nat.le_trans (Nat.add_le_add_right (Nat.mul_le_mul_right _ ?_) 2) hn) (by decide)
  rw [List.length_map]
  exact h
end Ts

namespace Ts
open PySem PySem.Spec PyProof.Rows L2
/-! ### tokens, by signs -/
abbrev mMark : List Nat := [92, 45]
abbrev mTab : List Nat := [92, 116]
abbrev mStroke : List Nat := [92, 92]
abbrev twos : List (List Nat) := [mMark, mTab, mStroke]
def toks : List Nat → List (List Nat)
  | [] => []
  | [c] => [[c]]
  | c :: d :: r => if [c, d] ∈ twos then [c, d] :: toks r else [c] :: toks (d :: r)
def tsz (l : List Nat) : Nat := if l.take 2 ∈ twos then 2 else 1
theorem two_len {l : List Nat} (h : l.take 2 ∈ twos) : 2 ≤ l.length := by
  match l, h with
  | [], h => simp at h
  | [c], h => simp at h
  | c :: d :: r, h => simp
theorem toks_two {l : List Nat} (h : l.take 2 ∈ twos) : toks l = l.take 2 :: toks (l.drop 2) := by
  match l, h with
  | [], h => simp at h
  | [c], h => simp at h
  | c :: d :: r, h =>
    have h : [c, d] ∈ twos := h
    rw [toks, if_pos h]
    rfl
theorem toks_one {l : List Nat} (h : ¬ l.take 2 ∈ twos) (n : l ≠ []) : toks l = l.take 1 :: toks (l.drop 1) := by
  match l, h with
  | [], h => exact absurd rfl n
  | [c], h => rfl
  | c :: d :: r, h =>
    have h : ¬ [c, d] ∈ twos := h
    rw [toks, if_neg h]
    rfl
theorem toks_len : ∀ l : List Nat, (toks l).length ≤ l.length
  | [] => Nat.le_refl _
  | [c] => Nat.le_refl _
  | c :: d :: r => by
    have h1 := toks_len r
    have h2 := toks_len (d :: r)
    rw [toks]
    split
    · simp only [List.length_cons]; omega
    · simp only [List.length_cons] at h2 ⊢; omega
theorem toks_flat : ∀ l : List Nat, (toks l).flatten = l
  | [] => rfl
  | [c] => rfl
  | c :: d :: r => by
    have h1 := toks_flat r
    have h2 := toks_flat (d :: r)
    rw [toks]
    split
    · rw [List.flatten_cons, h1]; rfl
    · rw [List.flatten_cons, h2]; rfl
theorem toks_form : ∀ (l : List Nat), ∀ t ∈ toks l, t ∈ twos ∨ ∃ c ∈ l, t = [c]
  | [], t, h => by cases h
  | [c], t, h => by
    rcases List.mem_singleton.mp h with rfl
    exact .inr ⟨c, by simp, rfl⟩
  | c :: d :: r, t, h => by
    rw [toks] at h
    split at h
    · rename_i hc
      rcases List.mem_cons.mp h with rfl | h
      · exact .inl hc
      · rcases toks_form r t h with q | ⟨e, he, q⟩
        · exact .inl q
        · exact .inr ⟨e, by simp [he], q⟩
    · rcases List.mem_cons.mp h with rfl | h
      · exact .inr ⟨c, by simp, rfl⟩
      · rcases toks_form (d :: r) t h with q | ⟨e, he, q⟩
        · exact .inl q
        · exact .inr ⟨e, List.mem_cons_of_mem _ he, q⟩
theorem toks_ne {l t : List Nat} (h : t ∈ toks l) : t ≠ [] := by
  rcases toks_form l t h with q | ⟨c, _, rfl⟩
  · intro e
    subst e
    simp at q
  · simp
theorem toks_le2 {l t : List Nat} (h : t ∈ toks l) : t.length ≤ 2 := by
  rcases toks_form l t h with q | ⟨c, _, rfl⟩
  · simp only [List.mem_cons, List.not_mem_nil, or_false] at q
    rcases q with rfl | rfl | rfl <;> decide
  · simp
/-- the program's cell of a token; the other reading's -/
def cell (t : List Nat) : List Nat := if t = mMark then [] else if t = mStroke then [92] else t
def cells (l : List Nat) : List Nat := ((toks l).map cell).flatten
def lastOf (t : List Nat) : List Nat := [t.getLastD 0]
def cells' (l : List Nat) : List Nat := (((toks l).filter fun t => !decide (t = mMark)).map lastOf).flatten
theorem joinL_nil : ∀ zs : List (List Nat), TL.joinL [] zs = zs.flatten
  | [] => rfl
  | [p] => by simp [TL.joinL]
  | p :: q :: r => by
    have ih := joinL_nil (q :: r)
    rw [TL.joinL, ih, List.nil_append]
    simp only [List.flatten_cons]
theorem cell_nil {l t : List Nat} (h : t ∈ toks l) : cell t = [] ↔ t = mMark := by
  unfold cell
  by_cases h1 : t = mMark
  · simp [h1]
  · rw [if_neg h1]
    by_cases h2 : t = mStroke
    · rw [if_pos h2]; simp [h1]
    · rw [if_neg h2]
      exact ⟨fun e => absurd e (toks_ne h), fun e => absurd e h1⟩
theorem cells_nil (l : List Nat) : cells l = [] ↔ ∀ t ∈ toks l, t = mMark := by
  unfold cells
  rw [List.flatten_eq_nil_iff]
  constructor
  · intro h t ht
    exact (cell_nil ht).mp (h _ (List.mem_map_of_mem ht))
  · intro h x hx
    obtain ⟨t, ht, rfl⟩ := List.mem_map.mp hx
    exact (cell_nil ht).mpr (h t ht)
theorem cells'_nil (l : List Nat) : cells' l = [] ↔ ∀ t ∈ toks l, t = mMark := by
  unfold cells'
  rw [List.flatten_eq_nil_iff]
  constructor
  · intro h t ht
    refine Decidable.byContradiction fun n => ?_
    have := h (lastOf t) (List.mem_map_of_mem (List.mem_filter.mpr ⟨ht, by simp [n]⟩))
    simp [lastOf] at this
  · intro h x hx
    obtain ⟨t, ht, rfl⟩ := List.mem_map.mp hx
    obtain ⟨h1, h2⟩ := List.mem_filter.mp ht
    rw [h t h1] at h2
    simp at h2
theorem cells_same (l : List Nat) : decide (cells l = []) = decide (cells' l = []) := by
  have : (cells l = []) ↔ (cells' l = []) := (cells_nil l).trans (cells'_nil l).symm
  simp [this]
theorem flat_cell_le : ∀ ts : List (List Nat), (ts.map cell).flatten.length ≤ ts.flatten.length
  | [] => Nat.le_refl _
  | t :: ts => by
    have ih := flat_cell_le ts
    simp only [List.map_cons, List.flatten_cons, List.length_append]
    have : (cell t).length ≤ t.length := by
      unfold cell
      split
      · simp
      · split
        · rename_i h; rw [h]; decide
        · exact Nat.le_refl _
    omega
theorem cells_len (l : List Nat) : (cells l).length ≤ l.length := by
  have h := flat_cell_le (toks l)
  rw [toks_flat] at h
  exact h
/-! ### words -/
abbrev isSep (t : List Nat) : Prop := t ∈ [[32], mTab]
def segs : List (List Nat) → List Nat → List (List Nat)
  | [], w => [w]
  | t :: ts, w => if isSep t then w :: segs ts [] else segs ts (w ++ t)
def wordsL (l : List Nat) : List (List Nat) := (segs (toks l) []).filter fun w => !decide (cells w = [])
theorem segs_end : ∀ (ts : List (List Nat)) (w : List Nat), segs (ts ++ [[32]]) w = segs ts w ++ [[]]
  | [], w => rfl
  | t :: ts, w => by
    rw [List.cons_append, segs, segs]
    split
    · rw [segs_end ts []]; rfl
    · exact segs_end ts (w ++ t)
theorem segs_len : ∀ (ts : List (List Nat)) (w : List Nat), (segs ts w).length ≤ ts.length + 1
  | [], w => Nat.le_refl _
  | t :: ts, w => by
    rw [segs]
    split
    · have := segs_len ts []
      simp only [List.length_cons]; omega
    · have := segs_len ts (w ++ t)
      simp only [List.length_cons]; omega
theorem segs_word : ∀ (ts : List (List Nat)) (w : List Nat), ∀ x ∈ segs ts w, x.length ≤ w.length + ts.flatten.length
  | [], w, x, h => by
    rcases List.mem_singleton.mp h with rfl
    simp
  | t :: ts, w, x, h => by
    rw [segs] at h
    split at h
    · rcases List.mem_cons.mp h with rfl | h
      · simp
      · have := segs_word ts [] x h
        simp only [List.length_nil, List.flatten_cons, List.length_append] at this ⊢
        omega
    · have := segs_word ts (w ++ t) x h
      simp only [List.flatten_cons, List.length_append] at this ⊢
      omega
theorem segs_signs {P : Nat → Prop} : ∀ (ts : List (List Nat)) (w : List Nat), (∀ c ∈ w, P c) → (∀ c ∈ ts.flatten, P c) → ∀ x ∈ segs ts w, ∀ c ∈ x, P c
  | [], w, hw, _, x, h => by
    rcases List.mem_singleton.mp h with rfl
    exact hw
  | t :: ts, w, hw, ht, x, h => by
    have ht1 : ∀ c ∈ t, P c := fun c hc => ht c (by simp [hc])
    have ht2 : ∀ c ∈ ts.flatten, P c := fun c hc => ht c (by
      rw [List.flatten_cons]
      exact List.mem_append_right _ hc)
    rw [segs] at h
    split at h
    · rcases List.mem_cons.mp h with rfl | h
      · exact hw
      · exact segs_signs ts [] (fun _ z => by cases z) ht2 x h
    · exact segs_signs ts (w ++ t) (fun c hc => (List.mem_append.mp hc).elim (hw c) (ht1 c)) ht2 x h
theorem wordsL_len (l : List Nat) : (wordsL l).length ≤ l.length + 1 := by
  unfold wordsL
  have h1 := List.length_filter_le (fun w => !decide (cells w = [])) (segs (toks l) [])
  have h2 := segs_len (toks l) []
  have h3 := toks_len l
  omega
theorem wordsL_word {l x : List Nat} (h : x ∈ wordsL l) : x.length ≤ l.length := by
  have h1 := segs_word (toks l) [] x (List.mem_filter.mp h).1
  rw [toks_flat] at h1
  simpa using h1
theorem wordsL_signs {P : Nat → Prop} {l : List Nat} (hl : ∀ c ∈ l, P c) {x : List Nat} (h : x ∈ wordsL l) : ∀ c ∈ x, P c :=
  segs_signs (toks l) [] (fun _ z => by cases z) (by rw [toks_flat]; exact hl) x (List.mem_filter.mp h).1
theorem wordsL' (l : List Nat) : wordsL l = (segs (toks l) []).filter fun w => !decide (cells' w = []) := by
  unfold wordsL
  congr 1
  funext w
  rw [cells_same]
end Ts

namespace Ts
open PySem PySem.Spec PyProof.Rows L2
/-! ### plain lines -/
def stopAt (ss : List Int) (c : Int) : Int := (ss.find? fun s => decide (c < s)).getD (c + 1)
theorem stopAt_gt (ss : List Int) (c : Int) : c < stopAt ss c := by
  unfold stopAt
  cases h : ss.find? fun s => decide (c < s) with
  | none => simp; omega
  | some s =>
    have := List.find?_some h
    simpa using this
theorem stopAt_le {ss : List Int} {c : Int} (h : ∀ s ∈ ss, s ≤ 60) : stopAt ss c ≤ 60 ∨ stopAt ss c = c + 1 := by
  unfold stopAt
  cases e : ss.find? fun s => decide (c < s) with
  | none => right; rfl
  | some s => left; exact h s (List.mem_of_find?_eq_some e)
/-- of rising stops: behind c and ahead of its stop lies none, and none of these is the last or beyond -/
theorem stopAt_mid {ss : List Int} {c n last : Int} (hs : ss.Pairwise (· ≤ ·)) (hl : ss.getLast? = some last) (h1 : c < n) (h2 : n < stopAt ss c) : n < last ∧ n ∉ ss := by
  unfold stopAt at h2
  cases e : ss.find? fun s => decide (c < s) with
  | none => rw [e] at h2; simp at h2; omega
  | some s =>
    rw [e] at h2
    have h2 : n < s := h2
    obtain ⟨h3, as, bs, rfl, h4⟩ := List.find?_eq_some_iff_append.mp e
    have hlast : last ∈ s :: bs := by
      rw [List.getLast?_append] at hl
      cases hb : (s :: bs).getLast? with
      | none => simp at hb
      | some x =>
        rw [hb] at hl
        have : x = last := by simpa using hl
        rw [← this]
        exact List.mem_of_getLast? hb
    have hp := (List.pairwise_append.mp hs).2.1
    have ge : ∀ x ∈ s :: bs, s ≤ x := by
      intro x hx
      rcases List.mem_cons.mp hx with rfl | hx
      · exact Int.le_refl _
      · exact (List.pairwise_cons.mp hp).1 x hx
    refine ⟨Int.lt_of_lt_of_le h2 (ge last hlast), fun hm => ?_⟩
    rcases List.mem_append.mp hm with q | q
    · have := h4 n q
      simp at this
      omega
    · have := ge n q
      omega
theorem stopAt_end {ss : List Int} {c last : Int} (hl : ss.getLast? = some last) : last ≤ stopAt ss c ∨ stopAt ss c ∈ ss := by
  unfold stopAt
  cases e : ss.find? fun s => decide (c < s) with
  | none =>
    left
    have := List.find?_eq_none.mp e last (List.mem_of_getLast? hl)
    simp at this
    show last ≤ c + 1
    omega
  | some s => right; exact List.mem_of_find?_eq_some e
def pad (l : List Nat) (n : Int) : List Nat := l ++ List.replicate (n.toNat - l.length) 32
theorem ljust_S (l : List Nat) (n : Int) : Txt.ljust (S l) n = S (pad l n) := by
  unfold Txt.ljust pad
  by_cases h : n ≤ ((S l).length : Int)
  · rw [if_pos h]
    rw [S_len] at h
    rw [show n.toNat - l.length = 0 by omega]
    simp
  · rw [if_neg h, S_len]
    unfold Builtin.Str.padded
    simp [S]
def plainStep (ss : List Int) (acc t : List Nat) : List Nat := if t = mTab then pad acc (stopAt ss acc.length) else acc ++ cell t
def plainL (ss : List Int) (l : List Nat) : List Nat := (toks l).foldl (plainStep ss) []
theorem pad_len (l : List Nat) (n : Int) : (pad l n).length = max l.length n.toNat := by
  unfold pad
  rw [List.length_append, List.length_replicate]
  omega
theorem cell_len (t : List Nat) (h : t.length ≤ 2) : (cell t).length ≤ 2 := by
  unfold cell
  split
  · decide
  · split
    · decide
    · exact h
theorem step_len {ss : List Int} (h : ∀ s ∈ ss, s ≤ 60) (acc t : List Nat) (ht : t.length ≤ 2) : (plainStep ss acc t).length ≤ max 60 (acc.length + 2) := by
  unfold plainStep
  split
  · rw [pad_len]
    have h1 := stopAt_gt ss acc.length
    rcases stopAt_le (c := (acc.length : Int)) h with q | q <;> omega
  · rw [List.length_append]
    have := cell_len t ht
    omega
theorem plain_fold_len {ss : List Int} (h : ∀ s ∈ ss, s ≤ 60) : ∀ (ts : List (List Nat)) (acc : List Nat), (∀ t ∈ ts, t.length ≤ 2) → (ts.foldl (plainStep ss) acc).length ≤ max 60 acc.length + 2 * ts.length
  | [], acc, _ => by simp only [List.foldl_nil, List.length_nil]; omega
  | t :: ts, acc, ht => by
    have h1 := step_len h acc t (ht t (List.mem_cons_self ..))
    have h2 := plain_fold_len h ts (plainStep ss acc t) fun x hx => ht x (List.mem_cons_of_mem _ hx)
    simp only [List.foldl_cons, List.length_cons]
    omega
theorem plainL_len {ss : List Int} (h : ∀ s ∈ ss, s ≤ 60) (l : List Nat) : (plainL ss l).length ≤ 60 + 2 * l.length := by
  have h1 := plain_fold_len h (toks l) [] fun t ht => toks_le2 ht
  have h2 := toks_len l
  unfold plainL
  simp only [List.length_nil] at h1
  omega
theorem cell_lt {t : List Nat} {P : Nat → Prop} (h : ∀ c ∈ t, P c) (h2 : P 92) : ∀ c ∈ cell t, P c := by
  unfold cell
  split
  · intro c hc; cases hc
  · split
    · intro c hc
      rcases List.mem_singleton.mp hc with rfl
      exact h2
    · exact h
theorem step_lt {ss : List Int} {P : Nat → Prop} (h32 : P 32) (h92 : P 92) {acc t : List Nat} (ha : ∀ c ∈ acc, P c) (ht : ∀ c ∈ t, P c) : ∀ c ∈ plainStep ss acc t, P c := by
  unfold plainStep
  split
  · intro c hc
    unfold pad at hc
    rcases List.mem_append.mp hc with q | q
    · exact ha c q
    · have := List.eq_of_mem_replicate q
      rw [this]; exact h32
  · intro c hc
    rcases List.mem_append.mp hc with q | q
    · exact ha c q
    · exact cell_lt ht h92 c q
theorem fold_lt {ss : List Int} {P : Nat → Prop} (h32 : P 32) (h92 : P 92) : ∀ (ts : List (List Nat)) (acc : List Nat), (∀ c ∈ acc, P c) → (∀ c ∈ ts.flatten, P c) → ∀ c ∈ ts.foldl (plainStep ss) acc, P c
  | [], acc, ha, _ => ha
  | t :: ts, acc, ha, ht => by
    rw [List.foldl_cons]
    refine fold_lt h32 h92 ts _ (step_lt h32 h92 ha fun c hc => ht c ?_) fun c hc => ht c ?_
    · rw [List.flatten_cons]; exact List.mem_append_left _ hc
    · rw [List.flatten_cons]; exact List.mem_append_right _ hc
theorem plainL_lt {ss : List Int} {P : Nat → Prop} (h32 : P 32) (h92 : P 92) {l : List Nat} (h : ∀ c ∈ l, P c) : ∀ c ∈ plainL ss l, P c :=
  fold_lt h32 h92 (toks l) [] (fun _ z => by cases z) (by rw [toks_flat]; exact h)
/-- the other reading's last sign of a token that is neither a mark nor a tab -/
theorem cell_last {l t : List Nat} (h : t ∈ toks l) (h1 : t ≠ mMark) (h2 : t ≠ mTab) : cell t = [t.getLastD 0] := by
  rcases toks_form l t h with q | ⟨c, _, rfl⟩
  · simp only [List.mem_cons, List.not_mem_nil, or_false] at q
    rcases q with rfl | rfl | rfl
    · exact absurd rfl h1
    · exact absurd rfl h2
    · decide
  · unfold cell
    rw [if_neg (by simp), if_neg (by simp)]
    rfl
section
variable {X : Cx} {K : PySem.W.Frag} {H : Hp} {Q : VK} {a : Addr} {z : List Nat} {n : Int} {v : V} {C : Hp → Prop}
def rLjust : V → List V → Hp → VK → Prop := fun x xs H Q => ∃ (a : Str) (i : Int), x = .str a ∧ xs = [.int i] ∧ PadOk i = true ∧ Q (.str (Txt.ljust a i)) H
theorem mt_ljustN : MtR X "str.ljust" rLjust := mt_ljust
theorem r_ljust (h : PadOk n = true) (q : Q (.str (S (pad z n))) H) : rLjust (.str (S z)) [.int n] H Q := ⟨_, _, rfl, rfl, h, by rw [ljust_S]; exact q⟩
def rSortDI : List V → Hp → VK → Prop := fun xs H Q => ∃ (a : Addr) (kvs : List (Key × V)) (ks : List Int), xs = [.ref a] ∧ Rd H a (.dK kvs) ∧ kvs.map (·.1) = ks.map Sum.inl ∧ ks.length < 64 ∧
  ∀ (ys : List Int) (p : Addr), ys.Perm ks → ys.Pairwise (· ≤ ·) → H p = none → Q (.ref p) (upd H p (.lst (ys.map V.int)))
theorem c_sortDI (hc : X.calm = true) : CallR X (.builtin "sorted") rSortDI := call_sortedDI hc
def rTupOf (K : PySem.W.Frag) : List V → Hp → VK → Prop := fun xs H Q => ∃ p ys, xs = [.ref p] ∧ ((SqL K H p ys ∧ ∀ l, H l = none → Q (.ref l) (upd H l (.tup ys))) ∨ (SqT K H p ys ∧ Q (.ref p) H))
theorem c_tupOf : CallR X (.type "tuple") (rTupOf X.K) := call_tuple_of
theorem r_tupOfL {xs : List V} (h : SqL K H a xs) (q : New H (.tup xs) Q) : rTupOf K [.ref a] H Q := ⟨a, xs, rfl, .inl ⟨h, q⟩⟩
theorem p_dkI {kvs : List (Key × V)} (h : H a = some (.dK kvs)) (hl : kvs.length < sizeLine) (q : ∀ H', Kp a H H' → H' a = some (.dK (putK kvs (Sum.inl n) v)) → C H') : PutD (.ref a) (.int n) v H C :=
  ⟨a, _, rfl, DPut.k (k := Sum.inl n) h hl, q _ Kp.upd upd_same⟩
theorem inV_I (x : Int) : ∀ ys : List Int, inV (.int x) (ys.map V.int) = decide (x ∈ ys)
  | [] => by simp [inV]
  | y :: r => by
    have ih := inV_I x r
    unfold inV at ih ⊢
    rw [List.map_cons, List.any_cons, ih, show eqV (.int y) (.int x) = (y == x) from rfl]
    by_cases h : y = x
    · simp [h]
    · have : ¬ x = y := fun z => h z.symm
      simp [h, this]
theorem all_flat_I : ∀ ys : List Int, (ys.map V.int).all flatV = true
  | [] => rfl
  | _ :: r => all_flat_I r
theorem r_notInI {m : Int} {ys : List Int} (h : SqT K H a (ys.map V.int)) (q : Q (.bl (!decide (m ∈ ys))) H) : rIn K true (.int m) (.ref a) H Q :=
  ⟨a, _, rfl, .inr h, rfl, all_flat_I ys, by rw [if_pos rfl, inV_I]; exact q⟩
end
/-- keys of a dict of whole numbers, put one by one -/
theorem put_keys {kvs : List (Key × V)} {ks : List Int} (h : kvs.map (·.1) = ks.map Sum.inl) (n : Int) (v : V) : ∃ ks', (putK kvs (Sum.inl n) v).map (·.1) = ks'.map Sum.inl ∧ ks'.length ≤ ks.length + 1 ∧ ks' ≠ [] ∧ ∀ k ∈ ks', k ∈ ks ∨ k = n := by
  unfold putK
  by_cases hc : (kvs.any fun kv => decide (kv.1 = Sum.inl n)) = true
  · rw [if_pos hc]
    refine ⟨ks, ?_, by omega, ?_, fun k hk => .inl hk⟩
    · rw [List.map_map, ← h]
      apply List.map_congr_left
      intro p hp
      show (if p.1 = Sum.inl n then (p.1, v) else p).1 = p.1
      split <;> rfl
    · intro e
      subst e
      have : kvs = [] := by simpa using h
      subst this
      simp at hc
  · rw [if_neg hc]
    refine ⟨ks ++ [n], by rw [List.map_append, h, List.map_append]; rfl, by simp, by simp, fun k hk => ?_⟩
    rcases List.mem_append.mp hk with q | q
    · exact .inl q
    · exact .inr (List.mem_singleton.mp q)
theorem r_dnew {σ : L2.St} {H : Hp} {Q : VK} (q : New H (.dK []) Q) : tDNewK σ H Q := q
theorem kp_new {p d : Addr} {H H1 H2 : Hp} (a : Kp p H H1) (n : H d = none) (b : Kp d H1 H2) : Kp p H H2 := fun x o hx h => b x o (ne_of_none h n) (a x o hx h)
end Ts

namespace Ts
open PySem PySem.Spec PyProof.Rows L2
/-! ### figures -/
def dig (i : Int) : List Nat := (toString i : Str).cps.toList
theorem S_dig (i : Int) : S (dig i) = (toString i : Str) := S_of _
def pad2 (i : Int) : List Nat := List.replicate (2 - (Nat.toDigits 10 i.natAbs).length) 48 ++ dig i
section
variable {X : Cx} {K : PySem.W.Frag} {σ : L2.St} {H : Hp} {Q : VK} {z : List Nat} {m : Int}
theorem small_log {i : Int} (h0 : -1000000 ≤ i) (h1 : i ≤ 1000000) : i.natAbs.log2 < 1920 := by
  have h : i.natAbs ≤ 1000000 := by omega
  by_cases e : i.natAbs = 0
  · rw [e]; decide
  · have : i.natAbs.log2 < 20 := (Nat.log2_lt e).mpr (by omega)
    omega
def rStrI : List V → Hp → VK → Prop := fun xs H Q => ∃ i, xs = [.int i] ∧ -1000000 ≤ i ∧ i ≤ 1000000 ∧ Q (.str (S (dig i))) H
theorem c_strI : CallR X (.type "str") rStrI := by
  intro pins s σ H xs us Q I r h
  obtain ⟨i, rfl, h0, h1, q⟩ := h
  exact call_str_int pins s σ H _ us Q I r ⟨i, rfl, small_log h0 h1, by rw [S_dig] at q; exact q⟩
def rMulS : R2 := fun x y H Q => ∃ (z : List Nat) (k : Int), x = .str (S z) ∧ y = .int k ∧ z.length ≤ 1000 ∧ -1000 ≤ k ∧ k ≤ 1000 ∧ Q (.str (S (List.replicate k.toNat z).flatten)) H
theorem foldl_repN (its : List Nat) : ∀ (k : Nat) (acc : List Nat),
    List.foldl (fun x1 x2 => x1 ++ x2) acc.toArray (List.replicate k its.toArray) = (acc ++ (List.replicate k its).flatten).toArray
  | 0, acc => by simp
  | k + 1, acc => by
    rw [List.replicate_succ, List.foldl_cons, List.replicate_succ, List.flatten_cons, ← List.append_assoc, ← foldl_repN its k (acc ++ its)]
    simp
theorem repN_len (z : List Nat) : ∀ k : Nat, (List.replicate k z).flatten.length = k * z.length
  | 0 => by simp
  | k + 1 => by
    rw [List.replicate_succ, List.flatten_cons, List.length_append, repN_len z k, Nat.succ_mul, Nat.add_comm]
theorem o_mulS : OpR X (binaryOp .Mult) rMulS := by
  intro pins s σ H x y v u Q I rx ry h
  obtain ⟨z, k, rfl, rfl, hz, h0, h1, q⟩ := h
  obtain ⟨t, rfl⟩ := rx
  obtain ⟨t', rfl⟩ := ry
  have hl : (S z).length = z.length := by simp [S, Str.length]
  have hb : (S z).length * k.toNat ≤ 1000000 := by
    rw [hl]
    exact Nat.le_trans (Nat.mul_le_mul hz (show k.toNat ≤ 1000 by omega)) (by decide)
  have hs : sizeLine = 16777216 := sizeLine_eq
  refine PySem.P.mul_str (by rw [decide_eq_false (by omega), decide_eq_false (by omega)]; rfl) (fun a b => ?_) (fun a b => ?_) ?_
  · have e : (9223372036854775807 : Int) / 1000 ≤ 9223372036854775807 / k := (Int.le_ediv_iff_mul_le (by omega)).mpr (by omega)
    rw [hl]
    show ¬ ((z.length : Nat) : Int) > 9223372036854775807 / k
    omega
  · have e : (S z).length * k.toNat ≤ 1000000 := hb
    exact PyProof.Rows.short24 (by omega)
  · split
    · rename_i hn
      have e : k.toNat = 0 := by omega
      rw [e] at q
      exact ⟨by decide, .str (S []), H, I.tok _, ⟨_, rfl⟩, q⟩
    · split
      · rename_i hn hk
        have e : (List.replicate k.toNat z).flatten = z := by
          rcases (Bool.or_eq_true _ _).mp hk with hk | hk
          · have : k = 1 := by simpa using hk
            subst this
            simp
          · have : (S z).length = 0 := by simpa using hk
            rw [hl] at this
            have := List.eq_nil_of_length_eq_zero this
            subst this
            simp
        rw [e] at q
        exact ⟨.str (S z), H, I, ⟨_, rfl⟩, q⟩
      · have e := foldl_repN z k.toNat []
        rw [List.nil_append] at e
        show (_ : Nat) ≤ _ ∧ _
        rw [show (S z).cps = z.toArray from rfl]
        have e2 : List.foldl (fun x1 x2 => x1 ++ x2) #[] (List.replicate k.toNat z.toArray) = (List.replicate k.toNat z).flatten.toArray := e
        rw [e2]
        refine ⟨?_, .str (S _), H, I.tok _, ⟨_, rfl⟩, q⟩
        show ((List.replicate k.toNat z).flatten.toArray).size ≤ _
        rw [List.size_toArray, repN_len]
        rw [hl] at hb
        rw [Nat.mul_comm]
        omega
/-! the figures' signs -/
theorem dig_nat (n : Nat) : dig (n : Int) = (Nat.toDigits 10 n).map Char.toNat := by
  unfold dig
  show (Str.ofString (toString (n : Int))).cps.toList = _
  rw [Str.ofString_eq_toList]
  show ((toString (n : Int)).toList.map Char.toNat) = _
  congr 1
  show (Nat.repr n).toList = _
  unfold Nat.repr
  simp
theorem dig_neg {i : Int} (h : i < 0) : dig i = 45 :: dig (i.natAbs : Int) := by
  obtain ⟨n, rfl⟩ : ∃ n : Nat, i = Int.negSucc n := by
    cases i with
    | ofNat n => exact absurd h (by simp)
    | negSucc n => exact ⟨n, rfl⟩
  rw [show ((Int.negSucc n).natAbs : Int) = ((n + 1 : Nat) : Int) from rfl, dig_nat]
  unfold dig
  show (Str.ofString ("-" ++ (n + 1).repr)).cps.toList = _
  rw [Str.ofString_eq_toList]
  show (("-" ++ (n + 1).repr).toList.map Char.toNat) = _
  unfold Nat.repr
  simp
theorem core_dig {P : Char → Prop} (h : ∀ k, k < 10 → P (Nat.digitChar k)) : ∀ (f n : Nat) (ds : List Char), (∀ c ∈ ds, P c) → ∀ c ∈ Nat.toDigitsCore 10 f n ds, P c
  | 0, n, ds, hd => hd
  | f + 1, n, ds, hd => by
    unfold Nat.toDigitsCore
    have hk : ∀ c ∈ Nat.digitChar (n % 10) :: ds, P c := fun c hc => by
      rcases List.mem_cons.mp hc with rfl | hc
      · exact h _ (Nat.mod_lt _ (by decide))
      · exact hd c hc
    simp only
    split
    · exact hk
    · exact core_dig h f _ _ hk
theorem dig_lt (n : Nat) : ∀ c ∈ dig (n : Int), c < 128 := by
  intro c hc
  rw [dig_nat] at hc
  obtain ⟨d, hd, rfl⟩ := List.mem_map.mp hc
  refine core_dig (P := fun d => d.toNat < 128) ?_ _ _ _ (fun _ z => by cases z) d hd
  intro k hk
  have : ∀ k, k < 10 → (Nat.digitChar k).toNat < 128 := by decide
  exact this k hk
theorem dig_lt' (i : Int) : ∀ c ∈ dig i, c < 128 := by
  by_cases h : i < 0
  · rw [dig_neg h]
    intro c hc
    rcases List.mem_cons.mp hc with rfl | hc
    · decide
    · exact dig_lt _ c hc
  · have : i = (i.natAbs : Int) := by omega
    rw [this]
    exact dig_lt _
theorem dig_len (n : Nat) : (dig (n : Int)).length = (Nat.toDigits 10 n).length := by rw [dig_nat, List.length_map]
theorem pad2_nat (n : Nat) : pad2 (n : Int) = if (dig (n : Int)).length < 2 then 48 :: dig (n : Int) else dig (n : Int) := by
  unfold pad2
  rw [Int.natAbs_natCast, dig_len]
  have h := (digitsFacts10 n).ge1
  split
  · rw [show 2 - (Nat.toDigits 10 n).length = 1 by omega]
    rfl
  · rw [show 2 - (Nat.toDigits 10 n).length = 0 by omega]
    rfl
theorem dig_le {i : Int} (h0 : -1000000 ≤ i) (h1 : i ≤ 1000000) : (dig i).length ≤ 11 := by
  have a : ∀ n : Nat, n ≤ 1000000 → (dig (n : Int)).length ≤ 10 := fun n hn => by
    have := PySem.W.KXf.digits_le (a := (n : Int)) (by omega) (by omega)
    rw [dig_len]
    simpa using this
  by_cases h : i < 0
  · rw [dig_neg h, List.length_cons]
    have := a i.natAbs (by omega)
    omega
  · have e : i = (i.natAbs : Int) := by omega
    rw [e]
    have := a i.natAbs (by omega)
    omega
abbrev ones : List (List Nat) := [[], [105], [105, 105], [105, 105, 105], [105, 118], [118], [118, 105], [118, 105, 105], [118, 105, 105, 105], [105, 120]]
def shownN (v : Int) (f : List Nat) : List Nat :=
  if f = [48, 49] then (if v < 0 then [45] else []) ++ pad2 (v.natAbs : Int)
  else if f = [97] ∧ 1 ≤ v ∧ v ≤ 26 then [96 + v.toNat]
  else if f = [105] ∧ 1 ≤ v ∧ v ≤ 39 then (List.replicate (v / 10).toNat [120]).flatten ++ ones.getD (v % 10).toNat []
  else dig v
section
variable {v : Int} {f : List Nat}
theorem shownN_01 (h : f = [48, 49]) : shownN v f = (if v < 0 then [45] else []) ++ pad2 (v.natAbs : Int) := by
  unfold shownN
  rw [if_pos h]
theorem shownN_a (h : f = [97]) (h0 : 1 ≤ v) (h1 : v ≤ 26) : shownN v f = [96 + v.toNat] := by
  subst h
  unfold shownN
  rw [if_neg (by decide), if_pos ⟨rfl, h0, h1⟩]
theorem shownN_i (h : f = [105]) (h0 : 1 ≤ v) (h1 : v ≤ 39) : shownN v f = (List.replicate (v / 10).toNat [120]).flatten ++ ones.getD (v % 10).toNat [] := by
  subst h
  unfold shownN
  rw [if_neg (by decide), if_neg (fun h => absurd h.1 (by decide)), if_pos ⟨rfl, h0, h1⟩]
theorem shownN_o (h : ¬ f = [48, 49]) (h1 : ¬ (f = [97] ∧ 1 ≤ v ∧ v ≤ 26)) (h2 : ¬ (f = [105] ∧ 1 ≤ v ∧ v ≤ 39)) : shownN v f = dig v := by
  unfold shownN
  rw [if_neg h, if_neg h1, if_neg h2]
theorem shownN_on (h : ¬ f = [48, 49]) (h1 : ¬ (f = [97] ∧ 1 ≤ v ∧ v ≤ 26)) (h2 : ¬ (f = [105] ∧ 1 ≤ v ∧ v ≤ 39)) (hv : v < 0) : shownN v f = [45] ++ dig (v.natAbs : Int) := by
  rw [shownN_o h h1 h2, dig_neg hv]
  rfl
theorem shownN_op (h : ¬ f = [48, 49]) (h1 : ¬ (f = [97] ∧ 1 ≤ v ∧ v ≤ 26)) (h2 : ¬ (f = [105] ∧ 1 ≤ v ∧ v ≤ 39)) (hv : ¬ v < 0) : shownN v f = [] ++ dig (v.natAbs : Int) := by
  rw [shownN_o h h1 h2, show (v.natAbs : Int) = v by omega]
  rfl
theorem shownN_01a (h : f = [48, 49]) (hl : (dig (v.natAbs : Int)).length < 2) (hv : v < 0) : shownN v f = [45] ++ ([48] ++ dig (v.natAbs : Int)) := by
  rw [shownN_01 h, if_pos hv, pad2_nat, if_pos hl]
  rfl
theorem shownN_01b (h : f = [48, 49]) (hl : (dig (v.natAbs : Int)).length < 2) (hv : ¬ v < 0) : shownN v f = [] ++ ([48] ++ dig (v.natAbs : Int)) := by
  rw [shownN_01 h, if_neg hv, pad2_nat, if_pos hl]
  rfl
theorem shownN_01c (h : f = [48, 49]) (hl : ¬ (dig (v.natAbs : Int)).length < 2) (hv : v < 0) : shownN v f = [45] ++ dig (v.natAbs : Int) := by
  rw [shownN_01 h, if_pos hv, pad2_nat, if_neg hl]
theorem shownN_01d (h : f = [48, 49]) (hl : ¬ (dig (v.natAbs : Int)).length < 2) (hv : ¬ v < 0) : shownN v f = [] ++ dig (v.natAbs : Int) := by
  rw [shownN_01 h, if_neg hv, pad2_nat, if_neg hl]
theorem two_ne {a b : List Nat} (h : f = a) (h2 : f = b) (e : decide (a = b) = false) : False := by
  subst h
  exact absurd h2 (of_decide_eq_false e)
theorem shownN_le (h0 : -1000000 ≤ v) (h1 : v ≤ 1000000) : (shownN v f).length ≤ 20 := by
  have a := dig_le h0 h1
  have b := pad2_nat v.natAbs
  have c := dig_le (i := (v.natAbs : Int)) (by omega) (by omega)
  unfold shownN
  split
  · rw [List.length_append, b]
    split <;> split <;> simp only [List.length_cons, List.length_nil] <;> omega
  · split
    · simp
    · split
      · rename_i h
        rw [List.length_append]
        have d : (List.replicate (v / 10).toNat [120]).flatten.length ≤ 3 := by
          have : ∀ k, ((List.replicate k [120]).flatten : List Nat).length = k := fun k => by simp
          rw [this]
          omega
        have e : (ones.getD (v % 10).toNat []).length ≤ 4 := by
          have : ∀ k, k < 10 → (ones.getD k []).length ≤ 4 := by decide
          exact this _ (by omega)
        omega
      · omega
theorem shownN_lt : ∀ c ∈ shownN v f, c < 128 := by
  have a := dig_lt' v
  have b := pad2_nat v.natAbs
  have d := dig_lt v.natAbs
  unfold shownN
  intro c hc
  split at hc
  · rw [b] at hc
    rcases List.mem_append.mp hc with hc | hc
    · split at hc
      · rcases List.mem_singleton.mp hc with rfl
        decide
      · cases hc
    · split at hc
      · rcases List.mem_cons.mp hc with rfl | hc
        · decide
        · exact d c hc
      · exact d c hc
  · split at hc
    · rename_i h
      rcases List.mem_singleton.mp hc with rfl
      omega
    · split at hc
      · rcases List.mem_append.mp hc with hc | hc
        · obtain ⟨l, hl, hc⟩ := List.mem_flatten.mp hc
          rcases List.eq_of_mem_replicate hl with rfl
          rcases List.mem_singleton.mp hc with rfl
          decide
        · have : ∀ k, k < 10 → ∀ c ∈ ones.getD k [], c < 128 := by decide
          exact this _ (by omega) c hc
      · exact a c hc
end
/-- the static names say nothing of a digit limit -/
abbrev noDig (K : PySem.W.Frag) : Prop := PySem.W.nsIn K cStatics "sys.int_max_str_digits" = some none
theorem noDigits {pins : List (Addr × Obj)} {s : Shared} (n : noDig X.K) (I : Inv X pins σ H s) : s.heap.NoDigits := by
  obtain ⟨mc, h, _⟩ := I.nolimit
  exact ⟨mc, h, PySem.W.ns_none_of I.kIn h n⟩
def tFmt2 (te : TE) : TE := fun σ H Q => te σ H fun x H1 => ∃ i : Int, x = .int i ∧ 0 ≤ i ∧ i ≤ 1000000 ∧ Q (.str (S (pad2 i))) H1
theorem digits_lim {i : Int} (h0 : 0 ≤ i) (h1 : i ≤ 1000000) : i.natAbs < 10 ^ 4300 := lt_digitLimit_of_lt (by omega)
theorem pe_fmt2 {e : Expr} {te : TE} {p1 p2 p3 : Pos} {k : Nat} (n : noDig X.K) (he : PE X e te) :
    PE X (.FormattedValue e (-1) (some (.JoinedStr [.Constant (.str "02d") k p1] p2)) p3) (tFmt2 te) := by
  refine ⟨fun pins s σ H Q I h => ?_⟩
  refine wpAny_FormattedValue_spec (thn (he.run pins s σ H _ I h) fun v s1 hv => ?_)
  obtain ⟨x, H1, I1, r1, i, rfl, h0, h1, q⟩ := hv
  obtain ⟨t, rfl⟩ := r1
  have hs : PE X (.JoinedStr [.Constant (.str "02d") k p1] p2) (tC (.str "02d")) := pe_joined1 pe_str
  refine thn (hs.run pins s1 σ H1 (fun v H2 => v = .str "02d" ∧ H2 = H1) I1 ⟨rfl, rfl⟩) fun w s2 hw => ?_
  obtain ⟨y, H2, I2, r2, rfl, rfl⟩ := hw
  obtain ⟨t2, rfl⟩ := r2
  refine ⟨_, _, rfl, formatField_int_specOf (noDigits n I2) (digits_lim h0 h1) (by decide +kernel) (fun W hW f => ?_) (by decide)⟩
  have e := f.zeroG (by decide +kernel) h0
  have hW2 : W = 2 := hW.trans (by decide +kernel)
  subst hW2
  have e2 : S (pad2 i) = intSpecTextOf "02d" i := by
    rw [e, pad2, ← S_app, S_dig]
  rw [e2] at q
  exact ⟨.str (intSpecTextOf "02d" i), H2, I2.tok _, ⟨_, rfl⟩, q⟩
/-- each item of a tuple kept as f of it -/
theorem lc_allT {a : Addr} {te : TE} {vs : List Nat} {j : Nat} (xs : List V) (hx : SqT K H a xs) (f : V → V) (hz : xs.length < 1000000)
    (hw : ∀ x, wipe ((wipe σ vs).set j (some x)) vs = wipe σ vs)
    (he : ∀ x ∈ xs, ∀ H2, Ex H H2 → ∀ QQ : VK, (∀ H3, Ex H2 H3 → QQ (f x) H3) → te ((wipe σ vs).set j (some x)) H2 QQ)
    (q : ∀ D H2, H D = none → Ex H H2 → H2 D = some (.lst (xs.map f)) → Q (.ref D) H2) : LcK (Itt K a) (gName j) tYes te vs σ H Q := by
  intro D nD
  refine lc_tup (K := K) (a := a) (xs := xs) (fun i H' => Ex H H' ∧ H' D = some (.lst ((xs.take i).map f))) ⟨Evl.Ex.new nD, upd_same⟩
    (fun i H' _ h => Ex.T h.1 hx) (fun i x H' hi h => ?_) (fun H' h => q D H' nD h.1 (by
      have := h.2
      rw [List.take_of_length_le (Nat.le_refl _)] at this
      exact this))
  obtain ⟨h1, h2⟩ := h
  have hm : x ∈ xs := List.mem_of_getElem? hi
  refine ⟨hw x, ?_⟩
  unfold tYes
  dsimp only
  rw [if_pos rfl]
  refine he x hm H' h1 _ fun H4 e4 => ?_
  refine ⟨_, e4 _ _ h2, ?_, ?_, ?_⟩
  · rw [List.length_map, List.length_take]
    exact Nat.lt_of_lt_of_le (m := 1000000) (by omega) (by decide)
  · exact ex_kp (h1.trans e4) nD Kp.upd
  · rw [upd_same, List.take_add_one, hi, List.map_append]
    rfl
end
/-! reading rules -/
section
variable {X : Cx} {K : PySem.W.Frag} {σ : L2.St} {H : Hp} {Q : VK} {z : List Nat} {m : Int}
theorem r_strI (h0 : -1000000 ≤ m) (h1 : m ≤ 1000000) (q : Q (.str (S (dig m))) H) : rStrI [.int m] H Q := ⟨m, rfl, h0, h1, q⟩
theorem r_mulS (hz : z.length ≤ 1000) (h0 : -1000 ≤ m) (h1 : m ≤ 1000) (q : Q (.str (S (List.replicate m.toNat z).flatten)) H) : rMulS (.str (S z)) (.int m) H Q := ⟨z, m, rfl, rfl, hz, h0, h1, q⟩
theorem roman_len {v : Int} {k : Nat} (h : v ≤ 39) : (List.replicate (v / 10).toNat [120]).flatten.length + (ones.getD k []).length ≤ 1000000 := by
  have a : ∀ k, ((List.replicate k [120]).flatten : List Nat).length = k := fun k => by simp
  have b : (ones.getD k []).length ≤ 4 := by
    by_cases h : k < 10
    · have : ∀ k, k < 10 → (ones.getD k []).length ≤ 4 := by decide
      exact this k h
    · have : ones[k]? = none := List.getElem?_eq_none (by show 10 ≤ k; omega)
      rw [List.getD_eq_getElem?_getD, this]
      decide
  rw [a]
  omega
theorem minus_len {k : Int} {z : List Nat} (hk : k ≤ 1) (h : z.length ≤ 999999) : (List.replicate k.toNat [45]).flatten.length + z.length ≤ 1000000 := by
  have a : ∀ k, ((List.replicate k [45]).flatten : List Nat).length = k := fun k => by simp
  rw [a]
  omega
theorem r_fmt2 {te : TE} (q : te σ H fun x H1 => ∃ i : Int, x = .int i ∧ 0 ≤ i ∧ i ≤ 1000000 ∧ Q (.str (S (pad2 i))) H1) : tFmt2 te σ H Q := q
theorem r_ex2 (h0 : 0 ≤ m) (h1 : m ≤ 1000000) (q : Q (.str (S (pad2 m))) H) : ∃ i : Int, V.int m = .int i ∧ 0 ≤ i ∧ i ≤ 1000000 ∧ Q (.str (S (pad2 i))) H := ⟨m, rfl, h0, h1, q⟩
theorem r_chain {r r' : R2} {ta tb tc : TE} (q : ta σ H fun x H1 => tb σ H1 fun y H2 => r x y H2 fun z H3 => IsB z H3 fun k H4 => IfB k (tc σ H4 fun w H5 => r' y w H5 Q) (Q (.bl false) H4)) : tChain r r' ta tb tc σ H Q := q
def JStep (ts : List TE) (acc : Str) (σ : L2.St) (Q : Str → Hp → Prop) : VK := fun x H1 => ∃ y : Str, x = .str y ∧ (acc ++ y).length ≤ sizeLine ∧ tJs ts (acc ++ y) σ H1 Q
theorem r_jstart {t : TE} {ts : List TE} {Q : Str → Hp → Prop} (q : tJs (t :: ts) (S []) σ H Q) : tJs (t :: ts) Str.empty σ H Q := q
theorem r_jcons {t : TE} {ts : List TE} {acc : Str} {Q : Str → Hp → Prop} (q : t σ H (JStep ts acc σ Q)) : tJs (t :: ts) acc σ H Q := q
theorem r_jnil {acc : Str} {Q : Str → Hp → Prop} (q : Q acc H) : tJs [] acc σ H Q := q
theorem r_jstep {ts : List TE} {u : List Nat} {Q : Str → Hp → Prop} (l : u.length + z.length ≤ 1000000) (q : tJs ts (S (u ++ z)) σ H Q) : JStep ts (S u) σ Q (.str (S z)) H :=
  ⟨S z, rfl, by rw [S_app, S_len, List.length_append]; exact Nat.le_trans l (by decide), by rw [S_app]; exact q⟩
def FStep (Q : VK) : VK := fun x H1 => (∃ y : Str, x = .str y ∧ y.length ≤ sizeLine ∧ Q (.str y) H1) ∨ ∃ i : Int, x = .int i ∧ i.natAbs.log2 < 1920 ∧ Q (.str (toString i)) H1
theorem r_fmt {te : TE} (q : te σ H (FStep Q)) : tFmt te σ H Q := q
theorem r_fstep (l : z.length ≤ 1000000) (q : Q (.str (S z)) H) : FStep Q (.str (S z)) H := .inl ⟨S z, rfl, by rw [S_len]; exact Nat.le_trans l (by decide), q⟩
theorem pad2_le {m : Int} (h0 : -1000000 ≤ m) (h1 : m ≤ 1000000) : (pad2 m).length ≤ 13 := by
  have := dig_le h0 h1
  unfold pad2
  rw [List.length_append, List.length_replicate]
  omega
theorem atI_pos {α : Type} {xs : List α} {m : Int} (h : 0 ≤ m) : atI xs m = xs[m.toNat]? := by
  unfold atI ixN
  rw [if_pos h]
  split
  · rfl
  · rw [List.getElem?_eq_none (by omega)]
    rfl
theorem at_letters {v : Int} (h0 : 1 ≤ v) (h1 : v ≤ 26) : atI [97, 98, 99, 100, 101, 102, 103, 104, 105, 106, 107, 108, 109, 110, 111, 112, 113, 114, 115, 116, 117, 118, 119, 120, 121, 122] (v - 1) = some (96 + v.toNat) := by
  rw [atI_pos (by omega)]
  obtain ⟨n, rfl⟩ : ∃ n : Nat, v = (n : Int) := ⟨v.toNat, by omega⟩
  have h : ∀ n, 1 ≤ n → n ≤ 26 → [97, 98, 99, 100, 101, 102, 103, 104, 105, 106, 107, 108, 109, 110, 111, 112, 113, 114, 115, 116, 117, 118, 119, 120, 121, 122][n - 1]? = some (96 + n) := by
    intro n a b
    have : ∀ k, k < 26 → [97, 98, 99, 100, 101, 102, 103, 104, 105, 106, 107, 108, 109, 110, 111, 112, 113, 114, 115, 116, 117, 118, 119, 120, 121, 122][k]? = some (97 + k) := by decide
    rw [this (n - 1) (by omega)]
    congr 1
    omega
  rw [show ((n : Int) - 1).toNat = n - 1 by omega, show (n : Int).toNat = n by omega]
  exact h n (by omega) (by omega)
theorem at_ones {m : Int} (h0 : 0 ≤ m) (h1 : m < 10) : atI (ones.map fun y => V.str (S y)) m = some (.str (S (ones.getD m.toNat []))) := by
  rw [atI_pos h0, List.getElem?_map]
  have : ∀ k, k < 10 → ones[k]? = some (ones.getD k []) := by decide
  rw [this _ (by omega)]
  rfl
end
end Ts

namespace Ts
open PySem PySem.Spec PyProof.Rows L2
/-! ### comprehensions by an invariant -/
theorem Kp.updN {p D : Addr} {H H' : Hp} {o : HO} (k : Kp p H H') (n : H D = none) : Kp p H (L2.upd H' D o) := fun a u h e => by
  rw [L2.upd_ne (ne_of_none e n)]
  exact k a u h e
theorem Ex.updN {D : Addr} {H H' : Hp} {o : HO} (k : Ex H H') (n : H D = none) : Ex H (L2.upd H' D o) := fun a u e => by
  rw [L2.upd_ne (ne_of_none e n)]
  exact k a u e
section
variable {σ : L2.St} {H : Hp} {Q : VK} {K : PySem.W.Frag}
theorem lc_inv {J : It} {tt : TT} {te : TE} {vs : List Nat} {j : Nat} (R : Hp → Hp → Prop) (hR : ∀ D H1 H2 o, H D = none → R H1 H2 → H1 D = some o → H2 D = some o)
    (n : Nat) (xs : Nat → V) (hz : n < 1000000)
    (I : Nat → List V → Hp → Prop)
    (hg : ∀ i acc H', i < n → I i acc H' → J.go i H') (hs : ∀ acc H', I n acc H' → J.stop n H') (hy : ∀ i acc H' x H'', i < n → I i acc H' → J.yld i H' x H'' → H'' = H' ∧ x = xs i)
    (hw : ∀ x, wipe ((wipe σ vs).set j (some x)) vs = wipe σ vs)
    (h0 : I 0 [] H)
    (hD : ∀ D i acc H' o, H D = none → I i acc H' → I i acc (upd H' D o))
    (hb : ∀ i acc H', i < n → I i acc H' → ∀ (Y : VK) (N : Hp → Prop), (∀ y H4, I (i + 1) (acc ++ [y]) H4 → R H' H4 → Y y H4) → (∀ H3, I (i + 1) acc H3 → R H' H3 → N H3) →
      tt ((wipe σ vs).set j (some (xs i))) H' fun b H3 => IfB b (te ((wipe σ vs).set j (some (xs i))) H3 Y) (N H3))
    (q : ∀ D H2 acc, H D = none → H2 D = some (.lst acc) → I n acc H2 → Q (.ref D) H2) : LcK J (gName j) tt te vs σ H Q := by
  intro D nD
  refine ⟨fun i m H' => m = n - i ∧ i ≤ n ∧ ∃ acc, acc.length ≤ i ∧ I i acc H' ∧ H' D = some (.lst acc), ⟨n, by omega, Nat.zero_le _, [], Nat.le_refl _, hD _ _ _ _ _ nD h0, upd_same⟩, ?_⟩
  rintro i m H' ⟨rfl, hi, acc, hl, hI, hd⟩
  by_cases h : i < n
  · refine .inr ⟨hg i acc H' h hI, fun H'' => i + 1 ≤ n ∧ ∃ acc, acc.length ≤ i + 1 ∧ I (i + 1) acc H'' ∧ H'' D = some (.lst acc), fun H'' hh => ⟨n - (i + 1), by omega, rfl, hh⟩, fun x H2 y => ?_⟩
    obtain ⟨rfl, rfl⟩ := hy i acc H' x H2 h hI y
    refine ⟨hw _, ?_⟩
    exact hb i acc _ h hI _ _ (fun y H4 h4 k4 => ⟨acc, hR _ _ _ _ nD k4 hd, Nat.lt_of_lt_of_le (m := 1000000) (by omega) (by decide), by omega, acc ++ [y], by rw [List.length_append]; exact Nat.succ_le_succ hl, hD _ _ _ _ _ nD h4, upd_same⟩)
      (fun H3 h3 k3 => ⟨by omega, acc, by omega, h3, hR _ _ _ _ nD k3 hd⟩)
  · have : i = n := by omega
    subst this
    exact .inl ⟨hs acc H' hI, q D H' acc nD hd hI⟩
theorem lc_invG {J : It} {g : TG} {tt : TT} {te : TE} {vs : List Nat} (R : Hp → Hp → Prop) (hR : ∀ D H1 H2 o, H D = none → R H1 H2 → H1 D = some o → H2 D = some o)
    (n : Nat) (xs : Nat → V) (hz : n < 1000000)
    (I : Nat → List V → Hp → Prop)
    (hg : ∀ i acc H', i < n → I i acc H' → J.go i H') (hs : ∀ acc H', I n acc H' → J.stop n H') (hy : ∀ i acc H' x H'', i < n → I i acc H' → J.yld i H' x H'' → H'' = H' ∧ x = xs i)
    (h0 : I 0 [] H)
    (hD : ∀ D i acc H' o, H D = none → I i acc H' → I i acc (upd H' D o))
    (hb : ∀ i acc H', i < n → I i acc H' → ∀ (Y : VK) (N : Hp → Prop), (∀ y H4, I (i + 1) (acc ++ [y]) H4 → R H' H4 → Y y H4) → (∀ H3, I (i + 1) acc H3 → R H' H3 → N H3) →
      g (xs i) (wipe σ vs) H' fun σ2 H2 => wipe σ2 vs = wipe σ vs ∧ tt σ2 H2 fun b H3 => IfB b (te σ2 H3 Y) (N H3))
    (q : ∀ D H2 acc, H D = none → H2 D = some (.lst acc) → I n acc H2 → Q (.ref D) H2) : LcK J g tt te vs σ H Q := by
  intro D nD
  refine ⟨fun i m H' => m = n - i ∧ i ≤ n ∧ ∃ acc, acc.length ≤ i ∧ I i acc H' ∧ H' D = some (.lst acc), ⟨n, by omega, Nat.zero_le _, [], Nat.le_refl _, hD _ _ _ _ _ nD h0, upd_same⟩, ?_⟩
  rintro i m H' ⟨rfl, hi, acc, hl, hI, hd⟩
  by_cases h : i < n
  · refine .inr ⟨hg i acc H' h hI, fun H'' => i + 1 ≤ n ∧ ∃ acc, acc.length ≤ i + 1 ∧ I (i + 1) acc H'' ∧ H'' D = some (.lst acc), fun H'' hh => ⟨n - (i + 1), by omega, rfl, hh⟩, fun x H2 y => ?_⟩
    obtain ⟨rfl, rfl⟩ := hy i acc H' x H2 h hI y
    exact hb i acc _ h hI _ _ (fun y H4 h4 k4 => ⟨acc, hR _ _ _ _ nD k4 hd, Nat.lt_of_lt_of_le (m := 1000000) (by omega) (by decide), by omega, acc ++ [y], by rw [List.length_append]; exact Nat.succ_le_succ hl, hD _ _ _ _ _ nD h4, upd_same⟩)
      (fun H3 h3 k3 => ⟨by omega, acc, by omega, h3, hR _ _ _ _ nD k3 hd⟩)
  · have : i = n := by omega
    subst this
    exact .inl ⟨hs acc H' hI, q D H' acc nD hd hI⟩
theorem kpR {p : Addr} (hp : ∃ o, H p = some o) : ∀ (D : Addr) (H1 H2 : Hp) (o : HO), H D = none → Kp p H1 H2 → H1 D = some o → H2 D = some o := fun D H1 H2 o n k h => by
  obtain ⟨u, hp⟩ := hp
  exact k D o (fun e => by subst e; rw [n] at hp; cases hp) h
theorem exR : ∀ (D : Addr) (H1 H2 : Hp) (o : HO), H D = none → Ex H1 H2 → H1 D = some o → H2 D = some o := fun D H1 H2 o n k h => k D o h
/-- a comprehension over a range whose texts a pen draws -/
theorem lc_draw {lo : Int} {n : Nat} {te : TE} {vs : List Nat} {j : Nat} {p : Addr} (hp : ∃ o, H p = some o) (hz : n < 1000000)
    (hw : ∀ x, wipe ((wipe σ vs).set j (some x)) vs = wipe σ vs)
    (I : Nat → List (List Nat) → Hp → Prop) (h0 : I 0 [] H)
    (hD : ∀ D i acc H' o, H D = none → I i acc H' → I i acc (upd H' D o))
    (hb : ∀ i acc H', i < n → I i acc H' → Kp p H H' → ∀ (Y : VK), (∀ y H4, I (i + 1) (acc ++ [y]) H4 → Kp p H' H4 → Y (.str (S y)) H4) →
      te ((wipe σ vs).set j (some (.int (lo + i)))) H' Y)
    (q : ∀ D H2 acc, H D = none → H2 D = some (.lst (acc.map SV)) → I n acc H2 → Kp p H H2 → acc.length = n → Q (.ref D) H2) : LcK (Itr lo n) (gName j) tYes te vs σ H Q := by
  refine lc_inv (Kp p) (kpR hp) n (fun i => .int (lo + i)) hz
    (fun i acc H' => ∃ zs, acc = zs.map SV ∧ zs.length = i ∧ I i zs H' ∧ Kp p H H') (fun i acc H' h _ => h) (fun acc H' _ => Nat.le_refl _) (fun i acc H' x H'' h _ y => ⟨y.1, y.2⟩) hw ⟨[], rfl, rfl, h0, Kp.refl _ _⟩
    (fun D i acc H' o nD hh => by obtain ⟨zs, e, l, h, k⟩ := hh; exact ⟨zs, e, l, hD D i zs H' o nD h, k.updN nD⟩) ?_ ?_
  · rintro i acc H' hi ⟨zs, rfl, hl, h, k⟩ Y N hY hN
    unfold tYes
    dsimp only
    refine r_T ?_
    refine hb i zs H' hi h k Y fun y H4 h4 k4 => ?_
    exact hY _ _ ⟨zs ++ [y], by rw [List.map_append]; rfl, by rw [List.length_append, hl]; rfl, h4, k.trans k4⟩ k4
  · rintro D H2 acc nD hd ⟨zs, rfl, hl, h, k⟩
    exact q D H2 zs nD hd h k hl
/-- a comprehension over a range, each number told as F tells -/
theorem lc_map {lo : Int} {n : Nat} {te : TE} {vs : List Nat} {j : Nat} (F : Nat → V) (hz : n < 1000000)
    (hw : ∀ x, wipe ((wipe σ vs).set j (some x)) vs = wipe σ vs)
    (hb : ∀ i H', i < n → Ex H H' → ∀ (Y : VK), (∀ H4, Ex H' H4 → Y (F i) H4) → te ((wipe σ vs).set j (some (.int (lo + i)))) H' Y)
    (q : ∀ D H2, H D = none → Ex H H2 → H2 D = some (.lst ((List.range n).map F)) → Q (.ref D) H2) : LcK (Itr lo n) (gName j) tYes te vs σ H Q := by
  refine lc_inv Ex exR n (fun i => .int (lo + i)) hz
    (fun i acc H' => acc = (List.range i).map F ∧ Ex H H') (fun i acc H' h _ => h) (fun acc H' _ => Nat.le_refl _) (fun i acc H' x H'' h _ y => ⟨y.1, y.2⟩) hw ⟨rfl, Evl.Ex.refl _⟩
    (fun D i acc H' o nD hh => by obtain ⟨e, k⟩ := hh; exact ⟨e, Ex.updN k nD⟩) ?_ ?_
  · rintro i acc H' hi ⟨rfl, k⟩ Y N hY hN
    unfold tYes
    dsimp only
    refine r_T ?_
    refine hb i H' hi k Y fun H4 h4 => hY _ _ ⟨?_, k.trans h4⟩ h4
    rw [List.range_succ, List.map_append]
    rfl
  · rintro D H2 acc nD hd ⟨rfl, k⟩
    exact q D H2 nD k hd
/-- a comprehension over a text's signs -/
theorem lc_sgn {tt : TT} {te : TE} {vs : List Nat} {j : Nat} (z : List Nat) (hz : z.length < 1000000) (p : Nat → Bool) (f : Nat → V)
    (hw : ∀ x, wipe ((wipe σ vs).set j (some x)) vs = wipe σ vs)
    (ht : ∀ c ∈ z, ∀ H2, Ex H H2 → ∀ QQ : Bool → Hp → Prop, (∀ H3, Ex H2 H3 → QQ (p c) H3) → tt ((wipe σ vs).set j (some (.str (S [c])))) H2 QQ)
    (he : ∀ c ∈ z, p c = true → ∀ H2, Ex H H2 → ∀ QQ : VK, (∀ H3, Ex H2 H3 → QQ (f c) H3) → te ((wipe σ vs).set j (some (.str (S [c])))) H2 QQ)
    (q : ∀ D H2, H D = none → Ex H H2 → H2 D = some (.lst ((z.filter p).map f)) → Q (.ref D) H2) : LcK (Its (S z)) (gName j) tt te vs σ H Q := by
  have hsz : (S z).cps.size = z.length := by simp [S]
  refine lc_inv Ex exR z.length (fun i => .str (S [z.getD i 0])) hz
    (fun i acc H' => acc = ((z.take i).filter p).map f ∧ Ex H H') (fun i acc H' h _ => by show i < _; rw [hsz]; exact h) (fun acc H' _ => by show (S z).cps.size ≤ z.length; rw [hsz]; exact Nat.le_refl _) (fun i acc H' x H'' h _ y => ?_) hw ⟨rfl, Evl.Ex.refl _⟩
    (fun D i acc H' o nD hh => by obtain ⟨e, k⟩ := hh; exact ⟨e, Ex.updN k nD⟩) ?_ ?_
  · obtain ⟨rfl, c, hc, rfl⟩ := y
    refine ⟨rfl, ?_⟩
    have : z[i]? = some c := by simpa [S] using hc
    rw [List.getD_eq_getElem?_getD, this]
    rfl
  · rintro i acc H' hi ⟨rfl, k⟩ Y N hY hN
    have hc : z[i]? = some (z.getD i 0) := by
      rw [List.getD_eq_getElem?_getD, List.getElem?_eq_getElem hi]
      rfl
    generalize z.getD i 0 = c at hc ⊢
    have hm : c ∈ z := List.mem_of_getElem? hc
    have hf := filter_take_succ p z i c hc
    refine ht c hm H' k _ fun H3 e3 => ?_
    by_cases hp : p c = true
    · rw [hp]
      refine r_T ?_
      refine he c hm hp H3 (k.trans e3) _ fun H4 e4 => hY _ _ ⟨?_, (k.trans e3).trans e4⟩ (e3.trans e4)
      rw [hf, if_pos hp, List.map_append]
      rfl
    · rw [Bool.not_eq_true] at hp
      rw [hp]
      refine r_F ?_
      refine hN _ ⟨?_, k.trans e3⟩ e3
      rw [hf, if_neg (by rw [hp]; decide), List.append_nil]
  · rintro D H2 acc nD hd ⟨rfl, k⟩
    rw [List.take_of_length_le (Nat.le_refl _)] at hd
    exact q D H2 nD k hd
theorem r_ixSM {z : List Nat} {m : Int} (l : z.length ≤ 1000000) (c : 0 ≤ m) (c2 : m < z.length) (q : ∀ x, x ∈ z → Q (.str (S [x])) H) : rIxS (.str (S z)) (.int m) H Q := by
  have h : m.toNat < z.length := by omega
  exact r_ixS l (by rw [atI_pos c, List.getElem?_eq_getElem h]) (q _ (List.getElem_mem h))
def IsStr (x : V) (H : Hp) (R : It → Hp → Prop) : Prop := ∃ s, x = .str s ∧ R (Its s) H
theorem r_istr {te : TE} {R : It → Hp → Prop} (q : te σ H fun x H1 => IsStr x H1 R) : iStr te σ H R := q
theorem r_isstr {R : It → Hp → Prop} {s : Str} (q : R (Its s) H) : IsStr (.str s) H R := ⟨s, rfl, q⟩
theorem r_nT {A B : Prop} (h : B) : IfB (!true) A B := r_F h
theorem r_nF {A B : Prop} (h : A) : IfB (!false) A B := r_T h
theorem strOkS {z : List Nat} (h : ∀ c ∈ z, c < 1114112) : PyData.strOk (S z) = true := by
  unfold PyData.strOk
  simpa [S] using h
theorem shp_ws : ∀ ws : List (List Nat), (∀ t ∈ ws, ∀ c ∈ t, c < 1114112) → SeqAt.shaped (.list (ws.map dS)) = true := by
  intro ts hts
  have h : ∀ ts : List (List Nat), (∀ t ∈ ts, ∀ c ∈ t, c < 1114112) → PyData.canLayAll0 (ts.map dS) = true ∧ PyData.depthAll (ts.map dS) = 0 := by
    intro ts hts
    induction ts with
    | nil => exact ⟨by simp [PyData.canLayAll0], by simp [PyData.depthAll]⟩
    | cons n r ih =>
      have ih := ih fun t ht => hts t (List.mem_cons_of_mem _ ht)
      exact ⟨by simp [PyData.canLayAll0, PyData.canLay0, ih.1, strOkS (hts n (List.mem_cons_self ..))], by simp [PyData.depthAll, PyData.depth, ih.2]⟩
  unfold SeqAt.shaped
  simp [PyData.canLay0, PyData.depth, (h ts hts).1, (h ts hts).2]
theorem eqv_ws : ∀ ws us : List (List Nat), PyData.eqv (.list (ws.map dS)) (.list (us.map dS)) = decide (ws = us)
  | [], [] => by simp [PyData.eqv, PyData.eqvAll]
  | [], _ :: _ => by simp [PyData.eqv, PyData.eqvAll]
  | _ :: _, [] => by simp [PyData.eqv, PyData.eqvAll]
  | a :: r, b :: s => by
    have ih := eqv_ws r s
    have e : (S a == S b) = decide (a = b) := eqV_S a b
    simp only [PyData.eqv, List.map_cons, PyData.eqvAll] at ih ⊢
    rw [ih]
    by_cases h : a = b
    · subst h
      simp [PyData.eqv, e]
    · simp [PyData.eqv, e, h]
/-- two lists of texts compared -/
theorem r_eqW {a e : Addr} {ws us : List (List Nat)} (h : SqL K H a (ws.map SV)) (g : SqL K H e (us.map SV)) (h1 : ∀ t ∈ ws, ∀ c ∈ t, c < 1114112) (h2 : ∀ t ∈ us, ∀ c ∈ t, c < 1114112)
    (q : Q (.bl (decide (ws = us))) H) : rEqD K (.ref a) (.ref e) H Q :=
  ⟨_, _, dp_words h, dp_words g, shp_ws ws h1, shp_ws us h2, by rw [eqv_ws]; exact q⟩
theorem r_neW {a e : Addr} {ws us : List (List Nat)} (h : SqL K H a (ws.map SV)) (g : SqL K H e (us.map SV)) (h1 : ∀ t ∈ ws, ∀ c ∈ t, c < 1114112) (h2 : ∀ t ∈ us, ∀ c ∈ t, c < 1114112)
    (q : Q (.bl (!decide (ws = us))) H) : rNeD K (.ref a) (.ref e) H Q :=
  ⟨_, _, dp_words h, dp_words g, shp_ws ws h1, shp_ws us h2, by rw [eqv_ws]; exact q⟩
/-! ### loops by what is walked -/
theorem f_inv {J : It} {g : TG} {tb : TS} {D : Ends} (n : Nat) (xs : Nat → V) (Pv : Nat → L2.St → Hp → Prop) (h0 : Pv 0 σ H)
    (hg : ∀ i σ H, i < n → Pv i σ H → J.go i H) (hst : ∀ σ H, Pv n σ H → J.stop n H) (hy : ∀ i σ H x H', i < n → Pv i σ H → J.yld i H x H' → H' = H ∧ x = xs i)
    (hs : ∀ i σ H, i < n → Pv i σ H → g (xs i) σ H fun σ2 H2 => tb { D with nx := Pv (i + 1), ct := Pv (i + 1), bk := D.nx } σ2 H2)
    (hd : ∀ σ H, Pv n σ H → D.nx σ H) : ForK J g tb D σ H := by
  refine ⟨fun i m σ H' => m = n - i ∧ i ≤ n ∧ Pv i σ H', ⟨n, by omega, Nat.zero_le _, h0⟩, ?_⟩
  rintro i m σ' H' ⟨rfl, hi, h⟩
  by_cases hlt : i < n
  · refine .inr ⟨hg i σ' H' hlt h, Pv (i + 1), fun σ2 H2 h2 => ⟨n - (i + 1), by omega, rfl, hlt, h2⟩, fun x H2 y => ?_⟩
    obtain ⟨rfl, rfl⟩ := hy i σ' H' x H2 hlt h y
    exact hs i σ' _ hlt h
  · have : i = n := by omega
    subst this
    exact .inl ⟨hst σ' H' h, hd σ' H' h⟩
theorem joinL_nil0 : ∀ zs : List (List Nat), TL.joinL [] zs = zs.flatten
  | [] => by simp [TL.joinL]
  | [a] => by simp [TL.joinL]
  | a :: b :: r => by
    have := joinL_nil0 (b :: r)
    simp only [TL.joinL, List.flatten_cons, List.append_nil, List.nil_append] at this ⊢
    rw [this]
/-- texts of one sign each -/
def Ones (zs : List (List Nat)) : Prop := ∀ z ∈ zs, ∃ x, z = [x] ∧ x < 128
theorem Ones.sum : ∀ {zs : List (List Nat)}, Ones zs → (zs.map List.length).sum = zs.length
  | [], _ => rfl
  | z :: r, h => by
    obtain ⟨x, rfl, _⟩ := h z (List.mem_cons_self ..)
    have := Ones.sum (zs := r) fun y hy => h y (List.mem_cons_of_mem _ hy)
    simp only [List.map_cons, List.sum_cons, List.length_cons, List.length_nil, this]
    omega
theorem Ones.len {zs : List (List Nat)} (h : Ones zs) : (TL.joinL [] zs).length = zs.length := by
  rw [joinL_nil0, List.length_flatten, h.sum]
theorem Ones.lt {zs : List (List Nat)} (h : Ones zs) : ∀ c ∈ TL.joinL [] zs, c < 128 := by
  rw [joinL_nil0]
  intro c hc
  obtain ⟨z, hz, hc⟩ := List.mem_flatten.mp hc
  obtain ⟨x, rfl, hx⟩ := h z hz
  rw [List.mem_singleton] at hc
  omega
theorem Ones.snoc {zs : List (List Nat)} {x : Nat} (h : Ones zs) (hx : x < 128) : Ones (zs ++ [[x]]) := fun z hz => by
  rcases List.mem_append.mp hz with hz | hz
  · exact h z hz
  · rw [List.mem_singleton] at hz
    exact ⟨x, hz, hx⟩
theorem Ones.nil : Ones [] := fun _ h => nomatch h
/-! ### two that change -/
def Kp2 (p s : Addr) (H H' : Hp) : Prop := ∀ a o, a ≠ p → a ≠ s → H a = some o → H' a = some o
theorem Kp2.refl (p s : Addr) (H : Hp) : Kp2 p s H H := fun _ _ _ _ h => h
theorem Kp2.k1 {p s : Addr} {H H1 H2 : Hp} (k : Kp2 p s H H1) (e : Kp p H1 H2) : Kp2 p s H H2 := fun a o h1 h2 h => e a o h1 (k a o h1 h2 h)
theorem Kp2.k2 {p s : Addr} {H H1 H2 : Hp} (k : Kp2 p s H H1) (e : Kp s H1 H2) : Kp2 p s H H2 := fun a o h1 h2 h => e a o h2 (k a o h1 h2 h)
theorem Kp2.ex {p s : Addr} {H H1 H2 : Hp} (k : Kp2 p s H H1) (e : Ex H1 H2) : Kp2 p s H H2 := fun a o h1 h2 h => e a o (k a o h1 h2 h)
/-! ### letters -/
/-- from a to z, as the program asks it -/
def ltr (c : Nat) : Bool := !decide ([c] < [97]) && !decide ([122] < [c])
def lets (z : List Nat) : Bool := !decide (z = []) && z.all ltr
def rLeS : R2 := fun x y H Q => ∃ i j, x = .str i ∧ y = .str j ∧ Q (.bl (!decide (j.cps.toList < i.cps.toList))) H
theorem r_leS {x y : List Nat} (q : Q (.bl (!decide (y < x))) H) : rLeS (.str (S x)) (.str (S y)) H Q := ⟨_, _, rfl, rfl, q⟩
theorem r_all {a : Addr} {bs : List Bool} (h : SqL K H a (bs.map V.bl)) (q : Q (.bl (bs.all id)) H) : rAll K [.ref a] H Q := ⟨a, bs, rfl, h, q⟩
end
section
variable {X : Cx}
theorem o_leS : OpR X (compareOp .LtE) rLeS := op_le_str
end
end Ts

namespace Ts
open PySem PySem.Spec PyProof.Rows L2
/-! ### traps: pairs of a place and a name -/
abbrev T2 := Int × List Nat
def Trap (K : PySem.W.Frag) (H : Hp) (v : V) (t : T2) : Prop := ∃ a, v = .ref a ∧ SqT K H a [.int t.1, .str (S t.2)]
def Trs (K : PySem.W.Frag) (H : Hp) : List V → List T2 → Prop
  | [], [] => True
  | v :: vs, t :: ts => Trap K H v t ∧ Trs K H vs ts
  | _, _ => False
abbrev dT (t : T2) : PyData := .tuple [.int t.1, .str (S t.2)]
section
variable {K : PySem.W.Frag} {H H' : Hp}
theorem Trap.ex {v : V} {t : T2} (e : Ex H H') : Trap K H v t → Trap K H' v t := fun ⟨a, h, s⟩ => ⟨a, h, Ex.T e s⟩
def Ol (H : Hp) (l : Addr) : Prop := ∃ xs, H l = some (.lst xs)
theorem Kp.Tl {l a : Addr} {xs : List V} (k : Kp l H H') (d : Ol H l) (h : SqT K H a xs) : SqT K H' a xs := by
  obtain ⟨ys, hd⟩ := d
  rcases h with (h | ⟨o, h⟩) | h
  · exact .inl (.inl (k _ _ (fun e => by subst e; rw [hd] at h; cases h) h))
  · exact .inl (.inr ⟨o, k _ _ (fun e => by subst e; rw [hd] at h; cases h) h⟩)
  · exact .inr h
theorem Trap.kp {l : Addr} {v : V} {t : T2} (k : Kp l H H') (d : Ol H l) : Trap K H v t → Trap K H' v t := fun ⟨a, h, s⟩ => ⟨a, h, Kp.Tl k d s⟩
theorem Trs.mono (f : ∀ v t, Trap K H v t → Trap K H' v t) : ∀ {vs : List V} {ts : List T2}, Trs K H vs ts → Trs K H' vs ts
  | [], [], _ => trivial
  | _ :: _, _ :: _, h => ⟨f _ _ h.1, Trs.mono f h.2⟩
theorem Trs.ex {vs : List V} {ts : List T2} (e : Ex H H') (h : Trs K H vs ts) : Trs K H' vs ts := h.mono fun _ _ => Trap.ex e
theorem Trs.kp {l : Addr} {vs : List V} {ts : List T2} (k : Kp l H H') (d : Ol H l) (h : Trs K H vs ts) : Trs K H' vs ts := h.mono fun _ _ => Trap.kp k d
theorem Trs.len : ∀ {vs : List V} {ts : List T2}, Trs K H vs ts → vs.length = ts.length
  | [], [], _ => rfl
  | _ :: _, _ :: _, h => by rw [List.length_cons, List.length_cons, Trs.len h.2]
theorem Trs.at : ∀ {vs : List V} {ts : List T2}, Trs K H vs ts → ∀ {i : Nat} {v : V}, vs[i]? = some v → ∃ t, ts[i]? = some t ∧ Trap K H v t
  | [], [], _, i, v, e => by cases i <;> cases e
  | x :: vs, t :: ts, h, 0, v, e => by
    cases e
    exact ⟨t, rfl, h.1⟩
  | x :: vs, t :: ts, h, i + 1, v, e => Trs.at h.2 (i := i) e
theorem Trs.app : ∀ {vs us : List V} {ts rs : List T2}, Trs K H vs ts → Trs K H us rs → Trs K H (vs ++ us) (ts ++ rs)
  | [], _, [], _, _, h2 => h2
  | _ :: _, _, _ :: _, _, h, h2 => ⟨h.1, Trs.app h.2 h2⟩
theorem Trs.take : ∀ {vs : List V} {ts : List T2} (n : Nat), Trs K H vs ts → Trs K H (vs.take n) (ts.take n)
  | _, _, 0, _ => trivial
  | [], [], n + 1, _ => trivial
  | _ :: _, _ :: _, n + 1, h => ⟨h.1, Trs.take n h.2⟩
theorem Trs.drop : ∀ {vs : List V} {ts : List T2} (n : Nat), Trs K H vs ts → Trs K H (vs.drop n) (ts.drop n)
  | [], [], 0, _ => trivial
  | _ :: _, _ :: _, 0, h => h
  | [], [], n + 1, _ => trivial
  | _ :: _, _ :: _, n + 1, h => Trs.drop n h.2
theorem Trap.dp {v : V} {t : T2} : Trap K H v t → Dp K H v (dT t) := fun ⟨a, e, s⟩ => by
  subst e
  exact .tup s (.cons (.int _) (.cons (.str _) .nil))
theorem Trs.dp : ∀ {vs : List V} {ts : List T2}, Trs K H vs ts → DpAll K H vs (ts.map dT)
  | [], [], _ => .nil
  | _ :: _, _ :: _, h => .cons h.1.dp (Trs.dp h.2)
/-- a tuple of traps -/
def Tup (K : PySem.W.Frag) (H : Hp) (v : V) (ts : List T2) : Prop := ∃ a vs, v = .ref a ∧ SqT K H a vs ∧ Trs K H vs ts
theorem Tup.ex {v : V} {ts : List T2} (e : Ex H H') : Tup K H v ts → Tup K H' v ts := fun ⟨a, vs, h, s, t⟩ => ⟨a, vs, h, Ex.T e s, t.ex e⟩
theorem Tup.kp {l : Addr} {v : V} {ts : List T2} (k : Kp l H H') (d : Ol H l) : Tup K H v ts → Tup K H' v ts := fun ⟨a, vs, h, s, t⟩ => ⟨a, vs, h, Kp.Tl k d s, t.kp k d⟩
theorem Tup.dp {v : V} {ts : List T2} : Tup K H v ts → Dp K H v (.tuple (ts.map dT)) := fun ⟨a, vs, e, s, t⟩ => by
  subst e
  exact .tup s t.dp
/-! ### what they come to -/
def okT (m : Int) (t : T2) : Prop := -m ≤ t.1 ∧ t.1 < m ∧ t.2.length ≤ 6 ∧ ∀ c ∈ t.2, c < 1114112
theorem sh_trs {m : Int} {ts : List T2} (hm : m ≤ 1000) (h : ∀ t ∈ ts, okT m t) (hl : ts.length ≤ 100) : Sh (.tuple (ts.map dT)) := by
  have k := okws_all (ds := ts.map dT) (n := 200) (k := 1) fun d hd => by
    obtain ⟨t, ht, rfl⟩ := List.mem_map.mp hd
    obtain ⟨h1, h2, h3, h4⟩ := h t ht
    have a := okw_tup (okws_cons (okw_int (i := t.1) (by omega) (by omega)) (okws_cons (okw_str (n := 6) (okL.ok ⟨h3, h4⟩)) okws_nil))
    exact ⟨a.ok, Nat.le_trans a.wt (by decide), Nat.le_trans a.dp (by decide)⟩
  have k2 := okw_tup k
  refine Sh.of k2 (Nat.le_trans (Nat.add_le_add_right (Nat.mul_le_mul_right _ ?_) 3) (m := 100 * 202 + 3) (by decide)) (by decide)
  rw [List.length_map]
  exact hl
def top (len : Int) (pl : Int) : Int := if pl < 0 then len + pl else pl
theorem seen_T {t u : T2} : PyData.eqv (dT t) (dT u) = decide (t = u) := by
  obtain ⟨a, b⟩ := t
  obtain ⟨c, d⟩ := u
  have e : (S b == S d) = decide (b = d) := eqV_S b d
  simp only [PyData.eqv, PyData.eqvAll, Prod.mk.injEq, Bool.decide_and, e, Bool.and_true]
  rfl
theorem shp_T {t : T2} (h : ∀ c ∈ t.2, c < 1114112) : SeqAt.shaped (dT t) = true := by
  unfold SeqAt.shaped
  simp [PyData.canLay0, PyData.canLayAll0, PyData.depth, PyData.depthAll, strOkS h]
theorem shp_Ts : ∀ ts : List T2, (∀ t ∈ ts, ∀ c ∈ t.2, c < 1114112) → SeqAt.shaped (.list (ts.map dT)) = true := by
  intro ts hts
  have h : ∀ ts : List T2, (∀ t ∈ ts, ∀ c ∈ t.2, c < 1114112) → PyData.canLayAll0 (ts.map dT) = true ∧ PyData.depthAll (ts.map dT) ≤ 1 := by
    intro ts hts
    induction ts with
    | nil => exact ⟨by simp [PyData.canLayAll0], by simp [PyData.depthAll]⟩
    | cons n r ih =>
      have ih := ih fun t ht => hts t (List.mem_cons_of_mem _ ht)
      exact ⟨by simp [PyData.canLayAll0, PyData.canLay0, ih.1, strOkS (hts n (List.mem_cons_self ..))], by
        have := ih.2
        simp only [List.map_cons, PyData.depthAll, PyData.depth]
        omega⟩
  unfold SeqAt.shaped
  have := (h ts hts).2
  simp [PyData.canLay0, PyData.depth, (h ts hts).1]
  omega
variable {Q : VK} {σ : L2.St}
theorem any_T (t : T2) : ∀ ts : List T2, ((ts.map dT).any fun z => PyData.eqv z (dT t)) = decide (t ∈ ts)
  | [] => by simp
  | u :: r => by
    rw [List.map_cons, List.any_cons, any_T t r, seen_T]
    by_cases h : u = t
    · simp [h]
    · have : ¬ t = u := fun z => h z.symm
      simp [h, this]
theorem r_notInT {f : Addr} {v : V} {t : T2} {vs : List V} {ts : List T2} (h1 : Trap K H v t) (h2 : SqL K H f vs) (h3 : Trs K H vs ts) (o1 : ∀ c ∈ t.2, c < 1114112) (o2 : ∀ t ∈ ts, ∀ c ∈ t.2, c < 1114112)
    (q : Q (.bl (!decide (t ∈ ts))) H) : rNotInD K v (.ref f) H Q :=
  ⟨dT t, ts.map dT, h1.dp, .lst h2 h3.dp, shp_T o1, shp_Ts ts o2, by rw [any_T]; exact q⟩
theorem r_neT {v u : V} {t s : T2} (h1 : Trap K H v t) (h2 : Trap K H u s) (o1 : ∀ c ∈ t.2, c < 1114112) (o2 : ∀ c ∈ s.2, c < 1114112) (q : Q (.bl (!decide (t = s))) H) : rNeD K v u H Q :=
  ⟨dT t, dT s, h1.dp, h2.dp, shp_T o1, shp_T o2, by rw [seen_T]; exact q⟩
theorem r_catA {a b : Addr} {xs ys : List V} (h1 : SqT K H a xs) (h2 : SqT K H b ys) (l : xs.length + ys.length ≤ 1000000) (q : ∀ p H', Ex H H' → SqT K H' p (xs ++ ys) → Q (.ref p) H') : rCatA K (.ref a) (.ref b) H Q := by
  refine ⟨a, b, xs, ys, rfl, rfl, h1, h2, Nat.le_trans l (by decide), fun e => ?_, fun _ e => ?_, fun _ _ p n => ?_⟩
  · subst e
    exact q b H (Evl.Ex.refl _) h2
  · subst e
    exact q a H (Evl.Ex.refl _) (by rw [List.append_nil]; exact h1)
  · exact q p _ (Evl.Ex.new n) (SqT.at upd_same)
theorem r_slA {a : Addr} {xs : List V} {lo hi : Option Int} (h1 : SqT K H a xs) (q : ∀ p H', Ex H H' → SqT K H' p (cutV xs lo hi) → Q (.ref p) H') : rSlA K (.ref a) lo hi H Q := by
  refine ⟨a, xs, rfl, h1, fun e => ?_, fun _ p n => ?_⟩
  · refine q a H (Evl.Ex.refl _) ?_
    have : cutV xs lo hi = xs := by
      unfold cutV
      rw [e.1, e.2, List.drop_zero, Nat.sub_zero, List.take_of_length_le (Nat.le_refl _)]
    rw [this]
    exact h1
  · exact q p _ (Evl.Ex.new n) (SqT.at upd_same)
theorem cutV_take (xs : List V) (j : Nat) : cutV xs none (some (j : Int)) = xs.take j := by
  unfold cutV
  rw [HT.sIx_none, HT.sIx_nat, List.drop_zero, Nat.sub_zero]
  by_cases h : j ≤ xs.length
  · rw [Nat.min_eq_left h]
  · rw [Nat.min_eq_right (by omega), List.take_of_length_le (Nat.le_refl _), List.take_of_length_le (by omega)]
theorem cutV_drop (xs : List V) (j : Nat) : cutV xs (some (j : Int)) none = xs.drop j := by
  unfold cutV
  rw [HT.sIx_none, HT.sIx_nat]
  by_cases h : j ≤ xs.length
  · rw [Nat.min_eq_left h, List.take_of_length_le (by rw [List.length_drop]; omega)]
  · rw [show min j xs.length = xs.length from Nat.min_eq_right (by omega), List.drop_eq_nil_of_le (Nat.le_refl _), List.drop_eq_nil_of_le (by omega), List.take_nil]
/-- what a comprehension over traps keeps -/
theorem lc_trs {a : Addr} {tt : TT} {te : TE} {vs : List Nat} {j : Nat} {us : List V} {ts : List T2} (hx : SqT K H a us) (ht : Trs K H us ts) (hz : us.length < 1000000) (p : T2 → Bool)
    (hw : ∀ x, wipe ((wipe σ vs).set j (some x)) vs = wipe σ vs)
    (htt : ∀ v t H2, Ex H H2 → Trap K H2 v t → t ∈ ts → ∀ QQ : Bool → Hp → Prop, (∀ H3, Ex H2 H3 → QQ (p t) H3) → tt ((wipe σ vs).set j (some v)) H2 QQ)
    (hte : ∀ v H2, Ex H H2 → ∀ QQ : VK, QQ v H2 → te ((wipe σ vs).set j (some v)) H2 QQ)
    (q : ∀ D H2 acc, H D = none → Ex H H2 → H2 D = some (.lst acc) → Trs K H2 acc (ts.filter p) → Q (.ref D) H2) : LcK (Itt K a) (gName j) tt te vs σ H Q := by
  have hlen := ht.len
  refine lc_inv Ex exR us.length (fun i => us.getD i .non) hz (fun i acc H' => Ex H H' ∧ Trs K H acc ((ts.take i).filter p))
    (fun i acc H' h hI => ⟨us, _, Ex.T hI.1 hx, List.getElem?_eq_getElem h⟩) (fun acc H' hI => ⟨us, Ex.T hI.1 hx, Nat.le_refl _⟩) (fun i acc H' x H'' h hI y => ⟨y.1, ?_⟩) hw ⟨Evl.Ex.refl _, trivial⟩
    (fun D i acc H' o nD hh => ?_) ?_ ?_
  · have := y.2 us (Ex.T hI.1 hx)
    rw [List.getD_eq_getElem?_getD, this]
    rfl
  · obtain ⟨e, h⟩ := hh
    exact ⟨Ex.updN e nD, h⟩
  · rintro i acc H' hi ⟨e, h⟩ Y N hY hN
    have hv : us[i]? = some (us.getD i .non) := by
      rw [List.getD_eq_getElem?_getD, List.getElem?_eq_getElem hi]
      rfl
    generalize us.getD i .non = v at hv ⊢
    obtain ⟨t, ht2, htr⟩ := ht.at hv
    have hf := filter_take_succ p ts i t ht2
    refine htt v t H' e (htr.ex e) (List.mem_of_getElem? ht2) _ fun H3 e3 => ?_
    by_cases hp : p t = true
    · rw [hp]
      refine r_T (hte v H3 (e.trans e3) Y (hY _ _ ⟨e.trans e3, ?_⟩ e3))
      rw [hf, if_pos hp]
      exact Trs.app h ⟨htr, trivial⟩
    · rw [Bool.not_eq_true] at hp
      rw [hp]
      refine r_F (hN _ ⟨e.trans e3, ?_⟩ e3)
      rw [hf, if_neg (by rw [hp]; decide), List.append_nil]
      exact h
  · rintro D H2 acc nD hd ⟨e, h⟩
    rw [hlen, List.take_of_length_le (Nat.le_refl _)] at h
    exact q D H2 acc nD e hd (h.ex e)
/-! ### the last of those that are hit -/
abbrev hits (f : T2 → Bool) (ts : List T2) : List Nat := (List.range ts.length).filter fun k => f (ts.getD k (0, []))
def woT (f : T2 → Bool) (ts : List T2) : List T2 := match (hits f ts).getLast? with
  | some k => ts.eraseIdx k
  | none => ts
theorem filt_last {P : Nat → Bool} : ∀ {n k : Nat}, k < n → P k = true → (∀ j, k < j → j < n → P j = false) → ((List.range n).filter P).getLast? = some k
  | 0, k, h, _, _ => by omega
  | n + 1, k, h, h1, h2 => by
    rw [List.range_succ, List.filter_append]
    by_cases e : k = n
    · subst e
      simp [h1]
    · have := h2 n (by omega) (by omega)
      simp only [List.filter_cons, this, List.filter_nil, Bool.false_eq_true, if_false, List.append_nil]
      exact filt_last (by omega) h1 fun j a b => h2 j a (by omega)
theorem filt_none {P : Nat → Bool} {n : Nat} (h : ∀ j, j < n → P j = false) : (List.range n).filter P = [] := by
  rw [List.filter_eq_nil_iff]
  intro a ha
  rw [h a (List.mem_range.mp ha)]
  decide
theorem woT_hit {f : T2 → Bool} {ts : List T2} {k : Nat} (h : k < ts.length) (h1 : f (ts.getD k (0, [])) = true) (h2 : ∀ j, k < j → j < ts.length → f (ts.getD j (0, [])) = false) : woT f ts = ts.take k ++ ts.drop (k + 1) := by
  unfold woT
  rw [show (hits f ts).getLast? = some k from filt_last h h1 h2]
  exact List.eraseIdx_eq_take_drop_succ ..
theorem woT_none {f : T2 → Bool} {ts : List T2} (h2 : ∀ j, j < ts.length → f (ts.getD j (0, [])) = false) : woT f ts = ts := by
  unfold woT
  rw [show hits f ts = [] from filt_none h2]
  rfl
def cutE (l : Option Nat) (ts : List T2) : List T2 := match l with
  | some k => ts.eraseIdx k
  | none => ts
theorem cutE_snoc {l : Option Nat} {ts : List T2} {t : T2} : cutE l (ts ++ [t]) = if l = some ts.length then cutE l ts else cutE l ts ++ [t] := by
  cases l with
  | none => rw [if_neg (by simp)]; rfl
  | some k =>
    unfold cutE
    dsimp only
    by_cases h : k = ts.length
    · subst h
      rw [if_pos rfl, List.eraseIdx_append_of_length_le (Nat.le_refl _), List.eraseIdx_of_length_le (Nat.le_refl _), Nat.sub_self]
      exact List.append_nil _
    · rw [if_neg (by simpa using h)]
      by_cases h2 : k < ts.length
      · rw [List.eraseIdx_append_of_lt_length h2]
      · rw [List.eraseIdx_of_length_le (l := ts) (by omega), List.eraseIdx_of_length_le (by rw [List.length_append]; simp only [List.length_cons, List.length_nil]; omega)]
theorem woT_cut (f : T2 → Bool) (ts : List T2) : woT f ts = cutE (hits f ts).getLast? ts := rfl
end
theorem un65 {k : Nat} {A : Around} (h : Room k A) : A.units + 65 < cLine := by
  have := h.un
  omega
section
variable {H : Hp} {σ : L2.St} {K : PySem.W.Frag}
def Rng3 (vs : List V) (H : Hp) (R : It → Hp → Prop) : Prop := ∃ (i j c : Int) (n : Nat), vs = [.int i, .int j, .int c] ∧ RgC i j c n ∧ R (Itc i c n) H
theorem r_rng3 {t : TA} {R : It → Hp → Prop} (q : t σ H fun vs H1 => Rng3 vs H1 R) : iRng3 t σ H R := q
theorem r_rng3n {m n : Int} {R : It → Hp → Prop} (c : -2 ^ 62 ≤ m) (c2 : m < 2 ^ 62) (c3 : -2 ^ 62 ≤ n) (c4 : n < 2 ^ 62) (q : R (Itc m (-1) (m - n).toNat) H) : Rng3 [.int m, .int n, .int (-1)] H R := ⟨m, n, -1, _, rfl, RgC.neg c c2 c3 c4, q⟩
theorem f_rangeC {lo c : Int} {n : Nat} {g : TG} {tb : TS} {D : Ends} (Pv : Nat → L2.St → Hp → Prop) (h0 : Pv 0 σ H)
    (hs : ∀ i σ H, i < n → Pv i σ H → g (.int (lo + i * c)) σ H fun σ2 H2 => tb { D with nx := Pv (i + 1), ct := Pv (i + 1), bk := D.nx } σ2 H2)
    (hd : ∀ σ H, Pv n σ H → D.nx σ H) : ForK (Itc lo c n) g tb D σ H := for_rangeC Pv h0 hs hd
end
section
variable {H : Hp} {Q : VK} {K : PySem.W.Frag}
theorem filt_succ (P : Nat → Bool) (k : Nat) : (List.range (k + 1)).filter P = (List.range k).filter P ++ (if P k = true then [k] else []) := by
  rw [List.range_succ, List.filter_append]
  by_cases h : P k = true
  · simp [h]
  · simp [h]
theorem cutV_last (xs : List V) : cutV xs (some (-1)) none = xs.getLast?.toList := by
  unfold cutV
  rw [HT.sIx_none, show HT.sIx xs.length 0 (some (-1)) = xs.length - 1 from by unfold HT.sIx; simp; omega]
  rcases List.eq_nil_or_concat xs with rfl | ⟨ys, y, rfl⟩
  · rfl
  · simp
theorem r_notInL {a : Addr} {m : Int} {ys : List Int} (h : SqL K H a (ys.map V.int)) (q : Q (.bl (!decide (m ∈ ys))) H) : rIn K true (.int m) (.ref a) H Q :=
  ⟨a, _, rfl, .inl h, rfl, all_flat_I ys, by rw [if_pos rfl, inV_I]; exact q⟩
theorem Trs.get {us : List V} {ts : List T2} (ht : Trs K H us ts) {k : Nat} (hk : k < ts.length) : ∃ b, us[k]? = some (.ref b) ∧ SqT K H b [.int (ts.getD k (0, [])).1, .str (S (ts.getD k (0, [])).2)] := by
  have hlen := ht.len
  have hv : us[k]? = some (us[k]'(by omega)) := List.getElem?_eq_getElem (by omega)
  obtain ⟨t, h1, b, h2, h3⟩ := ht.at hv
  rw [h2] at hv
  have : ts.getD k (0, []) = t := by rw [List.getD_eq_getElem?_getD, h1]; rfl
  rw [this]
  exact ⟨b, hv, h3⟩
end
/-! ### the name that is seen -/
def nameAt (f : T2 → Bool) (ts : List T2) : Option (List Nat) := ((ts.filter f).map (·.2)).getLast?
def ov : Option (List Nat) → V
  | none => .non
  | some z => .str (S z)
theorem filt_drop {f : T2 → Bool} {ts : List T2} {k : Nat} (h : ∀ j, k ≤ j → j < ts.length → f (ts.getD j (0, [])) = false) : (ts.drop k).filter f = [] := by
  rw [List.filter_eq_nil_iff]
  intro t ht
  obtain ⟨i, hi, rfl⟩ := List.mem_iff_getElem.mp ht
  rw [List.getElem_drop]
  rw [List.length_drop] at hi
  have := h (k + i) (by omega) (by omega)
  rw [List.getD_eq_getElem?_getD, List.getElem?_eq_getElem (by omega)] at this
  rw [Bool.not_eq_true]
  exact this
theorem nameAt_hit {f : T2 → Bool} {ts : List T2} {k : Nat} (h : k < ts.length) (h1 : f (ts.getD k (0, [])) = true) (h2 : ∀ j, k < j → j < ts.length → f (ts.getD j (0, [])) = false) : nameAt f ts = some (ts.getD k (0, [])).2 := by
  have e : ts = ts.take k ++ ts.getD k (0, []) :: ts.drop (k + 1) := by
    rw [List.getD_eq_getElem?_getD, List.getElem?_eq_getElem h]
    show ts = ts.take k ++ ts[k] :: ts.drop (k + 1)
    rw [← List.drop_eq_getElem_cons h, List.take_append_drop]
  unfold nameAt
  generalize ts.getD k (0, []) = t at *
  rw [e, List.filter_append, List.filter_cons, if_pos h1, filt_drop fun j a b => h2 j (by omega) b]
  simp
theorem nameAt_none {f : T2 → Bool} {ts : List T2} (h2 : ∀ j, j < ts.length → f (ts.getD j (0, [])) = false) : nameAt f ts = none := by
  have := filt_drop (f := f) (ts := ts) (k := 0) fun j _ b => h2 j b
  rw [List.drop_zero] at this
  unfold nameAt
  rw [this]
  rfl
theorem last_split {f : T2 → Bool} : ∀ {ts : List T2}, ts.filter f ≠ [] → ∃ A t B, ts = A ++ t :: B ∧ f t = true ∧ B.filter f = []
  | [], h => absurd rfl h
  | t :: r, h => by
    by_cases hr : r.filter f = []
    · by_cases ht : f t = true
      · exact ⟨[], t, r, rfl, ht, hr⟩
      · rw [List.filter_cons, if_neg ht] at h
        exact absurd hr h
    · obtain ⟨A, u, B, e, h1, h2⟩ := last_split hr
      exact ⟨t :: A, u, B, by rw [e]; rfl, h1, h2⟩
theorem woT_split {f : T2 → Bool} {A B : List T2} {t : T2} (h1 : f t = true) (h2 : B.filter f = []) : woT f (A ++ t :: B) = A ++ B := by
  rw [woT_hit (k := A.length) (by rw [List.length_append, List.length_cons]; omega) ?_ ?_]
  · have e : A ++ t :: B = (A ++ [t]) ++ B := by simp
    have d : (A ++ t :: B).drop (A.length + 1) = B := by
      rw [e]
      exact List.drop_left' (by simp)
    rw [d, List.take_left' rfl]
  · simpa [List.getD_eq_getElem?_getD] using h1
  · intro j hj hl
    rw [List.length_append, List.length_cons] at hl
    obtain ⟨m, rfl⟩ : ∃ m, j = A.length + 1 + m := ⟨j - A.length - 1, by omega⟩
    rw [List.getD_eq_getElem?_getD, List.getElem?_append_right (by omega), show A.length + 1 + m - A.length = m + 1 by omega, List.getElem?_cons_succ, List.getElem?_eq_getElem (by omega)]
    rw [List.filter_eq_nil_iff] at h2
    have := h2 B[m] (List.getElem_mem _)
    rwa [Bool.not_eq_true] at this
theorem woT_filter {f : T2 → Bool} {ts : List T2} (h : ts.filter f ≠ []) : (woT f ts).filter f = (ts.filter f).dropLast := by
  obtain ⟨A, t, B, rfl, h1, h2⟩ := last_split h
  rw [woT_split h1 h2, List.filter_append, List.filter_append, List.filter_cons, if_pos h1, h2, List.append_nil, List.dropLast_concat]
theorem woT_other {f g : T2 → Bool} {ts : List T2} (hd : ∀ t, f t = true → g t = false) : (woT f ts).filter g = ts.filter g := by
  by_cases h : ts.filter f = []
  · have : woT f ts = ts := woT_none fun j hj => by
      rw [List.filter_eq_nil_iff] at h
      have := h ts[j] (List.getElem_mem _)
      rw [List.getD_eq_getElem?_getD, List.getElem?_eq_getElem hj]
      rwa [Bool.not_eq_true] at this
    rw [this]
  · obtain ⟨A, t, B, rfl, h1, h2⟩ := last_split h
    rw [woT_split h1 h2, List.filter_append, List.filter_append, List.filter_cons, hd t h1]
    rfl
theorem woT_len {f : T2 → Bool} {ts : List T2} (h : ts.filter f ≠ []) : (woT f ts).length + 1 = ts.length := by
  obtain ⟨A, t, B, rfl, h1, h2⟩ := last_split h
  rw [woT_split h1 h2]
  simp only [List.length_append, List.length_cons]
  omega
theorem woT_nil {f : T2 → Bool} {ts : List T2} (h : ts.filter f = []) : woT f ts = ts := woT_none fun j hj => by
  rw [List.filter_eq_nil_iff] at h
  have := h ts[j] (List.getElem_mem _)
  rw [List.getD_eq_getElem?_getD, List.getElem?_eq_getElem hj]
  rwa [Bool.not_eq_true] at this
section
variable {H : Hp} {σ : L2.St} {K : PySem.W.Frag}
def RevV (K : PySem.W.Frag) (v : V) (H1 : Hp) (R : It → Hp → Prop) : Prop := ∃ a xs, v = V.ref a ∧ (SqL K H1 a xs ∧ R (Itv K a xs.length) H1 ∨ SqT K H1 a xs ∧ R (RT.ItvT K a xs.length) H1)
theorem r_rev {te : TE} {R : It → Hp → Prop} (q : te σ H fun v H1 => RevV K v H1 R) : RT.iRevA K te σ H R := q
theorem r_revT {a : Addr} {xs : List V} {R : It → Hp → Prop} (h : SqT K H a xs) (q : R (RT.ItvT K a xs.length) H) : RevV K (.ref a) H R := ⟨a, xs, rfl, .inr ⟨h, q⟩⟩
theorem f_revT {a : Addr} {us : List V} {g : TG} {tb : TS} {D : Ends} (Pv : Nat → L2.St → Hp → Prop) (h0 : Pv 0 σ H) (hl : ∀ i σ H, i ≤ us.length → Pv i σ H → SqT K H a us)
    (hs : ∀ i σ H, i < us.length → Pv i σ H → g (us.getD (us.length - 1 - i) .non) σ H fun σ2 H2 => tb { D with nx := Pv (i + 1), ct := Pv (i + 1), bk := D.nx } σ2 H2)
    (hd : ∀ σ H, Pv us.length σ H → D.nx σ H) : ForK (RT.ItvT K a us.length) g tb D σ H := by
  refine f_inv us.length (fun i => us.getD (us.length - 1 - i) .non) Pv h0 (fun i σ H h hP => ?_) (fun σ H hP => ?_) (fun i σ H x H' h hP y => ?_) hs hd
  · exact ⟨h, us, _, hl i σ H (by omega) hP, List.getElem?_eq_getElem (by omega)⟩
  · exact Nat.le_refl _
  · refine ⟨y.1, ?_⟩
    have := y.2 us (hl i σ H (by omega) hP)
    rw [List.getD_eq_getElem?_getD, this]
    rfl
end
section
variable {H : Hp} {Q : VK} {K : PySem.W.Frag}
def dO : Option (List Nat) → PyData
  | none => .none
  | some z => .str (S z)
theorem dp_os : ∀ os : List (Option (List Nat)), DpAll K H (os.map ov) (os.map dO)
  | [] => .nil
  | none :: r => .cons .non (dp_os r)
  | some z :: r => .cons (.str _) (dp_os r)
def okO (o : Option (List Nat)) : Prop := ∀ z, o = some z → ∀ c ∈ z, c < 1114112
theorem lay_os : ∀ os : List (Option (List Nat)), (∀ o ∈ os, okO o) → PyData.canLayAll0 (os.map dO) = true ∧ PyData.depthAll (os.map dO) = 0
  | [], _ => ⟨by simp [PyData.canLayAll0], by simp [PyData.depthAll]⟩
  | o :: r, h => by
    have ih := lay_os r fun x hx => h x (List.mem_cons_of_mem _ hx)
    have ho := h o (List.mem_cons_self ..)
    cases o with
    | none => exact ⟨by simp [PyData.canLayAll0, PyData.canLay0, dO, ih.1], by simp [PyData.depthAll, PyData.depth, dO, ih.2]⟩
    | some z => exact ⟨by simp [PyData.canLayAll0, PyData.canLay0, dO, ih.1, strOkS (ho z rfl)], by simp [PyData.depthAll, PyData.depth, dO, ih.2]⟩
theorem eqv_os : ∀ os : List (Option (List Nat)), PyData.eqvAll (os.map dO) (os.map dO) = true
  | [] => by simp [PyData.eqvAll]
  | none :: r => by simp [PyData.eqvAll, PyData.eqv, dO, eqv_os r]
  | some z :: r => by simp [PyData.eqvAll, PyData.eqv, dO, eqv_os r]
theorem r_eqOs {a e : Addr} {os : List (Option (List Nat))} (h1 : SqL K H a (os.map ov)) (h2 : SqL K H e (os.map ov)) (ho : ∀ o ∈ os, okO o) (q : Q (.bl true) H) : rEqD K (.ref a) (.ref e) H Q := by
  have s : SeqAt.shaped (.list (os.map dO)) = true := by
    unfold SeqAt.shaped
    simp [PyData.canLay0, PyData.depth, (lay_os os ho).1, (lay_os os ho).2]
  refine ⟨_, _, .lst h1 (dp_os os), .lst h2 (dp_os os), s, s, ?_⟩
  rw [show PyData.eqv (.list (os.map dO)) (.list (os.map dO)) = true by simp only [PyData.eqv]; exact eqv_os os]
  exact q
theorem shp_Tt (ts : List T2) (h : ∀ t ∈ ts, ∀ c ∈ t.2, c < 1114112) : SeqAt.shaped (.tuple (ts.map dT)) = true := by
  have := shp_Ts ts h
  unfold SeqAt.shaped at this ⊢
  simp only [PyData.canLay0, PyData.depth] at this ⊢
  exact this
theorem eqv_Ts : ∀ ts : List T2, PyData.eqvAll (ts.map dT) (ts.map dT) = true
  | [] => by simp [PyData.eqvAll]
  | t :: r => by
    have := seen_T (t := t) (u := t)
    rw [decide_eq_true rfl] at this
    simp [PyData.eqvAll, eqv_Ts r, this]
theorem r_eqTt {x y : V} {ts : List T2} (h1 : Tup K H x ts) (h2 : Tup K H y ts) (o : ∀ t ∈ ts, ∀ c ∈ t.2, c < 1114112) (q : Q (.bl true) H) : rEqD K x y H Q := by
  refine ⟨_, _, h1.dp, h2.dp, shp_Tt ts o, shp_Tt ts o, ?_⟩
  rw [show PyData.eqv (.tuple (ts.map dT)) (.tuple (ts.map dT)) = true by simp only [PyData.eqv]; exact eqv_Ts ts]
  exact q
theorem r_neTt {x y : V} {ts : List T2} (h1 : Tup K H x ts) (h2 : Tup K H y ts) (o : ∀ t ∈ ts, ∀ c ∈ t.2, c < 1114112) (q : Q (.bl (!true)) H) : rNeD K x y H Q := by
  refine ⟨_, _, h1.dp, h2.dp, shp_Tt ts o, shp_Tt ts o, ?_⟩
  rw [show PyData.eqv (.tuple (ts.map dT)) (.tuple (ts.map dT)) = true by simp only [PyData.eqv]; exact eqv_Ts ts]
  exact q
theorem shp_S {z : List Nat} (h : ∀ c ∈ z, c < 1114112) : SeqAt.shaped (.str (S z)) = true := by
  unfold SeqAt.shaped
  simp [PyData.canLay0, PyData.depth, strOkS h]
theorem r_neSd {z : List Nat} (o : ∀ c ∈ z, c < 1114112) (q : Q (.bl (!true)) H) : rNeD K (.str (S z)) (.str (S z)) H Q := by
  refine ⟨_, _, .str _, .str _, shp_S o, shp_S o, ?_⟩
  rw [show PyData.eqv (.str (S z)) (.str (S z)) = true by simp [PyData.eqv]]
  exact q
theorem atI_neg {xs : List V} {k : Nat} (h : k < xs.length) : atI xs (-1 - (k : Int)) = xs[xs.length - 1 - k]? := by
  unfold atI ixN
  rw [if_neg (by omega)]
  split
  · rw [show (-1 - (k : Int) + (xs.length : Int)).toNat = xs.length - 1 - k by omega]
    rfl
  · omega
end
theorem nameAt_snoc {f : T2 → Bool} {ts : List T2} {n : T2} (h : f n = true) : nameAt f (ts ++ [n]) = some n.2 := by
  unfold nameAt
  rw [List.filter_append, List.filter_cons, if_pos h]
  simp
/-! ### environments -/
structure En where
  br : Int
  ind : Int
  once : Option Int
  fl : Bool
  st : List Int
  wt : List (List Nat)
def oi : Option Int → V
  | none => .non
  | some i => .int i
def dOi : Option Int → PyData
  | none => .none
  | some i => .int i
def rIsN : R2 := fun x y H Q => y = V.non ∧ Q (.bl (decide (x = V.non))) H
section
variable {H H' : Hp} {Q : VK} {K : PySem.W.Frag}
theorem r_isNn (q : Q (.bl true) H) : rIsN .non .non H Q := ⟨rfl, by rw [decide_eq_true rfl]; exact q⟩
theorem r_isNi {i : Int} (q : Q (.bl false) H) : rIsN (.int i) .non H Q := ⟨rfl, by rw [decide_eq_false (fun h => by cases h)]; exact q⟩
def EnvAt (K : PySem.W.Frag) (H : Hp) (v : V) (e : En) : Prop := ∃ a sa wa, v = .ref a ∧ SqT K H a [.int e.br, .int e.ind, oi e.once, .bl e.fl, .ref sa, .ref wa] ∧ SqT K H sa (e.st.map V.int) ∧ SqT K H wa (e.wt.map SV)
theorem EnvAt.ex {v : V} {e : En} (x : Ex H H') : EnvAt K H v e → EnvAt K H' v e := fun ⟨a, sa, wa, h, h1, h2, h3⟩ => ⟨a, sa, wa, h, Ex.T x h1, Ex.T x h2, Ex.T x h3⟩
theorem EnvAt.kp {l : Addr} {v : V} {e : En} (k : Kp l H H') (d : Ol H l) : EnvAt K H v e → EnvAt K H' v e := fun ⟨a, sa, wa, h, h1, h2, h3⟩ => ⟨a, sa, wa, h, Kp.Tl k d h1, Kp.Tl k d h2, Kp.Tl k d h3⟩
theorem dp_intsT : ∀ ns : List Int, DpAll K H (ns.map V.int) (ns.map PyData.int)
  | [] => .nil
  | n :: r => .cons (.int n) (dp_intsT r)
def dE (e : En) : PyData := .tuple [.int e.br, .int e.ind, dOi e.once, .bool e.fl, .tuple (e.st.map PyData.int), .tuple (e.wt.map dS)]
theorem EnvAt.dp {v : V} {e : En} : EnvAt K H v e → Dp K H v (dE e) := fun ⟨a, sa, wa, h, h1, h2, h3⟩ => by
  subst h
  refine .tup h1 (.cons (.int _) (.cons (.int _) (.cons ?_ (.cons (.bl _) (.cons (.tup h2 (dp_intsT _)) (.cons (.tup h3 (dp_strs _)) .nil))))))
  cases e.once with
  | none => exact .non
  | some i => exact .int i
def Pl (n : Nat) (z : List Nat) : Prop := z.length ≤ n ∧ ∀ c ∈ z, c < 128
def OkE (e : En) : Prop := (0 ≤ e.br ∧ e.br ≤ 100) ∧ (0 ≤ e.ind ∧ e.ind ≤ 100) ∧ (∀ i, e.once = some i → 0 ≤ i ∧ i ≤ 100) ∧ (e.st.length ≤ 10 ∧ ∀ x ∈ e.st, 0 ≤ x ∧ x ≤ 100) ∧ e.wt.length ≤ 20 ∧ ∀ z ∈ e.wt, Pl 200 z
theorem okw_env {e : En} (h : OkE e) : OkW (dE e) 1000000 10 := by
  obtain ⟨h1, h2, h3, h4, h5, h6⟩ := h
  have ho : OkW (dOi e.once) 41 0 := by
    cases hh : e.once with
    | none => exact ⟨okw_none.ok, Nat.le_trans okw_none.wt (by decide), okw_none.dp⟩
    | some i => exact okw_int (by have := h3 i hh; omega) (by have := h3 i hh; omega)
  have hs := okws_all (ds := e.st.map PyData.int) (n := 41) (k := 0) fun d hd => by
    obtain ⟨x, hx, rfl⟩ := List.mem_map.mp hd
    exact okw_int (by have := h4.2 x hx; omega) (by have := h4.2 x hx; omega)
  have hw := okws_all (ds := e.wt.map dS) (n := 10 * 200 + 2) (k := 0) fun d hd => by
    obtain ⟨x, hx, rfl⟩ := List.mem_map.mp hd
    exact okw_str (okL.ok ⟨(h6 x hx).1, fun c hc => Nat.lt_trans ((h6 x hx).2 c hc) (by decide)⟩)
  have a := okw_tup (okws_cons (okw_int (i := e.br) (by omega) (by omega)) (okws_cons (okw_int (i := e.ind) (by omega) (by omega)) (okws_cons ho (okws_cons (okw_bool (b := e.fl)) (okws_cons (okw_tup hs) (okws_cons (okw_tup hw) okws_nil))))))
  refine ⟨a.ok, Nat.le_trans a.wt ?_, Nat.le_trans a.dp (by decide)⟩
  rw [List.length_map, List.length_map]
  have : e.st.length * (41 + 2) ≤ 10 * (41 + 2) := Nat.mul_le_mul_right _ h4.1
  have : e.wt.length * (10 * 200 + 2 + 2) ≤ 20 * (10 * 200 + 2 + 2) := Nat.mul_le_mul_right _ h5
  omega
theorem sh_env {e : En} (h : OkE e) : Sh (dE e) := Sh.of (okw_env h) (by decide) (by decide)
theorem shp_wt (ws : List (List Nat)) (h : ∀ t ∈ ws, ∀ c ∈ t, c < 1114112) : SeqAt.shaped (.tuple (ws.map dS)) = true := by
  have := shp_ws ws h
  unfold SeqAt.shaped at this ⊢
  simp only [PyData.canLay0, PyData.depth] at this ⊢
  exact this
theorem r_eqTw {a b : Addr} {ws : List (List Nat)} (h : SqT K H a (ws.map SV)) (g : SqT K H b (([] : List (List Nat)).map SV)) (o : ∀ t ∈ ws, ∀ c ∈ t, c < 1114112) (q : Q (.bl (decide (ws = []))) H) : rEqD K (.ref a) (.ref b) H Q := by
  refine ⟨.tuple (ws.map dS), .tuple (([] : List (List Nat)).map dS), .tup h (dp_strs _), .tup g (dp_strs _), shp_wt ws o, shp_wt [] (fun _ h => by cases h), ?_⟩
  have e := eqv_ws ws []
  simp only [PyData.eqv] at e ⊢
  rw [e]
  exact q
theorem r_truTe {a : Addr} {QT : Bool → Hp → Prop} (h : SqT K H a []) (q : QT false H) : IsTru K (.ref a) H QT := ⟨false, .inr (.inl ⟨[], h, rfl⟩), q⟩
theorem r_truTn {a : Addr} {xs : List V} {QT : Bool → Hp → Prop} (h : SqT K H a xs) (n : xs ≠ []) (q : QT true H) : IsTru K (.ref a) H QT := ⟨true, .inr (.inl ⟨xs, h, by cases xs with | nil => exact absurd rfl n | cons a r => rfl⟩), q⟩
def roomE (e : En) : Int := max 1 (e.br - (match e.once with | none => e.ind | some i => i))
theorem r_joinT {a : Addr} {w : List Nat} (zs : List (List Nat)) (h : SqT K H a (zs.map SV)) (c : (zs.map List.length).sum + zs.length * w.length ≤ 1000000)
    (q : Q (.str (S (TL.joinL w zs))) H) : rJoin K (.str (S w)) [.ref a] H Q := by
  refine ⟨S w, a, zs.map S, rfl, rfl, .inr (by rw [List.map_map]; exact h), ?_, ?_⟩
  · rw [List.map_map, List.length_map, S_len]
    have : (zs.map ((fun x : Str => x.length) ∘ S)) = zs.map List.length := List.map_congr_left fun y _ => S_len y
    rw [this]
    exact Nat.le_trans c (by decide)
  · have e : Txt.join (S w) (zs.map S) = S (TL.joinL w zs) := by
      rw [TL.join_eq, ← S_of (Str.join (S w) (zs.map S))]
      have := TL.tl_join (S w) (zs.map S)
      unfold TL.tl at this
      rw [this, List.map_map]
      congr 2
      exact (List.map_congr_left fun y _ => rfl).trans (List.map_id _)
    rw [e]
    exact q
end
section
variable {X : Cx} {K' : PySem.W.Frag}
theorem op_neDk (h : X.A.units + 64 < cLine) (e : X.K = K') : OpR X (compareOp .NotEq) (rNeD K') := e ▸ op_neD h
theorem op_eqDk (h : X.A.units + 64 < cLine) (e : X.K = K') : OpR X (compareOp .Eq) (rEqD K') := e ▸ op_eqD h
theorem op_inDk (h : X.A.units + 65 < cLine) (e : X.K = K') : OpR X (compareOp .In) (rInD K') := e ▸ op_inD h
theorem op_notInDk (h : X.A.units + 65 < cLine) (e : X.K = K') : OpR X (compareOp .NotIn) (rNotInD K') := e ▸ op_notInD h
theorem op_in_seqk (e : X.K = K') : OpR X (compareOp .In) (rIn K' false) := e ▸ op_in_seq
theorem op_notIn_seqk (e : X.K = K') : OpR X (compareOp .NotIn) (rIn K' true) := e ▸ op_notIn_seq
theorem o_isN : OpR X (compareOp .Is) rIsN := op_isN
theorem pg_tupk {es : List Expr} {k : Nat} {pos : Pos} {n : Nat} {u : TGs} (e : X.K = K') (h : PG X (.Tuple es k pos) (gTup X.K n u)) : PG X (.Tuple es k pos) (gTup K' n u) := e ▸ h
theorem ix_tupk (e : X.K = K') : IxR X (rIxT K') := e ▸ ix_tup
theorem ix_listk (e : X.K = K') : IxR X (rIxL K') := e ▸ ix_list
theorem sl_listk (e : X.K = K') : SlR X (rSlL K') := e ▸ sl_list
theorem sl_tupAk (e : X.K = K') : SlR X (rSlA K') := e ▸ sl_tupA
theorem op_catAk (e : X.K = K') : OpR X (binaryOp .Add) (rCatA K') := e ▸ op_catA
end
section
variable {K : PySem.W.Frag} {x qual : Str} {params : Arguments} {body : List Stmt} {scope : Scope} {kws : List (Str × V)} {f : Addr} {fd : FuncData} {ps : List Str} {dvs : List V}
theorem vals_len : ∀ {vs : List V} {us : List Value}, Vals vs us → us.length = vs.length
  | _, _, .nil => rfl
  | _, _, .cons _ r => by rw [List.length_cons, List.length_cons, vals_len r]
/-- keywords of a def that has defaults by place, all told -/
theorem kbP (F : FunD K x qual params body scope dvs kws f fd) (n : Nat) (ks : List Str) (g : {α : Type} → List α → List α → List α) (hd : dvs ≠ [])
    (hrel : ∀ {vs zs : List V} {us ws : List Value}, Vals vs us → Vals zs ws → Vals (g vs zs) (g us ws))
    (h : ∀ (T : Addr) (kV doc pm : Value) (an : Option Addr) (cdv ct : Value) (us its ws : List Value), us.length = n → its.length = dvs.length → ws.length = ks.length →
      ∃ k, bindArgs (PySem.W.fnOf x qual params body scope (.ref T) kV doc pm an cdv ct) ⟨us, ks.zip ws⟩ = seqItems? (.ref T) >>= k ∧ k (some its.toArray) = pure (ps.zip (g us ws))) :
    KBn K fd ps n ks (fun us ws => g us ws) (fun vs zs => g vs zs) := by
  obtain ⟨oc, od, dV, kV, doc, pm, an, cdv, ct, osl, rfl, lk, hcd, hD, hK⟩ := F.ex
  rcases hD with ⟨e, _⟩ | ⟨_, T, o, its, m, rfl, lk2, hdata, hv⟩
  · exact (hd e).elim
  · refine ⟨fun s us ws X l1 l2 => BindsTo.of_looks fun M => ?_, fun r1 r2 => hrel r1 r2⟩
    obtain ⟨k, e1, e2⟩ := h T kV doc pm an cdv ct us its ws l1 (vals_len hv) l2
    rw [e1]
    refine looks_items X lk2 hdata ?_
    rw [e2]
    exact KwChain.looks (K := K) (D := T) X (l := []) (fun q h => by cases h) rfl
end
end Ts

namespace Ts
open PySem PySem.Spec PyProof.Rows L2
/-! ### the least or the greatest of a list, or what is told instead -/
abbrev kDef : Str := Str.ofString "default"

theorem min_kwOk (x y : Value) : argsOk "min" ⟨[x], [(kDef, y)]⟩ := by
  unfold argsOk
  kernel_rfl
section
variable {prog : Program} {w : World} {A : Around} {R : Result → Shared → Prop} {I : Addr} {fp wr : List Addr} {n : Nat} {P : Nat → Value → Prop} {St : Nat → Heap → Prop}
/-- what the two places hold ahead of turn j -/
def Bestmin (P : Nat → Value → Prop) (bt : Nat → Nat → Bool) (j : Nat) (xs : Array Value) : Prop :=
  (j = 0 ∧ xs = #[]) ∨ ∃ i u, j = i + 1 ∧ P (argBest bt i) u ∧ xs = #[u, u]
theorem min_turns (W : Walks prog w A.in1 I fp wr n P St) (bt : Nat → Nat → Bool) (hc : CmpOf prog w A.in1 .Lt P bt) (S : Addr) (hS : S ∉ fp) (d : Value) :
    ∀ (k j : Nat) (s : Shared) (xs : Array Value) (ep : Nat), k = n - j → j ≤ n → St j s.heap → Bestmin P bt j xs → s.heap.get? S = some (seqObj "list" xs ep) →
    (∀ v h' tk, ((n = 0 ∧ v = d) ∨ (0 < n ∧ P (argBest bt (n - 1)) v)) → (∀ b o, b ∉ wr → b ≠ S → s.heap.get? b = some o → h'.get? b = some o) → R (.ok (.ret v)) { s with heap := h', toks := tk }) →
    codeAny (model prog w) A (.builtin "min.loop" ⟨[.ref I, .none, .ref S], [(kDef, d)]⟩) R s := by
  have hSw : S ∉ wr := fun q => hS (W.sub _ q)
  have hid : (toString "min" ++ toString ".loop" : String) = "min.loop" := by decide
  intro k
  induction k with
  | zero =>
    intro j s xs ep hk hj st hb hs hR
    obtain rfl : j = n := by omega
    refine codeAny_builtin F.entry_min_loop ?_
    rw [Around.under_plainId F.plain_min_loop _]
    show wpAny _ _ (seqItems? (.ref S) >>= _) _ _ _
    refine wpAny_bind (wpAny_seqItems hs rfl ?_)
    show wpAny _ _ (tryCatch (pyNext _) _ >>= _) _ _ _
    refine wpAny_bind (wpAny_tryCatch (W.done s _ _ st fun h' tk hk' => ?_))
    have hs' := hk' S _ hSw hs
    rcases hb with ⟨rfl, rfl⟩ | ⟨i, u, rfl, hP, rfl⟩
    · show wpAny _ _ (rule _ >>= _) _ _ _
      refine wpAny_bind (wpAny_rule ?_)
      refine wpAny_pure ?_
      exact hR d h' tk (.inl ⟨rfl, rfl⟩) fun b o h1 _ e => hk' b o h1 e
    · show wpAny _ _ (updateSeq S (fun _ => #[]) >>= _) _ _ _
      refine wpAny_bind ?_
      refine wpAny_updateSeq hs' rfl (wpAny_bind (wpAny_letGo (wpAny_pure ?_)))
      refine hR u _ tk (.inr ⟨Nat.succ_pos _, hP⟩) fun b o h1 h2 e => ?_
      rw [Heap.get?_update_other _ _ (Ne.symm h2)]
      exact hk' b o h1 e
  | succ k ih =>
    intro j s xs ep hk hj st hb hs hR
    have hlt : j < n := by omega
    refine codeAny_builtin F.entry_min_loop ?_
    rw [Around.under_plainId F.plain_min_loop _]
    show wpAny _ _ (seqItems? (.ref S) >>= _) _ _ _
    refine wpAny_bind (wpAny_seqItems hs rfl ?_)
    show wpAny _ _ (tryCatch (pyNext _) _ >>= _) _ _ _
    refine wpAny_bind (wpAny_tryCatch (W.item j s _ _ hlt st fun v h' tk hv st' hk' => ?_))
    have hs' := hk' S _ hSw hs
    have fin : ∀ (g : Heap) (tk : Nat), (∀ b o, b ≠ S → h'.get? b = some o → g.get? b = some o) → ∀ (ys : Array Value) (e2 : Nat), Bestmin P bt (j + 1) ys → g.get? S = some (seqObj "list" ys e2) →
        codeAny (model prog w) A (.builtin "min.loop" ⟨[.ref I, .none, .ref S], [(kDef, d)]⟩) R { s with heap := g, toks := tk } := by
      intro g tk hg ys e2 hb2 hs2
      refine ih (j + 1) _ ys e2 (by omega) hlt (W.frame _ _ _ st' fun b hbf o e => hg b o (fun q => hS (q ▸ hbf)) e) hb2 hs2 fun v' h'' tk' hv' hk'' => ?_
      exact hR v' h'' tk' hv' fun b o h1 h2 e => hk'' b o h1 h2 (hg b o h2 (hk' b o h1 e))
    rcases hb with ⟨rfl, rfl⟩ | ⟨i, u, rfl, hP, rfl⟩
    · show wpAny _ _ (updateSeq S (fun _ => #[v, v]) >>= _) _ _ _
      refine wpAny_bind ?_
      refine wpAny_updateSeq hs' rfl ?_
      rw [hid]
      refine wpAny_pure ⟨plainId_quiet F.plain_min_loop _, ?_⟩
      exact fin _ tk (fun b o h1 e => by rw [Heap.get?_update_other _ _ (Ne.symm h1)]; exact e) _ _ (.inr ⟨0, v, rfl, hv, rfl⟩) (Heap.get?_update_self _ hs' rfl)
    · show wpAny _ _ (tryCatch (holding [v, v] (richCompare .Lt v u >>= _)) _ >>= _) _ _ _
      refine wpAny_bind (wpAny_tryCatch (wpAny_holding (wpAny_bind (hc (i + 1) (argBest bt i) v u _ _ _ hv hP ?_))))
      refine wpAny_bind (wpAny_holding (wpAny_truthy_bool ?_))
      refine wpAny_bind (wpAny_letGo (wpAny_pure ?_))
      by_cases hbt : bt (i + 1) (argBest bt i) = true
      · rw [hbt]
        simp only [if_true]
        refine wpAny_bind ?_
        refine wpAny_updateSeq hs' rfl (wpAny_bind (wpAny_letGo ?_))
        rw [hid]
        refine wpAny_pure ⟨plainId_quiet F.plain_min_loop _, ?_⟩
        exact fin _ tk (fun b o h1 e => by rw [Heap.get?_update_other _ _ (Ne.symm h1)]; exact e) _ _ (.inr ⟨i + 1, v, rfl, by rw [argBest, if_pos hbt]; exact hv, rfl⟩) (Heap.get?_update_self _ hs' rfl)
      · rw [Bool.not_eq_true] at hbt
        rw [hbt]
        simp only [Bool.false_eq_true, if_false]
        refine wpAny_bind (wpAny_letGo ?_)
        rw [hid]
        refine wpAny_pure ⟨plainId_quiet F.plain_min_loop _, ?_⟩
        exact fin h' tk (fun _ _ _ e => e) _ _ (.inr ⟨i + 1, u, rfl, by rw [argBest, if_neg (by rw [hbt]; decide)]; exact hP, rfl⟩) hs'
end
section
variable {prog : Program} {w : World} {A : Around} {E : Value → Shared → Prop} {s : Shared} {l : Addr} {xs : Array (Int × Tok)}
theorem min_or {d : Value} {Q : Value → Shared → Prop} (hh : A.handled = none) (hl : s.heap.IsList l (intItems xs))
    (h : ∀ v h' tk, ((xs.size = 0 ∧ v = d) ∨ (0 < xs.size ∧ (intItems xs)[argBest (fun i j => decide (numAt xs i < numAt xs j)) (xs.size - 1)]? = some v)) → (∀ b o, s.heap.get? b = some o → h'.get? b = some o) → Q v { s with heap := h', toks := tk }) :
    wpAny (model prog w) A (call (.builtin "min") [.ref l] [(kDef, d)]) Q E s := by
  have hid : (toString "min" ++ toString ".loop" : String) = "min.loop" := by decide
  have hsz : (intItems xs).size = xs.size := by simp [intItems]
  refine kmb_tree F.kind_min F.plain_min F.entry_min (min_kwOk _ _) ?_
  show wpAny _ _ (Builtin.Builtins.bindParams "min" ["key", "default"] 0 ⟨[], [(kDef, d)]⟩ >>= _) _ _ s
  refine wpAny_bind (wpAny_of_eq (show Builtin.Builtins.bindParams "min" ["key", "default"] 0 ⟨[], [(kDef, d)]⟩ = pure [none, some d] from rfl) ?_)
  refine wpAny_bind (wpAny_pure ?_)
  refine wpAny_bind (iter_intList hl fun s₂ e st hfp hlI => ?_)
  subst e
  refine wpAny_bind (wpAny_newObj_type ?_)
  rw [hid]
  have W := Walks.list (prog := prog) (w := w) (A := A.in1) hh _ l hlI (intItems xs)
  refine wpAny_pure ⟨plainId_quiet F.plain_min_loop _, ?_⟩
  refine min_turns W _ (CmpOf.ints_lt (numAt xs) (fun _ _ => intItems_at)) _ (fun hm => Nat.lt_irrefl _ (hfp _ hm)) d _ 0 _ #[] _ rfl (Nat.zero_le _) (W.frame _ _ _ st fun b _ o e => Heap.get?_push_of_some _ e) (.inl ⟨rfl, rfl⟩) (Heap.get?_push_size _ rfl) fun v h' tk hv hk => ?_
  refine h v h' tk (by rw [hsz] at hv; exact hv) ?_
  refine old_kept (l := l) fun b o hb e => ?_
  exact hk b o hb (Nat.ne_of_lt (Heap.lt_size e)) (Heap.get?_push_of_some _ e)
end
def rminD (K : PySem.W.Frag) : List V → List V → Hp → VK → Prop := fun vs zs H Q => ∃ (a : Addr) (ns : List Int) (d : Int), vs = [V.ref a] ∧ zs = [.int d] ∧ SqL K H a (ns.map V.int) ∧ ∀ m, ((ns = [] ∧ m = d) ∨ (m ∈ ns ∧ ∀ y, y ∈ ns → m ≤ y)) → Q (.int m) H
section
variable {X : Cx}
theorem c_minD (hc : X.calm = true) : CallRK X (.builtin "min") [kDef] (rminD X.K) := by
  intro pins s σ H vs zs us ws Q I r rz h
  obtain ⟨a, ns, d, rfl, rfl, hs, q⟩ := h
  obtain ⟨its, rv, hl, _⟩ := I.list hs
  rw [Vals.ref1 r]
  obtain ⟨w1, rfl, e1⟩ := vals1 rz
  obtain ⟨td, rfl⟩ := e1
  have hi := rv.ints
  obtain ⟨xs, e⟩ := hi.allInts.items
  have hn : numsOf (intItems xs).toList = ns := by rw [← e]; exact hi.numsOf
  rw [nums_intItems] at hn
  have hl := hl.isList
  rw [e] at hl
  refine min_or (I.ok.hd hc) hl fun v h' tk hv hk => ?_
  rcases hv with ⟨h0, rfl⟩ | ⟨h0, hv⟩
  · refine ⟨.int _, H, I.kept hk, ⟨_, rfl⟩, q d (.inl ⟨?_, rfl⟩)⟩
    rw [← hn]
    have : xs.toList = [] := by simpa using h0
    simp [this]
  · obtain ⟨t, rfl⟩ := intItems_at hv
    obtain ⟨g1, g2⟩ := argBest_lt (numAt xs) (xs.size - 1)
    refine ⟨.int _, H, I.kept hk, ⟨_, rfl⟩, q _ (.inr ⟨?_, fun y hy => ?_⟩)⟩
    · rw [← hn, numAt_eq]
      exact PySem.getD_mem (by rw [List.length_map, Array.length_toList]; omega)
    · rw [← hn] at hy
      obtain ⟨j, hj, rfl⟩ := mem_getD hy
      rw [List.length_map, Array.length_toList] at hj
      rw [← numAt_eq]
      exact g2 j (by omega)
end
section
variable {σ : L2.St} {H : Hp} {Q : VK} {K : PySem.W.Frag} {a : Addr} {ns : List Int} {d : Int}
theorem r_minD (h : SqL K H a (ns.map V.int)) (q : ∀ m, ((ns = [] ∧ m = d) ∨ (m ∈ ns ∧ ∀ y, y ∈ ns → m ≤ y)) → Q (.int m) H) : rminD K [.ref a] [.int d] H Q := ⟨a, ns, d, rfl, rfl, h, q⟩
end

theorem max_kwOk (x y : Value) : argsOk "max" ⟨[x], [(kDef, y)]⟩ := by
  unfold argsOk
  kernel_rfl
section
variable {prog : Program} {w : World} {A : Around} {R : Result → Shared → Prop} {I : Addr} {fp wr : List Addr} {n : Nat} {P : Nat → Value → Prop} {St : Nat → Heap → Prop}
/-- what the two places hold ahead of turn j -/
def Bestmax (P : Nat → Value → Prop) (bt : Nat → Nat → Bool) (j : Nat) (xs : Array Value) : Prop :=
  (j = 0 ∧ xs = #[]) ∨ ∃ i u, j = i + 1 ∧ P (argBest bt i) u ∧ xs = #[u, u]
theorem max_turns (W : Walks prog w A.in1 I fp wr n P St) (bt : Nat → Nat → Bool) (hc : CmpOf prog w A.in1 .Gt P bt) (S : Addr) (hS : S ∉ fp) (d : Value) :
    ∀ (k j : Nat) (s : Shared) (xs : Array Value) (ep : Nat), k = n - j → j ≤ n → St j s.heap → Bestmax P bt j xs → s.heap.get? S = some (seqObj "list" xs ep) →
    (∀ v h' tk, ((n = 0 ∧ v = d) ∨ (0 < n ∧ P (argBest bt (n - 1)) v)) → (∀ b o, b ∉ wr → b ≠ S → s.heap.get? b = some o → h'.get? b = some o) → R (.ok (.ret v)) { s with heap := h', toks := tk }) →
    codeAny (model prog w) A (.builtin "max.loop" ⟨[.ref I, .none, .ref S], [(kDef, d)]⟩) R s := by
  have hSw : S ∉ wr := fun q => hS (W.sub _ q)
  have hid : (toString "max" ++ toString ".loop" : String) = "max.loop" := by decide
  intro k
  induction k with
  | zero =>
    intro j s xs ep hk hj st hb hs hR
    obtain rfl : j = n := by omega
    refine codeAny_builtin F.entry_max_loop ?_
    rw [Around.under_plainId F.plain_max_loop _]
    show wpAny _ _ (seqItems? (.ref S) >>= _) _ _ _
    refine wpAny_bind (wpAny_seqItems hs rfl ?_)
    show wpAny _ _ (tryCatch (pyNext _) _ >>= _) _ _ _
    refine wpAny_bind (wpAny_tryCatch (W.done s _ _ st fun h' tk hk' => ?_))
    have hs' := hk' S _ hSw hs
    rcases hb with ⟨rfl, rfl⟩ | ⟨i, u, rfl, hP, rfl⟩
    · show wpAny _ _ (rule _ >>= _) _ _ _
      refine wpAny_bind (wpAny_rule ?_)
      refine wpAny_pure ?_
      exact hR d h' tk (.inl ⟨rfl, rfl⟩) fun b o h1 _ e => hk' b o h1 e
    · show wpAny _ _ (updateSeq S (fun _ => #[]) >>= _) _ _ _
      refine wpAny_bind ?_
      refine wpAny_updateSeq hs' rfl (wpAny_bind (wpAny_letGo (wpAny_pure ?_)))
      refine hR u _ tk (.inr ⟨Nat.succ_pos _, hP⟩) fun b o h1 h2 e => ?_
      rw [Heap.get?_update_other _ _ (Ne.symm h2)]
      exact hk' b o h1 e
  | succ k ih =>
    intro j s xs ep hk hj st hb hs hR
    have hlt : j < n := by omega
    refine codeAny_builtin F.entry_max_loop ?_
    rw [Around.under_plainId F.plain_max_loop _]
    show wpAny _ _ (seqItems? (.ref S) >>= _) _ _ _
    refine wpAny_bind (wpAny_seqItems hs rfl ?_)
    show wpAny _ _ (tryCatch (pyNext _) _ >>= _) _ _ _
    refine wpAny_bind (wpAny_tryCatch (W.item j s _ _ hlt st fun v h' tk hv st' hk' => ?_))
    have hs' := hk' S _ hSw hs
    have fin : ∀ (g : Heap) (tk : Nat), (∀ b o, b ≠ S → h'.get? b = some o → g.get? b = some o) → ∀ (ys : Array Value) (e2 : Nat), Bestmax P bt (j + 1) ys → g.get? S = some (seqObj "list" ys e2) →
        codeAny (model prog w) A (.builtin "max.loop" ⟨[.ref I, .none, .ref S], [(kDef, d)]⟩) R { s with heap := g, toks := tk } := by
      intro g tk hg ys e2 hb2 hs2
      refine ih (j + 1) _ ys e2 (by omega) hlt (W.frame _ _ _ st' fun b hbf o e => hg b o (fun q => hS (q ▸ hbf)) e) hb2 hs2 fun v' h'' tk' hv' hk'' => ?_
      exact hR v' h'' tk' hv' fun b o h1 h2 e => hk'' b o h1 h2 (hg b o h2 (hk' b o h1 e))
    rcases hb with ⟨rfl, rfl⟩ | ⟨i, u, rfl, hP, rfl⟩
    · show wpAny _ _ (updateSeq S (fun _ => #[v, v]) >>= _) _ _ _
      refine wpAny_bind ?_
      refine wpAny_updateSeq hs' rfl ?_
      rw [hid]
      refine wpAny_pure ⟨plainId_quiet F.plain_max_loop _, ?_⟩
      exact fin _ tk (fun b o h1 e => by rw [Heap.get?_update_other _ _ (Ne.symm h1)]; exact e) _ _ (.inr ⟨0, v, rfl, hv, rfl⟩) (Heap.get?_update_self _ hs' rfl)
    · show wpAny _ _ (tryCatch (holding [v, v] (richCompare .Gt v u >>= _)) _ >>= _) _ _ _
      refine wpAny_bind (wpAny_tryCatch (wpAny_holding (wpAny_bind (hc (i + 1) (argBest bt i) v u _ _ _ hv hP ?_))))
      refine wpAny_bind (wpAny_holding (wpAny_truthy_bool ?_))
      refine wpAny_bind (wpAny_letGo (wpAny_pure ?_))
      by_cases hbt : bt (i + 1) (argBest bt i) = true
      · rw [hbt]
        simp only [if_true]
        refine wpAny_bind ?_
        refine wpAny_updateSeq hs' rfl (wpAny_bind (wpAny_letGo ?_))
        rw [hid]
        refine wpAny_pure ⟨plainId_quiet F.plain_max_loop _, ?_⟩
        exact fin _ tk (fun b o h1 e => by rw [Heap.get?_update_other _ _ (Ne.symm h1)]; exact e) _ _ (.inr ⟨i + 1, v, rfl, by rw [argBest, if_pos hbt]; exact hv, rfl⟩) (Heap.get?_update_self _ hs' rfl)
      · rw [Bool.not_eq_true] at hbt
        rw [hbt]
        simp only [Bool.false_eq_true, if_false]
        refine wpAny_bind (wpAny_letGo ?_)
        rw [hid]
        refine wpAny_pure ⟨plainId_quiet F.plain_max_loop _, ?_⟩
        exact fin h' tk (fun _ _ _ e => e) _ _ (.inr ⟨i + 1, u, rfl, by rw [argBest, if_neg (by rw [hbt]; decide)]; exact hP, rfl⟩) hs'
end
section
variable {prog : Program} {w : World} {A : Around} {E : Value → Shared → Prop} {s : Shared} {l : Addr} {xs : Array (Int × Tok)}
theorem max_or {d : Value} {Q : Value → Shared → Prop} (hh : A.handled = none) (hl : s.heap.IsList l (intItems xs))
    (h : ∀ v h' tk, ((xs.size = 0 ∧ v = d) ∨ (0 < xs.size ∧ (intItems xs)[argBest (fun i j => decide (numAt xs i > numAt xs j)) (xs.size - 1)]? = some v)) → (∀ b o, s.heap.get? b = some o → h'.get? b = some o) → Q v { s with heap := h', toks := tk }) :
    wpAny (model prog w) A (call (.builtin "max") [.ref l] [(kDef, d)]) Q E s := by
  have hid : (toString "max" ++ toString ".loop" : String) = "max.loop" := by decide
  have hsz : (intItems xs).size = xs.size := by simp [intItems]
  refine kmb_tree F.kind_max F.plain_max F.entry_max (max_kwOk _ _) ?_
  show wpAny _ _ (Builtin.Builtins.bindParams "max" ["key", "default"] 0 ⟨[], [(kDef, d)]⟩ >>= _) _ _ s
  refine wpAny_bind (wpAny_of_eq (show Builtin.Builtins.bindParams "max" ["key", "default"] 0 ⟨[], [(kDef, d)]⟩ = pure [none, some d] from rfl) ?_)
  refine wpAny_bind (wpAny_pure ?_)
  refine wpAny_bind (iter_intList hl fun s₂ e st hfp hlI => ?_)
  subst e
  refine wpAny_bind (wpAny_newObj_type ?_)
  rw [hid]
  have W := Walks.list (prog := prog) (w := w) (A := A.in1) hh _ l hlI (intItems xs)
  refine wpAny_pure ⟨plainId_quiet F.plain_max_loop _, ?_⟩
  refine max_turns W _ (CmpOf.ints_gt (numAt xs) (fun _ _ => intItems_at)) _ (fun hm => Nat.lt_irrefl _ (hfp _ hm)) d _ 0 _ #[] _ rfl (Nat.zero_le _) (W.frame _ _ _ st fun b _ o e => Heap.get?_push_of_some _ e) (.inl ⟨rfl, rfl⟩) (Heap.get?_push_size _ rfl) fun v h' tk hv hk => ?_
  refine h v h' tk (by rw [hsz] at hv; exact hv) ?_
  refine old_kept (l := l) fun b o hb e => ?_
  exact hk b o hb (Nat.ne_of_lt (Heap.lt_size e)) (Heap.get?_push_of_some _ e)
end
def rmaxD (K : PySem.W.Frag) : List V → List V → Hp → VK → Prop := fun vs zs H Q => ∃ (a : Addr) (ns : List Int) (d : Int), vs = [V.ref a] ∧ zs = [.int d] ∧ SqL K H a (ns.map V.int) ∧ ∀ m, ((ns = [] ∧ m = d) ∨ (m ∈ ns ∧ ∀ y, y ∈ ns → y ≤ m)) → Q (.int m) H
section
variable {X : Cx}
theorem c_maxD (hc : X.calm = true) : CallRK X (.builtin "max") [kDef] (rmaxD X.K) := by
  intro pins s σ H vs zs us ws Q I r rz h
  obtain ⟨a, ns, d, rfl, rfl, hs, q⟩ := h
  obtain ⟨its, rv, hl, _⟩ := I.list hs
  rw [Vals.ref1 r]
  obtain ⟨w1, rfl, e1⟩ := vals1 rz
  obtain ⟨td, rfl⟩ := e1
  have hi := rv.ints
  obtain ⟨xs, e⟩ := hi.allInts.items
  have hn : numsOf (intItems xs).toList = ns := by rw [← e]; exact hi.numsOf
  rw [nums_intItems] at hn
  have hl := hl.isList
  rw [e] at hl
  refine max_or (I.ok.hd hc) hl fun v h' tk hv hk => ?_
  rcases hv with ⟨h0, rfl⟩ | ⟨h0, hv⟩
  · refine ⟨.int _, H, I.kept hk, ⟨_, rfl⟩, q d (.inl ⟨?_, rfl⟩)⟩
    rw [← hn]
    have : xs.toList = [] := by simpa using h0
    simp [this]
  · obtain ⟨t, rfl⟩ := intItems_at hv
    obtain ⟨g1, g2⟩ := argBest_gt (numAt xs) (xs.size - 1)
    refine ⟨.int _, H, I.kept hk, ⟨_, rfl⟩, q _ (.inr ⟨?_, fun y hy => ?_⟩)⟩
    · rw [← hn, numAt_eq]
      exact PySem.getD_mem (by rw [List.length_map, Array.length_toList]; omega)
    · rw [← hn] at hy
      obtain ⟨j, hj, rfl⟩ := mem_getD hy
      rw [List.length_map, Array.length_toList] at hj
      rw [← numAt_eq]
      exact g2 j (by omega)
end
section
variable {σ : L2.St} {H : Hp} {Q : VK} {K : PySem.W.Frag} {a : Addr} {ns : List Int} {d : Int}
theorem r_maxD (h : SqL K H a (ns.map V.int)) (q : ∀ m, ((ns = [] ∧ m = d) ∨ (m ∈ ns ∧ ∀ y, y ∈ ns → y ≤ m)) → Q (.int m) H) : rmaxD K [.ref a] [.int d] H Q := ⟨a, ns, d, rfl, rfl, h, q⟩
end

/-! ### the next place -/
def IsNext (ts : List T2) (pl n r : Int) : Prop := (r = n ∧ ∀ t ∈ ts, ¬ (pl < top n t.1 ∧ top n t.1 < n)) ∨ ((pl < r ∧ r < n) ∧ ∃ t ∈ ts, top n t.1 = r ∧ ∀ u ∈ ts, pl < top n u.1 ∧ top n u.1 < n → r ≤ top n u.1)
def spNext (K : PySem.W.Frag) : Sp := fun vs H Q _ => ∃ (x : V) (ts : List T2) (pl n : Int), vs = [x, .int pl, .int n] ∧ Tup K H x ts ∧ ts.length ≤ 1000 ∧ ∀ r H', Ex H H' → IsNext ts pl n r → Q (.int r) H'
theorem IsNext.uniq {ts : List T2} {pl n r s : Int} (h1 : IsNext ts pl n r) (h2 : IsNext ts pl n s) : r = s := by
  rcases h1 with ⟨a1, b1⟩ | ⟨a1, t, b1, rfl, c1⟩ <;> rcases h2 with ⟨a2, b2⟩ | ⟨a2, u, b2, rfl, c2⟩
  · omega
  · exact absurd a2 (b1 u b2)
  · exact absurd a1 (b2 t b1)
  · have := c1 u b2 a2
    have := c2 t b1 a1
    omega
theorem nameAt_isSome {f : T2 → Bool} {ts : List T2} : (nameAt f ts).isSome = true ↔ ∃ t ∈ ts, f t = true := by
  unfold nameAt
  constructor
  · intro h
    obtain ⟨z, hz⟩ := Option.isSome_iff_exists.mp h
    obtain ⟨t, ht, _⟩ := List.mem_map.mp (List.mem_of_getLast? hz)
    obtain ⟨h1, h2⟩ := List.mem_filter.mp ht
    exact ⟨t, h1, h2⟩
  · rintro ⟨t, ht, hf⟩
    cases hh : ((ts.filter f).map (·.2)).getLast? with
    | some z => rfl
    | none =>
      rw [List.getLast?_eq_none_iff, List.map_eq_nil_iff, List.filter_eq_nil_iff] at hh
      exact absurd hf (hh t ht)
section
variable {σ : L2.St} {H : Hp} {Q : VK} {K : PySem.W.Frag}
def rNotN : R2 := fun x y H Q => y = .non ∧ Q (.bl (!decide (x = .non))) H
theorem r_notNo {o : Option (List Nat)} (q : Q (.bl o.isSome) H) : rNotN (ov o) .non H Q := ⟨rfl, by
  cases o with
  | none => rw [show decide (ov none = V.non) = true from rfl]; exact q
  | some z => rw [show decide (ov (some z) = V.non) = false from decide_eq_false fun h => nomatch h]; exact q⟩
/-- a comprehension over a range, numbers tested by p, kept as F tells -/
theorem lc_rf {lo : Int} {n : Nat} {tt : TT} {te : TE} {vs : List Nat} {j : Nat} (p : Nat → Bool) (F : Nat → V) (hz : n < 1000000)
    (hw : ∀ x, wipe ((wipe σ vs).set j (some x)) vs = wipe σ vs)
    (ht : ∀ i H', i < n → Ex H H' → ∀ QQ : Bool → Hp → Prop, (∀ H4, Ex H' H4 → QQ (p i) H4) → tt ((wipe σ vs).set j (some (.int (lo + i)))) H' QQ)
    (he : ∀ i H', i < n → p i = true → Ex H H' → ∀ (Y : VK), (∀ H4, Ex H' H4 → Y (F i) H4) → te ((wipe σ vs).set j (some (.int (lo + i)))) H' Y)
    (q : ∀ D H2, H D = none → Ex H H2 → H2 D = some (.lst (((List.range n).filter p).map F)) → Q (.ref D) H2) : LcK (Itr lo n) (gName j) tt te vs σ H Q := by
  refine lc_inv Ex exR n (fun i => .int (lo + i)) hz
    (fun i acc H' => acc = ((List.range i).filter p).map F ∧ Ex H H') (fun i acc H' h _ => h) (fun acc H' _ => Nat.le_refl _) (fun i acc H' x H'' h _ y => ⟨y.1, y.2⟩) hw ⟨rfl, Evl.Ex.refl _⟩
    (fun D i acc H' o nD hh => by obtain ⟨e, k⟩ := hh; exact ⟨e, Ex.updN k nD⟩) ?_ ?_
  · rintro i acc H' hi ⟨rfl, k⟩ Y N hY hN
    refine ht i H' hi k _ fun H3 e3 => ?_
    by_cases hp : p i = true
    · rw [hp]
      refine r_T (he i H3 hi hp (k.trans e3) Y fun H4 e4 => hY _ _ ⟨?_, k.trans (e3.trans e4)⟩ (e3.trans e4))
      rw [filt_succ, if_pos hp, List.map_append]
      rfl
    · rw [Bool.not_eq_true] at hp
      rw [hp]
      refine r_F (hN _ ⟨?_, k.trans e3⟩ e3)
      rw [filt_succ, if_neg (by rw [hp]; decide), List.append_nil]
  · rintro D H2 acc nD hd ⟨rfl, k⟩
    exact q D H2 nD k hd
theorem dp_o (o : Option (List Nat)) : Dp K H (ov o) (dO o) := by
  cases o with
  | none => exact .non
  | some z => exact .str _
theorem sh_o {o : Option (List Nat)} (h : ∀ z, o = some z → z.length ≤ 1000 ∧ ∀ c ∈ z, c < 1114112) : Sh (dO o) := by
  cases o with
  | none => exact Sh.of okw_none (by decide) (by decide)
  | some z => exact Sh.of (okw_str (n := 1000) (okL.ok (h z rfl))) (by decide) (by decide)
end
section
variable {X : Cx}
theorem o_notN : OpR X (compareOp .IsNot) rNotN := op_notN
end
theorem filt_first {p : Nat → Bool} {n k : Nat} (hk : k < n) (hp : p k = true) (hno : ∀ j, j < k → p j = false) : ∃ r, (List.range n).filter p = k :: r := by
  have e : List.range n = List.range k ++ (List.range' k (n - k)) := by
    rw [List.range_eq_range', List.range_eq_range', show n = k + (n - k) by omega, ← List.range'_append_1]
    simp
  rw [e, List.filter_append, filt_none hno, List.nil_append, show n - k = (n - k - 1) + 1 by omega, List.range'_succ, List.filter_cons, if_pos hp]
  exact ⟨_, rfl⟩

theorem least_of {p : Nat → Prop} (h : ∃ n, p n) : ∃ n, p n ∧ ∀ j, j < n → ¬ p j := by
  obtain ⟨n, hn⟩ := h
  induction n using Nat.strongRecOn with
  | _ n ih =>
    by_cases hj : ∃ j, j < n ∧ p j
    · obtain ⟨j, h1, h2⟩ := hj
      exact ih j h1 h2
    · exact ⟨n, hn, fun j h1 h2 => hj ⟨j, h1, h2⟩⟩
theorem nameAt_snocN {f : T2 → Bool} {ts : List T2} {n : T2} (h : f n = false) : nameAt f (ts ++ [n]) = nameAt f ts := by
  unfold nameAt
  rw [List.filter_append, List.filter_cons, if_neg (by rw [h]; decide), List.filter_nil, List.append_nil]
theorem r_yes {σ : L2.St} {H : Hp} {Q : Bool → Hp → Prop} (q : Q true H) : tYes σ H Q := by
  unfold tYes
  exact q
theorem r_ckw {r : List V → List V → Hp → VK → Prop} {t tk : TA} {σ : L2.St} {H : Hp} {Q : VK} (q : t σ H fun vs H1 => tk σ H1 fun zs H2 => r vs zs H2 Q) : tCKw r t tk σ H Q := q
end Ts

namespace Ts
open PySem PySem.Spec PyProof.Rows L2
/-! ### data that is compared with itself -/
mutual
theorem eqv_self : ∀ d : PyData, d.canLay0 = true → PyData.eqv d d = true
  | .none, _ => by simp [PyData.eqv]
  | .bool _, _ => by simp [PyData.eqv]
  | .int _, _ => by simp [PyData.eqv]
  | .str _, _ => by simp [PyData.eqv]
  | .list xs, h => by
    rw [PyData.canLay0] at h
    rw [PyData.eqv]
    exact eqv_selfs xs h
  | .tuple xs, h => by
    rw [PyData.canLay0] at h
    rw [PyData.eqv]
    exact eqv_selfs xs h
  | .dict _, h => by simp [PyData.canLay0] at h
theorem eqv_selfs : ∀ ds : List PyData, PyData.canLayAll0 ds = true → PyData.eqvAll ds ds = true
  | [], _ => by simp [PyData.eqvAll]
  | d :: r, h => by
    rw [PyData.canLayAll0, Bool.and_eq_true] at h
    rw [PyData.eqvAll, eqv_self d h.1, eqv_selfs r h.2]
    rfl
end
structure Lay (d : PyData) (n : Nat) : Prop where
  ok : d.canLay0 = true
  dp : d.depth ≤ n
structure Lays (ds : List PyData) (n : Nat) : Prop where
  ok : PyData.canLayAll0 ds = true
  dp : PyData.depthAll ds ≤ n
theorem Lay.shp {d : PyData} {n : Nat} (h : Lay d n) (hn : n ≤ 64) : SeqAt.shaped d = true := by
  unfold SeqAt.shaped
  rw [h.ok, decide_eq_true (Nat.le_trans h.dp hn)]
  rfl
theorem lay_none {n : Nat} : Lay .none n := ⟨by simp [PyData.canLay0], by simp [PyData.depth]⟩
theorem lay_bool {b : Bool} {n : Nat} : Lay (.bool b) n := ⟨by simp [PyData.canLay0], by simp [PyData.depth]⟩
theorem lay_int {i : Int} {n : Nat} : Lay (.int i) n := ⟨by simp [PyData.canLay0], by simp [PyData.depth]⟩
theorem lay_str {z : List Nat} {n : Nat} (h : ∀ c ∈ z, c < 1114112) : Lay (.str (S z)) n := ⟨by simp [PyData.canLay0, strOkS h], by simp [PyData.depth]⟩
theorem lay_tup {ds : List PyData} {n : Nat} (h : Lays ds n) : Lay (.tuple ds) (n + 1) := ⟨by rw [PyData.canLay0]; exact h.ok, by rw [PyData.depth]; have := h.dp; omega⟩
theorem lay_lst {ds : List PyData} {n : Nat} (h : Lays ds n) : Lay (.list ds) (n + 1) := ⟨by rw [PyData.canLay0]; exact h.ok, by rw [PyData.depth]; have := h.dp; omega⟩
theorem lays_nil {n : Nat} : Lays [] n := ⟨by simp [PyData.canLayAll0], by simp [PyData.depthAll]⟩
theorem lays_cons {d : PyData} {ds : List PyData} {n : Nat} (h : Lay d n) (t : Lays ds n) : Lays (d :: ds) n := ⟨by rw [PyData.canLayAll0, h.ok, t.ok]; rfl, by rw [PyData.depthAll]; have := h.dp; have := t.dp; omega⟩
theorem lays_all {n : Nat} : ∀ {ds : List PyData}, (∀ d ∈ ds, Lay d n) → Lays ds n
  | [], _ => lays_nil
  | d :: ds, h => lays_cons (h d (List.mem_cons_self ..)) (lays_all fun x hx => h x (List.mem_cons_of_mem _ hx))
section
variable {σ : L2.St} {H : Hp} {Q : VK} {K : PySem.W.Frag} {x y : V} {d : PyData} {n : Nat}
theorem r_eqSelf (h1 : Dp K H x d) (h2 : Dp K H y d) (l : Lay d n) (hn : n ≤ 64) (q : Q (.bl true) H) : rEqD K x y H Q :=
  ⟨d, d, h1, h2, l.shp hn, l.shp hn, by rw [eqv_self d l.ok]; exact q⟩
theorem r_neSelf (h1 : Dp K H x d) (h2 : Dp K H y d) (l : Lay d n) (hn : n ≤ 64) (q : Q (.bl false) H) : rNeD K x y H Q :=
  ⟨d, d, h1, h2, l.shp hn, l.shp hn, by rw [eqv_self d l.ok]; exact q⟩
/-! ### comprehensions that change nothing that stands -/
theorem lc_fw {J : It} {g : TG} {tt : TT} {te : TE} {vs : List Nat} (n : Nat) (xs : Nat → V) (hz : n < 1000000) (I : Nat → List V → Hp → Prop)
    (hg : ∀ i H', i < n → Ex H H' → J.go i H') (hs : ∀ H', Ex H H' → J.stop n H') (hy : ∀ i H' x H'', i < n → Ex H H' → J.yld i H' x H'' → H'' = H' ∧ x = xs i)
    (h0 : ∀ H', Ex H H' → I 0 [] H')
    (hK : ∀ D i acc H1 H2, H D = none → Ol H1 D → Kp D H1 H2 → I i acc H1 → I i acc H2)
    (hb : ∀ i acc H', i < n → Ex H H' → I i acc H' → ∀ (Y : VK) (N : Hp → Prop), (∀ y H4, Ex H' H4 → I (i + 1) (acc ++ [y]) H4 → Y y H4) → (∀ H3, Ex H' H3 → I (i + 1) acc H3 → N H3) →
      g (xs i) (wipe σ vs) H' fun σ2 H2 => wipe σ2 vs = wipe σ vs ∧ tt σ2 H2 fun b H3 => IfB b (te σ2 H3 Y) (N H3))
    (q : ∀ D H2 acc, H D = none → Ex H H2 → H2 D = some (.lst acc) → I n acc H2 → Q (.ref D) H2) : LcK J g tt te vs σ H Q := by
  intro D nD
  refine ⟨fun i m H' => m = n - i ∧ i ≤ n ∧ Ex H H' ∧ ∃ acc, acc.length ≤ i ∧ I i acc H' ∧ H' D = some (.lst acc), ⟨n, by omega, Nat.zero_le _, Evl.Ex.new nD, [], Nat.le_refl _, h0 _ (Evl.Ex.new nD), upd_same⟩, ?_⟩
  rintro i m H' ⟨rfl, hi, hE, acc, hl, hI, hd⟩
  by_cases h : i < n
  · refine .inr ⟨hg i H' h hE, fun H'' => i + 1 ≤ n ∧ Ex H H'' ∧ ∃ acc, acc.length ≤ i + 1 ∧ I (i + 1) acc H'' ∧ H'' D = some (.lst acc), fun H'' hh => ⟨n - (i + 1), by omega, rfl, hh⟩, fun x H2 y => ?_⟩
    obtain ⟨rfl, rfl⟩ := hy i H' x H2 h hE y
    refine hb i acc _ h hE hI _ _ (fun y H4 k4 h4 => ?_) (fun H3 k3 h3 => ⟨by omega, hE.trans k3, acc, by omega, h3, k3 _ _ hd⟩)
    have hd4 := k4 _ _ hd
    refine ⟨acc, hd4, Nat.lt_of_lt_of_le (m := 1000000) (by omega) (by decide), by omega, ex_kp (hE.trans k4) nD Kp.upd, acc ++ [y], by rw [List.length_append]; exact Nat.succ_le_succ hl, ?_, upd_same⟩
    exact hK D _ _ _ _ nD ⟨_, hd4⟩ Kp.upd h4
  · have : i = n := by omega
    subst this
    exact .inl ⟨hs H' hE, q D H' acc nD hE hd hI⟩
/-- over a tuple -/
theorem lc_tupF {a : Addr} {g : TG} {tt : TT} {te : TE} {vs : List Nat} {us : List V} (hx : SqT K H a us) (hz : us.length < 1000000) (I : Nat → List V → Hp → Prop)
    (h0 : ∀ H', Ex H H' → I 0 [] H')
    (hK : ∀ D i acc H1 H2, H D = none → Ol H1 D → Kp D H1 H2 → I i acc H1 → I i acc H2)
    (hb : ∀ i acc H', i < us.length → Ex H H' → I i acc H' → ∀ (Y : VK) (N : Hp → Prop), (∀ y H4, Ex H' H4 → I (i + 1) (acc ++ [y]) H4 → Y y H4) → (∀ H3, Ex H' H3 → I (i + 1) acc H3 → N H3) →
      g (us.getD i .non) (wipe σ vs) H' fun σ2 H2 => wipe σ2 vs = wipe σ vs ∧ tt σ2 H2 fun b H3 => IfB b (te σ2 H3 Y) (N H3))
    (q : ∀ D H2 acc, H D = none → Ex H H2 → H2 D = some (.lst acc) → I us.length acc H2 → Q (.ref D) H2) : LcK (Itt K a) g tt te vs σ H Q :=
  lc_fw us.length (fun i => us.getD i .non) hz I (fun i H' h hE => ⟨us, _, Ex.T hE hx, List.getElem?_eq_getElem h⟩) (fun H' hE => ⟨us, Ex.T hE hx, Nat.le_refl _⟩)
    (fun i H' x H'' h hE y => ⟨y.1, by rw [List.getD_eq_getElem?_getD, y.2 us (Ex.T hE hx)]; rfl⟩) h0 hK hb q
/-- over a list -/
theorem lc_lstF {a : Addr} {g : TG} {tt : TT} {te : TE} {vs : List Nat} {us : List V} (hx : SqL K H a us) (hz : us.length < 1000000) (I : Nat → List V → Hp → Prop)
    (h0 : ∀ H', Ex H H' → I 0 [] H')
    (hK : ∀ D i acc H1 H2, H D = none → Ol H1 D → Kp D H1 H2 → I i acc H1 → I i acc H2)
    (hb : ∀ i acc H', i < us.length → Ex H H' → I i acc H' → ∀ (Y : VK) (N : Hp → Prop), (∀ y H4, Ex H' H4 → I (i + 1) (acc ++ [y]) H4 → Y y H4) → (∀ H3, Ex H' H3 → I (i + 1) acc H3 → N H3) →
      g (us.getD i .non) (wipe σ vs) H' fun σ2 H2 => wipe σ2 vs = wipe σ vs ∧ tt σ2 H2 fun b H3 => IfB b (te σ2 H3 Y) (N H3))
    (q : ∀ D H2 acc, H D = none → Ex H H2 → H2 D = some (.lst acc) → I us.length acc H2 → Q (.ref D) H2) : LcK (Itl K a) g tt te vs σ H Q :=
  lc_fw us.length (fun i => us.getD i .non) hz I (fun i H' h hE => ⟨us, _, Ex.L hE hx, List.getElem?_eq_getElem h⟩) (fun H' hE => ⟨us, Ex.L hE hx, Nat.le_refl _⟩)
    (fun i H' x H'' h hE y => ⟨y.1, by rw [List.getD_eq_getElem?_getD, y.2 us (Ex.L hE hx)]; rfl⟩) h0 hK hb q
end
mutual
theorem dp_ex {K : PySem.W.Frag} {H H' : Hp} (e : Ex H H') : ∀ {v : V} {d : PyData}, Dp K H v d → Dp K H' v d
  | _, _, .non => .non
  | _, _, .bl b => .bl b
  | _, _, .int i => .int i
  | _, _, .str x => .str x
  | _, _, .lst h ds => .lst (Ex.L e h) (dps_ex e ds)
  | _, _, .tup h ds => .tup (Ex.T e h) (dps_ex e ds)
theorem dps_ex {K : PySem.W.Frag} {H H' : Hp} (e : Ex H H') : ∀ {vs : List V} {ds : List PyData}, DpAll K H vs ds → DpAll K H' vs ds
  | _, _, .nil => .nil
  | _, _, .cons h t => .cons (dp_ex e h) (dps_ex e t)
end
theorem r_isNs {z : Str} {H : Hp} {Q : VK} (q : Q (.bl false) H) : rIsN (.str z) .non H Q := ⟨rfl, by rw [decide_eq_false (fun h => by cases h)]; exact q⟩
section
variable {σ : L2.St} {H : Hp} {Q : VK} {K : PySem.W.Frag}
/-- pairs made of pairs -/
theorem lc_pairs {a : Addr} {te : TE} {vs : List Nat} {us : List V} {ts : List T2} {i j : Nat} (hx : SqT K H a us) (ht : Trs K H us ts) (hl : ts.length ≤ 1000) (f : T2 → T2)
    (hw : ∀ x y, wipe (((wipe σ vs).set i (some x)).set j (some y)) vs = wipe σ vs)
    (hb : ∀ t ∈ ts, ∀ H', Ex H H' → ∀ Y : VK, (∀ v H4, Ex H' H4 → Trap K H4 v (f t) → Y v H4) → te (((wipe σ vs).set i (some (.int t.1))).set j (some (.str (S t.2)))) H' Y)
    (q : ∀ D H2 acc, H D = none → Ex H H2 → H2 D = some (.lst acc) → Trs K H2 acc (ts.map f) → Q (.ref D) H2) :
    LcK (Itt K a) (gTup K 2 (gCons (gName i) (gCons (gName j) gNil))) tYes te vs σ H Q := by
  have hlen := ht.len
  refine lc_tupF hx (by omega) (fun n acc H' => Trs K H' acc ((ts.take n).map f)) (fun _ _ => trivial) (fun D n acc H3 H4 nD ol k h => h.kp k ol) ?_ ?_
  · rintro n acc H4 hn e4 hacc Y N hY hN
    obtain ⟨b, hb1, hb2⟩ := ht.get (k := n) (by omega)
    have hti : ts[n]? = some (ts.getD n (0, [])) := by
      rw [List.getD_eq_getElem?_getD, List.getElem?_eq_getElem (by omega)]
      rfl
    rw [show us.getD n .non = .ref b by rw [List.getD_eq_getElem?_getD, hb1]; rfl]
    refine r_gtup (Ex.T e4 hb2) rfl (r_gcons (r_gname (r_gcons (r_gname (r_gnil ⟨hw _ _, r_yes (r_T ?_)⟩)))))
    refine hb _ (List.mem_of_getElem? hti) H4 e4 Y fun v H5 e5 h5 => hY v H5 e5 ?_
    rw [List.take_add_one, hti, List.map_append]
    exact Trs.app (hacc.ex e5) ⟨h5, trivial⟩
  · intro D H2 acc nD e2 hD hacc
    rw [hlen, List.take_length] at hacc
    exact q D H2 acc nD e2 hD hacc
end
/-! ### a text turned about -/
def RevS (x : V) (H : Hp) (Q : VK) : Prop := ∃ z, x = .str z ∧ z.length ≤ sizeLine ∧ Q (.str (S z.cps.toList.reverse)) H
def tRevS (te : TE) : TE := fun σ H Q => te σ H fun x H1 => RevS x H1 Q
section
variable {X : Cx}
theorem pe_revS {e : Expr} {te : TE} {k : Nat} {p1 p2 p3 pos : Pos} (he : PE X e te) : PE X (.Subscript e (.Slice none none (some (.UnaryOp .USub (.Constant (.int 1) k p1) p2)) p3) pos) (tRevS te) := by
  constructor
  intro pins s σ H Q I h
  refine Subscript_ (thn (he.run pins s σ H _ I h) fun v s1 g1 => ?_)
  obtain ⟨x, H1, I1, r1, z, rfl, hz, q⟩ := g1
  obtain ⟨tz, rfl⟩ := r1
  refine wpAny_Slice (thn (po_none.run pins s1 σ H1 (fun o G => o = none ∧ G = H1) I1 ⟨rfl, rfl⟩) fun ul s2 g2 => ?_)
  obtain ⟨l, H2, I2, pl, rfl, rfl⟩ := g2
  refine thn (po_none.run pins s2 σ H2 (fun o G => o = none ∧ G = H2) I2 ⟨rfl, rfl⟩) fun uu s3 g3 => ?_
  obtain ⟨u, H3, I3, pu, rfl, rfl⟩ := g3
  have hst : PO X (some (.UnaryOp .USub (.Constant (.int 1) k p1) p2)) (tPart (tUn (rU fun i => .int (-i)) (tC (.int 1)))) := po_some (pe_un un_neg pe_int)
  refine thn (hst.run pins s3 σ H3 (fun o G => o = some (-1) ∧ G = H3) I3 ⟨1, rfl, -1, rfl, rfl, rfl⟩) fun us s4 g4 => ?_
  obtain ⟨o, H4, I4, ps, rfl, rfl⟩ := g4
  cases pl
  cases pu
  cases ps with
  | int i t =>
    have I5 := I4.kept (h' := s4.heap.push { cls := .type "slice", data := .fields #[.none, .none, .int (-1) t] }) (t' := s4.toks) fun b ob e => Heap.get?_push_of_some _ e
    refine tail_any (T := "str") (ops := [.str z tz, .ref s4.heap.objs.size]) (typeIs_str _ z tz) F.slot_str_getitem.lookup ?_ (by with_unfolding_all rfl)
    refine wpAny_getItem_str_slice (l := none) (u := none) (st := some (-1, t)) ⟨_, Heap.get?_push_size _ rfl, rfl, rfl⟩ rfl ?_
    have hq : ((slicePicked z none none (some (-1, t))).filterMap (z.cps[·]?)) = z.cps.toList.reverse := by
      have e : slicePicked z none none (some (-1, t)) = sliceRange ((z.cps.size : Int) - 1) (-1) (-1) := rfl
      rw [e, PySem.W.krv_sliceRange, PySem.W.krv_range, List.filterMap_reverse, PySem.W.krv_all]
    unfold sliceMade
    rw [if_neg (by intro hh; rw [Bool.and_eq_true] at hh; exact absurd hh.1 (show ¬ ((-1 : Int) == 1) = true by decide)), hq]
    refine ⟨?_, .str _, H4, I5.tok _, ⟨_, rfl⟩, q⟩
    show (Str.length ⟨z.cps.toList.reverse.toArray⟩) ≤ _
    simpa [Str.length] using hz
end
section
variable {σ : L2.St} {H : Hp} {Q : VK} {te : TE}
theorem r_revS (q : te σ H fun x H1 => RevS x H1 Q) : tRevS te σ H Q := q
theorem r_revSs {z : List Nat} (h : z.length ≤ 1000000) (q : Q (.str (S z.reverse)) H) : RevS (.str (S z)) H Q := ⟨_, rfl, by rw [S_len]; exact Nat.le_trans h (by decide), q⟩
end
end Ts

namespace Ts
open PySem PySem.Spec PyProof.Rows L2
/-! ### texts: beginnings, parts, blanks ahead -/
theorem starts_S (a b : List Nat) : Txt.startswith (S a) (S b) = decide (a.take b.length = b) := by
  unfold Txt.startswith
  rw [S_len, S_len]
  have e : Builtin.Str.subAt (S a) (S b) 0 = decide (a.take b.length = b) := by
    unfold Builtin.Str.subAt
    rw [S_len, Nat.zero_add]
    rw [Bool.eq_iff_iff, decide_eq_true_iff, beq_iff_eq]
    show a.toArray.extract 0 b.length = b.toArray ↔ _
    constructor
    · intro h
      have := congrArg Array.toList h
      simpa using this
    · intro h
      apply Array.ext'
      simpa using h
  rw [e]
  by_cases h : a.take b.length = b
  · have : b.length ≤ a.length := by
      have := congrArg List.length h
      rw [List.length_take] at this
      omega
    simp [h, this]
  · simp [h]
theorem ends_S (a b : List Nat) : Txt.endswith (S a) (S b) = decide (b.length ≤ a.length ∧ a.drop (a.length - b.length) = b) := by
  unfold Txt.endswith
  rw [S_len, S_len, Nat.zero_add]
  by_cases hl : b.length ≤ a.length
  · have e : Builtin.Str.subAt (S a) (S b) (a.length - b.length) = decide (a.drop (a.length - b.length) = b) := by
      unfold Builtin.Str.subAt
      rw [S_len, show a.length - b.length + b.length = a.length by omega]
      rw [Bool.eq_iff_iff, decide_eq_true_iff, beq_iff_eq]
      show a.toArray.extract (a.length - b.length) a.length = b.toArray ↔ _
      have hx : (a.toArray.extract (a.length - b.length) a.length).toList = a.drop (a.length - b.length) := by
        rw [Array.toList_extract, List.extract_eq_take_drop]
        exact List.take_of_length_le (by rw [List.length_drop]; exact Nat.le_refl _)
      constructor
      · intro h
        have := congrArg Array.toList h
        rw [hx] at this
        exact this
      · intro h
        apply Array.ext'
        rw [hx]
        exact h
    rw [e]
    simp [hl]
  · simp [hl]
theorem drop_takeWhile {p : Nat → Bool} : ∀ l : List Nat, l.drop (l.takeWhile p).length = l.dropWhile p
  | [] => rfl
  | c :: r => by
    rw [List.takeWhile_cons, List.dropWhile_cons]
    by_cases h : p c = true
    · rw [if_pos h, if_pos h, List.length_cons, List.drop_succ_cons, drop_takeWhile r]
    · rw [if_neg h, if_neg h]
      rfl
theorem lstrip_S (a : List Nat) (c : Nat) : Txt.lstripChars (S a) (S [c]) = S (a.dropWhile (· == c)) := by
  have hg : ((S [c]).cps.contains) = (fun x : Nat => x == c) := by
    funext x
    rw [Bool.eq_iff_iff]
    simp [S]
  unfold Txt.lstripChars Txt.stripBy stripSame stripped
  rw [hg]
  have e0 : stripLo (fun x : Nat => x == c) true (S a) = (a.takeWhile (· == c)).length := by
    unfold stripLo
    rw [if_pos rfl]
  have e1 : stripHi (fun x : Nat => x == c) false (S a) (a.takeWhile (· == c)).length = a.length := by
    unfold stripHi
    rw [if_neg Bool.false_ne_true, S_len]
  rw [e0, e1, S_len]
  by_cases h : (a.takeWhile (· == c)).length = 0
  · rw [if_pos (by simp [h])]
    have := drop_takeWhile (p := (· == c)) a
    rw [h, List.drop_zero] at this
    rw [← this]
  · rw [if_neg (by simpa using h), ← drop_takeWhile]
    apply TL.ext_tl
    rw [TL.tl_strSub]
    show (a.drop _).take _ = a.drop _
    rw [List.take_of_length_le (by rw [List.length_drop]; exact Nat.le_refl _)]
/-- what stands ahead of the first c; what behind it -/
abbrev ahead (c : Nat) (z : List Nat) : List Nat := z.takeWhile (· != c)
abbrev behind (c : Nat) (z : List Nat) : List Nat := (z.dropWhile (· != c)).drop 1
theorem cut_at {c : Nat} : ∀ {z : List Nat}, c ∈ z → z = ahead c z ++ (c :: behind c z) ∧ c ∉ ahead c z
  | [], h => by cases h
  | d :: r, h => by
    unfold ahead behind
    rw [List.takeWhile_cons, List.dropWhile_cons]
    by_cases e : d = c
    · subst e
      simp
    · have hd : (d != c) = true := by simp [e]
      rw [if_pos hd, if_pos hd]
      have hr : c ∈ r := by
        rcases List.mem_cons.mp h with h | h
        · exact absurd h.symm e
        · exact h
      obtain ⟨h1, h2⟩ := cut_at hr
      refine ⟨?_, ?_⟩
      · rw [List.cons_append]
        exact congrArg (d :: ·) h1
      · intro hm
        rcases List.mem_cons.mp hm with hm | hm
        · exact e hm.symm
        · exact h2 hm
theorem ahead_none {c : Nat} : ∀ {z : List Nat}, c ∉ z → ahead c z = z ∧ behind c z = []
  | [], _ => ⟨rfl, rfl⟩
  | d :: r, h => by
    have hd : (d != c) = true := by
      simp only [bne_iff_ne]
      exact fun e => h (e ▸ List.mem_cons_self ..)
    obtain ⟨h1, h2⟩ := ahead_none fun hm => h (List.mem_cons_of_mem d hm)
    unfold ahead behind
    rw [List.takeWhile_cons, List.dropWhile_cons, if_pos hd, if_pos hd]
    exact ⟨congrArg (d :: ·) h1, h2⟩
theorem part_S (c : Nat) (z : List Nat) : Txt.partition (S z) (S [c]) = (S (ahead c z), S (if c ∈ z then [c] else []), S (behind c z)) := by
  by_cases h : c ∈ z
  · obtain ⟨h1, h2⟩ := cut_at h
    rw [if_pos h]
    refine SX.partition_some (by simp) ?_
    have := SX.par_head (c := c) (sep := []) (p := ahead c z) (behind c z) h2
    rw [show ahead c z ++ (c :: [] ++ behind c z) = z from h1.symm] at this
    exact this
  · obtain ⟨h1, h2⟩ := ahead_none h
    rw [if_neg h, h1, h2]
    exact SX.partition_none (by simp) (SX.par_head_none h)
theorem behind_len (c : Nat) (z : List Nat) : (behind c z).length ≤ z.length := by
  unfold behind
  rw [List.length_drop]
  have := (List.dropWhile_sublist (l := z) (· != c)).length_le
  omega
theorem ahead_len (c : Nat) (z : List Nat) : (ahead c z).length ≤ z.length := (List.takeWhile_sublist (· != c)).length_le
theorem strip_len (c : Nat) (z : List Nat) : (z.dropWhile (· == c)).length ≤ z.length := (List.dropWhile_sublist (· == c)).length_le
theorem ahead_sub {c : Nat} {z : List Nat} {x : Nat} (h : x ∈ ahead c z) : x ∈ z := (List.takeWhile_sublist (· != c)).subset h
theorem behind_sub {c : Nat} {z : List Nat} {x : Nat} (h : x ∈ behind c z) : x ∈ z := (List.dropWhile_sublist (· != c)).subset (List.mem_of_mem_drop h)
theorem strip_sub {c : Nat} {z : List Nat} {x : Nat} (h : x ∈ z.dropWhile (· == c)) : x ∈ z := (List.dropWhile_sublist (· == c)).subset h
/-- between c's -/
abbrev spl (c : Nat) (acc z : List Nat) : List (List Nat) := TL.spl [c] 0 acc z
theorem pre1 (c d : Nat) (r : List Nat) : TL.pre [c] (d :: r) = decide (d = c) := by
  unfold TL.pre
  by_cases h : d = c
  · subst h; simp
  · simp [h]
theorem spl_nil (c : Nat) (acc : List Nat) : spl c acc [] = [acc] := TL.spl_nil _ _ _
theorem spl_is (c : Nat) (acc r : List Nat) : spl c acc (c :: r) = acc :: spl c [] r := TL.spl_hit (by rw [pre1, decide_eq_true rfl])
theorem spl_not {c d : Nat} (h : d ≠ c) (acc r : List Nat) : spl c acc (d :: r) = spl c (acc ++ [d]) r := TL.spl_miss (by rw [pre1, decide_eq_false h])
theorem split_S (c : Nat) (hc : c < 256) (z : List Nat) : Txt.split (S z) (S [c]) = (spl c [] z).map S := SX.split_S (by simp) (by simp [hc])
theorem spl_len (c : Nat) : ∀ (z acc : List Nat), (spl c acc z).length ≤ z.length + 1
  | [], acc => by rw [spl_nil]; exact Nat.le_refl _
  | d :: r, acc => by
    by_cases h : d = c
    · subst h
      rw [spl_is, List.length_cons, List.length_cons]
      have := spl_len d r []
      omega
    · rw [spl_not h, List.length_cons]
      have := spl_len c r (acc ++ [d])
      omega
theorem spl_mem (c : Nat) {P : Nat → Prop} : ∀ (z acc : List Nat), (∀ x ∈ acc, P x) → (∀ x ∈ z, P x) → ∀ w ∈ spl c acc z, w.length ≤ acc.length + z.length ∧ ∀ x ∈ w, P x
  | [], acc, ha, _, w, hw => by
    rw [spl_nil, List.mem_singleton] at hw
    subst hw
    exact ⟨Nat.le_refl _, ha⟩
  | d :: r, acc, ha, hz, w, hw => by
    have hr : ∀ x ∈ r, P x := fun x hx => hz x (List.mem_cons_of_mem _ hx)
    by_cases h : d = c
    · subst h
      rw [spl_is] at hw
      rcases List.mem_cons.mp hw with rfl | hw
      · exact ⟨by omega, ha⟩
      · obtain ⟨h1, h2⟩ := spl_mem d r [] (fun _ h => by cases h) hr w hw
        rw [List.length_nil] at h1
        exact ⟨by rw [List.length_cons]; omega, h2⟩
    · rw [spl_not h] at hw
      obtain ⟨h1, h2⟩ := spl_mem c r (acc ++ [d]) (fun x hx => by
        rcases List.mem_append.mp hx with hx | hx
        · exact ha x hx
        · rw [List.mem_singleton] at hx
          exact hx ▸ hz d (List.mem_cons_self ..)) hr w hw
      rw [List.length_append] at h1
      simp only [List.length_cons, List.length_nil] at h1 ⊢
      exact ⟨by omega, h2⟩
theorem spl_end (c : Nat) : ∀ (z acc : List Nat), spl c acc (z ++ [c]) = spl c acc z ++ [[]]
  | [], acc => by rw [List.nil_append, spl_is, spl_nil, spl_nil]; rfl
  | d :: r, acc => by
    by_cases h : d = c
    · subst h
      rw [List.cons_append, spl_is, spl_is, spl_end d r []]
      rfl
    · rw [List.cons_append, spl_not h, spl_not h, spl_end c r _]
/-- the parts of a rest -/
def partsL (z : List Nat) : List (List Nat) := (spl 32 [] z).filter fun w => !decide (w = [])
theorem partsL_len (z : List Nat) : (partsL z).length ≤ z.length + 1 := Nat.le_trans (List.length_filter_le _ _) (spl_len 32 z [])
theorem partsL_mem {P : Nat → Prop} {z w : List Nat} (hz : ∀ x ∈ z, P x) (h : w ∈ partsL z) : w.length ≤ z.length ∧ (∀ x ∈ w, P x) ∧ w ≠ [] := by
  obtain ⟨h1, h2⟩ := List.mem_filter.mp h
  obtain ⟨h3, h4⟩ := spl_mem 32 z [] (fun _ h => by cases h) hz w h1
  refine ⟨by simpa using h3, h4, ?_⟩
  simpa using h2
section
variable {σ : L2.St} {H : Hp} {Q : VK} {K : PySem.W.Frag} {z u : List Nat}
def rStarts : V → List V → Hp → VK → Prop := fun x xs H Q => ∃ a b, x = .str a ∧ xs = [.str b] ∧ Q (.bl (Txt.startswith a b)) H
def rEnds : V → List V → Hp → VK → Prop := fun x xs H Q => ∃ a b, x = .str a ∧ xs = [.str b] ∧ Q (.bl (Txt.endswith a b)) H
def rLstrip : V → List V → Hp → VK → Prop := fun x xs H Q => ∃ a b, x = .str a ∧ xs = [.str b] ∧ a.length ≤ sizeLine ∧ Q (.str (Txt.lstripChars a b)) H
def rPart : V → List V → Hp → VK → Prop := fun x xs H Q => ∃ a b, x = .str a ∧ xs = [.str b] ∧ (b.length == 0) = false ∧ a.length ≤ sizeLine ∧ ∀ p, H p = none → Q (.ref p) (upd H p (.tup [.str (Txt.partition a b).1, .str (Txt.partition a b).2.1, .str (Txt.partition a b).2.2]))
def rSplit : V → List V → Hp → VK → Prop := fun x xs H Q => ∃ a b, x = .str a ∧ xs = [.str b] ∧ (b.length == 0) = false ∧ a.length + 2 ≤ sizeLine ∧ ∀ p, H p = none → Q (.ref p) (upd H p (.lst ((Txt.split a b).map V.str)))
theorem r_starts (q : Q (.bl (decide (z.take u.length = u))) H) : rStarts (.str (S z)) [.str (S u)] H Q := ⟨_, _, rfl, rfl, by rw [starts_S]; exact q⟩
theorem r_ends (q : Q (.bl (decide (u.length ≤ z.length ∧ z.drop (z.length - u.length) = u))) H) : rEnds (.str (S z)) [.str (S u)] H Q := ⟨_, _, rfl, rfl, by rw [ends_S]; exact q⟩
theorem r_lstrip {c : Nat} (h : z.length ≤ 1000000) (q : Q (.str (S (z.dropWhile (· == c)))) H) : rLstrip (.str (S z)) [.str (S [c])] H Q := ⟨_, _, rfl, rfl, by rw [S_len]; exact Nat.le_trans h (by decide), by rw [lstrip_S]; exact q⟩
theorem r_partn {c : Nat} (h : z.length ≤ 1000000) (q : ∀ p H', H p = none → Ex H H' → H' p = some (.tup [.str (S (ahead c z)), .str (S (if c ∈ z then [c] else [])), .str (S (behind c z))]) → Q (.ref p) H') : rPart (.str (S z)) [.str (S [c])] H Q :=
  ⟨_, _, rfl, rfl, rfl, by rw [S_len]; exact Nat.le_trans h (by decide), fun p np => by
    rw [part_S]
    exact q p _ np (Evl.Ex.new np) upd_same⟩
theorem r_splitn {c : Nat} (hc : c < 256) (h : z.length ≤ 1000000) (q : ∀ p H', H p = none → Ex H H' → H' p = some (.lst ((spl c [] z).map SV)) → Q (.ref p) H') : rSplit (.str (S z)) [.str (S [c])] H Q :=
  ⟨_, _, rfl, rfl, rfl, by rw [S_len]; exact Nat.le_trans (Nat.add_le_add_right h 2) (by decide), fun p np => by
    rw [split_S c hc, List.map_map]
    exact q p _ np (Evl.Ex.new np) upd_same⟩
end
section
variable {X : Cx}
theorem mt_startsW : MtR X "str.startswith" rStarts := mt_startswith
theorem mt_endsW : MtR X "str.endswith" rEnds := mt_endswith
theorem mt_lstripW : MtR X "str.lstrip" rLstrip := mt_lstripChars
theorem mt_partW : MtR X "str.partition" rPart := mt_partition
theorem pt_truk {a : Expr} {ta : TE} {K' : PySem.W.Frag} (e : X.K = K') (ha : PE X a ta) (he : ∀ whole, isTrue a X.env whole = (do let v ← whole; standAt a.pos; holding [v] (truthy v))) : PT X a (tTru K' ta) := e ▸ pt_tru ha he
theorem mt_splitW : MtR X "str.split" rSplit := mt_split
end
/-! ### signs -/
def Sg (x : Nat) : Prop := 32 ≤ x ∧ x ≤ 126
instance (x : Nat) : Decidable (Sg x) := by unfold Sg; infer_instance
theorem Sg.lt {x : Nat} (h : Sg x) : x < 1114112 := by
  unfold Sg at h
  omega
/-- texts of one sign each, of which P holds -/
def OnesP (P : Nat → Prop) (zs : List (List Nat)) : Prop := ∀ z ∈ zs, ∃ x, z = [x] ∧ P x
theorem OnesP.nil {P : Nat → Prop} : OnesP P [] := fun _ h => nomatch h
theorem OnesP.snoc {P : Nat → Prop} {zs : List (List Nat)} {x : Nat} (h : OnesP P zs) (hx : P x) : OnesP P (zs ++ [[x]]) := fun z hz => by
  rcases List.mem_append.mp hz with hz | hz
  · exact h z hz
  · rw [List.mem_singleton] at hz
    exact ⟨x, hz, hx⟩
theorem OnesP.sum {P : Nat → Prop} : ∀ {zs : List (List Nat)}, OnesP P zs → (zs.map List.length).sum = zs.length
  | [], _ => rfl
  | z :: r, h => by
    obtain ⟨x, rfl, _⟩ := h z (List.mem_cons_self ..)
    have := OnesP.sum (zs := r) fun y hy => h y (List.mem_cons_of_mem _ hy)
    simp only [List.map_cons, List.sum_cons, List.length_cons, List.length_nil, this]
    omega
theorem OnesP.len {P : Nat → Prop} {zs : List (List Nat)} (h : OnesP P zs) : (TL.joinL [] zs).length = zs.length := by
  rw [joinL_nil0, List.length_flatten, h.sum]
theorem OnesP.all {P : Nat → Prop} {zs : List (List Nat)} (h : OnesP P zs) : ∀ c ∈ TL.joinL [] zs, P c := by
  rw [joinL_nil0]
  intro c hc
  obtain ⟨z, hz, hc⟩ := List.mem_flatten.mp hc
  obtain ⟨x, rfl, hx⟩ := h z hz
  rw [List.mem_singleton] at hc
  exact hc ▸ hx
theorem joinL_mem {s : List Nat} : ∀ {zs : List (List Nat)} {c : Nat}, c ∈ TL.joinL s zs → c ∈ s ∨ ∃ z ∈ zs, c ∈ z
  | [], c, h => by simp [TL.joinL] at h
  | [a], c, h => by
    rw [TL.joinL] at h
    exact .inr ⟨a, List.mem_cons_self .., by simpa using h⟩
  | a :: b :: r, c, h => by
    rw [TL.joinL] at h
    simp only [List.mem_append] at h
    rcases h with h | h | h
    · exact .inr ⟨a, List.mem_cons_self .., h⟩
    · exact .inl h
    · rcases joinL_mem h with h | ⟨z, hz, hc⟩
      · exact .inl h
      · exact .inr ⟨z, List.mem_cons_of_mem _ hz, hc⟩
theorem joinL_len {s : List Nat} {m : Nat} : ∀ {zs : List (List Nat)}, (∀ z ∈ zs, z.length ≤ m) → (TL.joinL s zs).length ≤ zs.length * (m + s.length)
  | [], _ => by simp [TL.joinL]
  | [a], h => by
    have := h a (List.mem_cons_self ..)
    simp [TL.joinL]
    omega
  | a :: b :: r, h => by
    have h1 := h a (List.mem_cons_self ..)
    have h2 := joinL_len (s := s) (zs := b :: r) fun z hz => h z (List.mem_cons_of_mem _ hz)
    rw [TL.joinL, List.length_append, List.length_append, List.length_cons, Nat.succ_mul]
    omega
theorem sum_le {m : Nat} : ∀ {zs : List (List Nat)}, (∀ z ∈ zs, z.length ≤ m) → (zs.map List.length).sum ≤ zs.length * m
  | [], _ => by simp
  | a :: r, h => by
    have h1 := h a (List.mem_cons_self ..)
    have h2 := sum_le (zs := r) fun z hz => h z (List.mem_cons_of_mem _ hz)
    rw [List.map_cons, List.sum_cons, List.length_cons, Nat.succ_mul]
    omega
/-- is asked for -/
def isReq (z : List Nat) : Bool := decide (z.take 2 = [46, 46]) || (decide (z.take 1 = [46]) && lets ((z.drop 1).take 1))
def wordOf (z : List Nat) : List Nat := ahead 32 (z.drop 1)
def restOf (z : List Nat) : List Nat := (behind 32 z).dropWhile (· == 32)
theorem wordOf_len (z : List Nat) : (wordOf z).length ≤ z.length := by
  have := ahead_len 32 (z.drop 1)
  rw [List.length_drop] at this
  unfold wordOf
  omega
theorem restOf_len (z : List Nat) : (restOf z).length ≤ z.length := Nat.le_trans (strip_len 32 _) (behind_len 32 z)
theorem wordOf_sub {z : List Nat} {x : Nat} (h : x ∈ wordOf z) : x ∈ z := List.mem_of_mem_drop (ahead_sub h)
theorem restOf_sub {z : List Nat} {x : Nat} (h : x ∈ restOf z) : x ∈ z := behind_sub (strip_sub h)
theorem rep1 {α : Type} (c : α) : ∀ n, (List.replicate n [c]).flatten = List.replicate n c
  | 0 => rfl
  | n + 1 => by
    rw [List.replicate_succ, List.flatten_cons, rep1 c n, List.replicate_succ]
    rfl
/-! ### places to stop at -/
def tMark (te : TE) : TE := te
def tMarkT (tt : TT) : TT := tt
section
variable {X : Cx} {e : Expr} {te : TE} {tt : TT} {σ : L2.St} {H : Hp} {Q : VK} {QT : Bool → Hp → Prop}
theorem pe_mark (h : PE X e te) : PE X e (tMark te) := h
theorem pt_mark (h : PT X e tt) : PT X e (tMarkT tt) := h
theorem via_E (v : V) (h : ∀ Q' : VK, (∀ H', Ex H H' → Q' v H') → te σ H Q') (q : ∀ H', Ex H H' → Q v H') : tMark te σ H Q := h Q q
theorem via_T (b : Bool) (h : ∀ Q' : Bool → Hp → Prop, (∀ H', Ex H H' → Q' b H') → tt σ H Q') (q : ∀ H', Ex H H' → QT b H') : tMarkT tt σ H QT := h QT q
/-- a walk over a text's signs -/
theorem f_sgn {g : TG} {tb : TS} {D : Ends} {z : List Nat} (Pv : Nat → L2.St → Hp → Prop) (h0 : Pv 0 σ H)
    (hs : ∀ i c σ H, z[i]? = some c → Pv i σ H → g (.str (S [c])) σ H fun σ2 H2 => tb { D with nx := Pv (i + 1), ct := Pv (i + 1), bk := D.nx } σ2 H2)
    (hd : ∀ σ H, Pv z.length σ H → D.nx σ H) : ForK (Its (S z)) g tb D σ H := by
  have hsz : (S z).cps.size = z.length := by simp [S]
  refine f_inv z.length (fun i => .str (S [z.getD i 0])) Pv h0 (fun i σ H h _ => by show i < _; rw [hsz]; exact h) (fun σ H _ => by show (S z).cps.size ≤ z.length; rw [hsz]; exact Nat.le_refl _) (fun i σ H x H' h _ y => ?_) (fun i σ H h hP => ?_) hd
  · obtain ⟨rfl, c, hc, rfl⟩ := y
    refine ⟨rfl, ?_⟩
    have : z[i]? = some c := by simpa [S] using hc
    rw [List.getD_eq_getElem?_getD, this]
    rfl
  · have hc : z[i]? = some (z.getD i 0) := by
      rw [List.getD_eq_getElem?_getD, List.getElem?_eq_getElem h]
      rfl
    exact hs i _ σ H hc hP
end
section
variable {H : Hp} {Q : VK}
theorem r_intT (q : Q (.int 1) H) : rInt1 [.bl true] H Q := r_intB q
theorem r_intF (q : Q (.int 0) H) : rInt1 [.bl false] H Q := r_intB q
end
section
variable {K : PySem.W.Frag} {H : Hp} {Q : VK}
theorem dp_bls : ∀ bs : List Bool, DpAll K H (bs.map V.bl) (bs.map PyData.bool)
  | [] => .nil
  | b :: r => .cons (.bl b) (dp_bls r)
theorem lay_bls {bs : List Bool} : Lay (.list (bs.map PyData.bool)) 1 := lay_lst (lays_all fun d hd => by
  obtain ⟨b, _, rfl⟩ := List.mem_map.mp hd
  exact lay_bool)
theorem r_repL {l : Addr} {xs : List V} {m : Int} (h : H l = some (.lst xs)) (c : 0 ≤ m) (c2 : m ≤ 1000) (c3 : xs.length * m.toNat ≤ 1000000) (q : ∀ p H', H p = none → Ex H H' → H' p = some (.lst (List.replicate m.toNat xs).flatten) → Q (.ref p) H') : rRep (.ref l) (.int m) H Q :=
  ⟨l, m, xs, rfl, rfl, h, by omega, by omega, Nat.le_trans c3 (by decide), fun p np => q p _ np (Evl.Ex.new np) upd_same⟩
end
/-! ### whatever it is: lines and sources -/
def sgB (c : Nat) : Bool := !decide ([c] < [32]) && !decide ([126] < [c])
theorem one_lt {a b : Nat} : [a] < [b] ↔ a < b := by
  rw [List.cons_lt_cons_iff]
  simp
theorem sgB_eq (c : Nat) : sgB c = decide (Sg c) := by
  have h1 : decide ([c] < [32]) = decide (c < 32) := decide_eq_decide.mpr one_lt
  have h2 : decide ([126] < [c]) = decide (126 < c) := decide_eq_decide.mpr one_lt
  unfold sgB
  rw [h1, h2]
  by_cases h : Sg c
  · rw [decide_eq_true h]
    unfold Sg at h
    rw [decide_eq_false (by omega), decide_eq_false (by omega)]
    rfl
  · rw [decide_eq_false h]
    unfold Sg at h
    by_cases h3 : c < 32
    · rw [decide_eq_true h3]
      rfl
    · rw [decide_eq_true (show 126 < c by omega), Bool.not_true, Bool.and_false]
def lnB (z : List Nat) : Bool := decide (z.length ≤ 60) && z.all sgB
def lnV : V → Bool
  | .str s => lnB s.cps.toList
  | _ => false
theorem lnV_S (z : List Nat) : lnV (.str (S z)) = lnB z := rfl
theorem lnV_o {x : V} (h : ∀ s, x ≠ .str s) : lnV x = false := by
  cases x <;> first | rfl | exact absurd rfl (h _)
theorem lnB_true {z : List Nat} : lnB z = true ↔ z.length ≤ 60 ∧ ∀ c ∈ z, Sg c := by
  unfold lnB
  rw [Bool.and_eq_true, decide_eq_true_iff, List.all_eq_true]
  simp only [sgB_eq, decide_eq_true_iff]
section
variable {K : PySem.W.Frag} {H : Hp} {Q : VK}
def Th (K : PySem.W.Frag) (H : Hp) (x : V) : Prop := (∃ z : List Nat, x = .str (S z) ∧ z.length ≤ 1000000) ∨ ((∀ s, x ≠ .str s) ∧ ∃ T, L2.TyX K H x (.type T) ∧ L2.kitB T "str" = some false)
theorem tyx_tup {a : Addr} {xs : List V} (h : SqT K H a xs) : L2.TyX K H (.ref a) (.type "tuple") := by
  rcases h with (h | ⟨o, h⟩) | ⟨o, its, n, h, c, _⟩
  · exact .base (.tup h)
  · exact .fTuple h
  · exact .kTuple h c
theorem r_isK {x : V} {T C : String} {b : Bool} (h : L2.TyX K H x (.type T)) (e : L2.kitB T C = some b) (q : Q (.bl b) H) : rIsi K [x, .ty C] H Q :=
  ⟨_, _, .type T, .type C, b, rfl, .ty _, h, L2.kit_ty e, q⟩
/-- a source, or whatever it is, and whether it is one -/
def SrcB (K : PySem.W.Frag) (H : Hp) (x : V) (b : Bool) : Prop :=
  (∃ a xs, x = .ref a ∧ SqT K H a xs ∧ xs.length ≤ 1000 ∧ (∀ y ∈ xs, ∀ H', Ex H H' → Th K H' y) ∧ b = (decide (xs.length ≤ 60) && xs.all lnV)) ∨ ((∃ T, L2.TyX K H x (.type T) ∧ L2.kitB T "tuple" = some false) ∧ b = false)
end
/-! ### requests put together -/
theorem ahead_app {c : Nat} : ∀ {w : List Nat} (r : List Nat), c ∉ w → ahead c (w ++ c :: r) = w ∧ behind c (w ++ c :: r) = r
  | [], r, _ => by
    unfold ahead behind
    rw [List.nil_append, List.takeWhile_cons, List.dropWhile_cons, if_neg (by simp), if_neg (by simp)]
    exact ⟨rfl, rfl⟩
  | d :: w, r, h => by
    have hd : (d != c) = true := by
      simp only [bne_iff_ne]
      exact fun e => h (e ▸ List.mem_cons_self ..)
    obtain ⟨h1, h2⟩ := ahead_app (w := w) r fun hm => h (List.mem_cons_of_mem d hm)
    refine ⟨?_, ?_⟩
    · show (d :: (w ++ c :: r)).takeWhile (· != c) = d :: w
      rw [List.takeWhile_cons, if_pos hd]
      exact congrArg (d :: ·) h1
    · show ((d :: (w ++ c :: r)).dropWhile (· != c)).drop 1 = r
      rw [List.dropWhile_cons, if_pos hd]
      exact h2
theorem strip_rep {c : Nat} {r : List Nat} (h : r.head? ≠ some c) : ∀ n, (List.replicate n c ++ r).dropWhile (· == c) = r
  | 0 => by
    rw [List.replicate_zero, List.nil_append]
    cases r with
    | nil => rfl
    | cons d t =>
      rw [List.dropWhile_cons, if_neg]
      intro e
      exact h (by rw [List.head?_cons, eq_of_beq e])
  | n + 1 => by
    rw [List.replicate_succ, List.cons_append, List.dropWhile_cons, if_pos (by simp)]
    exact strip_rep h n
theorem spl_word {c : Nat} : ∀ {w : List Nat} (acc r : List Nat), c ∉ w → spl c acc (w ++ r) = spl c (acc ++ w) r
  | [], acc, r, _ => by rw [List.nil_append, List.append_nil]
  | d :: w, acc, r, h => by
    have hd : d ≠ c := fun e => h (e ▸ List.mem_cons_self ..)
    rw [List.cons_append, spl_not hd, spl_word (w := w) _ _ fun hm => h (List.mem_cons_of_mem d hm), List.append_assoc]
    rfl
theorem parts_rep (z : List Nat) : ∀ n, partsL (List.replicate n 32 ++ z) = partsL z
  | 0 => rfl
  | n + 1 => by
    have := parts_rep z n
    unfold partsL at this ⊢
    rw [List.replicate_succ, List.cons_append, spl_is, List.filter_cons, if_neg (by simp)]
    exact this
theorem parts_cons {w : List Nat} (hw : w ≠ []) (h : 32 ∉ w) (z : List Nat) : partsL (w ++ 32 :: z) = w :: partsL z := by
  unfold partsL
  rw [spl_word _ _ h, List.nil_append, spl_is, List.filter_cons, if_pos (by simpa using hw)]
theorem parts_one {w : List Nat} (hw : w ≠ []) (h : 32 ∉ w) : partsL w = [w] := by
  have := spl_word (c := 32) (w := w) [] [] h
  rw [List.append_nil, List.nil_append, spl_nil] at this
  unfold partsL
  rw [this, List.filter_cons, if_pos (by simpa using hw)]
  rfl
theorem parts_nil : partsL [] = [] := by
  unfold partsL
  rw [spl_nil]
  rfl
theorem parts_blank (n : Nat) : partsL (List.replicate n 32) = [] := by
  have := parts_rep [] n
  rw [List.append_nil] at this
  rw [this, parts_nil]
theorem parts_join (k t : Nat) : ∀ {ps : List (List Nat)}, (∀ p ∈ ps, p ≠ [] ∧ 32 ∉ p) → partsL (TL.joinL (List.replicate (k + 1) 32) ps ++ List.replicate t 32) = ps
  | [], _ => by
    rw [show TL.joinL (List.replicate (k + 1) 32) [] = [] by simp [TL.joinL], List.nil_append, parts_blank]
  | [a], h => by
    obtain ⟨h1, h2⟩ := h a (List.mem_cons_self ..)
    rw [show TL.joinL (List.replicate (k + 1) 32) [a] = a by simp [TL.joinL]]
    cases t with
    | zero => rw [List.replicate_zero, List.append_nil, parts_one h1 h2]
    | succ t => rw [List.replicate_succ, parts_cons h1 h2, parts_blank]
  | a :: b :: r, h => by
    obtain ⟨h1, h2⟩ := h a (List.mem_cons_self ..)
    have ih := parts_join k t (ps := b :: r) fun p hp => h p (List.mem_cons_of_mem _ hp)
    rw [show TL.joinL (List.replicate (k + 1) 32) (a :: b :: r) = a ++ (32 :: (List.replicate k 32 ++ TL.joinL (List.replicate (k + 1) 32) (b :: r))) by
      simp [TL.joinL, List.replicate_succ]]
    rw [List.append_assoc, List.cons_append, parts_cons h1 h2, List.append_assoc, parts_rep, ih]
theorem join_head {s : List Nat} {ps : List (List Nat)} {t : List Nat} (h : ∀ p ∈ ps, p ≠ [] ∧ 32 ∉ p) (hn : ps ≠ []) : (TL.joinL s ps ++ t).head? ≠ some 32 := by
  match ps, hn with
  | a :: r, _ =>
    obtain ⟨h1, h2⟩ := h a (List.mem_cons_self ..)
    match a, h1 with
    | x :: a, _ =>
      have : x ≠ 32 := fun e => h2 (e ▸ List.mem_cons_self ..)
      cases r with
      | nil => simpa [TL.joinL] using this
      | cons b r => simpa [TL.joinL] using this
theorem wordOf_put {w : List Nat} (h : 32 ∉ w) (r : List Nat) : wordOf (46 :: (w ++ 32 :: r)) = w := (ahead_app r h).1
theorem restOf_put {w : List Nat} (h : 32 ∉ w) (n : Nat) {r : List Nat} (hr : r.head? ≠ some 32) : restOf (46 :: (w ++ 32 :: (List.replicate n 32 ++ r))) = r := by
  have h2 := (ahead_app (c := 32) (w := 46 :: w) (List.replicate n 32 ++ r) (fun hm => by
    rcases List.mem_cons.mp hm with hm | hm
    · cases hm
    · exact h hm)).2
  unfold restOf
  rw [show behind 32 (46 :: (w ++ 32 :: (List.replicate n 32 ++ r))) = List.replicate n 32 ++ r from h2]
  exact strip_rep hr n
theorem wordOf_one {w : List Nat} (h : 32 ∉ w) : wordOf (46 :: w) = w := (ahead_none h).1
theorem restOf_one {w : List Nat} (h : 32 ∉ w) : restOf (46 :: w) = [] := by
  have h2 := (ahead_none (c := 32) (z := 46 :: w) (fun hm => by
    rcases List.mem_cons.mp hm with hm | hm
    · cases hm
    · exact h hm)).2
  unfold restOf
  rw [h2]
  rfl
theorem isReq_cons (a b : Nat) (r : List Nat) : isReq (a :: b :: r) = (decide (a = 46) && (decide (b = 46) || ltr b)) := by
  unfold isReq lets
  simp only [List.take_succ_cons, List.take_zero, List.drop_succ_cons, List.drop_zero, List.cons.injEq, and_true, List.all_cons, List.all_nil, Bool.and_true]
  by_cases h1 : a = 46 <;> by_cases h2 : b = 46 <;> simp [h1, h2]
theorem ltr_eq (c : Nat) : ltr c = decide (97 ≤ c ∧ c ≤ 122) := by
  have h1 : decide ([c] < [97]) = decide (c < 97) := decide_eq_decide.mpr one_lt
  have h2 : decide ([122] < [c]) = decide (122 < c) := decide_eq_decide.mpr one_lt
  unfold ltr
  rw [h1, h2]
  by_cases h : 97 ≤ c ∧ c ≤ 122
  · rw [decide_eq_true h, decide_eq_false (by omega), decide_eq_false (by omega)]
    rfl
  · rw [decide_eq_false h]
    by_cases h3 : c < 97
    · rw [decide_eq_true h3]
      rfl
    · rw [decide_eq_true (show 122 < c by omega), Bool.not_true, Bool.and_false]
section
variable {H : Hp} {Q : VK}
theorem r_notB {a b : Bool} (q : Q (.bl (!decide (a = b))) H) : rNotB (.bl a) (.bl b) H Q := ⟨a, b, rfl, rfl, q⟩
theorem r_notBs {a : Bool} (q : Q (.bl false) H) : rNotB (.bl a) (.bl a) H Q := ⟨a, a, rfl, rfl, by rw [decide_eq_true rfl]; exact q⟩
end
end Ts

namespace Ts
open PySem PySem.Spec PyProof.Rows L2
/-! ### loops over a written range: behind its start a token is out -/
section
variable {X : Cx} {st : Stmt} {rest : List Stmt} {t u : TS}
theorem pst_set {i : Nat} {x : Str} {e : Expr} {te : TE} {pos' pos : Pos} (hN : X.N.Nodup) (hi : X.N[i]? = some x) (hx : Loc X.env.scope x) (he : PET X e te)
    (hs : swapsWith e (some (.Name x pos')) pos.line X.env = pure false := by rfl)
    (hf : X.fn x = true ∨ X.env.scope.names.lookup x = some .local := by first | exact .inl rfl | exact .inr rfl | assumption) :
    PST X (.Assign [.Name x pos'] e pos) (tAsg te (gName i)) := by
  intro pins s σ H D h0 I h
  refine wpAny_Assign_Name (thn (he pins s σ H _ h0 I h) ?_) hs
  rintro v s1 ⟨y, H1, I1, r1, q1⟩
  exact store_ok I1 hN hi hx r1 (fun s2 I2 => ⟨_, H1, I2, q1⟩) hf
theorem ps_forC {tg : Expr} {body : List Stmt} {g : TG} {tb : TS} {k : Int} {j : Nat} {kp p pos' pos : Pos} (hg : Gl X "range") (hm : X.mg "range" = none)
    (hp : PassesOwn (model X.prog X.w) X.A X.env X.xe) (hc : X.calm = true) (ht : PG X tg g) (hb : PSsT X body tb)
    (hs : ∀ x, foldedSetIterable (.Call (.Name "range" p) [.Constant (.int k) j kp] [] pos') X.env x = pure x := by intro _; rfl) :
    PS X (.For tg (.Call (.Name "range" p) [.Constant (.int k) j kp] [] pos') body [] pos) (tFor (iRng1 (tCons (tC (.int k)) tNil)) g tb) := by
  refine ⟨fun pins s σ H D I h => ?_⟩
  have start : ∀ R : It → Hp → Prop, iRng1 (tCons (tC (.int k)) tNil) σ H R →
      wpAny (model X.prog X.w) X.A (eval (.Call (.Name "range" p) [.Constant (.int k) j kp] [] pos') X.env)
        (fun v s1 => wpAny (model X.prog X.w) X.A (pyIter v) (fun itv s2 => 1 ≤ s2.toks ∧ PIE X pins σ tg R itv s2) X.xe s1) X.xe s := by
    rintro R ⟨n, e, b1, b2, q⟩
    have ek : k = n := by
      have := List.cons.inj e
      exact V.int.inj this.1
    subst ek
    refine Call_ (ld_blt I hg hm boot_range (PyProof.Rows.callWith_type1 ?_ rfl rfl))
    refine Calls.spliced_cons (wpAny_Constant_int (k := j) (pos := kp) (Calls.spliced_nil ?_))
    have w : wpAny (model X.prog X.w) X.A (call (.type "range") [.int k s.toks]) (fun v s' => wpAny (model X.prog X.w) X.A (pyIter v) (PIE X pins σ tg R) X.xe s') X.xe { s with toks := s.toks + 1 } :=
      call_range_1 (range_it (I.tok (s.toks + 1)) (by omega) (by omega) b1 b2 (by simpa using q))
    refine wpAny_mono (PySem.wpAny_toks w) ?_ (fun _ _ z => z.2)
    rintro v s' ⟨k1, q1⟩
    refine wpAny_mono (PySem.wpAny_toks q1) ?_ (fun _ _ z => z.2)
    rintro itv s2 ⟨k2, q2⟩
    have k1 : s.toks + 1 ≤ s'.toks := k1
    exact ⟨by omega, q2⟩
  refine wpAny_For (thn (start _ h) fun v s1 h1 => thn h1 ?_) hs
  rintro itv s2 ⟨t2, it, fp, tn, J, H2, e, I2, T, st2, f2, W, ⟨m0, w0⟩, turn⟩
  subst e
  have still : ∀ {H' : Hp}, (∀ b ∈ fp, H' b = none) → ∀ b ∈ fp, FpOk X pins H' b := fun hn b hb => ⟨hn b hb, (f2 b hb).2⟩
  refine codeAny_forLoop_any (fun n s' => ∃ i σ' H', 1 ≤ s'.toks ∧ Inv X pins σ' H' s' ∧ tn i s'.heap ∧ (∀ b ∈ fp, H' b = none) ∧ W i n σ' H') ?_ m0
    ⟨0, σ, H2, t2, I2, st2, fun b hb => (f2 b hb).1, w0⟩
  rintro n s3 ⟨i, σ3, H3, t3, I3, st3, fr3, w3⟩
  rcases turn i n σ3 H3 w3 with ⟨stop, qn⟩ | ⟨go, N, hN, step⟩
  · refine wpAny_passesOwn hp (thn (T.done X rfl rfl rfl hc i pins s3 σ3 H3 X.xe I3 (still fr3) st3 stop) ?_)
    rintro r s4 ⟨rfl, I4⟩
    exact wpAny_execs_nil ⟨σ3, H3, I4, qn⟩
  · refine wpAny_passesOwn hp (wpAny_mono (PySem.wpAny_toks (T.item X rfl rfl rfl hc i pins s3 σ3 H3 X.xe I3 (still fr3) st3 go)) ?_ (fun _ _ z => z.2))
    rintro r s4 ⟨k4, z, rfl, h4⟩
    refine wpAny_passesOwn hp (wpAny_mono (PySem.wpAny_toks h4) ?_ (fun _ _ z => z.2))
    rintro _ s5 ⟨k5, x, H5, I5, r5, y5, st5, fr5⟩
    have J5 := I5.pinned (still fr5) (T.obj _ _ st5)
    refine wpAny_passesOwn hp (wpAny_mono (PySem.wpAny_toks (ht.run _ s5 σ3 H5 x z _ J5 r5 (step x H5 y5))) ?_ (fun _ _ z => z.2))
    rintro _ s6 ⟨k6, σ6, H6, I6, q6⟩
    have t6 : 1 ≤ s6.toks := by omega
    refine wpAny_passesOwn hp (wpAny_mono (PySem.wpAny_toks (hb _ s6 σ6 H6 _ t6 I6 q6)) ?_ (fun _ _ z => z.2))
    rintro f s7 ⟨k7, q7⟩
    have t7 : 1 ≤ s7.toks := by omega
    have back : ∀ {σ7 : L2.St} {H7 : Hp}, Inv X (pins ++ pinsAt fp s5.heap) σ7 H7 s7 → N σ7 H7 →
        ∃ m, m < n ∧ ∃ i σ' H', 1 ≤ s7.toks ∧ Inv X pins σ' H' s7 ∧ tn i s7.heap ∧ (∀ b ∈ fp, H' b = none) ∧ W i m σ' H' := by
      intro σ7 H7 I7 n7
      obtain ⟨m', hm', w7⟩ := hN σ7 H7 n7
      have hpin : ∀ b ∈ fp, ∀ o, s5.heap.get? b = some o → s7.heap.get? b = some o ∧ H7 b = none := fun b hb o e => by
        have := I7.pin (b, o) (List.mem_append_right _ (List.mem_append_right _ (mem_pinsAt hb e)))
        exact ⟨this.1, this.2.1⟩
      refine ⟨m', hm', i + 1, σ7, H7, t7, I7.unpinned, T.keep _ _ _ st5 fun b hb o e => (hpin b hb o e).1, fun b hb => ?_, w7⟩
      obtain ⟨o, e, _⟩ := T.obj _ _ st5 b hb
      exact (hpin b hb o e).2
    match f, q7 with
    | .next, ⟨σ7, H7, I7, n7⟩ => exact back I7 n7
    | .cont, ⟨σ7, H7, I7, n7⟩ => exact back I7 n7
    | .brk, ⟨σ7, H7, I7, n7⟩ => exact ⟨σ7, H7, I7.unpinned, n7⟩
    | .ret v, ⟨x7, σ7, H7, I7, r7, n7⟩ => exact ⟨x7, σ7, H7, I7.unpinned, r7, n7⟩
end
/-! ### replaced texts -/
def ReplV (y z : Str) (v : V) (H : Hp) (Q : VK) : Prop := ∃ x, v = .str x ∧ x.length + (x.length + 1) * z.length ≤ 16777216 ∧ Q (.str (Txt.replace x y z)) H
theorem r_replC {to : TE} {y z : Str} {σ : L2.St} {H : Hp} {Q : VK} (q : to σ H fun v H1 => ReplV y z v H1 Q) : CwR.tReplC to y z σ H Q := q
abbrev replL := PySem.StrLaws.replL
theorem r_replS {y z : Str} (yl zl : List Nat) {l : List Nat} {H : Hp} {Q : VK} (ey : y = S yl) (ez : z = S zl) (hy : 1 ≤ yl.length) (h : l.length ≤ 1000) (hz : zl.length ≤ 100) (q : Q (.str (S (replL yl zl l))) H) : ReplV y z (.str (S l)) H Q := by
  subst ey ez
  refine ⟨S l, rfl, ?_, ?_⟩
  · rw [S_len, S_len]
    have : (l.length + 1) * zl.length ≤ 1001 * 100 := Nat.mul_le_mul (by omega) hz
    omega
  · have e : Txt.replace (S l) (S yl) (S zl) = S (replL yl zl l) := by
      rw [← S_of (Txt.replace (S l) (S yl) (S zl)), PySem.StrLaws.replace_list (by rw [S_len]; exact hy)]
    rw [e]
    exact q
theorem replL_ind {yl zl : List Nat} (hy : yl ≠ []) {P : List Nat → List Nat → Prop} (h0 : P [] [])
    (h1 : ∀ l, l.take yl.length = yl → l ≠ [] → P (l.drop yl.length) (replL yl zl (l.drop yl.length)) → P l (zl ++ replL yl zl (l.drop yl.length)))
    (h2 : ∀ c r, ¬ (c :: r).take yl.length = yl → P r (replL yl zl r) → P (c :: r) (c :: replL yl zl r)) : ∀ (n : Nat) (l : List Nat), l.length ≤ n → P l (replL yl zl l)
  | 0, l, h => by
    have : l = [] := List.eq_nil_of_length_eq_zero (by omega)
    subst this
    rw [show replL yl zl [] = [] from PySem.StrLaws.replL_nil]
    exact h0
  | n + 1, [], _ => by
    rw [show replL yl zl [] = [] from PySem.StrLaws.replL_nil]
    exact h0
  | n + 1, c :: r, h => by
    have hl : r.length ≤ n := by simp only [List.length_cons] at h; omega
    by_cases hc : (c :: r).take yl.length = yl
    · rw [show replL yl zl (c :: r) = _ from PySem.StrLaws.replL_hit hy hc]
      have hyl : 1 ≤ yl.length := by
        cases yl with
        | nil => exact absurd rfl hy
        | cons a b => simp
      exact h1 _ hc (by simp) (replL_ind hy h0 h1 h2 n _ (by rw [List.length_drop, List.length_cons]; omega))
    · rw [show replL yl zl (c :: r) = _ from PySem.StrLaws.replL_miss hc]
      exact h2 c r hc (replL_ind hy h0 h1 h2 n r hl)
theorem replL_len {yl zl : List Nat} (hy : yl ≠ []) (hz : zl.length ≤ yl.length) (l : List Nat) : (replL yl zl l).length ≤ l.length := by
  refine replL_ind (P := fun l m => m.length ≤ l.length) hy (Nat.le_refl _) ?_ ?_ l.length l (Nat.le_refl _)
  · intro l h _ ih
    have : yl.length ≤ l.length := by
      have := congrArg List.length h
      rw [List.length_take] at this
      omega
    rw [List.length_append]
    rw [List.length_drop] at ih
    omega
  · intro c r _ ih
    simp only [List.length_cons]
    omega
theorem replL_lt {yl zl : List Nat} (hy : yl ≠ []) {p : Nat → Prop} (hz : ∀ c ∈ zl, p c) {l : List Nat} (hl : ∀ c ∈ l, p c) : ∀ c ∈ replL yl zl l, p c := by
  have := replL_ind (yl := yl) (zl := zl) (P := fun l m => (∀ c ∈ l, p c) → ∀ c ∈ m, p c) hy (fun h => h) (fun l _ _ ih h c hc => ?_) (fun c r _ ih h d hd => ?_) l.length l (Nat.le_refl _)
  · exact this hl
  · rcases List.mem_append.mp hc with q | q
    · exact hz c q
    · exact ih (fun d hd => h d (List.mem_of_mem_drop hd)) c q
  · rcases List.mem_cons.mp hd with rfl | q
    · exact h d (List.mem_cons_self ..)
    · exact ih (fun x hx => h x (List.mem_cons_of_mem _ hx)) d q
/-! ### no tab stands in it -/
def NT : List Nat → Prop
  | [] => True
  | [_] => True
  | c :: d :: r => [c, d] ≠ mTab ∧ NT (d :: r)
theorem NT.tail {c : Nat} : ∀ {r : List Nat}, NT (c :: r) → NT r
  | [], _ => trivial
  | _ :: _, h => h.2
theorem toks_nt : ∀ (n : Nat) (l : List Nat), l.length ≤ n → NT l → mTab ∉ toks l
  | 0, l, h, _ => by
    have : l = [] := List.eq_nil_of_length_eq_zero (by omega)
    subst this
    simp [toks]
  | n + 1, [], _, _ => by simp [toks]
  | n + 1, [c], _, _ => by simp [toks]
  | n + 1, c :: d :: r, h, hn => by
    simp only [List.length_cons] at h
    rw [toks]
    split
    · intro hm
      rcases List.mem_cons.mp hm with e | hm
      · exact hn.1 e.symm
      · exact toks_nt n r (by omega) (NT.tail hn.2) hm
    · intro hm
      rcases List.mem_cons.mp hm with e | hm
      · simp at e
      · exact toks_nt n (d :: r) (by simp only [List.length_cons]; omega) hn.2 hm
theorem nt_cons {c : Nat} {r : List Nat} (h : NT r) (hc : ¬ (c = 92 ∧ r.head? = some 116)) : NT (c :: r) := by
  cases r with
  | nil => trivial
  | cons d r =>
    refine ⟨fun e => hc ?_, h⟩
    simp at e
    exact ⟨e.1, by simp [e.2]⟩
theorem repl_nt (l : List Nat) : NT (replL mTab [113] l) := by
  have := replL_ind (yl := mTab) (zl := [113]) (P := fun l m => NT m ∧ (m.head? = some 116 → l.head? = some 116)) (by decide) ⟨trivial, fun h => h⟩ (fun l hl hne ih => ?_) (fun c r hc ih => ?_) l.length l (Nat.le_refl _)
  · exact this.1
  · refine ⟨nt_cons ih.1 (by simp), fun h => ?_⟩
    simp at h
  · refine ⟨nt_cons ih.1 fun ⟨h1, h2⟩ => hc ?_, fun h => by simpa using h⟩
    have h3 := ih.2 h2
    subst h1
    cases r with
    | nil => simp at h3
    | cons d r =>
      simp at h3
      subst h3
      rfl
theorem cells_nt {l : List Nat} (h : NT l) : cells l = cells' l := by
  have hm := toks_nt l.length l (Nat.le_refl _) h
  have : ∀ ts : List (List Nat), (∀ t ∈ ts, t ∈ toks l) → (ts.map cell).flatten = ((ts.filter fun t => !decide (t = mMark)).map lastOf).flatten := by
    intro ts
    induction ts with
    | nil => intro _; rfl
    | cons t ts ih =>
      intro ht
      have ih := ih fun x hx => ht x (List.mem_cons_of_mem _ hx)
      have htm := ht t (List.mem_cons_self ..)
      by_cases h1 : t = mMark
      · subst h1
        rw [List.map_cons, List.flatten_cons, ih]
        rfl
      · have h2 : t ≠ mTab := fun e => hm (e ▸ htm)
        have hc : cell t = lastOf t := cell_last htm h1 h2
        have hf : (t :: ts).filter (fun t => !decide (t = mMark)) = t :: ts.filter (fun t => !decide (t = mMark)) := by
          rw [List.filter_cons, if_pos (by simp [h1])]
        rw [hf, List.map_cons, List.map_cons, List.flatten_cons, List.flatten_cons, ih, hc]
  exact this (toks l) fun _ h => h
theorem cells_lt {P : Nat → Prop} (h92 : P 92) {l : List Nat} (h : ∀ c ∈ l, P c) : ∀ c ∈ cells l, P c := by
  intro c hc
  unfold cells at hc
  obtain ⟨x, hx, hcx⟩ := List.mem_flatten.mp hc
  obtain ⟨t, ht, rfl⟩ := List.mem_map.mp hx
  refine cell_lt (fun d hd => h d ?_) h92 c hcx
  have := toks_flat l
  rw [← this]
  exact List.mem_flatten.mpr ⟨t, ht, hd⟩
/-- a drawn text without blanks and tabs -/
abbrev bare (z : List Nat) : List Nat := replL mTab [113] (replL [32] [] z)
theorem rep1_le {z : List Nat} (h : z.length ≤ 60) : (replL [32] [] z).length ≤ 1000 := by
  have := replL_len (yl := [32]) (zl := []) (by simp) (by simp) z
  omega
theorem bare_len {z : List Nat} (h : z.length ≤ 60) : (bare z).length ≤ 60 := by
  have h1 := replL_len (yl := [32]) (zl := []) (by simp) (by simp) z
  have h2 := replL_len (yl := mTab) (zl := [113]) (by simp) (by simp) (replL [32] [] z)
  exact Nat.le_trans h2 (Nat.le_trans h1 h)
theorem bare_le {z : List Nat} (h : z.length ≤ 60) : (bare z).length ≤ 1000 := Nat.le_trans (bare_len h) (by decide)
theorem bare_lt {z : List Nat} (h : ∀ c ∈ z, c < 128) : ∀ c ∈ bare z, c < 128 :=
  replL_lt (by simp) (by simp) (replL_lt (by simp) (by simp) h)
theorem bare_cells {z : List Nat} : cells (bare z) = cells' (bare z) := cells_nt (repl_nt _)
theorem ok_bare {z : List Nat} (h : z.length ≤ 60) (hc : ∀ c ∈ z, c < 128) : okS 60 (S (cells (bare z))) = true :=
  okL.ok ⟨Nat.le_trans (cells_len _) (bare_len h), fun c hc' => Nat.lt_trans (cells_lt (P := fun c => c < 128) (by decide) (bare_lt hc) c hc') (by decide)⟩
theorem ok_bare' {z : List Nat} (h : z.length ≤ 60) (hc : ∀ c ∈ z, c < 128) : okS 60 (S (cells' (bare z))) = true := by
  rw [← bare_cells]
  exact ok_bare h hc
end Ts

namespace Ts
open PySem PySem.Spec PyProof.Rows L2
/-! ### pieces -/
def pcs : List (List Nat) → List Nat → List (List Nat)
  | [], w => [w]
  | t :: ts, w => if t = mMark then w :: pcs ts [] else pcs ts (w ++ t)
abbrev pcsL (l : List Nat) : List (List Nat) := pcs (toks l) []
theorem pcs_ne : ∀ (ts : List (List Nat)) (w : List Nat), pcs ts w ≠ []
  | [], w => by simp [pcs]
  | t :: ts, w => by
    rw [pcs]
    split
    · simp
    · exact pcs_ne ts _
theorem join_pcs : ∀ (ts : List (List Nat)) (w : List Nat), TL.joinL mMark (pcs ts w) = w ++ ts.flatten
  | [], w => by simp [pcs, TL.joinL]
  | t :: ts, w => by
    rw [pcs]
    split
    · rename_i h
      subst h
      have ih := join_pcs ts []
      cases hp : pcs ts [] with
      | nil => exact absurd hp (pcs_ne ts [])
      | cons a r =>
        rw [hp] at ih
        rw [TL.joinL, ih, List.flatten_cons, List.nil_append]
    · rw [join_pcs ts (w ++ t), List.flatten_cons, List.append_assoc]
theorem join_pcsL (l : List Nat) : TL.joinL mMark (pcsL l) = l := by
  rw [join_pcs, toks_flat, List.nil_append]
theorem pcs_len : ∀ (ts : List (List Nat)) (w : List Nat), (pcs ts w).length ≤ ts.length + 1
  | [], w => Nat.le_refl _
  | t :: ts, w => by
    rw [pcs]
    split
    · have := pcs_len ts []
      simp only [List.length_cons]; omega
    · have := pcs_len ts (w ++ t)
      simp only [List.length_cons]; omega
theorem pcs_sum : ∀ (ts : List (List Nat)) (w : List Nat), ((pcs ts w).map List.length).sum ≤ w.length + ts.flatten.length
  | [], w => by simp [pcs]
  | t :: ts, w => by
    rw [pcs]
    split
    · have := pcs_sum ts []
      simp only [List.map_cons, List.sum_cons, List.length_nil, List.flatten_cons, List.length_append] at this ⊢
      omega
    · have := pcs_sum ts (w ++ t)
      simp only [List.flatten_cons, List.length_append] at this ⊢
      omega
theorem pcs_word : ∀ (ts : List (List Nat)) (w : List Nat), ∀ x ∈ pcs ts w, x.length ≤ w.length + ts.flatten.length
  | [], w, x, h => by
    rcases List.mem_singleton.mp h with rfl
    simp
  | t :: ts, w, x, h => by
    rw [pcs] at h
    split at h
    · rcases List.mem_cons.mp h with rfl | h
      · simp
      · have := pcs_word ts [] x h
        simp only [List.length_nil, List.flatten_cons, List.length_append] at this ⊢
        omega
    · have := pcs_word ts (w ++ t) x h
      simp only [List.flatten_cons, List.length_append] at this ⊢
      omega
theorem pcs_signs {P : Nat → Prop} : ∀ (ts : List (List Nat)) (w : List Nat), (∀ c ∈ w, P c) → (∀ c ∈ ts.flatten, P c) → ∀ x ∈ pcs ts w, ∀ c ∈ x, P c
  | [], w, hw, _, x, h => by
    rcases List.mem_singleton.mp h with rfl
    exact hw
  | t :: ts, w, hw, ht, x, h => by
    have ht1 : ∀ c ∈ t, P c := fun c hc => ht c (by simp [hc])
    have ht2 : ∀ c ∈ ts.flatten, P c := fun c hc => ht c (by
      rw [List.flatten_cons]
      exact List.mem_append_right _ hc)
    rw [pcs] at h
    split at h
    · rcases List.mem_cons.mp h with rfl | h
      · exact hw
      · exact pcs_signs ts [] (fun _ z => by cases z) ht2 x h
    · exact pcs_signs ts (w ++ t) (fun c hc => (List.mem_append.mp hc).elim (hw c) (ht1 c)) ht2 x h
theorem pcsL_len (l : List Nat) : (pcsL l).length ≤ l.length + 1 := by
  have h1 : (pcs (toks l) []).length ≤ (toks l).length + 1 := pcs_len (toks l) []
  have h2 := toks_len l
  unfold pcsL
  exact Nat.le_trans h1 (Nat.succ_le_succ h2)
theorem sh_pcs {l : List Nat} (h : l.length ≤ 60) (hc : ∀ c ∈ l, c < 128) : Sh (.list ((pcsL l).map dS)) :=
  sh_strs (n := 61) (m := 60) (Nat.le_trans (pcsL_len l) (Nat.succ_le_succ h))
    (fun w hw => ⟨by have := pcs_word (toks l) [] w hw; rw [toks_flat] at this; simp only [List.length_nil] at this; omega,
      fun c hc' => Nat.lt_trans (pcs_signs (P := fun c => c < 128) (toks l) [] (fun _ z => by cases z) (by rw [toks_flat]; exact hc) w hw c hc') (by decide)⟩) (by decide)
theorem pcs_fit {l : List Nat} (h : l.length ≤ 60) : ((pcsL l).map List.length).sum + (pcsL l).length * mMark.length ≤ 1000000 := by
  have h1 : ((pcsL l).map List.length).sum ≤ ([] : List Nat).length + (toks l).flatten.length := pcs_sum (toks l) []
  have h2 := pcsL_len l
  rw [toks_flat] at h1
  simp only [List.length_nil] at h1
  have e : mMark.length = 2 := rfl
  rw [e]
  generalize ((pcsL l).map List.length).sum = A at h1 ⊢
  generalize (pcsL l).length = B at h2 ⊢
  omega
theorem lt_pcs {l : List Nat} (h : l.length ≤ 60) : ((pcsL l).map SV).length < 1000000 := by
  have h2 := pcsL_len l
  rw [List.length_map]
  generalize (pcsL l).length = B at h2 ⊢
  omega
section
variable {X : Cx} {K : PySem.W.Frag} {σ : L2.St} {H : Hp} {Q : VK} {a : Addr} {xs : List V} {v : V} {D : Ends} {m : Int}
def rGetN (K : PySem.W.Frag) : V → V → Hp → VK → Prop := fun o i H Q => ∃ p xs k v, o = .ref p ∧ i = .int k ∧ k < 0 ∧ SqL K H p xs ∧ atI xs k = some v ∧ Q v H
theorem get_list : PGet X (rGetN X.K) := by
  intro pins s σ H o i ov iv Q I ro ri h
  obtain ⟨p, xs, k, z, rfl, rfl, hk, hq, he, q⟩ := h
  cases ro
  obtain ⟨t, rfl⟩ := ri
  obtain ⟨its, r, pl, hz⟩ := I.list hq
  obtain ⟨j, h1, h2, h3, h4, h5⟩ := atI_get he
  obtain ⟨w, ew, rw'⟩ := r.get h2
  have hl := r.length
  have hn := line63
  have hj : (k + (its.toArray.size : Int)).toNat = j := by
    rw [seqIndex_neg (by omega) h4] at h1
    rw [List.size_toArray, ← hl]
    exact Option.some.inj h1
  exact wpAny_getItem_list_neg pl.isList (by omega) (by rw [List.size_toArray] <;> omega) (by omega) (by rw [hj]; simpa using ew) ⟨z, H, I, rw', q⟩
theorem r_getN (h : SqL K H a xs) (c : m < 0) (e : atI xs m = some v) (q : Q v H) : rGetN K (.ref a) (.int m) H Q := ⟨a, xs, m, v, rfl, rfl, c, h, e, q⟩
theorem r_augS {to ti te : TE} {tget : V → V → Hp → VK → Prop} {tip : TIp} {tset : TSet}
    (q : to σ H fun o H1 => ti σ H1 fun i H2 => tget o i H2 fun x H3 => te σ H3 fun y H4 => tip x y H4 fun z H5 => tset o i z H5 fun H6 => D.nx σ H6) : tAugS to ti te tget tip tset D σ H := q
theorem ixN_last (xs : List V) (x : V) : ixN (xs ++ [x]).length (-1) = some xs.length := by
  unfold ixN
  rw [if_neg (by decide), if_pos (by rw [List.length_append]; simp only [List.length_cons, List.length_nil]; omega), List.length_append]
  simp only [List.length_cons, List.length_nil]
  congr 1
  omega
theorem atI_end (xs : List V) (x : V) : atI (xs ++ [x]) (-1) = some x := by
  unfold atI
  rw [ixN_last]
  simp
theorem r_setLast {l : Addr} {x y : V} {C : Hp → Prop} (h : H l = some (.lst (xs ++ [x]))) (q : ∀ H', Kp l H H' → H' l = some (.lst (xs ++ [y])) → C H') : rSetL (.ref l) (.int (-1)) y H C :=
  r_setL h (ixN_last xs x) fun H' k e => q H' k (by rw [e, List.set_append_right _ _ (Nat.le_refl _)]; simp)
end
end Ts

namespace Ts
open PySem PySem.Spec PyProof.Rows L2
/-! ### tokens that are those of their text -/
def nxt (c : Nat) (r : List Nat) : Prop := ∀ d, r.head? = some d → ¬ [c, d] ∈ twos
def Can : List (List Nat) → Prop
  | [] => True
  | t :: ts => (t ∈ twos ∨ ∃ c, t = [c] ∧ nxt c ts.flatten) ∧ Can ts
theorem can_toks : ∀ l : List Nat, Can (toks l)
  | [] => trivial
  | [c] => ⟨.inr ⟨c, rfl, fun d h => by simp at h⟩, trivial⟩
  | c :: d :: r => by
    rw [toks]
    split
    · rename_i h
      exact ⟨.inl h, can_toks r⟩
    · rename_i h
      refine ⟨.inr ⟨c, rfl, fun e he => ?_⟩, can_toks (d :: r)⟩
      rw [toks_flat] at he
      simp only [List.head?_cons, Option.some.injEq] at he
      subst he
      exact h
theorem toks_can : ∀ {ts : List (List Nat)}, Can ts → toks ts.flatten = ts
  | [], _ => rfl
  | t :: ts, h => by
    obtain ⟨h1, h2⟩ := h
    have ih := toks_can h2
    rcases h1 with h1 | ⟨c, rfl, h1⟩
    · have : ∃ a b, t = [a, b] := by
        simp only [List.mem_cons, List.not_mem_nil, or_false] at h1
        rcases h1 with rfl | rfl | rfl <;> exact ⟨_, _, rfl⟩
      obtain ⟨a, b, rfl⟩ := this
      rw [List.flatten_cons, List.cons_append, List.cons_append, List.nil_append, toks, if_pos h1, ih]
    · rw [List.flatten_cons]
      cases hf : ts.flatten with
      | nil =>
        rw [hf] at ih
        rw [← ih]
        rfl
      | cons d r =>
        rw [hf] at ih h1
        rw [List.cons_append, List.nil_append, toks, if_neg (h1 d rfl), ih]
theorem can_right : ∀ {a b : List (List Nat)}, Can (a ++ b) → Can b
  | [], _, h => h
  | _ :: a, _, h => can_right (a := a) h.2
theorem can_left : ∀ {a b : List (List Nat)}, Can (a ++ b) → Can a
  | [], _, _ => trivial
  | t :: a, b, h => by
    obtain ⟨h1, h2⟩ := h
    refine ⟨?_, can_left h2⟩
    rcases h1 with h1 | ⟨c, e, h1⟩
    · exact .inl h1
    · refine .inr ⟨c, e, fun d hd => h1 d ?_⟩
      show ((a ++ b).flatten).head? = some d
      rw [List.flatten_append, List.head?_append, hd]
      rfl
theorem can_app : ∀ {a b : List (List Nat)}, Can a → Can b → (∀ c, a.getLast? = some [c] → nxt c b.flatten) → Can (a ++ b)
  | [], _, _, hb, _ => hb
  | t :: a, b, ⟨h1, h2⟩, hb, h => by
    refine ⟨?_, can_app h2 hb fun c hc => ?_⟩
    · rcases h1 with h1 | ⟨c, e, h1⟩
      · exact .inl h1
      · refine .inr ⟨c, e, fun d hd => ?_⟩
        have hd : ((a ++ b).flatten).head? = some d := hd
        rw [List.flatten_append, List.head?_append] at hd
        cases ha : a.flatten with
        | nil =>
          rw [ha] at hd
          cases a with
          | nil =>
            subst e
            exact h c rfl d hd
          | cons u v =>
            obtain ⟨hu, _⟩ := h2
            have : u = [] := by
              rw [List.flatten_cons] at ha
              exact (List.append_eq_nil_iff.mp ha).1
            subst this
            rcases hu with hu | ⟨x, hx, _⟩
            · simp at hu
            · cases hx
        | cons x r =>
          rw [ha] at hd
          exact h1 d (by rw [ha]; exact hd)
    · cases a with
      | nil => cases hc
      | cons u v => exact h c (by rw [List.getLast?_cons_cons]; exact hc)
theorem can_ne {ts : List (List Nat)} (h : Can ts) : ∀ t ∈ ts, t ≠ [] := by
  intro t ht
  have := toks_can h
  rw [← this] at ht
  exact toks_ne ht
theorem nxt_sep {c d : Nat} {r : List Nat} (h : d ≠ 45 ∧ d ≠ 116 ∧ d ≠ 92) : nxt c (d :: r) := by
  intro e he
  simp only [List.head?_cons, Option.some.injEq] at he
  subst he
  simp only [List.mem_cons, List.not_mem_nil, or_false, List.cons.injEq, and_true, not_or]
  omega
theorem nxt_other {c : Nat} {r : List Nat} (h : c ≠ 92) : nxt c r := by
  intro e _
  simp only [List.mem_cons, List.not_mem_nil, or_false, List.cons.injEq, and_true, not_or]
  omega
theorem nxt_nil {c : Nat} : nxt c [] := fun _ h => by simp at h
theorem toks_app {a b : List Nat} (h : ∀ c, (toks a).getLast? = some [c] → nxt c b) : toks (a ++ b) = toks a ++ toks b := by
  have := toks_can (can_app (can_toks a) (can_toks b) (by rw [toks_flat]; exact h))
  rw [List.flatten_append, toks_flat, toks_flat] at this
  exact this
theorem toks_one' {c : Nat} : toks [c] = [[c]] := rfl
theorem toks_blank (a b : List Nat) : toks (a ++ 32 :: b) = toks a ++ [32] :: toks b := by
  rw [toks_app fun c _ => nxt_sep (by decide)]
  have : toks (32 :: b) = toks [32] ++ toks b := by
    have := toks_app (a := [32]) (b := b) fun c hc => by
      rw [toks_one', List.getLast?_singleton] at hc
      cases hc
      exact nxt_other (by decide)
    exact this
  rw [this]
  rfl
/-- the last token is no lone stroke -/
def Shut (a : List Nat) : Prop := (toks a).getLast? ≠ some [92]
theorem Shut.app {a : List Nat} (h : Shut a) (b : List Nat) : toks (a ++ b) = toks a ++ toks b := toks_app fun c hc => nxt_other fun e => h (e ▸ hc)
theorem toks_mark {a : List Nat} (h : Shut a) (b : List Nat) : toks (a ++ (mMark ++ b)) = toks a ++ mMark :: toks b := by
  rw [h.app, show toks (mMark ++ b) = mMark :: toks b from by
    show toks (92 :: 45 :: b) = _
    rw [toks, if_pos (by decide)]]
/-! ### groups of tokens between those of a kind -/
def grp (p : List Nat → Bool) : List (List Nat) → List (List Nat) → List (List (List Nat))
  | [], acc => [acc]
  | t :: ts, acc => if p t then acc :: grp p ts [] else grp p ts (acc ++ [t])
theorem grp_none {p : List Nat → Bool} : ∀ (ts acc : List (List Nat)), (∀ t ∈ acc, p t = false) → ∀ g ∈ grp p ts acc, ∀ t ∈ g, p t = false
  | [], acc, h, g, hg => by
    rw [grp, List.mem_singleton] at hg
    exact hg ▸ h
  | t :: ts, acc, h, g, hg => by
    rw [grp] at hg
    by_cases hp : p t = true
    · rw [if_pos hp] at hg
      rcases List.mem_cons.mp hg with rfl | hg
      · exact h
      · exact grp_none ts [] (fun _ h => nomatch h) g hg
    · rw [if_neg hp] at hg
      refine grp_none ts (acc ++ [t]) (fun u hu => ?_) g hg
      rcases List.mem_append.mp hu with hu | hu
      · exact h u hu
      · rw [List.mem_singleton] at hu
        subst hu
        simpa using hp
theorem grp_can {p : List Nat → Bool} : ∀ (ts acc : List (List Nat)), Can (acc ++ ts) → ∀ g ∈ grp p ts acc, Can g
  | [], acc, h, g, hg => by
    rw [grp, List.mem_singleton] at hg
    rw [List.append_nil] at h
    exact hg ▸ h
  | t :: ts, acc, h, g, hg => by
    rw [grp] at hg
    by_cases hp : p t = true
    · rw [if_pos hp] at hg
      rcases List.mem_cons.mp hg with rfl | hg
      · exact can_left h
      · exact grp_can ts [] (can_right h).2 g hg
    · rw [if_neg hp] at hg
      refine grp_can ts (acc ++ [t]) ?_ g hg
      rw [List.append_assoc]
      exact h
theorem grp_one {p : List Nat → Bool} : ∀ {ts : List (List Nat)} (acc : List (List Nat)), (∀ t ∈ ts, p t = false) → grp p ts acc = [acc ++ ts]
  | [], acc, _ => by rw [grp, List.append_nil]
  | t :: ts, acc, h => by
    rw [grp, if_neg (by rw [h t (List.mem_cons_self ..)]; decide), grp_one _ fun u hu => h u (List.mem_cons_of_mem _ hu), List.append_assoc]
    rfl
abbrev isMk : List Nat → Bool := fun t => decide (t = mMark)
abbrev isSp : List Nat → Bool := fun t => decide (isSep t)
theorem segs_grp : ∀ (ts acc : List (List Nat)), segs ts acc.flatten = (grp isSp ts acc).map List.flatten
  | [], acc => rfl
  | t :: ts, acc => by
    rw [segs, grp]
    by_cases h : isSep t
    · rw [if_pos h, if_pos (decide_eq_true h), List.map_cons, ← segs_grp ts []]
      rfl
    · rw [if_neg h, if_neg (by simpa using h), ← segs_grp ts (acc ++ [t]), List.flatten_append]
      simp
theorem pcs_grp : ∀ (ts acc : List (List Nat)), pcs ts acc.flatten = (grp isMk ts acc).map List.flatten
  | [], acc => rfl
  | t :: ts, acc => by
    rw [pcs, grp]
    by_cases h : t = mMark
    · rw [if_pos h, if_pos (decide_eq_true h), List.map_cons, ← pcs_grp ts []]
      rfl
    · rw [if_neg h, if_neg (by simpa using h), ← pcs_grp ts (acc ++ [t]), List.flatten_append]
      simp
/-- the groups of a word between its marks -/
abbrev grps (l : List Nat) : List (List (List Nat)) := grp isMk (toks l) []
theorem pcsL_grps (l : List Nat) : pcsL l = (grps l).map List.flatten := pcs_grp (toks l) []
theorem grps_can {l : List Nat} {g : List (List Nat)} (h : g ∈ grps l) : Can g := grp_can (toks l) [] (can_toks l) g h
theorem grps_none {l : List Nat} {g : List (List Nat)} (h : g ∈ grps l) : ∀ t ∈ g, t ≠ mMark := fun t ht => by
  have := grp_none (p := isMk) (toks l) [] (fun _ h => nomatch h) g h t ht
  simpa using this
/-- put together by marks -/
def tie : List (List (List Nat)) → List (List Nat)
  | [] => []
  | [g] => g
  | g :: h :: r => g ++ mMark :: tie (h :: r)
theorem grp_ne {p : List Nat → Bool} : ∀ (ts acc : List (List Nat)), grp p ts acc ≠ []
  | [], acc => by simp [grp]
  | t :: ts, acc => by
    rw [grp]
    split
    · simp
    · exact grp_ne ts _
theorem tie_grp : ∀ (ts acc : List (List Nat)), tie (grp isMk ts acc) = acc ++ ts
  | [], acc => by simp [grp, tie]
  | t :: ts, acc => by
    rw [grp]
    by_cases h : t = mMark
    · rw [if_pos (decide_eq_true h)]
      have ih := tie_grp ts []
      have hn := grp_ne (p := isMk) ts []
      cases hg : grp isMk ts [] with
      | nil => exact absurd hg hn
      | cons g r =>
        rw [tie, ← hg, ih, h]
        rfl
    · rw [if_neg (by simpa using h), tie_grp ts (acc ++ [t]), List.append_assoc]
      rfl
theorem tie_app : ∀ (a b : List (List (List Nat))), a ≠ [] → b ≠ [] → tie (a ++ b) = tie a ++ mMark :: tie b
  | [], _, h, _ => absurd rfl h
  | [g], b, _, hb => by
    cases b with
    | nil => exact absurd rfl hb
    | cons x r => rfl
  | g :: h :: r, b, _, hb => by
    have ih := tie_app (h :: r) b (List.cons_ne_nil _ _) hb
    show tie (g :: h :: (r ++ b)) = tie (g :: h :: r) ++ _
    rw [tie, tie, List.append_assoc]
    exact congrArg (g ++ mMark :: ·) ih
theorem tie_flat : ∀ gs : List (List (List Nat)), (tie gs).flatten = TL.joinL mMark (gs.map List.flatten)
  | [] => by simp [tie, TL.joinL]
  | [g] => by simp [tie, TL.joinL]
  | g :: h :: r => by
    have ih := tie_flat (h :: r)
    rw [tie, List.flatten_append, List.flatten_cons, ih]
    simp [TL.joinL]
/-- what is left of a word behind its first pieces -/
def leftL (l : List Nat) (k : Nat) : List Nat := TL.joinL mMark ((pcsL l).drop k)
theorem left_toks {l : List Nat} {k : Nat} (hk : k < (grps l).length) : toks (leftL l k) = tie ((grps l).drop k) := by
  have he : leftL l k = (tie ((grps l).drop k)).flatten := by
    unfold leftL
    rw [tie_flat, pcsL_grps, List.map_drop]
  have hc : Can (tie ((grps l).drop k)) := by
    have ht : tie (grps l) = toks l := tie_grp (toks l) []
    have hc := can_toks l
    rw [← ht] at hc
    by_cases h0 : k = 0
    · subst h0
      exact hc
    · have e : grps l = (grps l).take k ++ (grps l).drop k := (List.take_append_drop ..).symm
      rw [e, tie_app] at hc
      · exact (can_right hc).2
      · intro h
        have := congrArg List.length h
        rw [List.length_take] at this
        simp only [List.length_nil] at this
        omega
      · intro h
        have := congrArg List.length h
        rw [List.length_drop] at this
        simp only [List.length_nil] at this
        omega
  rw [he, toks_can hc]
theorem grp_tie : ∀ {gs : List (List (List Nat))}, gs ≠ [] → (∀ g ∈ gs, ∀ t ∈ g, t ≠ mMark) → grp isMk (tie gs) [] = gs
  | [], h, _ => absurd rfl h
  | [g], _, h => by
    rw [tie, grp_one [] fun t ht => by simpa using h g (List.mem_cons_self ..) t ht]
    rfl
  | g :: h :: r, _, hh => by
    have ih := grp_tie (gs := h :: r) (List.cons_ne_nil _ _) fun x hx => hh x (List.mem_cons_of_mem _ hx)
    have hg : ∀ (acc : List (List Nat)) (ts : List (List Nat)), (∀ t ∈ ts, t ≠ mMark) → ∀ rest, grp isMk (ts ++ mMark :: rest) acc = (acc ++ ts) :: grp isMk rest [] := by
      intro acc ts
      induction ts generalizing acc with
      | nil => intro _ rest; rw [List.nil_append, grp, if_pos (by simp), List.append_nil]
      | cons t ts ihh =>
        intro ht rest
        rw [List.cons_append, grp, if_neg (by simpa using ht t (List.mem_cons_self ..)), ihh _ (fun u hu => ht u (List.mem_cons_of_mem _ hu)), List.append_assoc]
        rfl
    rw [tie, hg [] g (hh g (List.mem_cons_self ..)), ih]
    rfl
theorem left_grps {l : List Nat} {k : Nat} (hk : k < (grps l).length) : grps (leftL l k) = (grps l).drop k := by
  show grp isMk (toks (leftL l k)) [] = _
  rw [left_toks hk]
  refine grp_tie ?_ fun g hg => grps_none (List.mem_of_mem_drop hg)
  intro h
  have := congrArg List.length h
  rw [List.length_drop] at this
  simp only [List.length_nil] at this
  omega
theorem left_pcs {l : List Nat} {k : Nat} (hk : k < (pcsL l).length) : pcsL (leftL l k) = (pcsL l).drop k := by
  have hk' : k < (grps l).length := by rw [pcsL_grps, List.length_map] at hk; exact hk
  rw [pcsL_grps, pcsL_grps, left_grps hk', List.map_drop]
/-! ### cells by pieces -/
theorem cells_flat {g : List (List Nat)} (h : Can g) : cells g.flatten = (g.map cell).flatten := by
  unfold cells
  rw [toks_can h]
theorem cells_tie : ∀ gs : List (List (List Nat)), ((tie gs).map cell).flatten = (gs.map fun g => (g.map cell).flatten).flatten
  | [] => rfl
  | [g] => by simp [tie]
  | g :: h :: r => by
    have ih := cells_tie (h :: r)
    rw [tie, List.map_append, List.flatten_append, List.map_cons, List.flatten_cons, ih, show cell mMark = [] from rfl, List.nil_append, List.map_cons, List.flatten_cons]
    rfl
theorem cells_pcs (l : List Nat) : ((pcsL l).map cells).flatten = cells l := by
  rw [pcsL_grps, List.map_map]
  have e : (grps l).map (cells ∘ List.flatten) = (grps l).map fun g => (g.map cell).flatten :=
    List.map_congr_left fun g hg => cells_flat (grps_can hg)
  rw [e, ← cells_tie, tie_grp]
  rfl
theorem left_cells {l : List Nat} {k : Nat} (hk : k < (pcsL l).length) : cells (leftL l k) = (((pcsL l).drop k).map cells).flatten := by
  rw [← left_pcs hk, cells_pcs]
/-! ### words again -/
theorem word_toks {l w : List Nat} (h : w ∈ wordsL l) : ∀ t ∈ toks w, ¬ isSep t := by
  have h1 := (List.mem_filter.mp h).1
  rw [show segs (toks l) [] = _ from segs_grp (toks l) []] at h1
  obtain ⟨g, hg, rfl⟩ := List.mem_map.mp h1
  have hc := grp_can (p := isSp) (toks l) [] (can_toks l) g hg
  have hn := grp_none (p := isSp) (toks l) [] (fun _ h => nomatch h) g hg
  rw [toks_can hc]
  intro t ht
  have := hn t ht
  simpa using this
theorem wordsL_self {w : List Nat} (h1 : ∀ t ∈ toks w, ¬ isSep t) (h2 : cells w ≠ []) : wordsL w = [w] := by
  have : segs (toks w) [] = [w] := by
    rw [show segs (toks w) [] = _ from segs_grp (toks w) [], grp_one [] fun t ht => by simpa using h1 t ht, List.nil_append, List.map_cons, toks_flat]
    rfl
  unfold wordsL
  rw [this, List.filter_cons, if_pos (by simpa using h2)]
  rfl
theorem word_cells {l w : List Nat} (h : w ∈ wordsL l) : cells w ≠ [] := by
  have := (List.mem_filter.mp h).2
  simpa using this
theorem segs_sep : ∀ (a : List (List Nat)) (w : List Nat) (t : List Nat) (b : List (List Nat)), isSep t → segs (a ++ t :: b) w = segs a w ++ segs b []
  | [], w, t, b, h => by
    rw [List.nil_append, segs, segs, if_pos h]
    rfl
  | u :: a, w, t, b, h => by
    rw [List.cons_append, segs, segs]
    split
    · rw [segs_sep a [] t b h]
      rfl
    · exact segs_sep a _ t b h
theorem wordsL_blank (a b : List Nat) : wordsL (a ++ 32 :: b) = wordsL a ++ wordsL b := by
  unfold wordsL
  rw [toks_blank, segs_sep _ _ _ _ (by decide), List.filter_append]
theorem cells_last {l : List Nat} (h : ∀ t ∈ toks l, t ≠ mTab) : cells' l = cells l := by
  unfold cells cells'
  generalize ht : toks l = ts at h
  have hm : ∀ t ∈ ts, t ∈ toks l := by rw [ht]; exact fun _ h => h
  clear ht
  induction ts with
  | nil => rfl
  | cons t r ih =>
    have ih := ih (fun u hu => h u (List.mem_cons_of_mem _ hu)) fun u hu => hm u (List.mem_cons_of_mem _ hu)
    by_cases e : t = mMark
    · rw [List.filter_cons, if_neg (by simpa using e), List.map_cons, List.flatten_cons, ih, e]
      rfl
    · rw [List.filter_cons, if_pos (by simpa using e), List.map_cons, List.flatten_cons, ih, List.map_cons, List.flatten_cons, cell_last (hm t (List.mem_cons_self ..)) e (h t (List.mem_cons_self ..))]
      rfl
/-! ### words told again -/
theorem shut_of {a : List Nat} (h : a.getLast? ≠ some 92) : Shut a := by
  intro hl
  apply h
  have e := toks_flat a
  rcases List.eq_nil_or_concat (toks a) with h0 | ⟨ts, t, h0⟩
  · rw [h0] at hl
    cases hl
  · rw [h0, List.concat_eq_append] at hl
    rw [List.getLast?_append] at hl
    simp only [List.getLast?_singleton, Option.some_or, Option.some.injEq] at hl
    subst hl
    rw [← e, h0, List.concat_eq_append, List.flatten_append]
    simp
theorem toks_rep : ∀ k : Nat, toks (List.replicate (2 * k) 92) = List.replicate k mStroke
  | 0 => rfl
  | k + 1 => by
    rw [show 2 * (k + 1) = (2 * k + 1) + 1 by omega, List.replicate_succ, List.replicate_succ, toks, if_pos (by decide), toks_rep k, List.replicate_succ]
theorem shut_even {u : List Nat} (h : u.getLast? ≠ some 92) (k : Nat) : Shut (u ++ List.replicate (2 * k) 92) := by
  have hs := shut_of h
  unfold Shut
  rw [hs.app, toks_rep]
  cases k with
  | zero =>
    rw [List.replicate_zero, List.append_nil]
    exact hs
  | succ k =>
    rw [List.getLast?_append, List.getLast?_replicate, if_neg (by omega)]
    intro e
    simp at e
theorem trail_split {w : List Nat} {n : Nat} (hn : n ≤ w.length) (h1 : ∀ j, j < n → w[w.length - 1 - j]? = some 92) (h2 : n < w.length → w[w.length - 1 - n]? ≠ some 92) :
    ∃ u, w = u ++ List.replicate n 92 ∧ u.getLast? ≠ some 92 := by
  refine ⟨w.take (w.length - n), ?_, ?_⟩
  · refine List.ext_getElem? fun i => ?_
    by_cases hi : i < w.length - n
    · rw [List.getElem?_append_left (by rw [List.length_take]; omega), List.getElem?_take, if_pos hi]
    · rw [List.getElem?_append_right (by rw [List.length_take]; omega), List.length_take, List.getElem?_replicate]
      by_cases hi2 : i < w.length
      · rw [if_pos (by omega)]
        have := h1 (w.length - 1 - i) (by omega)
        rw [show w.length - 1 - (w.length - 1 - i) = i by omega] at this
        exact this
      · rw [if_neg (by omega)]
        exact List.getElem?_eq_none (by omega)
  · by_cases h : n < w.length
    · rw [List.getLast?_take, if_neg (by omega)]
      intro e
      apply h2 h
      rw [show w.length - n - 1 = w.length - 1 - n by omega] at e
      cases hh : w[w.length - 1 - n]? with
      | none =>
        rw [List.getElem?_eq_none_iff] at hh
        omega
      | some x =>
        rw [hh] at e
        exact e
    · rw [show w.length - n = 0 by omega, List.take_zero]
      simp
theorem wordsL_nil : wordsL [] = [] := by decide
theorem wordsL_tab {a : List Nat} (h : Shut a) (b : List Nat) : wordsL (a ++ (mTab ++ b)) = wordsL a ++ wordsL b := by
  unfold wordsL
  rw [h.app, show toks (mTab ++ b) = mTab :: toks b from by
    show toks (92 :: 116 :: b) = _
    rw [toks, if_pos (by decide)], segs_sep _ _ _ _ (by decide), List.filter_append]
theorem words_joined : ∀ {ws : List (List Nat)}, (∀ w ∈ ws, wordsL w = [w]) → wordsL (TL.joinL [32] ws) = ws
  | [], _ => by
    rw [show TL.joinL [32] [] = [] by simp [TL.joinL]]
    exact wordsL_nil
  | [a], h => by
    rw [show TL.joinL [32] [a] = a by simp [TL.joinL]]
    exact h a (List.mem_cons_self ..)
  | a :: b :: r, h => by
    rw [show TL.joinL [32] (a :: b :: r) = a ++ 32 :: TL.joinL [32] (b :: r) by simp [TL.joinL], wordsL_blank, h a (List.mem_cons_self ..), words_joined fun w hw => h w (List.mem_cons_of_mem _ hw)]
    rfl
theorem cells_blank (a b : List Nat) : cells (a ++ 32 :: b) = cells a ++ 32 :: cells b := by
  unfold cells
  rw [toks_blank, List.map_append, List.flatten_append, List.map_cons, List.flatten_cons]
  rfl
theorem cells_joined : ∀ ws : List (List Nat), cells (TL.joinL [32] ws) = TL.joinL [32] (ws.map cells)
  | [] => by simp [TL.joinL]; rfl
  | [a] => by simp [TL.joinL]
  | a :: b :: r => by
    rw [show TL.joinL [32] (a :: b :: r) = a ++ 32 :: TL.joinL [32] (b :: r) by simp [TL.joinL], cells_blank, cells_joined (b :: r)]
    simp [TL.joinL]
theorem toks_joined {P : List Nat → Prop} (h32 : P [32]) : ∀ {ws : List (List Nat)}, (∀ w ∈ ws, ∀ t ∈ toks w, P t) → ∀ t ∈ toks (TL.joinL [32] ws), P t
  | [], _, t, ht => by
    rw [show TL.joinL [32] [] = [] by simp [TL.joinL]] at ht
    cases ht
  | [a], h, t, ht => by
    rw [show TL.joinL [32] [a] = a by simp [TL.joinL]] at ht
    exact h a (List.mem_cons_self ..) t ht
  | a :: b :: r, h, t, ht => by
    rw [show TL.joinL [32] (a :: b :: r) = a ++ 32 :: TL.joinL [32] (b :: r) by simp [TL.joinL], toks_blank] at ht
    rcases List.mem_append.mp ht with ht | ht
    · exact h a (List.mem_cons_self ..) t ht
    · rcases List.mem_cons.mp ht with rfl | ht
      · exact h32
      · exact toks_joined h32 (fun w hw => h w (List.mem_cons_of_mem _ hw)) t ht
/-- a word told with marks at both ends -/
theorem toks_more {w : List Nat} (h : Shut w) : toks (mMark ++ w ++ mMark) = mMark :: (toks w ++ [mMark]) := by
  rw [List.append_assoc]
  have h1 := toks_mark (a := []) (by unfold Shut; simp [toks]) (w ++ mMark)
  rw [List.nil_append] at h1
  have h2 := toks_mark h []
  rw [List.append_nil] at h2
  rw [h1, h2]
  rfl
theorem cells_more {w : List Nat} (h : Shut w) : cells (mMark ++ w ++ mMark) = cells w := by
  unfold cells
  rw [toks_more h, List.map_cons, List.flatten_cons, List.map_append, List.flatten_append]
  simp [cell]
theorem pcs_more {w : List Nat} (h : Shut w) : (pcsL (mMark ++ w ++ mMark)).getLast? = some [] := by
  rw [pcsL_grps]
  show ((grp isMk (toks _) []).map List.flatten).getLast? = _
  rw [toks_more h]
  have : ∀ (ts acc : List (List Nat)), ((grp isMk (ts ++ [mMark]) acc).map List.flatten).getLast? = some [] := by
    intro ts
    induction ts with
    | nil => intro acc; simp [grp]
    | cons t ts ih =>
      intro acc
      rw [List.cons_append, grp]
      split
      · have := ih []
        rw [List.map_cons, List.getLast?_cons, this]
        rfl
      · exact ih _
  exact this (mMark :: toks w) []
/-! ### a statement to stop at -/
def tMarkS (ts : TS) : TS := ts
theorem ps_markS {X : Cx} {s : Stmt} {ts : TS} (h : PS X s ts) : PS X s (tMarkS ts) := h
theorem via_S {ts : TS} {D : Ends} {σ : L2.St} {H : Hp} (R : L2.St → Hp → Prop) (h : ∀ N : L2.St → Hp → Prop, (∀ σ' H', R σ' H' → N σ' H') → ts { D with nx := N } σ H) (q : ∀ σ' H', R σ' H' → D.nx σ' H') : tMarkS ts D σ H := h D.nx q
theorem un_markS {ts : TS} {D : Ends} {σ : L2.St} {H : Hp} (q : ts D σ H) : tMarkS ts D σ H := q
end Ts

namespace Ts
open PySem PySem.Spec PyProof.Rows L2
/-! ### what is left of a word is behind it -/
theorem join_behind (w : List Nat) : ∀ (ps : List (List Nat)) (k : Nat), ∃ u, TL.joinL w ps = u ++ TL.joinL w (ps.drop k)
  | ps, 0 => ⟨[], by rw [List.drop_zero, List.nil_append]⟩
  | [], k + 1 => ⟨[], by simp⟩
  | [a], k + 1 => ⟨a, by simp [TL.joinL]⟩
  | a :: b :: r, k + 1 => by
    obtain ⟨u, hu⟩ := join_behind w (b :: r) k
    refine ⟨a ++ w ++ u, ?_⟩
    rw [List.drop_succ_cons, show TL.joinL w (a :: b :: r) = a ++ (w ++ TL.joinL w (b :: r)) by simp [TL.joinL], hu]
    simp
theorem left_behind (z : List Nat) (k : Nat) : ∃ u, z = u ++ leftL z k := by
  obtain ⟨u, hu⟩ := join_behind mMark (pcsL z) k
  rw [join_pcsL] at hu
  exact ⟨u, hu⟩
theorem left_len (z : List Nat) (k : Nat) : (leftL z k).length ≤ z.length := by
  obtain ⟨u, hu⟩ := left_behind z k
  have := congrArg List.length hu
  rw [List.length_append] at this
  omega
theorem left_mem {z : List Nat} {k c : Nat} (h : c ∈ leftL z k) : c ∈ z := by
  obtain ⟨u, hu⟩ := left_behind z k
  rw [hu]
  exact List.mem_append_right _ h
theorem pc_mem {z p : List Nat} (h : p ∈ pcsL z) {c : Nat} (hc : c ∈ p) : c ∈ z := by
  rw [pcsL_grps] at h
  obtain ⟨g, hg, rfl⟩ := List.mem_map.mp h
  obtain ⟨t, ht, hct⟩ := List.mem_flatten.mp hc
  have e : tie (grps z) = toks z := tie_grp (toks z) []
  have : ∀ (gs : List (List (List Nat))), g ∈ gs → t ∈ tie gs := by
    intro gs
    induction gs with
    | nil => intro h; cases h
    | cons a r ih =>
      intro h
      cases r with
      | nil =>
        rw [List.mem_singleton] at h
        rw [tie, ← h]
        exact ht
      | cons b r =>
        rw [tie]
        rcases List.mem_cons.mp h with h | h
        · rw [← h]
          exact List.mem_append_left _ ht
        · exact List.mem_append_right _ (List.mem_cons_of_mem _ (ih h))
  have := this _ hg
  rw [e] at this
  have : c ∈ (toks z).flatten := List.mem_flatten.mpr ⟨t, this, hct⟩
  rwa [toks_flat] at this
/-- signs none of which makes a tab -/
theorem noTab {z : List Nat} (h : ∀ c ∈ z, c ≠ 116) : ∀ t ∈ toks z, t ≠ mTab := fun t ht e => by
  subst e
  have : (116 : Nat) ∈ (toks z).flatten := List.mem_flatten.mpr ⟨_, ht, by decide⟩
  rw [toks_flat] at this
  exact h _ this rfl
theorem cells_other {z : List Nat} (h : ∀ c ∈ z, c ≠ 116) : cells' z = cells z := cells_last (noTab h)
/-! ### a word parted -/
/-- the cells of the first pieces -/
def frontL (z : List Nat) (k : Nat) : List Nat := (((pcsL z).take k).map cells).flatten
def fitK (wt : List (List Nat)) (r : Int) (z : List Nat) (k : Nat) : Bool :=
  decide (frontL z k ≠ []) && (decide (cells (leftL z k) ≠ []) && decide (((TL.joinL [32] (wt ++ [frontL z k ++ [45]])).length : Int) ≤ r))
/-- the last place, of those up to k, at which the word may be parted -/
def downK (p : Nat → Bool) : Nat → Nat
  | 0 => 0
  | k + 1 => if p (k + 1) then k + 1 else downK p k
theorem downK_le (p : Nat → Bool) : ∀ k, downK p k ≤ k
  | 0 => Nat.le_refl _
  | k + 1 => by
    rw [downK]
    split
    · exact Nat.le_refl _
    · exact Nat.le_succ_of_le (downK_le p k)
theorem downK_ok {p : Nat → Bool} : ∀ {k}, 0 < downK p k → p (downK p k) = true
  | 0, h => absurd h (Nat.lt_irrefl _)
  | k + 1, h => by
    rw [downK] at h ⊢
    split
    · assumption
    · rename_i hp
      rw [if_neg hp] at h
      exact downK_ok h
def bestK (wt : List (List Nat)) (r : Int) (z : List Nat) : Nat := downK (fitK wt r z) ((pcsL z).length - 1)
theorem bestK_lt (wt : List (List Nat)) (r : Int) (z : List Nat) (h : 0 < bestK wt r z) : bestK wt r z < (pcsL z).length := by
  have := downK_le (fitK wt r z) ((pcsL z).length - 1)
  unfold bestK at h ⊢
  omega
theorem bestK_fit {wt : List (List Nat)} {r : Int} {z : List Nat} (h : 0 < bestK wt r z) : fitK wt r z (bestK wt r z) = true := downK_ok h
theorem fitK_left {wt : List (List Nat)} {r : Int} {z : List Nat} {k : Nat} (h : fitK wt r z k = true) : leftL z k ≠ [] := by
  unfold fitK at h
  simp only [Bool.and_eq_true, decide_eq_true_eq] at h
  intro e
  apply h.2.1
  rw [e]
  rfl
theorem fitK_front {wt : List (List Nat)} {r : Int} {z : List Nat} {k : Nat} (h : fitK wt r z k = true) : ((TL.joinL [32] (wt ++ [frontL z k ++ [45]])).length : Int) ≤ r := by
  unfold fitK at h
  simp only [Bool.and_eq_true, decide_eq_true_eq] at h
  exact h.2.2
theorem front_len (z : List Nat) (k : Nat) : (frontL z k).length ≤ z.length := by
  have h : frontL z k ++ (((pcsL z).drop k).map cells).flatten = cells z := by
    unfold frontL
    rw [← List.flatten_append, ← List.map_append, List.take_append_drop, cells_pcs]
  have h2 := congrArg List.length h
  rw [List.length_append] at h2
  have := cells_len z
  omega
theorem front_mem {P : Nat → Prop} (h92 : P 92) {z : List Nat} (hz : ∀ c ∈ z, P c) {k : Nat} : ∀ c ∈ frontL z k, P c := by
  intro c hc
  have h : frontL z k ++ (((pcsL z).drop k).map cells).flatten = cells z := by
    unfold frontL
    rw [← List.flatten_append, ← List.map_append, List.take_append_drop, cells_pcs]
  exact cells_lt h92 hz c (by rw [← h]; exact List.mem_append_left _ hc)
/-- the other reading of what is left: cells of its pieces -/
theorem left_other {z : List Nat} {k : Nat} (hk : k < (pcsL z).length) : (((pcsL z).drop k).map cells).flatten = cells (leftL z k) := (left_cells hk).symm
/-! ### a step -/
def indE (e : En) : Int := match e.once with | none => e.ind | some i => i
def lineE (e : En) (z : List Nat) : List Nat := if z = [] then [] else (List.replicate (indE e).toNat [32]).flatten ++ z
/-- what a word does to an environment: the environment, the line, what is left, whether it is long -/
def stepE (e : En) (z : List Nat) : En × Option (List Nat) × Option (List Nat) × Bool :=
  if ((TL.joinL [32] (e.wt ++ [cells z])).length : Int) ≤ roomE e then ({ e with wt := e.wt ++ [cells z] }, none, none, false)
  else if 0 < bestK e.wt (roomE e) z then ({ e with once := none, wt := [] }, some (lineE e (TL.joinL [32] (e.wt ++ [frontL z (bestK e.wt (roomE e) z) ++ [45]]))), some (leftL z (bestK e.wt (roomE e) z)), false)
  else if e.wt ≠ [] then ({ e with once := none, wt := [] }, some (lineE e (TL.joinL [32] e.wt)), some z, false)
  else ({ e with once := none, wt := [] }, some (lineE e (cells z)), none, true)
end Ts

namespace Ts
open PySem PySem.Spec PyProof.Rows L2
/-! ### words filled one behind the other -/
abbrev Row := List Nat × Int × Bool
/-- the row of a step: its line, the room it had, whether it is long -/
def rowE (e : En) (z : List Nat) : List Row := (stepE e z).2.1.toList.map fun l => (l, roomE e, (stepE e z).2.2.2)
inductive Fills : En → Option (List Nat) → List Row → En → Prop
  | nil (e : En) : Fills e none [] e
  | cons {e : En} {z : List Nat} {rows : List Row} {e' : En} (h : Fills (stepE e z).1 (stepE e z).2.2.1 rows e') : Fills e (some z) (rowE e z ++ rows) e'
theorem Fills.one {e : En} {o : Option (List Nat)} {r1 r2 : List Row} {e1 e2 : En} (h : Fills e o r1 e1) (g : Fills e o r2 e2) : r1 = r2 ∧ e1 = e2 := by
  induction h generalizing r2 e2 with
  | nil e => cases g; exact ⟨rfl, rfl⟩
  | cons h ih =>
    cases g with
    | cons g =>
      obtain ⟨h1, h2⟩ := ih g
      exact ⟨by rw [h1], h2⟩
inductive FillsAll : En → List (List Nat) → List Row → En → Prop
  | nil (e : En) : FillsAll e [] [] e
  | cons {e : En} {z : List Nat} {ws : List (List Nat)} {r1 r2 : List Row} {e1 e2 : En} (h : Fills e (some z) r1 e1) (g : FillsAll e1 ws r2 e2) : FillsAll e (z :: ws) (r1 ++ r2) e2
theorem FillsAll.one {e : En} {ws : List (List Nat)} {r1 r2 : List Row} {e1 e2 : En} (h : FillsAll e ws r1 e1) (g : FillsAll e ws r2 e2) : r1 = r2 ∧ e1 = e2 := by
  induction h generalizing r2 e2 with
  | nil e => cases g; exact ⟨rfl, rfl⟩
  | cons h g' ih =>
    cases g with
    | cons h2 g2 =>
      obtain ⟨rfl, rfl⟩ := h.one h2
      obtain ⟨rfl, h4⟩ := ih g2
      exact ⟨rfl, h4⟩
theorem FillsAll.app {e : En} {ws us : List (List Nat)} {r1 r2 : List Row} {e1 e2 : En} (h : FillsAll e ws r1 e1) (g : FillsAll e1 us r2 e2) : FillsAll e (ws ++ us) (r1 ++ r2) e2 := by
  induction h with
  | nil e => exact g
  | cons h _ ih =>
    rw [List.append_assoc]
    exact .cons h (ih g)
/-- the measure of what is left -/
def left2 (e : En) : Option (List Nat) → Nat
  | none => 0
  | some z => 2 * (pcsL z).length + (if e.wt = [] then 0 else 1)
theorem left2_lt (e : En) (z : List Nat) : left2 (stepE e z).1 (stepE e z).2.2.1 < left2 e (some z) := by
  have hn : 0 < (pcsL z).length := by
    rw [pcsL_grps, List.length_map]
    exact List.length_pos_iff.mpr (grp_ne _ _)
  unfold stepE
  split
  · show 0 < 2 * (pcsL z).length + _
    omega
  · split
    · rename_i hb
      show 2 * (pcsL (leftL z _)).length + 0 < _
      have hlt := bestK_lt e.wt (roomE e) z hb
      rw [left_pcs hlt, List.length_drop]
      show _ < 2 * (pcsL z).length + _
      omega
    · split
      · rename_i hw
        show 2 * (pcsL z).length + 0 < 2 * (pcsL z).length + (if e.wt = [] then 0 else 1)
        rw [if_neg hw]
        omega
      · show 0 < 2 * (pcsL z).length + _
        omega
theorem Fills.some' : ∀ (n : Nat) (e : En) (o : Option (List Nat)), left2 e o ≤ n → ∃ rows e', Fills e o rows e'
  | _, e, none, _ => ⟨[], e, .nil e⟩
  | 0, e, some z, h => by
    have := left2_lt e z
    omega
  | n + 1, e, some z, h => by
    have := left2_lt e z
    obtain ⟨rows, e', hf⟩ := Fills.some' n (stepE e z).1 (stepE e z).2.2.1 (by omega)
    exact ⟨_, e', .cons hf⟩
theorem Fills.ex (e : En) (o : Option (List Nat)) : ∃ rows e', Fills e o rows e' := Fills.some' _ e o (Nat.le_refl _)
theorem FillsAll.ex : ∀ (ws : List (List Nat)) (e : En), ∃ rows e', FillsAll e ws rows e'
  | [], e => ⟨[], e, .nil e⟩
  | z :: ws, e => by
    obtain ⟨r1, e1, h1⟩ := Fills.ex e (some z)
    obtain ⟨r2, e2, h2⟩ := FillsAll.ex ws e1
    exact ⟨_, _, .cons h1 h2⟩
/-! ### rows by their cells -/
/-- the cells of a step's line -/
def lnE (e : En) (z : List Nat) : Option (List Nat) :=
  if ((TL.joinL [32] (e.wt ++ [cells z])).length : Int) ≤ roomE e then none
  else if 0 < bestK e.wt (roomE e) z then some (TL.joinL [32] (e.wt ++ [frontL z (bestK e.wt (roomE e) z) ++ [45]]))
  else if e.wt ≠ [] then some (TL.joinL [32] e.wt)
  else some (cells z)
theorem step_line (e : En) (z : List Nat) : (stepE e z).2.1 = (lnE e z).map (lineE e) := by
  unfold stepE lnE
  split
  · rfl
  · split
    · rfl
    · split <;> rfl
/-- alike but for where the lines begin -/
structure Alike (e f : En) : Prop where
  wt : e.wt = f.wt
  now : roomE e = roomE f
  later : max 1 (e.br - e.ind) = max 1 (f.br - f.ind)
theorem Alike.cut {e f : En} (h : Alike e f) (z : List Nat) : lnE e z = lnE f z := by
  unfold lnE
  rw [h.wt, h.now]
theorem Alike.rest {e f : En} (h : Alike e f) (z : List Nat) : (stepE e z).2.2 = (stepE f z).2.2 := by
  unfold stepE
  rw [h.wt, h.now]
  split
  · rfl
  · split
    · rfl
    · split <;> rfl
theorem Alike.step {e f : En} (h : Alike e f) (z : List Nat) : Alike (stepE e z).1 (stepE f z).1 := by
  unfold stepE
  rw [← h.wt, ← h.now]
  split
  · exact ⟨by rw [h.wt], h.now, h.later⟩
  · split
    · exact ⟨rfl, h.later, h.later⟩
    · split
      · exact ⟨rfl, h.later, h.later⟩
      · exact ⟨rfl, h.later, h.later⟩
/-- rows of like cells, rooms and lengths -/
def LikeR : List Row → List Row → Prop
  | [], [] => True
  | a :: r, b :: s => (∃ (u : List Nat) (e f : En), a.1 = lineE e u ∧ b.1 = lineE f u) ∧ a.2 = b.2 ∧ LikeR r s
  | _, _ => False
theorem Fills.alike {e f : En} {o : Option (List Nat)} {r : List Row} {e' : En} (h : Fills e o r e') (a : Alike e f) : ∃ s f', Fills f o s f' ∧ LikeR r s ∧ Alike e' f' := by
  induction h generalizing f with
  | nil e => exact ⟨[], f, .nil f, trivial, a⟩
  | @cons e z rows e' h ih =>
    obtain ⟨s, f', h1, h2, h3⟩ := ih (a.step z)
    rw [a.rest z] at h1
    refine ⟨_, f', .cons h1, ?_, h3⟩
    unfold rowE
    rw [step_line e, step_line f, a.cut z, a.now, a.rest z]
    cases lnE f z with
    | none => exact h2
    | some u => exact ⟨⟨u, e, f, rfl, rfl⟩, rfl, h2⟩
end Ts

namespace Ts
open PySem PySem.Spec PyProof.Rows L2
/-! ### rows by where they begin, their cells, their room -/
structure CRow where
  ind : Int
  cs : List Nat
  room : Int
  long : Bool
def lineI (i : Int) (u : List Nat) : List Nat := if u = [] then [] else (List.replicate i.toNat [32]).flatten ++ u
theorem lineE_I (e : En) (u : List Nat) : lineE e u = lineI (indE e) u := rfl
def CRow.row (c : CRow) : Row := (lineI c.ind c.cs, c.room, c.long)
def CRow.core (c : CRow) : Row := (c.cs, c.room, c.long)
theorem flat32 (k : Nat) : ((List.replicate k [32]).flatten : List Nat) = List.replicate k 32 := by
  induction k with
  | zero => rfl
  | succ k ih => rw [List.replicate_succ, List.flatten_cons, ih, List.replicate_succ]; rfl
theorem lineI_0 (u : List Nat) : lineI 0 u = u := by
  unfold lineI
  split
  · rename_i h; exact h.symm
  · rfl
theorem lineI_drop (i : Int) (u : List Nat) : (lineI i u).drop i.toNat = u := by
  unfold lineI
  split
  · rename_i h; rw [h]; simp
  · rw [flat32]; simp
def crowE (e : En) (z : List Nat) : List CRow := (lnE e z).toList.map fun u => ⟨indE e, u, roomE e, (stepE e z).2.2.2⟩
theorem crow_row (e : En) (z : List Nat) : (crowE e z).map CRow.row = (stepE e z).2.1.toList.map fun l => (l, roomE e, (stepE e z).2.2.2) := by
  rw [step_line]
  unfold crowE
  cases lnE e z <;> rfl
theorem step_cases (e : En) (z : List Nat) :
    (lnE e z = none ∧ stepE e z = ({ e with wt := e.wt ++ [cells z] }, none, none, false)) ∨
    (∃ u l g, lnE e z = some u ∧ stepE e z = ({ e with once := none, wt := [] }, some (lineE e u), l, g)) := by
  unfold lnE stepE
  split
  · exact .inl ⟨rfl, rfl⟩
  · split
    · exact .inr ⟨_, _, _, rfl, rfl⟩
    · split
      · exact .inr ⟨_, _, _, rfl, rfl⟩
      · exact .inr ⟨_, _, _, rfl, rfl⟩
inductive CF : En → Option (List Nat) → List CRow → En → Prop
  | nil (e : En) : CF e none [] e
  | cons {e : En} {z : List Nat} {rows : List CRow} {e' : En} (h : CF (stepE e z).1 (stepE e z).2.2.1 rows e') : CF e (some z) (crowE e z ++ rows) e'
inductive CFA : En → List (List Nat) → List CRow → En → Prop
  | nil (e : En) : CFA e [] [] e
  | cons {e : En} {z : List Nat} {ws : List (List Nat)} {r1 r2 : List CRow} {e1 e2 : En} (h : CF e (some z) r1 e1) (g : CFA e1 ws r2 e2) : CFA e (z :: ws) (r1 ++ r2) e2
theorem CF.some' : ∀ (n : Nat) (e : En) (o : Option (List Nat)), left2 e o ≤ n → ∃ rows e', CF e o rows e'
  | _, e, none, _ => ⟨[], e, .nil e⟩
  | 0, e, some z, h => by
    have := left2_lt e z
    omega
  | n + 1, e, some z, h => by
    have := left2_lt e z
    obtain ⟨rows, e', hf⟩ := CF.some' n (stepE e z).1 (stepE e z).2.2.1 (by omega)
    exact ⟨_, e', .cons hf⟩
theorem CF.ex (e : En) (o : Option (List Nat)) : ∃ rows e', CF e o rows e' := CF.some' _ e o (Nat.le_refl _)
theorem CFA.ex : ∀ (ws : List (List Nat)) (e : En), ∃ rows e', CFA e ws rows e'
  | [], e => ⟨[], e, .nil e⟩
  | z :: ws, e => by
    obtain ⟨r1, e1, h1⟩ := CF.ex e (some z)
    obtain ⟨r2, e2, h2⟩ := CFA.ex ws e1
    exact ⟨_, _, .cons h1 h2⟩
theorem CF.one {e : En} {o : Option (List Nat)} {r1 r2 : List CRow} {e1 e2 : En} (h : CF e o r1 e1) (g : CF e o r2 e2) : r1 = r2 ∧ e1 = e2 := by
  induction h generalizing r2 e2 with
  | nil e => cases g; exact ⟨rfl, rfl⟩
  | cons h ih =>
    cases g with
    | cons g =>
      obtain ⟨h1, h2⟩ := ih g
      exact ⟨by rw [h1], h2⟩
theorem CFA.one {e : En} {ws : List (List Nat)} {r1 r2 : List CRow} {e1 e2 : En} (h : CFA e ws r1 e1) (g : CFA e ws r2 e2) : r1 = r2 ∧ e1 = e2 := by
  induction h generalizing r2 e2 with
  | nil e => cases g; exact ⟨rfl, rfl⟩
  | cons h g' ih =>
    cases g with
    | cons h2 g2 =>
      obtain ⟨rfl, rfl⟩ := h.one h2
      obtain ⟨rfl, h4⟩ := ih g2
      exact ⟨rfl, h4⟩
theorem CFA.app {e : En} {ws us : List (List Nat)} {r1 r2 : List CRow} {e1 e2 : En} (h : CFA e ws r1 e1) (g : CFA e1 us r2 e2) : CFA e (ws ++ us) (r1 ++ r2) e2 := by
  induction h with
  | nil e => exact g
  | cons h _ ih =>
    rw [List.append_assoc]
    exact .cons h (ih g)
/-- all of a filling's rows, the last break's too -/
def brC (e : En) : List CRow := if e.wt = [] then [] else [⟨indE e, TL.joinL [32] e.wt, roomE e, false⟩]
def doneE (e : En) : En := if e.wt = [] then e else { e with once := none, wt := [] }
def Tot (e : En) (ws : List (List Nat)) (cr : List CRow) (e' : En) : Prop := ∃ c1 e1, CFA e ws c1 e1 ∧ cr = c1 ++ brC e1 ∧ e' = doneE e1
theorem Tot.ex (e : En) (ws : List (List Nat)) : ∃ cr e', Tot e ws cr e' := by
  obtain ⟨c, e1, h⟩ := CFA.ex ws e
  exact ⟨_, _, c, e1, h, rfl, rfl⟩
theorem Tot.one {e : En} {ws : List (List Nat)} {r1 r2 : List CRow} {e1 e2 : En} (h : Tot e ws r1 e1) (g : Tot e ws r2 e2) : r1 = r2 ∧ e1 = e2 := by
  obtain ⟨c, d, h, rfl, rfl⟩ := h
  obtain ⟨c', d', g, rfl, rfl⟩ := g
  obtain ⟨rfl, rfl⟩ := h.one g
  exact ⟨rfl, rfl⟩
/-! ### what stays, where rows begin, what rooms they have -/
structure Same (e e' : En) : Prop where
  br : e'.br = e.br
  ind : e'.ind = e.ind
  fl : e'.fl = e.fl
  st : e'.st = e.st
theorem Same.refl (e : En) : Same e e := ⟨rfl, rfl, rfl, rfl⟩
theorem Same.trans {a b c : En} (h : Same a b) (g : Same b c) : Same a c := ⟨g.br.trans h.br, g.ind.trans h.ind, g.fl.trans h.fl, g.st.trans h.st⟩
def later (e : En) : Int := max 1 (e.br - e.ind)
structure Shp (e : En) (rows : List CRow) (e' : En) : Prop where
  same : Same e e'
  rows : (rows = [] ∧ e'.once = e.once) ∨ ∃ c t, rows = c :: t ∧ c.ind = indE e ∧ c.room = roomE e ∧ e'.once = none ∧ ∀ x ∈ t, x.ind = e.ind ∧ x.room = later e
theorem indE_none {e : En} (h : e.once = none) : indE e = e.ind := by unfold indE; rw [h]
theorem roomE_none {e : En} (h : e.once = none) : roomE e = later e := by unfold roomE later; rw [h]
theorem indE_same {e f : En} (s : Same e f) (h : f.once = e.once) : indE f = indE e := by unfold indE; rw [h, s.ind]
theorem roomE_same {e f : En} (s : Same e f) (h : f.once = e.once) : roomE f = roomE e := by unfold roomE; rw [h, s.ind, s.br]
theorem Shp.app {e e1 e2 : En} {r1 r2 : List CRow} (h : Shp e r1 e1) (g : Shp e1 r2 e2) : Shp e (r1 ++ r2) e2 := by
  refine ⟨h.same.trans g.same, ?_⟩
  rcases h.rows with ⟨rfl, ho⟩ | ⟨c, t, rfl, h1, h2, h3, h4⟩
  · rcases g.rows with ⟨rfl, go⟩ | ⟨c, t, rfl, g1, g2, g3, g4⟩
    · exact .inl ⟨rfl, go.trans ho⟩
    · refine .inr ⟨c, t, rfl, g1.trans (indE_same h.same ho), g2.trans (roomE_same h.same ho), g3, fun x hx => ?_⟩
      have := g4 x hx
      exact ⟨this.1.trans h.same.ind, this.2.trans (by unfold later; rw [h.same.br, h.same.ind])⟩
  · have hl : later e1 = later e := by unfold later; rw [h.same.br, h.same.ind]
    rcases g.rows with ⟨rfl, go⟩ | ⟨c2, t2, rfl, g1, g2, g3, g4⟩
    · exact .inr ⟨c, t, by rw [List.append_nil], h1, h2, go.trans h3, h4⟩
    · refine .inr ⟨c, t ++ c2 :: t2, rfl, h1, h2, g3, fun x hx => ?_⟩
      rcases List.mem_append.mp hx with hx | hx
      · exact h4 x hx
      · rcases List.mem_cons.mp hx with rfl | hx
        · exact ⟨g1.trans ((indE_none h3).trans h.same.ind), g2.trans ((roomE_none h3).trans hl)⟩
        · have := g4 x hx
          exact ⟨this.1.trans h.same.ind, this.2.trans hl⟩
theorem shp_step (e : En) (z : List Nat) : Shp e (crowE e z) (stepE e z).1 := by
  unfold crowE
  rcases step_cases e z with ⟨h1, h2⟩ | ⟨u, l, g, h1, h2⟩
  · rw [h1, h2]
    exact ⟨⟨rfl, rfl, rfl, rfl⟩, .inl ⟨rfl, rfl⟩⟩
  · rw [h1, h2]
    exact ⟨⟨rfl, rfl, rfl, rfl⟩, .inr ⟨_, [], rfl, rfl, rfl, rfl, fun _ h => by cases h⟩⟩
theorem CF.shp {e : En} {o : Option (List Nat)} {r : List CRow} {e' : En} (h : CF e o r e') : Shp e r e' := by
  induction h with
  | nil e => exact ⟨.refl e, .inl ⟨rfl, rfl⟩⟩
  | cons h ih => exact (shp_step _ _).app ih
theorem CFA.shp {e : En} {ws : List (List Nat)} {r : List CRow} {e' : En} (h : CFA e ws r e') : Shp e r e' := by
  induction h with
  | nil e => exact ⟨.refl e, .inl ⟨rfl, rfl⟩⟩
  | cons h _ ih => exact h.shp.app ih
theorem shp_done (e : En) : Shp e (brC e) (doneE e) := by
  unfold brC doneE
  split
  · exact ⟨.refl e, .inl ⟨rfl, rfl⟩⟩
  · exact ⟨⟨rfl, rfl, rfl, rfl⟩, .inr ⟨_, [], rfl, rfl, rfl, rfl, fun _ h => by cases h⟩⟩
theorem Tot.shp {e : En} {ws : List (List Nat)} {r : List CRow} {e' : En} (h : Tot e ws r e') : Shp e r e' := by
  obtain ⟨c, e1, h, rfl, rfl⟩ := h
  exact h.shp.app (shp_done e1)
theorem doneE_wt (e : En) : (doneE e).wt = [] := by
  unfold doneE
  split
  · assumption
  · rfl
theorem CF.ne {e : En} {z : List Nat} {r : List CRow} {e' : En} (h : CF e (some z) r e') : r ≠ [] ∨ e'.wt ≠ [] := by
  cases h with
  | cons h =>
    rcases step_cases e z with ⟨h1, h2⟩ | ⟨u, l, g, h1, h2⟩
    · rw [h2] at h
      cases h
      exact .inr (by simp)
    · refine .inl ?_
      unfold crowE
      rw [h1]
      simp
theorem CFA.ne {e : En} {ws : List (List Nat)} {r : List CRow} {e' : En} (h : CFA e ws r e') (n : ws ≠ []) : r ≠ [] ∨ e'.wt ≠ [] := by
  induction h with
  | nil e => exact absurd rfl n
  | @cons e z ws r1 r2 e1 e2 h g ih =>
    cases g with
    | nil => rw [List.append_nil]; exact h.ne
    | cons h2 g2 =>
      rcases ih (by simp) with hh | hh
      · exact .inl fun e => hh (List.append_eq_nil_iff.mp e).2
      · exact .inr hh
theorem Tot.ne {e : En} {ws : List (List Nat)} {r : List CRow} {e' : En} (h : Tot e ws r e') (n : ws ≠ []) : r ≠ [] := by
  obtain ⟨c, e1, h, rfl, rfl⟩ := h
  intro hh
  obtain ⟨h1, h2⟩ := List.append_eq_nil_iff.mp hh
  rcases h.ne n with h3 | h3
  · exact h3 h1
  · unfold brC at h2
    rw [if_neg h3] at h2
    cases h2
theorem Tot.wt {e : En} {ws : List (List Nat)} {r : List CRow} {e' : En} (h : Tot e ws r e') : e'.wt = [] := by
  obtain ⟨c, e1, h, rfl, rfl⟩ := h
  exact doneE_wt e1
/-- the environment behind a filling -/
theorem Tot.env {e : En} {ws : List (List Nat)} {r : List CRow} {e' : En} (h : Tot e ws r e') (n : ws ≠ [] ∨ e.once = none) : e' = { e with once := none, wt := [] } := by
  have s := h.shp
  have hw := h.wt
  have ho : e'.once = none := by
    rcases s.rows with ⟨rfl, h2⟩ | ⟨c, t, _, _, _, h2, _⟩
    · rcases n with n | n
      · exact absurd rfl (h.ne n)
      · exact h2.trans n
    · exact h2
  obtain ⟨b1, b2, b3, b4⟩ := s.same
  cases e'
  cases e
  simp only at b1 b2 b3 b4 ho hw
  subst b1 b2 b3 b4 ho hw
  rfl
/-! ### environments alike -/
theorem CF.alike {e f : En} {o : Option (List Nat)} {r : List CRow} {e' : En} (h : CF e o r e') (a : Alike e f) : ∃ s f', CF f o s f' ∧ r.map CRow.core = s.map CRow.core ∧ Alike e' f' := by
  induction h generalizing f with
  | nil e => exact ⟨[], f, .nil f, rfl, a⟩
  | @cons e z rows e' h ih =>
    obtain ⟨s, f', h1, h2, h3⟩ := ih (a.step z)
    rw [a.rest z] at h1
    refine ⟨_, f', .cons h1, ?_, h3⟩
    rw [List.map_append, List.map_append, h2]
    congr 1
    unfold crowE
    rw [a.cut z, a.now, a.rest z]
    cases lnE f z <;> rfl
theorem CFA.alike {e f : En} {ws : List (List Nat)} {r : List CRow} {e' : En} (h : CFA e ws r e') (a : Alike e f) : ∃ s f', CFA f ws s f' ∧ r.map CRow.core = s.map CRow.core ∧ Alike e' f' := by
  induction h generalizing f with
  | nil e => exact ⟨[], f, .nil f, rfl, a⟩
  | cons h g ih =>
    obtain ⟨s1, f1, h1, h2, h3⟩ := h.alike a
    obtain ⟨s2, f2, g1, g2, g3⟩ := ih h3
    exact ⟨_, _, .cons h1 g1, by rw [List.map_append, List.map_append, h2, g2], g3⟩
theorem Tot.alike {e f : En} {ws : List (List Nat)} {r s : List CRow} {e' f' : En} (h : Tot e ws r e') (g : Tot f ws s f') (a : Alike e f) : r.map CRow.core = s.map CRow.core := by
  obtain ⟨c, e1, h, rfl, rfl⟩ := h
  obtain ⟨c', f1, g, rfl, rfl⟩ := g
  obtain ⟨c2, f2, h1, h2, h3⟩ := h.alike a
  obtain ⟨rfl, rfl⟩ := h1.one g
  rw [List.map_append, List.map_append, h2]
  congr 1
  unfold brC
  rw [h3.wt, h3.now]
  split <;> rfl
/-- rows none of whose lines is indented but by i -/
theorem Tot.inds {e : En} {ws : List (List Nat)} {r : List CRow} {e' : En} (h : Tot e ws r e') {i : Int} (h1 : indE e = i) (h2 : e.ind = i) : ∀ x ∈ r, x.ind = i := by
  rcases h.shp.rows with ⟨rfl, _⟩ | ⟨c, t, rfl, h3, _, _, h4⟩
  · intro x hx
    cases hx
  · intro x hx
    rcases List.mem_cons.mp hx with rfl | hx
    · exact h3.trans h1
    · exact (h4 x hx).1.trans h2
theorem rows_core {r : List CRow} (h : ∀ x ∈ r, x.ind = 0) : r.map CRow.row = r.map CRow.core := List.map_congr_left fun x hx => by
  unfold CRow.row CRow.core
  rw [h x hx, lineI_0]
/-! ### loops over enumerate -/
section
variable {σ : L2.St} {H : Hp} {Q : VK} {K : PySem.W.Frag} {a : Addr}
def EnL (K : PySem.W.Frag) (vs : List V) (H : Hp) (R : It → Hp → Prop) : Prop := ∃ a xs, vs = [.ref a] ∧ SqL K H a xs ∧ R (Ite K a) H
theorem r_ienum {t : TA} {R : It → Hp → Prop} (q : t σ H fun vs H1 => EnL K vs H1 R) : iEnum K t σ H R := q
theorem r_enl {xs : List V} {R : It → Hp → Prop} (h : SqL K H a xs) (q : R (Ite K a) H) : EnL K [.ref a] H R := ⟨a, xs, rfl, h, q⟩
theorem lc_enum {g : TG} {tt : TT} {te : TE} {vs : List Nat} (us : List V) (hx : SqL K H a us) (hz : us.length < 1000000) (I : Nat → List V → Hp → Prop)
    (h0 : ∀ H', Ex H H' → I 0 [] H')
    (hI : ∀ i acc H1 H2, Ex H1 H2 → I i acc H1 → I i acc H2)
    (hK : ∀ D i acc H1 H2, H D = none → Ol H1 D → Kp D H1 H2 → I i acc H1 → I i acc H2)
    (hb : ∀ i x acc T H', us[i]? = some x → Ex H H' → I i acc H' → H' T = some (.tup [.int (i : Nat), x]) → ∀ (Y : VK) (N : Hp → Prop), (∀ y H4, Ex H' H4 → I (i + 1) (acc ++ [y]) H4 → Y y H4) → (∀ H3, Ex H' H3 → I (i + 1) acc H3 → N H3) →
      g (.ref T) (wipe σ vs) H' fun σ2 H2 => wipe σ2 vs = wipe σ vs ∧ tt σ2 H2 fun b H3 => IfB b (te σ2 H3 Y) (N H3))
    (q : ∀ D H2 acc, H D = none → Ex H H2 → H2 D = some (.lst acc) → I us.length acc H2 → Q (.ref D) H2) : LcK (Ite K a) g tt te vs σ H Q := by
  intro D nD
  refine ⟨fun i m H' => m = us.length - i ∧ i ≤ us.length ∧ Ex H H' ∧ ∃ acc, acc.length ≤ i ∧ I i acc H' ∧ H' D = some (.lst acc), ⟨us.length, by omega, Nat.zero_le _, Evl.Ex.new nD, [], Nat.le_refl _, h0 _ (Evl.Ex.new nD), upd_same⟩, ?_⟩
  rintro i m H' ⟨rfl, hi, hE, acc, hl, hI1, hd⟩
  by_cases h : i < us.length
  · refine .inr ⟨⟨us, _, Ex.L hE hx, List.getElem?_eq_getElem h⟩, fun H'' => i + 1 ≤ us.length ∧ Ex H H'' ∧ ∃ acc, acc.length ≤ i + 1 ∧ I (i + 1) acc H'' ∧ H'' D = some (.lst acc), fun H'' hh => ⟨us.length - (i + 1), by omega, rfl, hh⟩, fun x H2 y => ?_⟩
    obtain ⟨T, x', rfl, nT, rfl, hy⟩ := y
    have hxx := hy us (Ex.L hE hx)
    have eT : Ex H' (upd H' T (.tup [.int (i : Nat), x'])) := Evl.Ex.new nT
    refine hb i x' acc T _ hxx (hE.trans eT) (hI _ _ _ _ eT hI1) upd_same _ _ (fun y H4 k4 h4 => ?_) (fun H3 k3 h3 => ⟨by omega, (hE.trans eT).trans k3, acc, by omega, h3, k3 _ _ (eT _ _ hd)⟩)
    have hd4 := k4 _ _ (eT _ _ hd)
    refine ⟨acc, hd4, Nat.lt_of_lt_of_le (m := 1000000) (by omega) (by decide), by omega, ex_kp ((hE.trans eT).trans k4) nD Kp.upd, acc ++ [y], by rw [List.length_append]; exact Nat.succ_le_succ hl, ?_, upd_same⟩
    exact hK D _ _ _ _ nD ⟨_, hd4⟩ Kp.upd h4
  · have : i = us.length := by omega
    subst this
    exact .inl ⟨⟨us, Ex.L hE hx, Nat.le_refl _⟩, q D H' acc nD hE hd hI1⟩
theorem f_enum {g : TG} {tb : TS} {D : Ends} (us : List V) (Pv : Nat → L2.St → Hp → Prop) (h0 : Pv 0 σ H)
    (hl : ∀ i σ H, i ≤ us.length → Pv i σ H → SqL K H a us)
    (hs : ∀ i x σ H T H2, us[i]? = some x → Pv i σ H → H T = none → Ex H H2 → H2 T = some (.tup [.int (i : Nat), x]) → g (.ref T) σ H2 fun σ2 H3 => tb { D with nx := Pv (i + 1), ct := Pv (i + 1), bk := D.nx } σ2 H3)
    (hd : ∀ σ H, Pv us.length σ H → D.nx σ H) : ForK (Ite K a) g tb D σ H := by
  refine ⟨fun i m σ H' => m = us.length - i ∧ i ≤ us.length ∧ Pv i σ H', ⟨us.length, by omega, Nat.zero_le _, h0⟩, ?_⟩
  rintro i m σ' H' ⟨rfl, hi, h⟩
  by_cases hlt : i < us.length
  · have hq := hl i σ' H' hi h
    refine .inr ⟨⟨us, _, hq, List.getElem?_eq_getElem hlt⟩, Pv (i + 1), fun σ2 H2 h2 => ⟨us.length - (i + 1), by omega, rfl, hlt, h2⟩, fun x H2 y => ?_⟩
    obtain ⟨T, x', rfl, nT, rfl, hy⟩ := y
    exact hs i x' σ' H' T _ (hy us hq) h nT (Evl.Ex.new nT) upd_same
  · have : i = us.length := by omega
    subst this
    exact .inl ⟨⟨us, hl _ σ' H' hi h, Nat.le_refl _⟩, hd σ' H' h⟩
end
/-! ### two names at once -/
section
variable {σ : L2.St} {H : Hp} {D : Ends} {i j : Nat} {t : TA} {v u : V}
def ParK (i j : Nat) (D : Ends) (σ : L2.St) (vs : List V) (H : Hp) : Prop := ∃ v w, vs = [v, w] ∧ D.nx ((σ.set i (some v)).set j (some w)) H
theorem r_par (q : t σ H fun vs H1 => ParK i j D σ vs H1) : tPar i j t D σ H := q
theorem r_par2 (q : D.nx ((σ.set i (some v)).set j (some u)) H) : ParK i j D σ [v, u] H := ⟨v, u, rfl, q⟩
end
/-! ### a list some times over -/
theorem flat_one {α : Type} (k : Nat) (x : α) : (List.replicate k [x]).flatten = List.replicate k x := by
  induction k with
  | zero => rfl
  | succ k ih => rw [List.replicate_succ, List.flatten_cons, ih, List.replicate_succ]; rfl
section
variable {H : Hp} {Q : VK} {l : Addr} {xs ys : List V} {m : Int}
theorem r_rep (h : H l = some (.lst xs)) (c : 0 ≤ m) (c2 : m ≤ 100000) (hl : xs.length ≤ 10) (q : ∀ p H1, H p = none → Ex H H1 → H1 p = some (.lst (List.replicate m.toNat xs).flatten) → Q (.ref p) H1) : rRep (.ref l) (.int m) H Q := by
  refine ⟨l, m, xs, rfl, rfl, h, by omega, by omega, ?_, fun p np => q p _ np (Evl.Ex.new np) upd_same⟩
  have : xs.length * m.toNat ≤ 10 * 100000 := Nat.mul_le_mul hl (by omega)
  exact Nat.le_trans this (by decide)
theorem r_catN {b : Addr} (h1 : H l = some (.lst xs)) (h2 : H b = some (.lst ys)) (c : xs.length + ys.length ≤ 1000000) (q : ∀ p H1, H p = none → Ex H H1 → H1 p = some (.lst (xs ++ ys)) → Q (.ref p) H1) : rCat (.ref l) (.ref b) H Q :=
  r_cat h1 h2 (Nat.le_trans c (by decide)) (r_new q)
end
section
variable {H : Hp} {Q : VK} {u : List Nat}
theorem r_intN (q : Q (.int 0) H) : rInt1 [.bl (!decide (ov none = V.non))] H Q := r_intB (by simpa [ov] using q)
theorem r_intS (q : Q (.int 1) H) : rInt1 [.bl (!decide (ov (some u) = V.non))] H Q := r_intB (by simpa [ov] using q)
end
end Ts

namespace Ts
open PySem PySem.Spec PyProof.Rows L2
/-! ### rows with cells -/
theorem joinL_ne {w : List Nat} : ∀ {ws : List (List Nat)}, ws ≠ [] → (∀ t ∈ ws, t ≠ []) → TL.joinL w ws ≠ []
  | [], h, _ => absurd rfl h
  | [a], _, h => by
    have := h a (List.mem_cons_self ..)
    simpa [TL.joinL] using this
  | a :: b :: r, _, h => by
    have := h a (List.mem_cons_self ..)
    rw [show TL.joinL w (a :: b :: r) = a ++ (w ++ TL.joinL w (b :: r)) by simp [TL.joinL]]
    intro e
    exact this (List.append_eq_nil_iff.mp e).1
structure Ful (e : En) : Prop where
  wt : ∀ t ∈ e.wt, t ≠ []
theorem lnE_ne {e : En} {z u : List Nat} (h : Ful e) (hz : cells z ≠ []) (hu : lnE e z = some u) : u ≠ [] := by
  unfold lnE at hu
  split at hu
  · cases hu
  · split at hu
    · cases hu
      exact joinL_ne (by simp) fun t ht => by
        rcases List.mem_append.mp ht with ht | ht
        · exact h.wt t ht
        · rw [List.mem_singleton] at ht
          rw [ht]
          simp
    · split at hu
      · rename_i hw
        cases hu
        exact joinL_ne hw h.wt
      · cases hu
        exact hz
theorem ful_step {e : En} {z : List Nat} (h : Ful e) (hz : cells z ≠ []) : Ful (stepE e z).1 ∧ ∀ y, (stepE e z).2.2.1 = some y → cells y ≠ [] := by
  unfold stepE
  split
  · refine ⟨⟨fun t ht => ?_⟩, (fun _ h => by cases h)⟩
    rcases List.mem_append.mp ht with ht | ht
    · exact h.wt t ht
    · rw [List.mem_singleton] at ht
      rw [ht]
      exact hz
  · split
    · rename_i hb
      refine ⟨⟨fun t ht => by cases ht⟩, fun y hy => ?_⟩
      cases hy
      have := bestK_fit hb
      unfold fitK at this
      simp only [Bool.and_eq_true, decide_eq_true_eq] at this
      exact this.2.1
    · split
      · exact ⟨⟨fun t ht => by cases ht⟩, fun y hy => by cases hy; exact hz⟩
      · exact ⟨⟨fun t ht => by cases ht⟩, (fun _ h => by cases h)⟩
theorem CF.ful {e : En} {o : Option (List Nat)} {r : List CRow} {e' : En} (h : CF e o r e') (f : Ful e) (ho : ∀ z, o = some z → cells z ≠ []) : (∀ c ∈ r, c.cs ≠ []) ∧ Ful e' := by
  induction h with
  | nil e => exact ⟨(fun _ h => by cases h), f⟩
  | @cons e z rows e' h ih =>
    have hz := ho z rfl
    have fs := ful_step f hz
    obtain ⟨h1, h2⟩ := ih fs.1 fs.2
    refine ⟨fun c hc => ?_, h2⟩
    rcases List.mem_append.mp hc with hc | hc
    · unfold crowE at hc
      obtain ⟨u, hu, rfl⟩ := List.mem_map.mp hc
      exact lnE_ne f hz (by simpa using hu)
    · exact h1 c hc
theorem CFA.ful {e : En} {ws : List (List Nat)} {r : List CRow} {e' : En} (h : CFA e ws r e') (f : Ful e) (hw : ∀ z ∈ ws, cells z ≠ []) : (∀ c ∈ r, c.cs ≠ []) ∧ Ful e' := by
  induction h with
  | nil e => exact ⟨(fun _ h => by cases h), f⟩
  | cons h g ih =>
    obtain ⟨h1, h2⟩ := h.ful f fun z hz => by cases hz; exact hw _ (List.mem_cons_self ..)
    obtain ⟨h3, h4⟩ := ih h2 fun z hz => hw z (List.mem_cons_of_mem _ hz)
    exact ⟨fun c hc => (List.mem_append.mp hc).elim (h1 c) (h3 c), h4⟩
theorem Tot.ful {e : En} {ws : List (List Nat)} {r : List CRow} {e' : En} (h : Tot e ws r e') (f : Ful e) (hw : ∀ z ∈ ws, cells z ≠ []) : ∀ c ∈ r, c.cs ≠ [] := by
  obtain ⟨c1, e1, h, rfl, rfl⟩ := h
  obtain ⟨h1, h2⟩ := h.ful f hw
  intro c hc
  rcases List.mem_append.mp hc with hc | hc
  · exact h1 c hc
  · unfold brC at hc
    split at hc
    · cases hc
    · rename_i hw
      rw [List.mem_singleton] at hc
      subst hc
      exact joinL_ne hw h2.wt
/-! ### words of letters -/
theorem can_plain : ∀ {ts : List (List Nat)}, (∀ t ∈ ts, t ∈ twos ∨ ∃ c, t = [c] ∧ c ≠ 92) → Can ts
  | [], _ => trivial
  | t :: ts, h => ⟨by
      rcases h t (List.mem_cons_self ..) with h1 | ⟨c, h1, h2⟩
      · exact .inl h1
      · exact .inr ⟨c, h1, nxt_other h2⟩, can_plain fun u hu => h u (List.mem_cons_of_mem _ hu)⟩
theorem flat_ones : ∀ u : List Nat, (u.map fun c => [c]).flatten = u
  | [] => rfl
  | c :: u => by rw [List.map_cons, List.flatten_cons, flat_ones u]; rfl
theorem toks_signs {u : List Nat} (h : ∀ c ∈ u, c ≠ 92) : toks u = u.map fun c => [c] := by
  have hc : Can (u.map fun c => [c]) := can_plain fun t ht => by
    obtain ⟨c, hc, rfl⟩ := List.mem_map.mp ht
    exact .inr ⟨c, rfl, h c hc⟩
  have := toks_can hc
  rw [flat_ones] at this
  exact this
theorem cells_signs {u : List Nat} (h : ∀ c ∈ u, c ≠ 92) : cells u = u := by
  unfold cells
  rw [toks_signs h, List.map_map, show (cell ∘ fun c => [c]) = fun c => [c] from funext fun c => by
    show cell [c] = [c]
    unfold cell
    rw [if_neg (by simp), if_neg (by simp)]]
  exact flat_ones u
structure Ltr (u : List Nat) : Prop where
  ne : u ≠ []
  len : u.length ≤ 13
  sg : ∀ c ∈ u, 97 ≤ c ∧ c ≤ 104
theorem Ltr.ns {u : List Nat} (h : Ltr u) : ∀ c ∈ u, c ≠ 92 := fun c hc => by have := h.sg c hc; omega
theorem mem_tie : ∀ {gs : List (List (List Nat))} {t : List Nat}, t ∈ tie gs → t = mMark ∨ ∃ g ∈ gs, t ∈ g
  | [], _, h => by cases h
  | [g], t, h => .inr ⟨g, List.mem_cons_self .., by rwa [tie] at h⟩
  | g :: b :: r, t, h => by
    rw [tie] at h
    rcases List.mem_append.mp h with h | h
    · exact .inr ⟨g, List.mem_cons_self .., h⟩
    · rcases List.mem_cons.mp h with h | h
      · exact .inl h
      · rcases mem_tie h with h | ⟨x, hx, h⟩
        · exact .inl h
        · exact .inr ⟨x, List.mem_cons_of_mem _ hx, h⟩
theorem pcs_letters {ps : List (List Nat)} (hne : ps ≠ []) (h : ∀ p ∈ ps, Ltr p) : pcsL (TL.joinL mMark ps) = ps := by
  have hfl : (ps.map toks).map List.flatten = ps := by
    rw [List.map_map]
    refine (List.map_congr_left fun p _ => ?_).trans (List.map_id _)
    exact toks_flat p
  have hflat : (tie (ps.map toks)).flatten = TL.joinL mMark ps := by rw [tie_flat, hfl]
  have hone : ∀ g ∈ ps.map toks, ∀ t ∈ g, ∃ c, t = [c] ∧ c ≠ 92 := fun g hg t ht => by
    obtain ⟨p, hp, rfl⟩ := List.mem_map.mp hg
    rw [toks_signs (h p hp).ns] at ht
    obtain ⟨c, hc, rfl⟩ := List.mem_map.mp ht
    exact ⟨c, rfl, (h p hp).ns c hc⟩
  have hcan : Can (tie (ps.map toks)) := can_plain fun t ht => by
    rcases mem_tie ht with rfl | ⟨g, hg, ht⟩
    · exact .inl (by decide)
    · exact .inr (hone g hg t ht)
  have ht : toks (TL.joinL mMark ps) = tie (ps.map toks) := by rw [← hflat, toks_can hcan]
  rw [pcsL_grps]
  unfold grps
  rw [ht, grp_tie (by simpa using hne) fun g hg t ht e => by
    obtain ⟨c, hc, _⟩ := hone g hg t ht
    rw [hc] at e
    simp at e]
  exact hfl
theorem cells_letters {ps : List (List Nat)} (hne : ps ≠ []) (h : ∀ p ∈ ps, Ltr p) : cells (TL.joinL mMark ps) = ps.flatten := by
  rw [← cells_pcs, pcs_letters hne h]
  congr 1
  refine (List.map_congr_left fun p hp => ?_).trans (List.map_id _)
  exact cells_signs (h p hp).ns
/-- the first pieces' cells -/
theorem front_letters {ps : List (List Nat)} (hne : ps ≠ []) (h : ∀ p ∈ ps, Ltr p) (k : Nat) : frontL (TL.joinL mMark ps) k = (ps.take k).flatten := by
  unfold frontL
  rw [pcs_letters hne h]
  congr 1
  refine (List.map_congr_left fun p hp => ?_).trans (List.map_id _)
  exact cells_signs (h p (List.mem_of_mem_take hp)).ns
theorem downK_max {p : Nat → Bool} : ∀ {k j : Nat}, downK p k < j → j ≤ k → p j = false
  | 0, j, h, h2 => by
    have h : 0 < j := h
    omega
  | k + 1, j, h, h2 => by
    rw [downK] at h
    split at h
    · omega
    · rename_i hp
      by_cases e : j = k + 1
      · subst e
        simpa using hp
      · exact downK_max h (by omega)
/-! ### the plain way -/
def plS (r0 r1 : Int) (st : List (List Nat) × List (List Nat)) (u : List Nat) : List (List Nat) × List (List Nat) :=
  if st.2 ≠ [] ∧ (if st.1 ≠ [] then r1 else r0) < ((TL.joinL [32] (st.2 ++ [u])).length : Int) then
    if r1 < (u.length : Int) then (st.1 ++ [TL.joinL [32] st.2] ++ [u], []) else (st.1 ++ [TL.joinL [32] st.2], [u])
  else if st.2 = [] ∧ (if st.1 ≠ [] then r1 else r0) < (u.length : Int) then (st.1 ++ [u], [])
  else (st.1, st.2 ++ [u])
def plF (st : List (List Nat) × List (List Nat)) : List (List Nat) := st.1 ++ if st.2 = [] then [] else [TL.joinL [32] st.2]
def plnW (r0 r1 : Int) (ws : List (List Nat)) : List (List Nat) := plF (ws.foldl (plS r0 r1) ([], []))
theorem st_fit {e : En} {z : List Nat} (h : ((TL.joinL [32] (e.wt ++ [cells z])).length : Int) ≤ roomE e) : stepE e z = ({ e with wt := e.wt ++ [cells z] }, none, none, false) ∧ lnE e z = none := ⟨if_pos h, if_pos h⟩
theorem st_wait {e : En} {z : List Nat} (h : ¬ ((TL.joinL [32] (e.wt ++ [cells z])).length : Int) ≤ roomE e) (hb : bestK e.wt (roomE e) z = 0) (hw : e.wt ≠ []) :
    stepE e z = ({ e with once := none, wt := [] }, some (lineE e (TL.joinL [32] e.wt)), some z, false) ∧ lnE e z = some (TL.joinL [32] e.wt) :=
  ⟨(if_neg h).trans ((if_neg (by omega)).trans (if_pos hw)), (if_neg h).trans ((if_neg (by omega)).trans (if_pos hw))⟩
theorem st_long {e : En} {z : List Nat} (h : ¬ ((TL.joinL [32] (e.wt ++ [cells z])).length : Int) ≤ roomE e) (hb : bestK e.wt (roomE e) z = 0) (hw : e.wt = []) :
    stepE e z = ({ e with once := none, wt := [] }, some (lineE e (cells z)), none, true) ∧ lnE e z = some (cells z) :=
  ⟨(if_neg h).trans ((if_neg (by omega)).trans (if_neg (by simpa using hw))), (if_neg h).trans ((if_neg (by omega)).trans (if_neg (by simpa using hw)))⟩
theorem best_one {wt : List (List Nat)} {r : Int} {u : List Nat} (h : (pcsL u).length = 1) : bestK wt r u = 0 := by
  unfold bestK
  rw [h]
  rfl
theorem cf_plain {e : En} {u : List Nat} {rows : List CRow} {e1 : En} (hp : (pcsL u).length = 1) (hc : cells u = u) (h : CF e (some u) rows e1) {r0 r1 : Int} {found : List (List Nat)}
    (hr : roomE e = if found ≠ [] then r1 else r0) (hl : later e = r1) :
    plS r0 r1 (found, e.wt) u = (found ++ rows.map CRow.cs, e1.wt) ∧ (roomE e1 = if found ++ rows.map CRow.cs ≠ [] then r1 else r0) ∧ later e1 = r1 := by
  have hj1 : TL.joinL [32] [u] = u := by simp [TL.joinL]
  cases h with
  | @cons _ _ rows' _ h =>
  unfold plS
  dsimp only
  rw [← hr]
  by_cases hf : ((TL.joinL [32] (e.wt ++ [cells u])).length : Int) ≤ roomE e
  · obtain ⟨h1, h2⟩ := st_fit hf
    rw [h1] at h
    unfold crowE
    rw [h2]
    cases h
    rw [hc] at hf
    rw [if_neg (by rintro ⟨_, h⟩; omega), if_neg (by
      rintro ⟨hw, h⟩
      rw [hw, List.nil_append, hj1] at hf
      omega)]
    refine ⟨by rw [hc]; simp, ?_, hl⟩
    show roomE e = _
    simpa using hr
  · by_cases hw : e.wt = []
    · obtain ⟨h1, h2⟩ := st_long hf (best_one hp) hw
      rw [h1] at h
      unfold crowE
      rw [h2]
      cases h
      rw [hc, hw, List.nil_append, hj1] at hf
      rw [if_neg (by rintro ⟨h, _⟩; exact h hw), if_pos ⟨hw, by omega⟩]
      refine ⟨by rw [hc]; rfl, ?_, hl⟩
      rw [if_pos (by simp)]
      exact hl
    · obtain ⟨h1, h2⟩ := st_wait hf (best_one hp) hw
      rw [h1] at h
      unfold crowE
      rw [h2]
      cases h with
      | @cons _ _ rows'' _ h =>
      rw [hc] at hf
      rw [if_pos ⟨hw, by omega⟩]
      by_cases hf2 : ((TL.joinL [32] (({ e with once := none, wt := [] } : En).wt ++ [cells u])).length : Int) ≤ roomE { e with once := none, wt := [] }
      · obtain ⟨g1, g2⟩ := st_fit hf2
        rw [g1] at h
        unfold crowE
        rw [g2]
        cases h
        have hl2 : roomE { e with once := none, wt := [] } = r1 := hl
        rw [hl2, hc, List.nil_append, hj1] at hf2
        rw [if_neg (by omega)]
        refine ⟨by rw [hc]; rfl, ?_, hl⟩
        rw [if_pos (by simp)]
        exact hl
      · obtain ⟨g1, g2⟩ := st_long hf2 (best_one hp) rfl
        rw [g1] at h
        unfold crowE
        rw [g2]
        cases h
        have hl2 : roomE { e with once := none, wt := [] } = r1 := hl
        rw [hl2, hc, List.nil_append, hj1] at hf2
        rw [if_pos (by omega)]
        refine ⟨by rw [hc]; simp, ?_, hl⟩
        rw [if_pos (by simp)]
        exact hl
theorem cfa_plain {e : En} {ws : List (List Nat)} {rows : List CRow} {e1 : En} (h : CFA e ws rows e1) (hw : ∀ u ∈ ws, (pcsL u).length = 1 ∧ cells u = u) {r0 r1 : Int} : ∀ {found : List (List Nat)},
    (roomE e = if found ≠ [] then r1 else r0) → later e = r1 → ws.foldl (plS r0 r1) (found, e.wt) = (found ++ rows.map CRow.cs, e1.wt) := by
  induction h with
  | nil e => intro found _ _; simp
  | @cons e z ws r1' r2' e1 e2 h g ih =>
    intro found hr hl
    have hz := hw z (List.mem_cons_self ..)
    obtain ⟨h1, h2, h3⟩ := cf_plain hz.1 hz.2 h hr hl
    rw [List.foldl_cons, h1, ih (fun u hu => hw u (List.mem_cons_of_mem _ hu)) h2 h3, List.map_append, List.append_assoc]
theorem tot_plain {e : En} {ws : List (List Nat)} {cr : List CRow} {e' : En} (h : Tot e ws cr e') (hw : ∀ u ∈ ws, (pcsL u).length = 1 ∧ cells u = u) (he : e.wt = []) : cr.map CRow.cs = plnW (roomE e) (later e) ws := by
  obtain ⟨c1, e1, h, rfl, rfl⟩ := h
  have := cfa_plain h hw (r0 := roomE e) (r1 := later e) (found := []) (by simp) rfl
  unfold plnW plF
  rw [he] at this
  rw [this, List.map_append, List.nil_append]
  congr 1
  unfold brC
  dsimp only
  split <;> rfl
def plA (r0 r1 : Int) (st : List (List Nat) × List (List Nat)) (u : List Nat) : (List (List Nat) × List (List Nat)) × Int :=
  if st.2 ≠ [] ∧ (if st.1 ≠ [] then r1 else r0) < ((TL.joinL [32] (st.2 ++ [u])).length : Int) then ((st.1 ++ [TL.joinL [32] st.2], []), r1) else (st, if st.1 ≠ [] then r1 else r0)
def plB (x : (List (List Nat) × List (List Nat)) × Int) (u : List Nat) : List (List Nat) × List (List Nat) :=
  if x.1.2 = [] ∧ x.2 < (u.length : Int) then (x.1.1 ++ [u], x.1.2) else (x.1.1, x.1.2 ++ [u])
theorem plS_AB (r0 r1 : Int) (st : List (List Nat) × List (List Nat)) (u : List Nat) : plS r0 r1 st u = plB (plA r0 r1 st u) u := by
  unfold plS plA plB
  by_cases h : st.2 ≠ [] ∧ (if st.1 ≠ [] then r1 else r0) < ((TL.joinL [32] (st.2 ++ [u])).length : Int)
  · rw [if_pos h, if_pos h]
    dsimp only
    by_cases h2 : r1 < (u.length : Int)
    · rw [if_pos h2, if_pos ⟨rfl, h2⟩]
    · rw [if_neg h2, if_neg (fun x => h2 x.2)]
      rfl
  · rw [if_neg h, if_neg h]
    dsimp only
    by_cases h2 : st.2 = [] ∧ (if st.1 ≠ [] then r1 else r0) < (u.length : Int)
    · rw [if_pos h2, if_pos h2, h2.1]
    · rw [if_neg h2, if_neg h2]
theorem none_ex {H H' : Hp} {p : Addr} (e : Ex H H') (n : H' p = none) : H p = none := by
  cases hh : H p with
  | none => rfl
  | some o => rw [e _ _ hh] at n; cases n
end Ts

namespace Ts
open PySem PySem.Spec PyProof.Rows L2
/-! ### what rows eat of the signs that are left -/
def noB (u : List Nat) : List Nat := u.filter fun c => !decide (c = 32)
theorem noB_app (a b : List Nat) : noB (a ++ b) = noB a ++ noB b := List.filter_append a b
theorem noB_self {u : List Nat} (h : 32 ∉ u) : noB u = u := List.filter_eq_self.mpr fun c hc => by
  have : c ≠ 32 := fun e => h (e ▸ hc)
  simp [this]
def NoS (z : List Nat) : Prop := ∀ c ∈ z, c ≠ 32 ∧ c ≠ 45
theorem NoS.b {z : List Nat} (h : NoS z) : 32 ∉ z := fun hm => (h 32 hm).1 rfl
theorem noB_join : ∀ {ws : List (List Nat)}, (∀ t ∈ ws, 32 ∉ t) → noB (TL.joinL [32] ws) = ws.flatten
  | [], _ => by simp [TL.joinL, noB]
  | [a], h => by
    have := h a (List.mem_cons_self ..)
    simp only [TL.joinL, List.flatten_cons, List.flatten_nil, List.append_nil]
    exact noB_self this
  | a :: b :: r, h => by
    have ha := h a (List.mem_cons_self ..)
    rw [show TL.joinL [32] (a :: b :: r) = a ++ ([32] ++ TL.joinL [32] (b :: r)) by simp [TL.joinL], noB_app, noB_app, noB_self ha, noB_join fun t ht => h t (List.mem_cons_of_mem _ ht)]
    rfl
structure Fit (e : En) : Prop where
  room : ((TL.joinL [32] e.wt).length : Int) ≤ roomE e
  sg : ∀ t ∈ e.wt, NoS t
theorem roomE_pos (e : En) : 1 ≤ roomE e := by
  unfold roomE
  omega
theorem fit_empty {e : En} (h : e.wt = []) : Fit e := by
  refine ⟨?_, fun t ht => by rw [h] at ht; cases ht⟩
  rw [h]
  have := roomE_pos e
  show ((([] : List Nat)).length : Int) ≤ _
  simp only [List.length_nil]
  omega
def Eat1 (l : List Nat) (c : CRow) (m : List Nat) : Prop :=
  l = noB c.cs ++ m ∨ ∃ x, noB c.cs = x ++ [45] ∧ c.cs.getLast? = some 45 ∧ l = x ++ m ∧ ∀ y ∈ m, y ≠ 45
inductive Eat : List Nat → List CRow → List Nat → Prop
  | nil (l : List Nat) : Eat l [] l
  | cons {l m n : List Nat} {c : CRow} {r : List CRow} (h : Eat1 l c m) (t : Eat m r n) : Eat l (c :: r) n
theorem Eat.app {l m n : List Nat} {a b : List CRow} (h : Eat l a m) (g : Eat m b n) : Eat l (a ++ b) n := by
  induction h with
  | nil l => exact g
  | cons h _ ih => exact .cons h (ih g)
structure GoodR (c : CRow) : Prop where
  long : decide (c.room < (c.cs.length : Int)) = c.long
  one : c.long = true → 32 ∉ c.cs
def oc : Option (List Nat) → List Nat
  | none => []
  | some z => cells z
theorem front_left {z : List Nat} {k : Nat} (hk : k < (pcsL z).length) : cells z = frontL z k ++ cells (leftL z k) := by
  rw [left_cells hk]
  unfold frontL
  rw [← List.flatten_append, ← List.map_append, List.take_append_drop, cells_pcs]
theorem step_eat {e : En} {z rest : List Nat} (hf : Fit e) (hz : NoS (cells z)) (hr : ∀ x ∈ rest, x ≠ 45) :
    Eat (e.wt.flatten ++ (cells z ++ rest)) (crowE e z) ((stepE e z).1.wt.flatten ++ (oc (stepE e z).2.2.1 ++ rest)) ∧ (∀ c ∈ crowE e z, GoodR c) ∧ Fit (stepE e z).1 ∧ ∀ y, (stepE e z).2.2.1 = some y → NoS (cells y) := by
  have hwb : ∀ t ∈ e.wt, 32 ∉ t := fun t ht => (hf.sg t ht).b
  unfold crowE
  by_cases h : ((TL.joinL [32] (e.wt ++ [cells z])).length : Int) ≤ roomE e
  · obtain ⟨h1, h2⟩ := st_fit h
    rw [h1, h2]
    refine ⟨?_, (fun _ h => by cases h), ⟨h, fun t ht => ?_⟩, (fun _ h => by cases h)⟩
    · show Eat _ [] _
      have : (e.wt ++ [cells z]).flatten ++ (oc none ++ rest) = e.wt.flatten ++ (cells z ++ rest) := by
        rw [List.flatten_append]
        simp [oc]
      rw [this]
      exact .nil _
    · rcases List.mem_append.mp ht with ht | ht
      · exact hf.sg t ht
      · rw [List.mem_singleton] at ht
        rw [ht]
        exact hz
  · by_cases hb : 0 < bestK e.wt (roomE e) z
    · have hbl := bestK_lt _ _ _ hb
      have hfit := fitK_front (bestK_fit hb)
      have hfl := front_left hbl
      rw [show stepE e z = _ from (if_neg h).trans (if_pos hb), show lnE e z = _ from (if_neg h).trans (if_pos hb)]
      generalize bestK e.wt (roomE e) z = b at *
      have hzf : NoS (frontL z b) := fun c hc => hz c (by rw [hfl]; exact List.mem_append_left _ hc)
      have hzl : NoS (cells (leftL z b)) := fun c hc => hz c (by rw [hfl]; exact List.mem_append_right _ hc)
      have hws : ∀ t ∈ e.wt ++ [frontL z b ++ [45]], 32 ∉ t := fun t ht => by
        rcases List.mem_append.mp ht with ht | ht
        · exact hwb t ht
        · rw [List.mem_singleton] at ht
          subst ht
          intro hm
          rcases List.mem_append.mp hm with hm | hm
          · exact hzf.b hm
          · simp at hm
      refine ⟨.cons (.inr ⟨e.wt.flatten ++ frontL z b, ?_, ?_, ?_, ?_⟩) (.nil _), fun c hc => ?_, fit_empty rfl, fun y hy => by cases hy; exact hzl⟩
      · show noB (TL.joinL [32] (e.wt ++ [frontL z b ++ [45]])) = _
        rw [noB_join hws, List.flatten_append]
        simp
      · show (TL.joinL [32] (e.wt ++ [frontL z b ++ [45]])).getLast? = some 45
        have hj : ∀ (ws : List (List Nat)) (u : List Nat), ∃ v, TL.joinL [32] (ws ++ [u ++ [45]]) = v ++ [45] := fun ws u => by
          induction ws with
          | nil => exact ⟨u, by simp [TL.joinL]⟩
          | cons a r ih =>
            obtain ⟨v, hv⟩ := ih
            refine ⟨a ++ ([32] ++ v), ?_⟩
            cases r with
            | nil => simp [TL.joinL] at hv ⊢; exact hv
            | cons b r => 
              rw [show TL.joinL [32] ((a :: b :: r) ++ [u ++ [45]]) = a ++ ([32] ++ TL.joinL [32] ((b :: r) ++ [u ++ [45]])) by simp [TL.joinL], hv]
              simp
        obtain ⟨v, hv⟩ := hj e.wt (frontL z b)
        rw [hv]
        simp
      · rw [hfl]
        show _ = _ ++ (([] : List (List Nat)).flatten ++ (oc (some (leftL z b)) ++ rest))
        simp [oc]
      · intro y hy
        have hy : y ∈ ([] : List (List Nat)).flatten ++ (cells (leftL z b) ++ rest) := hy
        simp only [List.flatten_nil, List.nil_append] at hy
        rcases List.mem_append.mp hy with hy | hy
        · exact (hzl y hy).2
        · exact hr y hy
      · simp only [Option.toList_some, List.map_cons, List.map_nil, List.mem_singleton] at hc
        subst hc
        exact ⟨decide_eq_false (by dsimp only; omega), (fun h => by cases h)⟩
    · by_cases hw : e.wt = []
      · obtain ⟨h1, h2⟩ := st_long h (by omega) hw
        rw [h1, h2]
        rw [hw, List.nil_append] at h
        have hj1 : TL.joinL [32] [cells z] = cells z := by simp [TL.joinL]
        rw [hj1] at h
        refine ⟨.cons (.inl ?_) (.nil _), fun c hc => ?_, fit_empty rfl, (fun _ h => by cases h)⟩
        · rw [hw]
          show _ = noB (cells z) ++ _
          rw [noB_self hz.b]
          simp [oc]
        · simp only [Option.toList_some, List.map_cons, List.map_nil, List.mem_singleton] at hc
          subst hc
          exact ⟨decide_eq_true (by dsimp only; omega), fun _ => hz.b⟩
      · obtain ⟨h1, h2⟩ := st_wait h (by omega) hw
        rw [h1, h2]
        refine ⟨.cons (.inl ?_) (.nil _), fun c hc => ?_, fit_empty rfl, fun y hy => by cases hy; exact hz⟩
        · show _ = noB (TL.joinL [32] e.wt) ++ _
          rw [noB_join hwb]
          simp [oc]
        · simp only [Option.toList_some, List.map_cons, List.map_nil, List.mem_singleton] at hc
          subst hc
          have := hf.room
          exact ⟨decide_eq_false (by dsimp only; omega), (fun h => by cases h)⟩
theorem CF.eat {e : En} {o : Option (List Nat)} {r : List CRow} {e' : En} (h : CF e o r e') {rest : List Nat} (hf : Fit e) (ho : ∀ z, o = some z → NoS (cells z)) (hr : ∀ x ∈ rest, x ≠ 45) :
    Eat (e.wt.flatten ++ (oc o ++ rest)) r (e'.wt.flatten ++ rest) ∧ (∀ c ∈ r, GoodR c) ∧ Fit e' := by
  induction h with
  | nil e => exact ⟨by simp [oc]; exact .nil _, (fun _ h => by cases h), hf⟩
  | @cons e z rows e' h ih =>
    obtain ⟨h1, h2, h3, h4⟩ := step_eat hf (ho z rfl) hr
    obtain ⟨g1, g2, g3⟩ := ih h3 h4
    exact ⟨h1.app g1, fun c hc => (List.mem_append.mp hc).elim (h2 c) (g2 c), g3⟩
theorem CFA.eat {e : En} {ws : List (List Nat)} {r : List CRow} {e' : En} (h : CFA e ws r e') (hf : Fit e) (hw : ∀ z ∈ ws, NoS (cells z)) :
    Eat (e.wt.flatten ++ (ws.map cells).flatten) r e'.wt.flatten ∧ (∀ c ∈ r, GoodR c) ∧ Fit e' := by
  induction h with
  | nil e => exact ⟨by simp; exact .nil _, (fun _ h => by cases h), hf⟩
  | @cons e z ws r1 r2 e1 e2 h g ih =>
    have hrest : ∀ x ∈ (ws.map cells).flatten, x ≠ 45 := fun x hx => by
      obtain ⟨l, hl, hx⟩ := List.mem_flatten.mp hx
      obtain ⟨y, hy, rfl⟩ := List.mem_map.mp hl
      exact (hw y (List.mem_cons_of_mem _ hy) x hx).2
    obtain ⟨h1, h2, h3⟩ := h.eat hf (fun y hy => by cases hy; exact hw z (List.mem_cons_self ..)) hrest
    obtain ⟨g1, g2, g3⟩ := ih h3 fun y hy => hw y (List.mem_cons_of_mem _ hy)
    refine ⟨?_, fun c hc => (List.mem_append.mp hc).elim (h2 c) (g2 c), g3⟩
    rw [List.map_cons, List.flatten_cons]
    exact h1.app g1
theorem Tot.eat {e : En} {ws : List (List Nat)} {r : List CRow} {e' : En} (h : Tot e ws r e') (hf : Fit e) (hw : ∀ z ∈ ws, NoS (cells z)) :
    Eat (e.wt.flatten ++ (ws.map cells).flatten) r [] ∧ ∀ c ∈ r, GoodR c := by
  obtain ⟨c1, e1, h, rfl, rfl⟩ := h
  obtain ⟨h1, h2, h3⟩ := h.eat hf hw
  have hb : Eat e1.wt.flatten (brC e1) [] ∧ ∀ c ∈ brC e1, GoodR c := by
    unfold brC
    split
    · rename_i hw0
      rw [hw0]
      exact ⟨.nil _, (fun _ h => by cases h)⟩
    · refine ⟨.cons (.inl ?_) (.nil _), fun c hc => ?_⟩
      · show _ = noB (TL.joinL [32] e1.wt) ++ []
        rw [noB_join fun t ht => (h3.sg t ht).b, List.append_nil]
      · rw [List.mem_singleton] at hc
        subst hc
        have := h3.room
        exact ⟨decide_eq_false (by dsimp only; omega), (fun h => by cases h)⟩
  exact ⟨h1.app hb.1, fun c hc => (List.mem_append.mp hc).elim (h2 c) (hb.2 c)⟩
end Ts

namespace Ts
open PySem PySem.Spec PyProof.Rows L2
/-! ### strokes told as plus signs -/
def plus (c : Nat) : Nat := if c = 45 then 43 else c
theorem replL_one (l : List Nat) : replL [45] [43] l = l.map plus := by
  induction l with
  | nil => exact PySem.StrLaws.replL_nil
  | cons c r ih =>
    by_cases h : c = 45
    · subst h
      rw [show replL [45] [43] (45 :: r) = _ from PySem.StrLaws.replL_hit (by simp) rfl]
      show 43 :: replL [45] [43] r = 43 :: r.map plus
      rw [ih]
    · rw [show replL [45] [43] (c :: r) = _ from PySem.StrLaws.replL_miss (by simpa using h)]
      show c :: replL [45] [43] r = plus c :: r.map plus
      rw [ih, plus, if_neg h]
abbrev rp : List Nat → List Nat := replL [92, 43] [92, 45]
theorem rp_nil : rp [] = [] := PySem.StrLaws.replL_nil
theorem rp_hit (r : List Nat) : rp ([92, 43] ++ r) = [92, 45] ++ rp r := PySem.StrLaws.replL_hit (by simp) rfl
theorem rp_miss {c : Nat} {r : List Nat} (h : ¬ (c = 92 ∧ r.head? = some 43)) : rp (c :: r) = c :: rp r := by
  refine PySem.StrLaws.replL_miss fun e => h ?_
  cases r with
  | nil => simp at e
  | cons d r => simpa using e
theorem rp_skip {u : List Nat} (h : 92 ∉ u) (r : List Nat) : rp (u ++ r) = u ++ rp r := by
  induction u with
  | nil => rfl
  | cons c u ih =>
    rw [List.cons_append, rp_miss (fun e => h (e.1 ▸ List.mem_cons_self ..)), ih (fun m => h (List.mem_cons_of_mem _ m))]
    rfl
/-- what a piece drawn may end with -/
def Tl (t : List Nat) : Prop := t = [] ∨ t = [92, 92] ∨ t = [92, 97] ∨ t = [92, 92, 98]
theorem rp_tl {t r : List Nat} (h : Tl t) (hr : r.head? ≠ some 43) : rp (t ++ r) = t ++ rp r := by
  rcases h with rfl | rfl | rfl | rfl
  · rfl
  · show rp (92 :: 92 :: r) = 92 :: 92 :: rp r
    rw [rp_miss (by simp), rp_miss fun e => hr e.2]
  · show rp (92 :: 97 :: r) = 92 :: 97 :: rp r
    rw [rp_miss (by simp), rp_miss (by simp)]
  · show rp (92 :: 92 :: 98 :: r) = 92 :: 92 :: 98 :: rp r
    rw [rp_miss (by simp), rp_miss (by simp), rp_miss (by simp)]
/-- a piece drawn: plain signs, and an end -/
def Pc (p : List Nat) : Prop := ∃ u t, p = u ++ t ∧ 92 ∉ u ∧ 32 ∉ u ∧ Tl t
theorem plus_tl {t : List Nat} (h : Tl t) : t.map plus = t := by rcases h with rfl | rfl | rfl | rfl <;> rfl
theorem plus_bs {u : List Nat} (h : 92 ∉ u) : 92 ∉ u.map plus := by
  intro m
  obtain ⟨c, hc, e⟩ := List.mem_map.mp m
  unfold plus at e
  split at e
  · cases e
  · exact h (e ▸ hc)
theorem rp_pc {p r : List Nat} (h : Pc p) (hr : r.head? ≠ some 43) : rp (p.map plus ++ r) = p.map plus ++ rp r := by
  obtain ⟨u, t, rfl, h1, _, h3⟩ := h
  rw [List.map_append, plus_tl h3, List.append_assoc, rp_skip (plus_bs h1), rp_tl h3 hr, List.append_assoc]
/-- both replacements, over a word drawn: its strokes become plus signs, its marks stay -/
theorem replaced : ∀ ps : List (List Nat), (∀ p ∈ ps, Pc p) → rp (replL [45] [43] (TL.joinL mMark ps)) = TL.joinL mMark (ps.map fun p => p.map plus) := by
  intro ps h
  rw [replL_one]
  induction ps with
  | nil => exact rp_nil
  | cons p qs ih =>
    have ih := ih fun q hq => h q (List.mem_cons_of_mem _ hq)
    have hp := h p (List.mem_cons_self ..)
    cases qs with
    | nil =>
      have := rp_pc (r := []) hp (by simp)
      rw [List.append_nil, rp_nil, List.append_nil] at this
      exact this
    | cons q qs =>
      show rp ((p ++ (mMark ++ TL.joinL mMark (q :: qs))).map plus) = p.map plus ++ (mMark ++ TL.joinL mMark ((q :: qs).map fun p => p.map plus))
      rw [← ih, List.map_append, List.map_append]
      show rp (p.map plus ++ ([92, 43] ++ _)) = _
      rw [rp_pc hp (by simp), rp_hit]
theorem plus_45 (c : Nat) : plus c ≠ 45 := by
  unfold plus
  split
  · decide
  · assumption
theorem plus_32 {c : Nat} (h : c ≠ 32) : plus c ≠ 32 := by
  unfold plus
  split
  · decide
  · exact h
theorem Tl.b {t : List Nat} (h : Tl t) : 32 ∉ t := by rcases h with rfl | rfl | rfl | rfl <;> decide
theorem Pc.b {p : List Nat} (h : Pc p) : 32 ∉ p := by
  obtain ⟨u, t, rfl, _, h2, h3⟩ := h
  exact fun m => (List.mem_append.mp m).elim h2 h3.b
theorem Pc.shut {p : List Nat} (h : Pc p) : Shut (p.map plus) := by
  obtain ⟨u, t, rfl, h1, _, h3⟩ := h
  have hu : (u.map plus).getLast? ≠ some 92 := fun e => plus_bs h1 (List.mem_of_getLast? e)
  rw [List.map_append, plus_tl h3]
  rcases h3 with rfl | rfl | rfl | rfl
  · rw [List.append_nil]
    exact shut_of hu
  · exact shut_even hu 1
  · exact shut_of (by simp)
  · exact shut_of (by simp)
theorem nos_pc {p : List Nat} (h : Pc p) : NoS (cells (p.map plus)) := by
  have := cells_lt (P := fun c => c ≠ 32 ∧ c ≠ 45) (by decide) (l := p.map plus) fun c hc => by
    obtain ⟨d, hd, rfl⟩ := List.mem_map.mp hc
    exact ⟨plus_32 fun e => h.b (e ▸ hd), plus_45 d⟩
  exact this
/-- the cells of such a word: no blank, no stroke -/
theorem nos_word : ∀ ps : List (List Nat), (∀ p ∈ ps, Pc p) → NoS (cells (TL.joinL mMark (ps.map fun p => p.map plus)))
  | [], _ => fun c hc => by simp [TL.joinL, cells, toks] at hc
  | [p], h => nos_pc (h p (List.mem_cons_self ..))
  | p :: q :: r, h => by
    have ih := nos_word (q :: r) fun x hx => h x (List.mem_cons_of_mem _ hx)
    have hp := h p (List.mem_cons_self ..)
    have e : cells (TL.joinL mMark ((p :: q :: r).map fun p => p.map plus)) = cells (p.map plus) ++ cells (TL.joinL mMark ((q :: r).map fun p => p.map plus)) := by
      show cells (p.map plus ++ (mMark ++ TL.joinL mMark ((q :: r).map fun p => p.map plus))) = _
      unfold cells
      rw [toks_mark hp.shut]
      simp [cell]
    rw [e]
    intro c hc
    exact (List.mem_append.mp hc).elim (nos_pc hp c) (ih c)
theorem plus_len : ∀ ps : List (List Nat), (TL.joinL mMark (ps.map fun p => p.map plus)).length = (TL.joinL mMark ps).length
  | [] => rfl
  | [p] => List.length_map ..
  | p :: q :: r => by
    show (p.map plus ++ (mMark ++ TL.joinL mMark ((q :: r).map fun p => p.map plus))).length = (p ++ (mMark ++ TL.joinL mMark (q :: r))).length
    rw [List.length_append, List.length_append, plus_len (q :: r), List.length_map, List.length_append, List.length_append]
theorem plus_all {C : Nat → Prop} (h43 : C 43) (h92 : C 92) (h45 : C 45) : ∀ ps : List (List Nat), (∀ c ∈ TL.joinL mMark ps, C c) → ∀ c ∈ TL.joinL mMark (ps.map fun p => p.map plus), C c := by
  have one : ∀ p : List Nat, (∀ c ∈ p, C c) → ∀ c ∈ p.map plus, C c := by
    intro p h c hc
    obtain ⟨d, hd, rfl⟩ := List.mem_map.mp hc
    unfold plus
    split
    · exact h43
    · exact h d hd
  intro ps
  induction ps with
  | nil => exact fun _ c hc => by cases hc
  | cons p qs ih =>
    cases qs with
    | nil => exact one p
    | cons q r =>
      intro h c hc
      have hc : c ∈ p.map plus ++ (mMark ++ TL.joinL mMark ((q :: r).map fun p => p.map plus)) := hc
      have h : ∀ c ∈ p ++ (mMark ++ TL.joinL mMark (q :: r)), C c := h
      rcases List.mem_append.mp hc with m | m
      · exact one p (fun d hd => h d (List.mem_append_left _ hd)) c m
      · rcases List.mem_append.mp m with m | m
        · rcases List.mem_cons.mp m with rfl | m
          · exact h92
          · rw [List.mem_singleton] at m
            exact m ▸ h45
        · exact ih (fun d hd => h d (List.mem_append_right _ (List.mem_append_right _ hd))) c m
end Ts

namespace Ts
open PySem PySem.Spec PyProof.Rows L2
/-! ### registers and strings as dicts -/
abbrev Reg := Int × Int × List Nat
abbrev Regs := List (List Nat × Reg)
abbrev Strs := List (List Nat × List Nat)
abbrev kS (n : List Nat) : Key := Sum.inr (S n)
theorem kS_inj {m n : List Nat} : kS m = kS n ↔ m = n := by
  constructor
  · intro h
    exact S_inj.mp (Sum.inr.inj h)
  · intro h
    rw [h]
def lookA {α : Type} : List (List Nat × α) → List Nat → Option α
  | [], _ => none
  | (m, r) :: rs, n => if m = n then some r else lookA rs n
def putA {α : Type} : List (List Nat × α) → List Nat → α → List (List Nat × α)
  | [], n, r => [(n, r)]
  | (m, x) :: rs, n, r => if m = n then (m, r) :: rs else (m, x) :: putA rs n r
/-- entries by what A says of each value -/
def EntA {α : Type} (A : V → α → Prop) : List (Key × V) → List (List Nat × α) → Prop
  | [], [] => True
  | (k, v) :: kvs, (n, r) :: rs => k = kS n ∧ A v r ∧ EntA A kvs rs
  | _, _ => False
def NoDupA {α : Type} (rs : List (List Nat × α)) : Prop := (rs.map (·.1)).Nodup
theorem EntA.mono {α : Type} {A B : V → α → Prop} (h : ∀ v r, A v r → B v r) : ∀ {kvs : List (Key × V)} {rs : List (List Nat × α)}, EntA A kvs rs → EntA B kvs rs
  | [], [], _ => trivial
  | (_, _) :: _, (_, _) :: _, e => ⟨e.1, h _ _ e.2.1, EntA.mono h e.2.2⟩
  | [], _ :: _, e => e.elim
  | _ :: _, [], e => e.elim
theorem EntA.len {α : Type} {A : V → α → Prop} : ∀ {kvs : List (Key × V)} {rs : List (List Nat × α)}, EntA A kvs rs → kvs.length = rs.length
  | [], [], _ => rfl
  | (_, _) :: _, (_, _) :: _, e => congrArg (· + 1) (EntA.len e.2.2)
  | [], _ :: _, e => e.elim
  | _ :: _, [], e => e.elim
theorem EntA.look {α : Type} {A : V → α → Prop} {n : List Nat} : ∀ {kvs : List (Key × V)} {rs : List (List Nat × α)}, EntA A kvs rs → (lookA rs n = none ∧ valV kvs (kS n) = none) ∨ ∃ r v, lookA rs n = some r ∧ valV kvs (kS n) = some v ∧ A v r
  | [], [], _ => .inl ⟨rfl, rfl⟩
  | (k, v) :: kvs, (m, r) :: rs, ⟨h1, h2, h3⟩ => by
    subst h1
    by_cases e : m = n
    · subst e
      exact .inr ⟨r, v, by rw [lookA, if_pos rfl], valV_pos rfl, h2⟩
    · have ne : ¬ kS m = kS n := fun h => e (kS_inj.mp h)
      rcases EntA.look (n := n) h3 with ⟨g1, g2⟩ | ⟨r', v', g1, g2, g3⟩
      · exact .inl ⟨by rw [lookA, if_neg e]; exact g1, by rw [valV_neg ne]; exact g2⟩
      · exact .inr ⟨r', v', by rw [lookA, if_neg e]; exact g1, by rw [valV_neg ne]; exact g2, g3⟩
  | [], _ :: _, e => e.elim
  | _ :: _, [], e => e.elim
theorem putK_nil (k : Key) (v : V) : putK [] k v = [(k, v)] := rfl
theorem putK_same {k m : Key} {x v : V} {r : List (Key × V)} (h : k ∉ r.map (·.1)) (e : m = k) : putK ((m, x) :: r) k v = (m, v) :: r := by
  unfold putK
  subst e
  rw [List.any_cons, decide_eq_true rfl, Bool.true_or, if_pos rfl, List.map_cons, if_pos rfl]
  congr 1
  refine (List.map_congr_left fun kv hkv => ?_).trans (List.map_id _)
  rw [if_neg fun e => h (List.mem_map.mpr ⟨kv, hkv, e⟩)]
  rfl
theorem putK_other {k m : Key} {x v : V} {r : List (Key × V)} (e : ¬ m = k) : putK ((m, x) :: r) k v = (m, x) :: putK r k v := by
  unfold putK
  rw [List.any_cons, decide_eq_false e, Bool.false_or]
  split
  · rw [List.map_cons, if_neg e]
  · rfl
theorem EntA.keys {α : Type} {A : V → α → Prop} : ∀ {kvs : List (Key × V)} {rs : List (List Nat × α)}, EntA A kvs rs → kvs.map (·.1) = rs.map fun r => kS r.1
  | [], [], _ => rfl
  | (_, _) :: _, (_, _) :: _, e => by
    rw [List.map_cons, List.map_cons, EntA.keys e.2.2]
    exact congrArg (· :: _) e.1
  | [], _ :: _, e => e.elim
  | _ :: _, [], e => e.elim
theorem EntA.put {α : Type} {A : V → α → Prop} {n : List Nat} {w : V} {x : α} (hw : A w x) : ∀ {kvs : List (Key × V)} {rs : List (List Nat × α)}, EntA A kvs rs → NoDupA rs → EntA A (putK kvs (kS n) w) (putA rs n x)
  | [], [], _, _ => ⟨rfl, hw, trivial⟩
  | (k, v) :: kvs, (m, r) :: rs, ⟨h1, h2, h3⟩, hd => by
    subst h1
    have hd2 := List.nodup_cons.mp hd
    by_cases e : m = n
    · subst e
      rw [putK_same (fun h => ?_) rfl, putA, if_pos rfl]
      · exact ⟨rfl, hw, h3⟩
      · rw [h3.keys] at h
        obtain ⟨q, hq, e⟩ := List.mem_map.mp h
        exact hd2.1 (List.mem_map.mpr ⟨q, hq, kS_inj.mp e⟩)
    · rw [putK_other (fun h => e (kS_inj.mp h)), putA, if_neg e]
      exact ⟨rfl, h2, EntA.put hw h3 hd2.2⟩
  | [], _ :: _, e, _ => e.elim
  | _ :: _, [], e, _ => e.elim
theorem putA_keys {α : Type} {n : List Nat} {x : α} : ∀ {rs : List (List Nat × α)} {r : α}, lookA rs n = some r → (putA rs n x).map (·.1) = rs.map (·.1)
  | [], _, h => by cases h
  | (m, y) :: rs, r, h => by
    rw [putA]
    by_cases e : m = n
    · rw [if_pos e]; rfl
    · rw [if_neg e, List.map_cons, List.map_cons]
      rw [lookA, if_neg e] at h
      rw [putA_keys h]
theorem look_put {α : Type} {n : List Nat} {x : α} : ∀ {rs : List (List Nat × α)}, lookA (putA rs n x) n = some x
  | [] => by rw [putA, lookA, if_pos rfl]
  | (m, y) :: rs => by
    rw [putA]
    by_cases e : m = n
    · rw [if_pos e, lookA, if_pos e]
    · rw [if_neg e, lookA, if_neg e, look_put]
theorem look_put_other {α : Type} {n m : List Nat} {x : α} (h : m ≠ n) : ∀ {rs : List (List Nat × α)}, lookA (putA rs n x) m = lookA rs m
  | [] => by
    show (if n = m then some x else none) = none
    rw [if_neg (fun e => h e.symm)]
  | (k, y) :: rs => by
    rw [putA]
    by_cases e : k = n
    · have hk : ¬ k = m := fun z => h (z.symm.trans e)
      rw [if_pos e]
      show (if k = m then some x else lookA rs m) = (if k = m then some y else lookA rs m)
      rw [if_neg hk, if_neg hk]
    · rw [if_neg e]
      show (if k = m then some y else lookA (putA rs n x) m) = (if k = m then some y else lookA rs m)
      rw [look_put_other h]
/-- a register as it lies -/
def RgV (K : PySem.W.Frag) (H : Hp) (v : V) (r : Reg) : Prop := ∃ b, v = .ref b ∧ SqT K H b [.int r.1, .int r.2.1, .str (S r.2.2)]
def StV (v : V) (t : List Nat) : Prop := v = .str (S t)
def RgsAt (K : PySem.W.Frag) (H : Hp) (a : Addr) (rs : Regs) : Prop := ∃ kvs, Rd H a (.dK kvs) ∧ EntA (RgV K H) kvs rs
def RgsW (K : PySem.W.Frag) (H : Hp) (a : Addr) (rs : Regs) : Prop := ∃ kvs, H a = some (.dK kvs) ∧ EntA (RgV K H) kvs rs
def SrsAt (H : Hp) (a : Addr) (ss : Strs) : Prop := ∃ kvs, Rd H a (.dK kvs) ∧ EntA StV kvs ss
theorem rd_ex {H H' : Hp} {a : Addr} {u : HO} (e : Ex H H') : Rd H a u → Rd H' a u := fun h => h.elim (fun h => .inl (e _ _ h)) fun ⟨o, h⟩ => .inr ⟨o, e _ _ h⟩
theorem rd_kp {H H' : Hp} {a l : Addr} {u : HO} (e : Kp l H H') (n : a ≠ l) : Rd H a u → Rd H' a u := fun h => h.elim (fun h => .inl (e _ _ n h)) fun ⟨o, h⟩ => .inr ⟨o, e _ _ n h⟩
theorem RgV.ex {K : PySem.W.Frag} {H H' : Hp} {v : V} {r : Reg} (e : Ex H H') : RgV K H v r → RgV K H' v r := fun ⟨b, h, h1⟩ => ⟨b, h, Ex.T e h1⟩
theorem RgV.kd {K : PySem.W.Frag} {H H' : Hp} {l : Addr} {v : V} {r : Reg} (k : Kp l H H') (d : Od H l) : RgV K H v r → RgV K H' v r := fun ⟨b, h, h1⟩ => ⟨b, h, Kp.Td k d h1⟩
theorem RgV.kl {K : PySem.W.Frag} {H H' : Hp} {l : Addr} {v : V} {r : Reg} (k : Kp l H H') (d : Ol H l) : RgV K H v r → RgV K H' v r := fun ⟨b, h, h1⟩ => ⟨b, h, Kp.Tl k d h1⟩
theorem RgsAt.ex {K : PySem.W.Frag} {H H' : Hp} {a : Addr} {rs : Regs} (e : Ex H H') : RgsAt K H a rs → RgsAt K H' a rs := fun ⟨kvs, h, h1⟩ => ⟨kvs, rd_ex e h, h1.mono fun _ _ => RgV.ex e⟩
theorem RgsW.ex {K : PySem.W.Frag} {H H' : Hp} {a : Addr} {rs : Regs} (e : Ex H H') : RgsW K H a rs → RgsW K H' a rs := fun ⟨kvs, h, h1⟩ => ⟨kvs, e _ _ h, h1.mono fun _ _ => RgV.ex e⟩
theorem RgsW.at {K : PySem.W.Frag} {H : Hp} {a : Addr} {rs : Regs} : RgsW K H a rs → RgsAt K H a rs := fun ⟨kvs, h, h1⟩ => ⟨kvs, .inl h, h1⟩
theorem RgsW.od {K : PySem.W.Frag} {H : Hp} {a : Addr} {rs : Regs} : RgsW K H a rs → Od H a := fun ⟨kvs, h, _⟩ => ⟨kvs, h⟩
theorem RgsAt.kd {K : PySem.W.Frag} {H H' : Hp} {a l : Addr} {rs : Regs} (k : Kp l H H') (n : a ≠ l) (d : Od H l) : RgsAt K H a rs → RgsAt K H' a rs := fun ⟨kvs, h, h1⟩ => ⟨kvs, rd_kp k n h, h1.mono fun _ _ => RgV.kd k d⟩
theorem RgsAt.kl {K : PySem.W.Frag} {H H' : Hp} {a l : Addr} {rs : Regs} (k : Kp l H H') (n : a ≠ l) (d : Ol H l) : RgsAt K H a rs → RgsAt K H' a rs := fun ⟨kvs, h, h1⟩ => ⟨kvs, rd_kp k n h, h1.mono fun _ _ => RgV.kl k d⟩
theorem SrsAt.ex {H H' : Hp} {a : Addr} {ss : Strs} (e : Ex H H') : SrsAt H a ss → SrsAt H' a ss := fun ⟨kvs, h, h1⟩ => ⟨kvs, rd_ex e h, h1⟩
theorem SrsAt.kp {H H' : Hp} {a l : Addr} {ss : Strs} (k : Kp l H H') (n : a ≠ l) : SrsAt H a ss → SrsAt H' a ss := fun ⟨kvs, h, h1⟩ => ⟨kvs, rd_kp k n h, h1⟩
/-! ### reading dicts -/
section
variable {σ : L2.St} {H : Hp} {Q : VK} {ty td tx : TE} {a : Addr} {K : PySem.W.Frag} {n : List Nat} {x y v : V}
def InD (x y : V) (H : Hp) (Q : VK) : Prop := ∃ a o, x = .ref a ∧ DGet H a y o ∧ Q (.bl o.isSome) H
def NotInD (x y : V) (H : Hp) (Q : VK) : Prop := ∃ a o, x = .ref a ∧ DGet H a y o ∧ Q (.bl (!o.isSome)) H
theorem r_din (q : ty σ H fun y H1 => td σ H1 fun x H2 => InD x y H2 Q) : tDIn ty td σ H Q := q
theorem r_dnotin (q : ty σ H fun y H1 => td σ H1 fun x H2 => NotInD x y H2 Q) : tDNotIn ty td σ H Q := q
theorem u_dnotin {rs : Regs} (h : RgsAt K H a rs) (q : Q (.bl (!(lookA rs n).isSome)) H) : NotInD (.ref a) (.str (S n)) H Q := by
  obtain ⟨kvs, h1, h2⟩ := h
  refine ⟨a, _, rfl, .inl ⟨kvs, kS n, h1, rfl, rfl⟩, ?_⟩
  rcases h2.look (n := n) with ⟨g1, g2⟩ | ⟨r, v, g1, g2, _⟩
  · rw [g2]; rw [g1] at q; exact q
  · rw [g2]; rw [g1] at q; exact q
theorem u_dget {rs : Regs} {r : Reg} (h : RgsAt K H a rs) (hl : lookA rs n = some r) (q : ∀ b, SqT K H b [.int r.1, .int r.2.1, .str (S r.2.2)] → Q (.ref b) H) : GetD (.ref a) (.str (S n)) H Q := by
  obtain ⟨kvs, h1, h2⟩ := h
  rcases h2.look (n := n) with ⟨g1, g2⟩ | ⟨r', v, g1, g2, b, rfl, h3⟩
  · rw [g1] at hl; cases hl
  · rw [g1] at hl
    cases hl
    exact ⟨a, .ref b, rfl, by rw [← g2]; exact .inl ⟨kvs, kS n, h1, rfl, rfl⟩, q b h3⟩
theorem u_dput {rs : Regs} {r : Reg} {b : Addr} {C : Hp → Prop} (h : RgsW K H a rs) (hd : NoDupA rs) (hl : rs.length < 1000000) (hb : SqT K H b [.int r.1, .int r.2.1, .str (S r.2.2)])
    (q : ∀ H', Kp a H H' → RgsW K H' a (putA rs n r) → C H') : PutD (.ref a) (.str (S n)) (.ref b) H C := by
  have hod := h.od
  obtain ⟨kvs, h1, h2⟩ := h
  have hlen := h2.len
  have hk : Kp a H (upd H a (.dK (putK kvs (kS n) (.ref b)))) := Kp.upd
  refine ⟨a, _, rfl, .inl ⟨kvs, kS n, h1, rfl, Nat.lt_of_lt_of_le (m := 1000000) (by omega) (by decide), rfl⟩, q _ hk ⟨_, upd_same, ?_⟩⟩
  exact (h2.put (A := RgV K H) ⟨b, rfl, hb⟩ hd).mono fun _ _ => RgV.kd hk hod
def DGet2K (x : V) (H1 : Hp) (P : Prop) : Prop := ∃ a, x = .ref a ∧ IsD H1 a ∧ P
def Got2 (x y z : V) (H : Hp) (Q : VK) : Prop := ∃ a o, x = .ref a ∧ DGet H a y o ∧ Q (o.getD z) H
theorem u_dget2 {ss : Strs} {z : List Nat} (h : SrsAt H a ss) (hy : ∀ QQ : VK, QQ (.str (S n)) H → ty σ H QQ) (hz : ∀ QQ : VK, QQ (.str (S z)) H → tx σ H QQ) (hd : ∀ QQ : VK, QQ (.ref a) H → td σ H QQ)
    (q : Q (.str (S ((lookA ss n).getD z))) H) : tDGet2 td ty tx σ H Q := by
  obtain ⟨kvs, h1, h2⟩ := h
  refine hd _ ⟨a, rfl, .inl ⟨kvs, h1⟩, hy _ (hz _ ⟨_, .inl ⟨kvs, kS n, h1, rfl, rfl⟩, ?_⟩)⟩
  rcases h2.look (n := n) with ⟨g1, g2⟩ | ⟨r, v, g1, g2, g3⟩
  · rw [g2]; rw [g1] at q; exact q
  · rw [g2]; rw [g1] at q; rw [show v = _ from g3]; exact q
def rDictOf : List V → Hp → VK → Prop := fun xs H Q => ∃ (a : Addr) (kvs : List (Key × V)), xs = [.ref a] ∧ Rd H a (.dK kvs) ∧ ∀ p, H p = none → Q (.ref p) (upd H p (.dK kvs))
theorem u_dictOf {rs : Regs} (h : RgsAt K H a rs) (q : ∀ p H', H p = none → Ex H H' → RgsW K H' p rs → Q (.ref p) H') : rDictOf [.ref a] H Q := by
  obtain ⟨kvs, h1, h2⟩ := h
  refine ⟨a, kvs, rfl, h1, fun p np => q p _ np (Evl.Ex.new np) ⟨kvs, upd_same, h2.mono fun _ _ => RgV.ex (Evl.Ex.new np)⟩⟩
end
section
variable {X : Cx}
theorem c_dictOf : CallR X (.type "dict") rDictOf := call_dictD
end
/-! ### removeprefix -/
def stripP (l : List Nat) : List Nat := if l.head? = some 43 then l.drop 1 else l
theorem rmp_S (l : List Nat) : Txt.removeprefix (S l) (S [43]) = S (stripP l) := by
  rw [PySem.StrLaws.removeprefix_eq]
  rw [S_len, S_len, S_cps]
  have hs : PySem.Builtin.Str.subAt (S l) (S [43]) 0 = decide (l.head? = some 43) := by
    unfold PySem.Builtin.Str.subAt
    rw [S_len]
    cases l with
    | nil => rfl
    | cons c r =>
      show (((S (c :: r)).cps.extract 0 (0 + 1)) == (S [43]).cps) = _
      have : (S (c :: r)).cps.extract 0 (0 + 1) = #[c] := by simp [S]
      rw [this]
      by_cases e : c = 43
      · subst e; rfl
      · have : ¬ (some c = some 43) := fun h => e (Option.some.inj h)
        rw [List.head?_cons, decide_eq_false this]
        simp [S, e]
  rw [hs]
  unfold stripP
  by_cases h : l.head? = some 43
  · have hl : 1 ≤ l.length := by
      cases l with
      | nil => cases h
      | cons => simp
    rw [if_pos h, decide_eq_true h, decide_eq_true (by simpa using hl), Bool.true_and, if_pos rfl]
    show S _ = S _
    rw [S_inj, List.take_of_length_le (by rw [List.length_drop]; exact Nat.le_refl _)]
    rfl
  · rw [if_neg h, decide_eq_false h, Bool.and_false, if_neg (by decide)]
def rRmp : V → List V → Hp → VK → Prop := fun x xs H Q => ∃ a b, x = .str a ∧ xs = [.str b] ∧ a.length ≤ sizeLine ∧ Q (.str (Txt.removeprefix a b)) H
theorem mt_rmpW {X : Cx} : MtR X "str.removeprefix" rRmp := mt_removeprefix
theorem r_rmp {l : List Nat} {H : Hp} {Q : VK} (h : l.length ≤ 1000000) (q : Q (.str (S (stripP l))) H) : rRmp (.str (S l)) [.str (S [43])] H Q :=
  ⟨_, _, rfl, rfl, by rw [S_len]; exact Nat.le_trans h (by decide), by rw [rmp_S]; exact q⟩
theorem stripP_len (l : List Nat) : (stripP l).length ≤ l.length := by
  unfold stripP
  split
  · rw [List.length_drop]; omega
  · exact Nat.le_refl _
/-! ### what is told within a line -/
def nmB (z : List Nat) : Bool := decide ((1 : Int) ≤ z.length ∧ (z.length : Int) ≤ 6) && lets z
def justL (x : List Nat) (ins : List Nat) : Bool :=
  if x = [82] then nmB (stripP ins) else if x = [83] then nmB ins else decide (x = [65]) && (decide (ins.length = 1) && decide (∃ c ∈ ins, 48 ≤ c ∧ c ≤ 57))
/-- the letter and the inside of what is told at the beginning, or two empty texts -/
def toldL (l : List Nat) : List Nat × List Nat :=
  if l.take 1 = [92] ∧ (l.drop 2).take 1 = [40] then
    if 41 ∈ l.drop 3 ∧ justL ((l.drop 1).take 1) (ahead 41 (l.drop 3)) = true then ((l.drop 1).take 1, ahead 41 (l.drop 3)) else ([], [])
  else ([], [])
abbrev stepless : List (List Nat) := [[112, 110], [118, 112], [100, 110], [100, 119]]
def stepR (r : Reg) : Reg := (max (-9999) (min (r.1 + r.2.1) 9999), r.2.1, r.2.2)
def numA (ins : List Nat) : Nat := (ins.getD 0 48) - 48
def argL (k : Nat) (as : List (List Nat)) : List Nat := if k = 0 then dig as.length else if k ≤ as.length then as.getD (k - 1) [] else []
def oneR (x ins : List Nat) (rs : Regs) : Regs :=
  if x = [83] then rs else if x = [65] then rs else
  match lookA rs (stripP ins) with
  | none => rs
  | some r => if stripP ins ≠ ins ∧ stripP ins ∉ stepless then putA rs (stripP ins) (stepR r) else rs
def oneT (x ins : List Nat) (rs : Regs) (ss : Strs) (as : List (List Nat)) : List Nat :=
  if x = [83] then (if 3 ≤ ins.length then (lookA ss ins).getD [] else [])
  else if x = [65] then argL (numA ins) as
  else match lookA (oneR x ins rs) (stripP ins) with
    | none => [48]
    | some r => shownN r.1 r.2.2
/-- the line put in: what is told from here on, and the registers behind -/
inductive Puts (ss : Strs) (as : List (List Nat)) : List Nat → Regs → List Nat → Regs → Prop
  | nil (rs : Regs) : Puts ss as [] rs [] rs
  | told {l u : List Nat} {rs rs' : Regs} (n : (toldL l).1 ≠ []) (p : Puts ss as (l.drop ((toldL l).2.length + 4)) (oneR (toldL l).1 (toldL l).2 rs) u rs') : Puts ss as l rs (oneT (toldL l).1 (toldL l).2 rs ss as ++ u) rs'
  | two {l u : List Nat} {rs rs' : Regs} (n : (toldL l).1 = []) (h : l.take 2 = [92, 92]) (p : Puts ss as (l.drop 2) rs u rs') : Puts ss as l rs ([92, 92] ++ u) rs'
  | one {l u : List Nat} {rs rs' : Regs} (n : (toldL l).1 = []) (h : l.take 2 ≠ [92, 92]) (e : l ≠ []) (p : Puts ss as (l.drop 1) rs u rs') : Puts ss as l rs (l.take 1 ++ u) rs'
theorem told_len {l : List Nat} (h : (toldL l).1 ≠ []) : (toldL l).2.length + 4 ≤ l.length ∧ (toldL l).1.length = 1 ∧ justL (toldL l).1 (toldL l).2 = true ∧ l.take 1 = [92] := by
  unfold toldL at h ⊢
  split at h
  · rename_i h1
    split at h
    · rename_i h2
      rw [if_pos h1, if_pos h2]
      have h3 : (ahead 41 (l.drop 3)).length < (l.drop 3).length := by
        have : ∀ z : List Nat, 41 ∈ z → (ahead 41 z).length < z.length := fun z hz => by
          induction z with
          | nil => cases hz
          | cons c r ih =>
            by_cases e : c = 41
            · subst e
              rw [show ahead 41 (41 :: r) = [] from rfl]
              simp
            · have hr : 41 ∈ r := by
                rcases List.mem_cons.mp hz with q | q
                · exact absurd q.symm e
                · exact q
              have he : ahead 41 (c :: r) = c :: ahead 41 r := by
                show List.takeWhile _ _ = _
                rw [List.takeWhile_cons, if_pos (by simpa using e)]
              rw [he, List.length_cons, List.length_cons]
              have := ih hr
              omega
        exact this _ h2.1
      rw [List.length_drop] at h3
      refine ⟨by dsimp only; omega, ?_, h2.2, h1.1⟩
      dsimp only
      rw [List.length_take, List.length_drop]
      omega
    · exact absurd rfl h
  · exact absurd rfl h
theorem Puts.one' {ss : Strs} {as : List (List Nat)} {l u v : List Nat} {rs r1 r2 : Regs} (h : Puts ss as l rs u r1) (g : Puts ss as l rs v r2) : u = v ∧ r1 = r2 := by
  induction h generalizing v r2 with
  | nil rs =>
    cases g with
    | nil => exact ⟨rfl, rfl⟩
    | told n p => exact absurd rfl n
    | two n h p => cases h
    | one n h e p => exact absurd rfl e
  | told n p ih =>
    cases g with
    | nil => exact absurd rfl n
    | told n' p' => obtain ⟨h1, h2⟩ := ih p'; exact ⟨by rw [h1], h2⟩
    | two n' h p' => exact absurd n' n
    | one n' h e p' => exact absurd n' n
  | two n h p ih =>
    cases g with
    | nil => cases h
    | told n' p' => exact absurd n n'
    | two n' h p' => obtain ⟨h1, h2⟩ := ih p'; exact ⟨by rw [h1], h2⟩
    | one n' h' e p' => exact absurd h h'
  | one n h e p ih =>
    cases g with
    | nil => exact absurd rfl e
    | told n' p' => exact absurd n n'
    | two n' h' p' => exact absurd h' h
    | one n' h' e' p' => obtain ⟨h1, h2⟩ := ih p'; exact ⟨by rw [h1], h2⟩
theorem Puts.ex' (ss : Strs) (as : List (List Nat)) : ∀ (n : Nat) (l : List Nat) (rs : Regs), l.length ≤ n → ∃ u r', Puts ss as l rs u r'
  | _, [], rs, _ => ⟨_, _, .nil rs⟩
  | 0, c :: r, rs, h => by simp at h
  | n + 1, c :: r, rs, h => by
    have hl : (c :: r).length ≤ n + 1 := h
    by_cases ht : (toldL (c :: r)).1 = []
    · by_cases h2 : (c :: r).take 2 = [92, 92]
      · obtain ⟨u, r', p⟩ := Puts.ex' ss as n ((c :: r).drop 2) rs (by rw [List.length_drop]; omega)
        exact ⟨_, _, .two ht h2 p⟩
      · obtain ⟨u, r', p⟩ := Puts.ex' ss as n ((c :: r).drop 1) rs (by rw [List.length_drop]; omega)
        exact ⟨_, _, .one ht h2 (by simp) p⟩
    · obtain ⟨u, r', p⟩ := Puts.ex' ss as n ((c :: r).drop ((toldL (c :: r)).2.length + 4)) (oneR (toldL (c :: r)).1 (toldL (c :: r)).2 rs) (by rw [List.length_drop]; omega)
      exact ⟨_, _, .told ht p⟩
theorem Puts.ex (ss : Strs) (as : List (List Nat)) (l : List Nat) (rs : Regs) : ∃ u r', Puts ss as l rs u r' := Puts.ex' ss as _ l rs (Nat.le_refl _)
/-! ### bounds -/
structure OkRg (rs : Regs) : Prop where
  nd : NoDupA rs
  len : rs.length ≤ 1000
  bd : ∀ x ∈ rs, -100000 ≤ x.2.1 ∧ x.2.1 ≤ 100000 ∧ -100000 ≤ x.2.2.1 ∧ x.2.2.1 ≤ 100000 ∧ x.2.2.2.length ≤ 10
structure OkSt (ss : Strs) : Prop where
  bd : ∀ x ∈ ss, x.2.length ≤ 1000
theorem look_mem {α : Type} {n : List Nat} {r : α} : ∀ {rs : List (List Nat × α)}, lookA rs n = some r → (n, r) ∈ rs
  | [], h => by cases h
  | (m, x) :: rs, h => by
    rw [lookA] at h
    split at h
    · rename_i e
      cases h
      subst e
      exact List.mem_cons_self ..
    · exact List.mem_cons_of_mem _ (look_mem h)
theorem put_mem {α : Type} {n : List Nat} {r : α} {y : List Nat × α} : ∀ {rs : List (List Nat × α)}, y ∈ putA rs n r → y ∈ rs ∨ y.2 = r
  | [], h => by
    rw [putA, List.mem_singleton] at h
    exact .inr (by rw [h])
  | (m, x) :: rs, h => by
    rw [putA] at h
    split at h
    · rcases List.mem_cons.mp h with h | h
      · exact .inr (by rw [h])
      · exact .inl (List.mem_cons_of_mem _ h)
    · rcases List.mem_cons.mp h with h | h
      · exact .inl (by rw [h]; exact List.mem_cons_self ..)
      · exact (put_mem h).imp (List.mem_cons_of_mem _) id
theorem OkRg.put {rs : Regs} (h : OkRg rs) {n : List Nat} {r : Reg} (hl : lookA rs n = some r) : OkRg (putA rs n (stepR r)) := by
  have hr := h.bd _ (look_mem hl)
  have hk := putA_keys (x := stepR r) hl
  refine ⟨by unfold NoDupA; rw [hk]; exact h.nd, ?_, fun x hx => ?_⟩
  · have := congrArg List.length hk
    rw [List.length_map, List.length_map] at this
    rw [this]
    exact h.len
  · rcases put_mem hx with hx | hx
    · exact h.bd x hx
    · rw [hx]
      unfold stepR
      dsimp only at hr ⊢
      omega
theorem OkRg.one {rs : Regs} (h : OkRg rs) (x ins : List Nat) : OkRg (oneR x ins rs) := by
  unfold oneR
  split
  · exact h
  · split
    · exact h
    · split
      · exact h
      · rename_i r hl
        split
        · exact h.put hl
        · exact h
/-! ### one sign in a text -/
def rInSg : R2 := fun x y H Q => ∃ (c : Nat) (z : Str), x = .str ⟨#[c]⟩ ∧ y = .str z ∧ Q (.bl (decide (c ∈ z.cps.toList))) H
theorem o_inSg {X : Cx} : OpR X (compareOp .In) rInSg := op_in_sign
abbrev figs : List Nat := [48, 49, 50, 51, 52, 53, 54, 55, 56, 57]
theorem figs_iff (c : Nat) : c ∈ figs ↔ 48 ≤ c ∧ c ≤ 57 := by
  simp only [figs, List.mem_cons, List.not_mem_nil, or_false]
  omega
theorem r_inSg {l : List Nat} {H : Hp} {Q : VK} (h : (l.length : Int) = 1) (q : Q (.bl (decide (∃ c ∈ l, 48 ≤ c ∧ c ≤ 57))) H) : rInSg (.str (S l)) (.str (S figs)) H Q := by
  match l, h with
  | [c], _ =>
    refine ⟨c, S figs, rfl, rfl, ?_⟩
    have e : decide (c ∈ (S figs).cps.toList) = decide (∃ d ∈ [c], 48 ≤ d ∧ d ≤ 57) := by
      have : (c ∈ (S figs).cps.toList) ↔ ∃ d ∈ [c], 48 ≤ d ∧ d ≤ 57 := by
        rw [S_cps, figs_iff]
        simp
      simp only [this]
    rw [e]
    exact q
theorem int_one {c : Nat} (h : 48 ≤ c ∧ c ≤ 57) : intText? (S [c]) = some ((c - 48 : Nat) : Int) := by
  have : c ∈ figs := (figs_iff c).mpr h
  simp only [figs, List.mem_cons, List.not_mem_nil, or_false] at this
  rcases this with rfl | rfl | rfl | rfl | rfl | rfl | rfl | rfl | rfl | rfl <;> exact SX.int_S (by decide) (by simp) (by decide)
def rIntS : List V → Hp → VK → Prop := fun xs H Q => ∃ a n, xs = [V.str a] ∧ intText? a = some n ∧ a.length ≤ 640 ∧ Q (V.int n) H
theorem c_intS {X : Cx} : CallR X (.type "int") rIntS := call_int_str
theorem r_int1 {c : Nat} {H : Hp} {Q : VK} (h : 48 ≤ c ∧ c ≤ 57) (q : Q (.int ((c - 48 : Nat) : Int)) H) : rIntS [.str (S [c])] H Q := ⟨S [c], _, rfl, int_one h, by rw [S_len]; show 1 ≤ 640; decide, q⟩
theorem just_A {ins : List Nat} (h : justL [65] ins = true) : ∃ c, ins = [c] ∧ 48 ≤ c ∧ c ≤ 57 := by
  unfold justL at h
  rw [if_neg (by decide), if_neg (by decide)] at h
  simp only [Bool.and_eq_true, decide_eq_true_eq] at h
  obtain ⟨_, h1, c, hc, h2⟩ := h
  match ins, h1 with
  | [d], _ =>
    rw [List.mem_singleton] at hc
    exact ⟨d, rfl, by omega⟩
theorem r_notInTx {K : PySem.W.Frag} {a : Addr} {xs : List V} {H : Hp} {Q : VK} {z : List Nat} (ys : List (List Nat)) (h : SqT K H a xs) (e : xs = ys.map fun y => .str (S y)) (q : Q (.bl (!decide (z ∈ ys))) H) : rIn K true (.str (S z)) (.ref a) H Q := by
  subst e
  exact ⟨a, _, rfl, .inr h, rfl, all_flat_S ys, by rw [if_pos rfl, inV_S]; exact q⟩
end Ts

namespace Ts
open PySem PySem.Spec PyProof.Rows L2
/-! ### words of a line without strokes -/
theorem toks_plain1 : ∀ {u : List Nat}, (∀ c ∈ u, c ≠ 92) → toks u = u.map fun c => [c]
  | [], _ => rfl
  | [c], _ => rfl
  | c :: d :: r, h => by
    have hc := h c (List.mem_cons_self ..)
    have ih := toks_plain1 (u := d :: r) fun x hx => h x (List.mem_cons_of_mem _ hx)
    rw [toks, if_neg, ih]
    · rfl
    · intro hm
      simp only [List.mem_cons, List.not_mem_nil, or_false, List.cons.injEq] at hm
      omega
theorem cells_plain1 {u : List Nat} (h : ∀ c ∈ u, c ≠ 92) : cells u = u := by
  unfold cells
  rw [toks_plain1 h, List.map_map, show (cell ∘ fun c => [c]) = fun c => [c] from funext fun c => by
    show cell [c] = [c]
    unfold cell
    rw [if_neg (by simp), if_neg (by simp)]]
  clear h
  induction u with
  | nil => rfl
  | cons c r ih => rw [List.map_cons, List.flatten_cons, ih]; rfl
theorem segs_spl : ∀ (z acc : List Nat), segs (z.map fun c => [c]) acc = spl 32 acc z
  | [], acc => by rw [spl_nil]; rfl
  | c :: r, acc => by
    rw [List.map_cons, segs]
    by_cases h : c = 32
    · subst h
      rw [if_pos (by decide), spl_is, segs_spl r []]
    · rw [if_neg (by
        intro hm
        simp only [isSep, List.mem_cons, List.not_mem_nil, or_false, List.cons.injEq, and_true] at hm
        rcases hm with hm | hm
        · exact h hm
        · simp at hm), spl_not h, segs_spl r (acc ++ [c])]
theorem words_parts {z : List Nat} (h : ∀ c ∈ z, c ≠ 92) : wordsL z = (spl 32 [] z).filter fun w => !decide (w = []) := by
  unfold wordsL
  rw [toks_plain1 h, segs_spl]
  refine List.filter_congr fun w hw => ?_
  have hm := (spl_mem 32 (P := fun c => c ≠ 92) z [] (fun _ h => by cases h) h w hw).2
  rw [cells_plain1 hm]
theorem spl_head : ∀ (z acc : List Nat), (spl 32 acc z)[0]? = some (acc ++ ahead 32 z)
  | [], acc => by rw [spl_nil]; simp
  | c :: r, acc => by
    by_cases h : c = 32
    · subst h
      rw [spl_is, show ahead 32 (32 :: r) = [] from rfl, List.append_nil]
      rfl
    · have hd : (c != 32) = true := by simp [h]
      rw [spl_not h, spl_head r (acc ++ [c]), show ahead 32 (c :: r) = c :: ahead 32 r by
        unfold ahead
        rw [List.takeWhile_cons, if_pos hd], List.append_assoc]
      rfl
theorem rest_other {r : List Nat} : ((46 :: r).drop (1 + (ahead 32 r).length)).dropWhile (· == 32) = restOf (46 :: r) := by
  have h1 : (46 :: r).drop (1 + (ahead 32 r).length) = r.dropWhile (· != 32) := by
    rw [Nat.add_comm, List.drop_succ_cons]
    exact drop_takeWhile r
  rw [h1]
  unfold restOf behind
  rw [List.dropWhile_cons, if_pos (by decide)]
  cases hd : r.dropWhile (· != 32) with
  | nil => rfl
  | cons c t =>
    have hc : c = 32 := by
      have := List.head_dropWhile_not (p := (· != 32)) (l := r) (by rw [hd]; simp)
      simp only [hd] at this
      simpa using this
    subst hc
    rw [List.dropWhile_cons, if_pos (by decide)]
    rfl
/-! ### rows of a source -/
def rowD (z : List Nat) : PyData :=
  if 92 ∈ z then .tuple [.str (S [108, 105, 110, 101]), .str (S z)]
  else if isReq z = true then .tuple [.str (S [97, 115, 107]), .str (S (wordOf z)), .str (S (restOf z))]
  else .tuple [.str (S [116, 101, 120, 116]), .str (S z), .tuple (((spl 32 [] z).filter fun w => !decide (w = [])).map dS)]
/-- a line: at most n signs, all plain -/
structure Tx (n : Nat) (z : List Nat) : Prop where
  len : z.length ≤ n
  sg : ∀ c ∈ z, 32 ≤ c ∧ c < 127
theorem Tx.le {n m : Nat} {z : List Nat} (h : Tx n z) (e : n ≤ m) : Tx m z := ⟨Nat.le_trans h.len e, h.sg⟩
theorem Tx.app {n m : Nat} {a b : List Nat} (h : Tx n a) (g : Tx m b) : Tx (n + m) (a ++ b) :=
  ⟨by rw [List.length_append]; exact Nat.add_le_add h.len g.len, fun c hc => (List.mem_append.mp hc).elim (h.sg c) (g.sg c)⟩
theorem Tx.take {n : Nat} {z : List Nat} (h : Tx n z) (k : Nat) : Tx k (z.take k) := ⟨by rw [List.length_take]; exact Nat.min_le_left _ _, fun c hc => h.sg c (List.mem_of_mem_take hc)⟩
def txB (n : Nat) (z : List Nat) : Bool := decide (z.length ≤ n) && z.all fun c => decide (32 ≤ c ∧ c < 127)
theorem tx_of {n : Nat} {z : List Nat} (h : txB n z = true) : Tx n z := by
  unfold txB at h
  simp only [Bool.and_eq_true, decide_eq_true_eq, List.all_eq_true] at h
  exact ⟨h.1, h.2⟩
/-- all of them such texts -/
def AllTx (n : Nat) : List V → Prop
  | [] => True
  | x :: r => (∃ z, x = .str (S z) ∧ Tx n z) ∧ AllTx n r
theorem AllTx.at {n : Nat} : ∀ {xs : List V} {v : V}, AllTx n xs → v ∈ xs → ∃ z, v = .str (S z) ∧ Tx n z
  | x :: r, v, h, hv => by
    rcases List.mem_cons.mp hv with rfl | hv
    · exact h.1
    · exact AllTx.at h.2 hv
theorem AllTx.app {n : Nat} : ∀ {xs ys : List V}, AllTx n xs → AllTx n ys → AllTx n (xs ++ ys)
  | [], _, _, g => g
  | _ :: _, _, h, g => ⟨h.1, AllTx.app h.2 g⟩
theorem alltx_nil {n : Nat} : AllTx n [] := trivial
theorem alltx_cons {n : Nat} {z : List Nat} {r : List V} (h : Tx n z) (t : AllTx n r) : AllTx n (.str (S z) :: r) := ⟨⟨z, rfl, h⟩, t⟩
theorem okw_row {z : List Nat} (h : Tx 60 z) : OkW (rowD z) 100000 5 := by
  have hs : ∀ c ∈ z, c < 1114112 := fun c hc => by have := h.sg c hc; omega
  have hw : ∀ (u : List Nat), u.length ≤ 60 → (∀ c ∈ u, c < 1114112) → OkW (.str (S u)) (10 * 60 + 2) 0 := fun u h1 h2 => okw_str (okL.ok ⟨h1, h2⟩)
  have h4 : OkW (.str (S z)) (10 * 60 + 2) 0 := hw z h.len hs
  unfold rowD
  split
  · have a := okw_tup (okws_cons (okw_str (n := 4) (x := S [108, 105, 110, 101]) (by decide)) (okws_cons h4 okws_nil))
    exact ⟨a.ok, Nat.le_trans a.wt (by decide), Nat.le_trans a.dp (by decide)⟩
  · split
    · have w1 : OkW (.str (S (wordOf z))) (10 * 60 + 2) 0 := hw _ (Nat.le_trans (wordOf_len z) h.len) fun c hc => hs c (List.mem_of_mem_drop ((List.takeWhile_sublist _).subset hc))
      have w2 : OkW (.str (S (restOf z))) (10 * 60 + 2) 0 := hw _ (Nat.le_trans (restOf_len z) h.len) fun c hc => by
        unfold restOf at hc
        exact hs c ((List.dropWhile_sublist _).subset (List.mem_of_mem_drop ((List.dropWhile_sublist _).subset hc)))
      have a := okw_tup (okws_cons (okw_str (n := 3) (x := S [97, 115, 107]) (by decide)) (okws_cons w1 (okws_cons w2 okws_nil)))
      exact ⟨a.ok, Nat.le_trans a.wt (by decide), Nat.le_trans a.dp (by decide)⟩
    · have hm := fun w hw => spl_mem 32 (P := fun c => c < 1114112) z [] (fun _ h => by cases h) hs w hw
      have hl := spl_len 32 z []
      have b := okws_all (ds := ((spl 32 [] z).filter fun w => !decide (w = [])).map dS) (n := 10 * 60 + 2) (k := 0) fun d hd => by
        obtain ⟨w, hw1, rfl⟩ := List.mem_map.mp hd
        have hw2 := hm w (List.mem_filter.mp hw1).1
        have h60 := h.len
        have := hw2.1
        rw [List.length_nil] at this
        exact hw w (by omega) hw2.2
      have a := okw_tup (okws_cons (okw_str (n := 4) (x := S [116, 101, 120, 116]) (by decide)) (okws_cons h4 (okws_cons (okw_tup b) okws_nil)))
      refine ⟨a.ok, Nat.le_trans a.wt ?_, Nat.le_trans a.dp (by decide)⟩
      have h1 := List.length_filter_le (fun w => !decide (w = [])) (spl 32 [] z)
      have h60 := h.len
      rw [List.length_map]
      have : ((spl 32 [] z).filter fun w => !decide (w = [])).length * (10 * 60 + 2 + 2) ≤ 61 * (10 * 60 + 2 + 2) := Nat.mul_le_mul_right _ (by omega)
      omega
theorem sh_rows {zs : List (List Nat)} (h : ∀ z ∈ zs, Tx 60 z) (hl : zs.length ≤ 100) : Sh (.list (zs.map rowD)) := by
  have k := okws_all (ds := zs.map rowD) (n := 100000) (k := 5) fun d hd => by
    obtain ⟨z, hz, rfl⟩ := List.mem_map.mp hd
    exact okw_row (h z hz)
  have k2 := okw_lst k
  refine Sh.of ⟨k2.ok, k2.wt, k2.dp⟩ ?_ (by decide)
  rw [List.length_map]
  have : zs.length * (100000 + 2) ≤ 100 * (100000 + 2) := Nat.mul_le_mul_right _ hl
  exact Nat.le_trans (Nat.add_le_add_right this 2) (by decide)
theorem sh_src {zs : List (List Nat)} (h : ∀ z ∈ zs, Tx 60 z) (hl : zs.length ≤ 100) : Sh (.tuple (zs.map dS)) := by
  have k := okws_all (ds := zs.map dS) (n := 10 * 60 + 2) (k := 0) fun d hd => by
    obtain ⟨z, hz, rfl⟩ := List.mem_map.mp hd
    exact okw_str (okL.ok ⟨(h z hz).len, fun c hc => by have := (h z hz).sg c hc; omega⟩)
  have k2 := okw_tup k
  refine Sh.of ⟨k2.ok, k2.wt, k2.dp⟩ ?_ (by decide)
  rw [List.length_map]
  have : zs.length * (10 * 60 + 2 + 2) ≤ 100 * (10 * 60 + 2 + 2) := Nat.mul_le_mul_right _ hl
  exact Nat.le_trans (Nat.add_le_add_right this 3) (by decide)
/-! ### reading -/
section
variable {σ : L2.St} {H : Hp} {Q : VK} {K : PySem.W.Frag} {te : TE} {a : Addr} {xs : List V}
theorem r_inS1 {c : Nat} {z : List Nat} (q : Q (.bl (decide (c ∈ z))) H) : rInSg (.str (S [c])) (.str (S z)) H Q := ⟨c, S z, rfl, rfl, q⟩
def RevL (K : PySem.W.Frag) (x : V) (H : Hp) (Q : VK) : Prop := ∃ a xs, x = .ref a ∧ SqL K H a xs ∧ ∀ p, H p = none → Q (.ref p) (upd H p (.lst xs.reverse))
theorem r_revL (q : te σ H fun x H1 => RevL K x H1 Q) : tRevL K te σ H Q := q
theorem r_revLl (h : SqL K H a xs) (q : ∀ p H1, H p = none → Ex H H1 → H1 p = some (.lst xs.reverse) → Q (.ref p) H1) : RevL K (.ref a) H Q := ⟨a, xs, rfl, h, fun p np => q p _ np (Evl.Ex.new np) upd_same⟩
theorem r_reverse (h : H a = some (.lst xs)) (q : ∀ H', Kp a H H' → H' a = some (.lst xs.reverse) → Q .non H') : rReverse (.ref a) [] H Q := ⟨a, xs, rfl, rfl, h, q _ Kp.upd upd_same⟩
end
/-! ### data without lists stays while a list changes -/
mutual
def noL : PyData → Prop
  | .list _ => False
  | .dict _ => False
  | .tuple xs => noLs xs
  | .none => True
  | .bool _ => True
  | .int _ => True
  | .str _ => True
def noLs : List PyData → Prop
  | [] => True
  | x :: xs => noL x ∧ noLs xs
end
mutual
theorem dp_kl {K : PySem.W.Frag} {H H' : Hp} {l : Addr} (k : Kp l H H') (o : Ol H l) : ∀ {v : V} {d : PyData}, Dp K H v d → noL d → Dp K H' v d
  | _, _, .non, _ => .non
  | _, _, .bl b, _ => .bl b
  | _, _, .int i, _ => .int i
  | _, _, .str x, _ => .str x
  | _, _, .lst h ds, n => by simp [noL] at n
  | _, _, .tup h ds, n => .tup (Kp.Tl k o h) (dps_kl k o ds (by rw [noL] at n; exact n))
theorem dps_kl {K : PySem.W.Frag} {H H' : Hp} {l : Addr} (k : Kp l H H') (o : Ol H l) : ∀ {vs : List V} {ds : List PyData}, DpAll K H vs ds → noLs ds → DpAll K H' vs ds
  | _, _, .nil, _ => .nil
  | _, _, .cons h t, n => .cons (dp_kl k o h (by rw [noLs] at n; exact n.1)) (dps_kl k o t (by rw [noLs] at n; exact n.2))
end
theorem noLs_strs : ∀ ws : List (List Nat), noLs (ws.map dS)
  | [] => by rw [List.map_nil, noLs]; trivial
  | w :: r => by rw [List.map_cons, noLs]; exact ⟨by rw [noL]; trivial, noLs_strs r⟩
theorem noL_row (z : List Nat) : noL (rowD z) := by
  unfold rowD
  split
  · simp [noL, noLs]
  · split
    · simp [noL, noLs]
    · simp only [noL, noLs, true_and, and_true]
      exact noLs_strs _
theorem noLs_rows : ∀ zs : List (List Nat), noLs (zs.map rowD)
  | [] => by rw [List.map_nil, noLs]; trivial
  | w :: r => by rw [List.map_cons, noLs]; exact ⟨noL_row w, noLs_rows r⟩
theorem dps_snoc {K : PySem.W.Frag} {H : Hp} {v : V} {d : PyData} (h : Dp K H v d) : ∀ {vs : List V} {ds : List PyData}, DpAll K H vs ds → DpAll K H (vs ++ [v]) (ds ++ [d])
  | _, _, .nil => .cons h .nil
  | _, _, .cons g t => .cons g (dps_snoc h t)
theorem tx_self {z : List Nat} (h : (z.all fun c => decide (32 ≤ c ∧ c < 127)) = true) : Tx z.length z := ⟨Nat.le_refl _, fun c hc => of_decide_eq_true (List.all_eq_true.mp h c hc)⟩
theorem tx_join {n : Nat} : ∀ {zs : List (List Nat)}, (∀ z ∈ zs, Tx n z) → Tx (zs.length * (n + 1)) (TL.joinL [32] zs)
  | [], _ => ⟨by simp [TL.joinL], fun c h => by simp [TL.joinL] at h⟩
  | [a], h => by
    have := h a (List.mem_cons_self ..)
    refine ⟨?_, fun c hc => this.sg c (by simpa [TL.joinL] using hc)⟩
    have h1 := this.len
    simp only [TL.joinL, List.length_cons, List.length_nil]
    omega
  | a :: b :: r, h => by
    have h1 := h a (List.mem_cons_self ..)
    have h2 := tx_join (zs := b :: r) fun z hz => h z (List.mem_cons_of_mem _ hz)
    rw [show TL.joinL [32] (a :: b :: r) = a ++ ([32] ++ TL.joinL [32] (b :: r)) by simp [TL.joinL]]
    have h3 : Tx 1 [32] := tx_of (by decide)
    refine Tx.le (h1.app (h3.app h2)) ?_
    simp only [List.length_cons]
    rw [Nat.succ_mul (r.length + 1)]
    omega
theorem tx_cons {n c : Nat} {z : List Nat} (h : decide (32 ≤ c ∧ c < 127) = true) (g : Tx n z) : Tx (n + 1) (c :: z) :=
  ⟨by rw [List.length_cons]; exact Nat.succ_le_succ g.len, fun d hd => by
    rcases List.mem_cons.mp hd with rfl | hd
    · exact of_decide_eq_true h
    · exact g.sg d hd⟩
theorem dps_len {K : PySem.W.Frag} {H : Hp} : ∀ {vs : List V} {ds : List PyData}, DpAll K H vs ds → vs.length = ds.length
  | _, _, .nil => rfl
  | _, _, .cons _ t => congrArg (· + 1) (dps_len t)
end Ts

namespace Ts
open PySem PySem.Spec PyProof.Rows L2
/-! ### rows looked at -/
theorem sIx_neg1 (n d : Nat) : HT.sIx n d (some (-1)) = n - 1 := by
  show (if (-1 : Int) < 0 then ((-1 : Int) + (n : Int)).toNat else min (-1 : Int).toNat n) = n - 1
  rw [if_pos (by decide)]
  omega
theorem cut_last (z : List Nat) : cutS (S z) (some (-1)) none = S z.getLast?.toList := by
  rw [cutS_S, sIx_neg1, HT.sIx_none]
  refine congrArg S ?_
  rcases List.eq_nil_or_concat z with rfl | ⟨u, c, rfl⟩
  · rfl
  · simp
theorem cut_init (z : List Nat) : cutS (S z) none (some (-1)) = S z.dropLast := by
  rw [cutS_S, sIx_neg1, HT.sIx_none, List.drop_zero, Nat.sub_zero, List.dropLast_eq_take]
theorem replL_noB (l : List Nat) : replL [32] [] l = noB l := by
  induction l with
  | nil => exact PySem.StrLaws.replL_nil
  | cons c r ih =>
    by_cases h : c = 32
    · subst h
      rw [show replL [32] [] (32 :: r) = _ from PySem.StrLaws.replL_hit (by simp) rfl]
      show [] ++ replL [32] [] r = noB (32 :: r)
      rw [ih]
      simp [noB]
    · rw [show replL [32] [] (c :: r) = _ from PySem.StrLaws.replL_miss (by simpa using h)]
      show c :: replL [32] [] r = noB (c :: r)
      rw [ih]
      simp [noB, h]
theorem Eat.inv_nil {l n : List Nat} (h : Eat l [] n) : l = n := by cases h; rfl
theorem Eat.inv_cons {l n : List Nat} {c : CRow} {r : List CRow} (h : Eat l (c :: r) n) : ∃ m, Eat1 l c m ∧ Eat m r n := by
  cases h with
  | cons h t => exact ⟨_, h, t⟩
theorem Shp.ind_at {e : En} {rows : List CRow} {e' : En} (h : Shp e rows e') {i : Nat} {c : CRow} (hc : rows[i]? = some c) : c.ind = if 0 < i then e.ind else indE e := by
  rcases h.rows with ⟨rfl, _⟩ | ⟨c0, t, rfl, h1, _, _, h4⟩
  · simp at hc
  · cases i with
    | zero =>
      simp only [List.getElem?_cons_zero, Option.some.injEq] at hc
      subst hc
      rw [if_neg (by omega)]
      exact h1
    | succ i =>
      rw [if_pos (by omega)]
      simp only [List.getElem?_cons_succ] at hc
      exact (h4 c (List.mem_of_getElem? hc)).1
theorem lineI_nil {i : Int} {u : List Nat} : lineI i u = [] ↔ u = [] := by
  unfold lineI
  split
  · rename_i h; simp [h]
  · rename_i h; simp [h]
theorem lineI_take {n : Nat} {u : List Nat} (h : u ≠ []) : (lineI (n : Int) u).take n = (List.replicate (n : Int).toNat [32]).flatten := by
  unfold lineI
  rw [if_neg h, flat32]
  simp
theorem eat_first {l m : List Nat} {c : CRow} (h : l = noB c.cs ++ m) : l.take (noB c.cs).length = noB c.cs ∧ l.drop (noB c.cs).length = m := by
  subst h
  simp
theorem eat_second {l m x : List Nat} {u : List Nat} (h : u = x ++ [45]) (h2 : l = x ++ m) (h3 : ∀ y ∈ m, y ≠ 45) : l.take u.length ≠ u ∧ l.take u.dropLast.length = u.dropLast ∧ l.drop u.dropLast.length = m := by
  subst h h2
  refine ⟨fun e => ?_, by simp, by simp⟩
  rw [List.length_append, List.take_length_add_append] at e
  have := List.append_cancel_left e
  cases m with
  | nil => simp at this
  | cons a m =>
    simp only [List.length_cons, List.length_nil, Nat.zero_add, List.take_succ_cons, List.take_zero, List.cons.injEq, and_true] at this
    exact h3 a (List.mem_cons_self ..) this
theorem noB_len (u : List Nat) : (noB u).length ≤ u.length := List.length_filter_le _ _
theorem join_plus_len : ∀ ws : List (List Nat), (TL.joinL [32] (ws.map (List.map plus))).length = (TL.joinL [32] ws).length
  | [] => rfl
  | [a] => List.length_map ..
  | a :: b :: r => by
    show (a.map plus ++ ([32] ++ TL.joinL [32] ((b :: r).map (List.map plus)))).length = (a ++ ([32] ++ TL.joinL [32] (b :: r))).length
    simp only [List.length_append, List.length_map, join_plus_len (b :: r)]
def bothR (z : List Nat) : List Nat := rp (replL [45] [43] z)
theorem plus_lt {c n : Nat} (h : c < n) (h43 : 43 < n) : plus c < n := by
  unfold plus
  split
  · exact h43
  · exact h
/-- a list of data compared with the list of none -/
theorem eqv_none (ds : List PyData) : PyData.eqv (.list ds) (.list []) = decide (ds = []) := by
  cases ds with
  | nil => simp [PyData.eqv, PyData.eqvAll]
  | cons a r => simp [PyData.eqv, PyData.eqvAll]
section
variable {K : PySem.W.Frag} {H : Hp} {Q : VK} {a b : Addr}
theorem r_eqNoneL {vs : List V} {ds : List PyData} (h : SqL K H a vs) (d : DpAll K H vs ds) (g : SqL K H b []) (l : SeqAt.shaped (.list ds) = true) (q : Q (.bl (decide (ds = []))) H) : rEqD K (.ref a) (.ref b) H Q :=
  ⟨_, _, .lst h d, .lst g .nil, l, by decide +kernel, by rw [eqv_none]; exact q⟩
theorem via_R {te : TE} {σ : L2.St} (R : V → Hp → Prop) (h : ∀ Q' : VK, (∀ v H', R v H' → Q' v H') → te σ H Q') (q : ∀ v H', R v H' → Q v H') : tMark te σ H Q := h Q q
theorem r_replE {y z : Str} (yl : List Nat) {l : List Nat} (ey : y = S yl) (ez : z = S []) (hy : 1 ≤ yl.length) (h : l.length ≤ 1000000) (q : Q (.str (S (replL yl [] l))) H) : ReplV y z (.str (S l)) H Q := by
  subst ey ez
  refine ⟨S l, rfl, ?_, ?_⟩
  · rw [S_len, S_len]
    simp only [List.length_nil, Nat.mul_zero]
    omega
  · have e : Txt.replace (S l) (S yl) (S []) = S (replL yl [] l) := by
      rw [← S_of (Txt.replace (S l) (S yl) (S [])), PySem.StrLaws.replace_list (by rw [S_len]; exact hy)]
    rw [e]
    exact q
end
end Ts

namespace Ts
open PySem PySem.Spec PyProof.Rows L2
/-! ### two tuples of equal items -/
section
variable {prog : Program} {w : World}
open PySem.AutoSeq1 (wpAny_loadPart')
theorem tupSame (p r : Addr) (xs ys : Array Value) (m m' : Nat) (dc dc' : Option Addr) (so so' : Array (Option Value)) (hz : xs.size = ys.size) :
    MeetsIn prog w (Builtin.«tuple.__eq__» ⟨[.ref p, .ref r], []⟩) (fun A R s => s.heap.get? p = some ⟨.type "tuple", dc, .seq xs m, so⟩ ∧ s.heap.get? r = some ⟨.type "tuple", dc', .seq ys m', so'⟩ ∧
      (∀ j (h1 : j < xs.size) (h2 : j < ys.size), SeqAt.EqP prog w A.in1 s xs[j] ys[j] true) ∧ R (.ok (.ret (.bool true))) s) := by
  intro A R s h
  obtain ⟨hp, g, d, tk, os⟩ := s
  obtain ⟨hl, hb, he, h⟩ := h
  have f2 := AutoSeq1.sub_tuple_tuple
  have hlen : (xs.toList.zip ys.toList).length = xs.size := by simp [hz]
  wp_walk using wpAny_loadPart' hl, wpAny_loadPart' hb, wpAny_forIn_list _ (fun left b s' => b.1 = none ∧ s' = (⟨hp, g, d, tk, os⟩ : Shared) ∧ ∃ i, left = (xs.toList.zip ys.toList).drop i) _
  case turn =>
    rintro ⟨y, x⟩ left b s' ⟨hb', rfl, i, hi⟩
    have lt : i < (xs.toList.zip ys.toList).length := by
      refine Nat.lt_of_not_le fun hh => ?_
      rw [List.drop_of_length_le hh] at hi
      cases hi
    have l1 : i < xs.size := hlen ▸ lt
    have l2 : i < ys.size := hz ▸ l1
    rw [List.drop_eq_getElem_cons lt] at hi
    injection hi with q1 q2
    have e1 : y = xs[i] := by simpa using congrArg Prod.fst q1
    have e2 : x = ys[i] := by simpa using congrArg Prod.snd q1
    subst e1 e2
    refine wpAny_bind (he i l1 l2 _ _ ?_)
    wp_walk
    exact ⟨rfl, rfl, i + 1, q2⟩
  case fin =>
    rintro ⟨b1, b2⟩ s' ⟨hb', rfl, i, hi⟩
    simp only at hb'
    subst hb'
    wp_walk
    simpa [Builtin.Tuple.tupleCompareSizes, hz] using h
  case h => exact ⟨rfl, rfl, 0, rfl⟩
theorem tupSameN (p r : Addr) (xs ys : Array Value) (m m' : Nat) (dc dc' : Option Addr) (so so' : Array (Option Value)) (hz : xs.size = ys.size) :
    MeetsIn prog w (Builtin.«tuple.__ne__» ⟨[.ref p, .ref r], []⟩) (fun A R s => s.heap.get? p = some ⟨.type "tuple", dc, .seq xs m, so⟩ ∧ s.heap.get? r = some ⟨.type "tuple", dc', .seq ys m', so'⟩ ∧
      (∀ j (h1 : j < xs.size) (h2 : j < ys.size), SeqAt.EqP prog w A.in1 s xs[j] ys[j] true) ∧ R (.ok (.ret (.bool false))) s) := by
  intro A R s h
  obtain ⟨hp, g, d, tk, os⟩ := s
  obtain ⟨hl, hb, he, h⟩ := h
  have f2 := AutoSeq1.sub_tuple_tuple
  have hlen : (xs.toList.zip ys.toList).length = xs.size := by simp [hz]
  wp_walk using wpAny_loadPart' hl, wpAny_loadPart' hb, wpAny_forIn_list _ (fun left b s' => b.1 = none ∧ s' = (⟨hp, g, d, tk, os⟩ : Shared) ∧ ∃ i, left = (xs.toList.zip ys.toList).drop i) _
  case turn =>
    rintro ⟨y, x⟩ left b s' ⟨hb', rfl, i, hi⟩
    have lt : i < (xs.toList.zip ys.toList).length := by
      refine Nat.lt_of_not_le fun hh => ?_
      rw [List.drop_of_length_le hh] at hi
      cases hi
    have l1 : i < xs.size := hlen ▸ lt
    have l2 : i < ys.size := hz ▸ l1
    rw [List.drop_eq_getElem_cons lt] at hi
    injection hi with q1 q2
    have e1 : y = xs[i] := by simpa using congrArg Prod.fst q1
    have e2 : x = ys[i] := by simpa using congrArg Prod.snd q1
    subst e1 e2
    refine wpAny_bind (he i l1 l2 _ _ ?_)
    wp_walk
    exact ⟨rfl, rfl, i + 1, q2⟩
  case fin =>
    rintro ⟨b1, b2⟩ s' ⟨hb', rfl, i, hi⟩
    simp only at hb'
    subst hb'
    wp_walk
    simpa [Builtin.Tuple.tupleCompareSizes, hz, bne] using h
  case h => exact ⟨rfl, rfl, 0, rfl⟩
variable {A : Around} {s : Shared} {p r : Addr} {xs ys : Array Value}
theorem rcSame (hl : s.heap.IsTuple p xs) (hb : s.heap.IsTuple r ys) (hz : xs.size = ys.size) (hu : A.units < cLine)
    (he : ∀ j (h1 : j < xs.size) (h2 : j < ys.size), SeqAt.EqP prog w A.in1 s xs[j] ys[j] true) (E Q : Value → Shared → Prop) (h : Q (.bool true) s) : wpAny (model prog w) A (richCompare .Eq (.ref p) (.ref r)) Q E s := by
  obtain ⟨⟨c1, d1, t1, s1⟩, g1, rfl, n1, rfl⟩ := id hl
  obtain ⟨⟨c2, d2, t2, s2⟩, g2, rfl, n2, rfl⟩ := id hb
  have ta : s.TypeIs (.ref p) "tuple" := ⟨_, g1, rfl⟩
  have tb : s.TypeIs (.ref r) "tuple" := ⟨_, g2, rfl⟩
  exact wpAny_richCompare_same_room (op := .Eq) ta tb F.slot_tuple_eq (call_meetsIn F.slot_tuple_eq ta F.entry_tuple_eq (F.args_tuple_eq_2 _ _) (tupSame p r xs ys n1 n2 d1 d2 s1 s2 hz)
    ⟨g1, g2, he, show Value.bool true ≠ Value.notImplemented ∧ Q (.bool true) s from ⟨(fun x => nomatch x), h⟩⟩) hu
theorem rcSameN (hl : s.heap.IsTuple p xs) (hb : s.heap.IsTuple r ys) (hz : xs.size = ys.size) (hu : A.units < cLine)
    (he : ∀ j (h1 : j < xs.size) (h2 : j < ys.size), SeqAt.EqP prog w A.in1 s xs[j] ys[j] true) (E Q : Value → Shared → Prop) (h : Q (.bool false) s) : wpAny (model prog w) A (richCompare .NotEq (.ref p) (.ref r)) Q E s := by
  obtain ⟨⟨c1, d1, t1, s1⟩, g1, rfl, n1, rfl⟩ := id hl
  obtain ⟨⟨c2, d2, t2, s2⟩, g2, rfl, n2, rfl⟩ := id hb
  have ta : s.TypeIs (.ref p) "tuple" := ⟨_, g1, rfl⟩
  have tb : s.TypeIs (.ref r) "tuple" := ⟨_, g2, rfl⟩
  exact wpAny_richCompare_same_room (op := .NotEq) ta tb F.slot_tuple_ne (call_meetsIn F.slot_tuple_ne ta F.entry_tuple_ne (F.args_tuple_ne_2 _ _) (tupSameN p r xs ys n1 n2 d1 d2 s1 s2 hz)
    ⟨g1, g2, he, show Value.bool false ≠ Value.notImplemented ∧ Q (.bool false) s from ⟨(fun x => nomatch x), h⟩⟩) hu
/-- two dicts that are the same, compared for being unlike -/
theorem rcSameD {L : Type} [DecidableEq L] {kd : KeyKind prog w L} {l1 l2 : List (L × Value)} (na : (p == sysModules) = false) (nb : (r == sysModules) = false) (d1 : s.heap.DictOf kd p l1) (d2 : s.heap.DictOf kd r l2) (hu : A.units < cLine)
    (hits : l1.length = l2.length → PySem.W.KeqHitsP prog w A.in1 s l2 l1 true) (hl : l1.length = l2.length) (E Q : Value → Shared → Prop) (h : Q (.bool false) s) : wpAny (model prog w) A (richCompare .NotEq (.ref p) (.ref r)) Q E s := by
  have t1 := d1.typeIs
  have t2 := d2.typeIs
  refine wpAny_richCompare_same_room (op := .NotEq) t1 t2 PySem.F.slot_dict_ne (wpAny_call_entry PySem.F.slot_dict_ne t1 PySem.F.entry_dict_ne ?_ (PySem.F.args_dict_ne_2 _ _)) hu
  show wpAny _ _ (Builtin.Dict.dictSlotArgs "__ne__" ⟨[Value.ref p, Value.ref r], []⟩ >>= _) _ _ s
  refine wpAny_bind ?_
  unfold Builtin.Dict.dictSlotArgs
  refine wpAny_bind (wpAny_notOrdered_dict t1 ?_)
  show wpAny _ _ (pure (Value.ref p, Value.ref r)) _ _ s
  refine wpAny_pure (wpAny_bind (wpAny_isInstance (T := "dict") t2 PySem.F.sub_dict_dict ?_))
  simp only [Bool.not_true, Bool.false_eq_true, ite_false]
  refine wpAny_bind (wpAny_pure (wpAny_bind (wpAny_pure (wpAny_bind (PySem.W.samePairsP na nb d1 d2 hits ?_)))))
  refine wpAny_pure ⟨_, rfl, (fun x => nomatch x), ?_⟩
  have hb : (l1.length == l2.length) = true := by rw [hl]; simp
  simpa [hb] using h
end
/-! ### data that may hold dicts -/
mutual
inductive Dz (K : PySem.W.Frag) (H : Hp) : V → PyData → Prop
  | non : Dz K H .non .none
  | bl (b : Bool) : Dz K H (.bl b) (.bool b)
  | int (i : Int) : Dz K H (.int i) (.int i)
  | str (x : Str) : Dz K H (.str x) (.str x)
  | tup {a : Addr} {xs : List V} {ds : List PyData} : SqT K H a xs → DzAll K H xs ds → Dz K H (.ref a) (.tuple ds)
  | dct {a : Addr} {kvs : List (Key × V)} {ds : List (PyData × PyData)} : Rd H a (.dK kvs) → DzKv K H kvs ds → Dz K H (.ref a) (.dict ds)
inductive DzAll (K : PySem.W.Frag) (H : Hp) : List V → List PyData → Prop
  | nil : DzAll K H [] []
  | cons {v : V} {vs : List V} {d : PyData} {ds : List PyData} : Dz K H v d → DzAll K H vs ds → DzAll K H (v :: vs) (d :: ds)
inductive DzKv (K : PySem.W.Frag) (H : Hp) : List (Key × V) → List (PyData × PyData) → Prop
  | nil : DzKv K H [] []
  | cons {k : Str} {v : V} {kvs : List (Key × V)} {d : PyData} {ds : List (PyData × PyData)} : Dz K H v d → DzKv K H kvs ds → DzKv K H ((.inr k, v) :: kvs) ((.str k, d) :: ds)
end
section
variable {X : Cx} {pins : List (Addr × Obj)} {σ : L2.St} {H : Hp} {s : Shared}
mutual
theorem Dz.reads (I : Inv X pins σ H s) : ∀ (d : PyData) (v : V) (u : Value), Dz X.K H v d → RelV v u → ∃ as, Reads s.heap u d as ∧ sysModules ∉ as
  | .none, _, _, h, r => by
    cases h; cases r
    exact ⟨_, Reads.none, by simp⟩
  | .bool b, _, _, h, r => by
    cases h; cases r
    exact ⟨_, Reads.bool b, by simp⟩
  | .int i, _, _, h, r => by
    cases h
    obtain ⟨t, rfl⟩ := r
    exact ⟨_, Reads.int i t, by simp⟩
  | .str x, _, _, h, r => by
    cases h
    obtain ⟨t, rfl⟩ := r
    exact ⟨_, Reads.str x t, by simp⟩
  | .list _, _, _, h, _ => by cases h
  | .tuple ds, _, _, h, r => by
    cases h with
    | tup hs ha =>
      cases r
      obtain ⟨its, rv, ⟨o, ho, hc, n, hd⟩, _⟩ := I.tuple hs
      obtain ⟨as, hr, hn⟩ := Dz.readsAll I ds _ its ha rv
      exact ⟨_, Reads.tuple ho hc hd hr, hn⟩
  | .dict ds, _, _, h, r => by
    cases h with
    | dct hs ha =>
      cases r
      obtain ⟨_, na, vs, kv, ⟨o, es, ep, ho, hx, hd, _, hp, _⟩⟩ := hs.ok I.hok
      obtain ⟨as, bs, r1, r2, hn⟩ := Dz.readsKv I ds _ vs es.toList ha kv hp
      refine ⟨_, Reads.dict ho hx.1 hd r1 r2, fun m => ?_⟩
      rcases List.mem_cons.mp m with e | m
      · subst e
        simp at na
      · exact hn m
theorem Dz.readsAll (I : Inv X pins σ H s) : ∀ (ds : List PyData) (vs : List V) (us : List Value), DzAll X.K H vs ds → Vals vs us → ∃ as, ReadsAll s.heap us ds as ∧ sysModules ∉ as
  | [], _, _, h, r => by
    cases h; cases r
    exact ⟨_, ReadsAll.nil, by simp⟩
  | d :: ds, _, _, h, r => by
    cases h with
    | cons h1 h2 =>
      cases r with
      | cons r1 r2 =>
        obtain ⟨as, q1, n1⟩ := Dz.reads I d _ _ h1 r1
        obtain ⟨bs, q2, n2⟩ := Dz.readsAll I ds _ _ h2 r2
        exact ⟨_, ReadsAll.cons q1 q2, fun m => (List.mem_append.mp m).elim n1 n2⟩
theorem Dz.readsKv (I : Inv X pins σ H s) : ∀ (ds : List (PyData × PyData)) (kvs : List (Key × V)) (vs : List (Key × Value)) (es : List DictEntry), DzKv X.K H kvs ds → KV kvs vs → Pairs (mixKind X.prog X.w) es vs →
    ∃ as bs, ReadsAll s.heap (es.map (·.key)) (ds.map (·.1)) as ∧ ReadsAll s.heap (es.map (·.val)) (ds.map (·.2)) bs ∧ sysModules ∉ as ++ bs
  | [], _, _, _, h, r, p => by
    cases h; cases r; cases p
    exact ⟨_, _, ReadsAll.nil, ReadsAll.nil, by simp⟩
  | (k, d) :: ds, _, _, _, h, r, p => by
    cases h with
    | @cons k v kvs _ _ h1 h2 =>
      cases r with
      | cons r1 r2 =>
        cases p with
        | @cons en kv _ _ p1 p2 p3 =>
          obtain ⟨e1, e2⟩ := r1
          dsimp only at e1 e2
          rw [← e1] at p1
          have p1 : keyIs (.inr k) en.key = true := p1
          obtain ⟨t, ht⟩ : ∃ t, en.key = Value.str k t := by
            rcases keyIs_shape p1 with ⟨i, t, q, _⟩ | ⟨x, t, q, q2⟩
            · cases q
            · cases q
              exact ⟨t, q2⟩
          rw [← p2] at e2
          obtain ⟨as, q1, n1⟩ := Dz.reads I d _ _ h1 e2
          obtain ⟨as2, bs2, q2, q3, n2⟩ := Dz.readsKv I ds _ _ _ h2 r2 p3
          refine ⟨_, _, ReadsAll.cons (by show Reads s.heap en.key (.str k) _; rw [ht]; exact Reads.str k t) q2, ReadsAll.cons q1 q3, fun m => ?_⟩
          rcases List.mem_append.mp m with m | m
          · exact n2 (List.mem_append_left _ m)
          · exact (List.mem_append.mp m).elim n1 fun m => n2 (List.mem_append_right _ m)
end
/-! ### the same data twice -/
theorem val_at {α : Type} [DecidableEq α] : ∀ {l : List (α × Value)}, (l.map (·.1)).Nodup → ∀ {k : α} {v : Value}, (k, v) ∈ l → valueAt l k = some v
  | [], _, _, _, h => by cases h
  | (k', v') :: l, nd, k, v, h => by
    have nd2 := List.nodup_cons.mp nd
    unfold valueAt
    rw [List.find?_cons]
    rcases List.mem_cons.mp h with h | h
    · cases h
      simp
    · have ne : ¬ k' = k := fun e => nd2.1 (List.mem_map.mpr ⟨(k, v), h, e.symm⟩)
      rw [decide_eq_false ne]
      exact val_at nd2.2 h
mutual
theorem Dz.eqP (I : Inv X pins σ H s) : ∀ (d : PyData) (A : Around) (x y : V) (v u : Value), A.units + d.depth < cLine → Dz X.K H x d → Dz X.K H y d → RelV x v → RelV y u → SeqAt.EqP X.prog X.w A s v u true
  | .none, _, _, _, _, _, _, h, g, r, q => by
    cases h; cases g
    exact (eqAt_same r q rfl).eqP
  | .bool b, _, _, _, _, _, _, h, g, r, q => by
    cases h; cases g
    exact (eqAt_same r q rfl).eqP
  | .int i, _, _, _, _, _, _, h, g, r, q => by
    cases h; cases g
    exact (eqAt_same r q rfl).eqP
  | .str x, _, _, _, _, _, _, h, g, r, q => by
    cases h; cases g
    exact (eqAt_same r q rfl).eqP
  | .list _, _, _, _, _, _, _, h, _, _, _ => by cases h
  | .tuple ds, A, _, _, _, _, hu, h, g, r, q => by
    cases h with
    | @tup a xs _ hs ha =>
      cases g with
      | @tup b ys _ gs ga =>
        cases r; cases q
        by_cases e : a = b
        · subst e
          exact (SeqAt.EqAt.same _).eqP
        · obtain ⟨its, rv, ht, _⟩ := I.tuple hs
          obtain ⟨its2, rv2, ht2, _⟩ := I.tuple gs
          obtain ⟨hl, hj⟩ := Dz.eqPs I ds A.in1 xs ys its its2 (by show A.units + 1 + _ < cLine; simp only [PyData.depth] at hu; omega) ha ga rv rv2
          exact SeqAt.eqP_refs e (rcSame ht ht2 (by simpa using hl) (by simp only [PyData.depth] at hu; omega) fun j h1 h2 => by simpa using hj j (by simpa using h1) (by simpa using h2))
  | .dict ds, A, _, _, _, _, hu, h, g, r, q => by
    cases h with
    | @dct a kvs _ hs ha =>
      cases g with
      | @dct b ls _ gs ga =>
        cases r; cases q
        by_cases e : a = b
        · subst e
          exact (SeqAt.EqAt.same _).eqP
        · obtain ⟨_, na, vs, kv, da⟩ := hs.ok I.hok
          obtain ⟨_, nb, ws, kw, db⟩ := gs.ok I.hok
          obtain ⟨hl, hj⟩ := Dz.eqKv I ds A.in1 kvs ls vs ws (by show A.units + 1 + _ < cLine; simp only [PyData.depth] at hu; omega) ha ga kv kw
          have nd : (ws.map (·.1)).Nodup := by
            obtain ⟨_, _, _, _, _, _, _, _, nd⟩ := db
            exact nd
          refine SeqAt.eqP_refs e fun E Q hq => PySem.W.rcP_dicts (knd := mixKind X.prog X.w) (r := true) na nb da db (by simp only [PyData.depth] at hu; omega) (fun _ => hj ws nd (fun _ h => h)) E Q ?_
          have hb : (vs.length == ws.length) = true := by rw [hl]; simp
          rw [hb]
          exact hq
theorem Dz.eqPs (I : Inv X pins σ H s) : ∀ (ds : List PyData) (A : Around) (xs ys : List V) (us ws : List Value), A.units + PyData.depthAll ds < cLine → DzAll X.K H xs ds → DzAll X.K H ys ds → Vals xs us → Vals ys ws →
    us.length = ws.length ∧ ∀ j (h1 : j < us.length) (h2 : j < ws.length), SeqAt.EqP X.prog X.w A s us[j] ws[j] true
  | [], _, _, _, _, _, _, h, g, r, q => by
    cases h; cases g; cases r; cases q
    exact ⟨rfl, fun j h1 => absurd h1 (Nat.not_lt_zero j)⟩
  | d :: ds, A, _, _, _, _, hu, h, g, r, q => by
    cases h with
    | cons h1 h2 =>
      cases g with
      | cons g1 g2 =>
        cases r with
        | cons r1 r2 =>
          cases q with
          | cons q1 q2 =>
            simp only [PyData.depthAll] at hu
            have e1 := Dz.eqP I d A _ _ _ _ (by omega) h1 g1 r1 q1
            obtain ⟨l, e2⟩ := Dz.eqPs I ds A _ _ _ _ (by omega) h2 g2 r2 q2
            refine ⟨congrArg (· + 1) l, fun j j1 j2 => ?_⟩
            cases j with
            | zero => exact e1
            | succ j => exact e2 j (Nat.lt_of_succ_lt_succ j1) (Nat.lt_of_succ_lt_succ j2)
theorem Dz.eqKv (I : Inv X pins σ H s) : ∀ (ds : List (PyData × PyData)) (A : Around) (kvs ls : List (Key × V)) (vs ws : List (Key × Value)), A.units + PyData.depthKv ds < cLine → DzKv X.K H kvs ds → DzKv X.K H ls ds → KV kvs vs → KV ls ws →
    vs.length = ws.length ∧ ∀ all : List (Key × Value), (all.map (·.1)).Nodup → (∀ p ∈ ws, p ∈ all) → PySem.W.KeqHitsP X.prog X.w A s all vs true
  | [], _, _, _, _, _, _, h, g, r, q => by
    cases h; cases g; cases r; cases q
    exact ⟨rfl, fun _ _ _ => .nil⟩
  | (k, d) :: ds, A, _, _, _, _, hu, h, g, r, q => by
    cases h with
    | cons h1 h2 =>
      cases g with
      | cons g1 g2 =>
        cases r with
        | @cons _ p _ _ r1 r2 =>
          cases q with
          | @cons _ p' _ _ q1 q2 =>
            simp only [PyData.depthKv] at hu
            obtain ⟨pk, pv⟩ := p
            obtain ⟨pk', pv'⟩ := p'
            obtain ⟨rfl, r1⟩ := r1
            obtain ⟨rfl, q1⟩ := q1
            have e1 := Dz.eqP I d A _ _ _ _ (by omega) h1 g1 r1 q1
            obtain ⟨l, e2⟩ := Dz.eqKv I ds A _ _ _ _ (by omega) h2 g2 r2 q2
            refine ⟨congrArg (· + 1) l, fun all nd hm => ?_⟩
            exact PySem.W.KeqHitsP.hit (e := true) (b := true) (val_at nd (hm _ (List.mem_cons_self ..))) e1 (e2 all nd fun p hp => hm p (List.mem_cons_of_mem _ hp))
end
end
/-! ### == and != of the same data, repr of data -/
inductive Box : PyData → Prop
  | tup (ds : List PyData) : Box (.tuple ds)
  | dct (ds : List (PyData × PyData)) : Box (.dict ds)
def rEqZ (K : PySem.W.Frag) : R2 := fun x y H Q => ∃ d, Box d ∧ Dz K H x d ∧ Dz K H y d ∧ d.depth ≤ 60 ∧ Q (.bl true) H
def rNeZ (K : PySem.W.Frag) : R2 := fun x y H Q => ∃ d, Box d ∧ Dz K H x d ∧ Dz K H y d ∧ d.depth ≤ 60 ∧ Q (.bl false) H
section
variable {X : Cx} {pins : List (Addr × Obj)} {σ : L2.St} {H : Hp} {s : Shared}
theorem dz_nodup {h : Heap} {a : Addr} {P : Program} {w : World} {ws : List (Key × Value)} (d : h.DictOf (mixKind P w) a ws) : (ws.map (·.1)).Nodup := by
  obtain ⟨_, _, _, _, _, _, _, _, nd⟩ := d
  exact nd
theorem op_eqZ (hu : X.A.units + 64 < cLine) : OpR X (compareOp .Eq) (rEqZ X.K) := by
  intro pins s σ H x y v u Q I rx ry h
  obtain ⟨d, bx, h1, h2, hd, q⟩ := h
  cases bx with
  | tup ds =>
    simp only [PyData.depth] at hd
    cases h1 with
    | @tup a xs _ hs ha =>
      cases h2 with
      | @tup b ys _ gs ga =>
        cases rx; cases ry
        obtain ⟨its, rv, ht, _⟩ := I.tuple hs
        obtain ⟨its2, rv2, ht2, _⟩ := I.tuple gs
        obtain ⟨hl, hj⟩ := Dz.eqPs I ds X.A.in1 xs ys its its2 (by show X.A.units + 1 + _ < cLine; omega) ha ga rv rv2
        exact rcSame ht ht2 (by simpa using hl) (by omega) (fun j h1 h2 => by simpa using hj j (by simpa using h1) (by simpa using h2)) _ _ ⟨.bl true, H, I, rfl, q⟩
  | dct ds =>
    simp only [PyData.depth] at hd
    cases h1 with
    | @dct a kvs _ hs ha =>
      cases h2 with
      | @dct b ls _ gs ga =>
        cases rx; cases ry
        obtain ⟨_, na, vs, kv, da⟩ := hs.ok I.hok
        obtain ⟨_, nb, ws, kw, db⟩ := gs.ok I.hok
        obtain ⟨hl, hj⟩ := Dz.eqKv I ds X.A.in1 kvs ls vs ws (by show X.A.units + 1 + _ < cLine; omega) ha ga kv kw
        refine PySem.W.rcP_dicts (knd := mixKind X.prog X.w) (r := true) na nb da db (by omega) (fun _ => hj ws (dz_nodup db) (fun _ h => h)) _ _ ?_
        have hb : (vs.length == ws.length) = true := by rw [hl]; simp
        rw [hb]
        exact ⟨.bl true, H, I, rfl, q⟩
theorem op_neZ (hu : X.A.units + 64 < cLine) : OpR X (compareOp .NotEq) (rNeZ X.K) := by
  intro pins s σ H x y v u Q I rx ry h
  obtain ⟨d, bx, h1, h2, hd, q⟩ := h
  cases bx with
  | tup ds =>
    simp only [PyData.depth] at hd
    cases h1 with
    | @tup a xs _ hs ha =>
      cases h2 with
      | @tup b ys _ gs ga =>
        cases rx; cases ry
        obtain ⟨its, rv, ht, _⟩ := I.tuple hs
        obtain ⟨its2, rv2, ht2, _⟩ := I.tuple gs
        obtain ⟨hl, hj⟩ := Dz.eqPs I ds X.A.in1 xs ys its its2 (by show X.A.units + 1 + _ < cLine; omega) ha ga rv rv2
        exact rcSameN ht ht2 (by simpa using hl) (by omega) (fun j h1 h2 => by simpa using hj j (by simpa using h1) (by simpa using h2)) _ _ ⟨.bl false, H, I, rfl, q⟩
  | dct ds =>
    simp only [PyData.depth] at hd
    cases h1 with
    | @dct a kvs _ hs ha =>
      cases h2 with
      | @dct b ls _ gs ga =>
        cases rx; cases ry
        obtain ⟨_, na, vs, kv, da⟩ := hs.ok I.hok
        obtain ⟨_, nb, ws, kw, db⟩ := gs.ok I.hok
        obtain ⟨hl, hj⟩ := Dz.eqKv I ds X.A.in1 kvs ls vs ws (by show X.A.units + 1 + _ < cLine; omega) ha ga kv kw
        exact rcSameD (kd := mixKind X.prog X.w) na nb da db (by omega) (fun _ => hj ws (dz_nodup db) (fun _ h => h)) hl _ _ ⟨.bl false, H, I, rfl, q⟩
theorem op_eqZk {K' : PySem.W.Frag} (h : X.A.units + 64 < cLine) (e : X.K = K') : OpR X (compareOp .Eq) (rEqZ K') := e ▸ op_eqZ h
theorem op_neZk {K' : PySem.W.Frag} (h : X.A.units + 64 < cLine) (e : X.K = K') : OpR X (compareOp .NotEq) (rNeZ K') := e ▸ op_neZ h
end
/-! ### how long what is shown may be -/
mutual
def wz : PyData → Nat
  | .none => 4
  | .bool _ => 5
  | .int i => (Str.ofString (toString i)).length
  | .str x => 10 * x.length + 2
  | .list xs => wzs xs + 2
  | .tuple xs => wzs xs + 3
  | .dict kvs => wzk kvs + 2
def wzs : List PyData → Nat
  | [] => 0
  | x :: xs => wz x + 2 + wzs xs
def wzk : List (PyData × PyData) → Nat
  | [] => 0
  | (a, b) :: r => wz a + wz b + 4 + wzk r
end
mutual
def okZ : PyData → Prop
  | .none => True
  | .bool _ => True
  | .int i => i.natAbs.log2 < 1920
  | .str x => ∀ c ∈ x.cps.toList, c < 16 ^ 8
  | .list xs => okZs xs
  | .tuple xs => okZs xs
  | .dict kvs => okZk kvs
def okZs : List PyData → Prop
  | [] => True
  | x :: xs => okZ x ∧ okZs xs
def okZk : List (PyData × PyData) → Prop
  | [] => True
  | (a, b) :: r => okZ a ∧ okZ b ∧ okZk r
end
theorem dictText_le (ts : List Str) : (dictText ts).length ≤ piled ts + 2 := by
  have e : (dictText ts).length = 1 + (Str.join ", " ts).length + 1 := by
    unfold dictText
    rw [strLen_append, strLen_append]
    rfl
  by_cases h : ts = []
  · subst h
    have e4 : (Str.join ", " ([] : List Str)).length = 0 := rfl
    omega
  · have := join_length_add ts h
    omega
mutual
theorem okZ_show : ∀ d : PyData, okZ d → d.showable = true
  | .none, _ => by simp only [PyData.showable]
  | .bool _, _ => by simp only [PyData.showable]
  | .int i, h => by simp only [PyData.showable, decide_eq_true_eq]; exact h
  | .str _, _ => by simp only [PyData.showable]
  | .list xs, h => by simp only [PyData.showable]; exact okZs_show xs h
  | .tuple xs, h => by simp only [PyData.showable]; exact okZs_show xs h
  | .dict kvs, h => by simp only [PyData.showable]; exact okZk_show kvs h
theorem okZs_show : ∀ ds : List PyData, okZs ds → PyData.showableAll ds = true
  | [], _ => by simp only [PyData.showableAll]
  | d :: ds, h => by simp only [PyData.showableAll, okZ_show d h.1, okZs_show ds h.2, Bool.and_self]
theorem okZk_show : ∀ ds : List (PyData × PyData), okZk ds → PyData.showableKv ds = true
  | [], _ => by simp only [PyData.showableKv]
  | (a, b) :: ds, h => by simp only [PyData.showableKv, okZ_show a h.1, okZ_show b h.2.1, okZk_show ds h.2.2, Bool.and_self]
end
mutual
theorem shown_wz : ∀ d : PyData, okZ d → d.shown.length ≤ wz d
  | .none, _ => by simp only [PyData.shown, wz]; decide
  | .bool b, _ => by cases b <;> (simp only [PyData.shown, wz]; decide)
  | .int i, h => by
    simp only [PyData.shown, wz]
    exact Nat.le_refl _
  | .str x, h => by
    simp only [PyData.shown, wz]
    exact StrLaws.reprText_len x h
  | .list xs, h => by
    have := shown_wzs xs h
    have := listText_le (PyData.shownAll xs)
    simp only [PyData.shown, wz]
    omega
  | .tuple xs, h => by
    have := shown_wzs xs h
    have := tupleText_le (PyData.shownAll xs)
    simp only [PyData.shown, wz]
    omega
  | .dict kvs, h => by
    have := shown_wzk kvs h
    have := dictText_le (PyData.shownKv kvs)
    simp only [PyData.shown, wz]
    omega
theorem shown_wzs : ∀ ds : List PyData, okZs ds → piled (PyData.shownAll ds) ≤ wzs ds
  | [], _ => by simp only [PyData.shownAll, wzs]; decide
  | d :: ds, h => by
    have h1 := shown_wz d h.1
    have h2 := shown_wzs ds h.2
    simp only [PyData.shownAll, wzs, piled_cons]
    omega
theorem shown_wzk : ∀ ds : List (PyData × PyData), okZk ds → piled (PyData.shownKv ds) ≤ wzk ds
  | [], _ => by simp only [PyData.shownKv, wzk]; decide
  | (a, b) :: ds, h => by
    have h1 := shown_wz a h.1
    have h2 := shown_wz b h.2.1
    have h3 := shown_wzk ds h.2.2
    simp only [PyData.shownKv, wzk, piled_cons]
    have e : (a.shown ++ ": " ++ b.shown).length = a.shown.length + 2 + b.shown.length := by
      rw [strLen_append, strLen_append]
      rfl
    omega
end
/-- data that can be shown, dicts too -/
structure ShZ (d : PyData) : Prop where
  ok : okZ d
  wt : wz d ≤ sizeLine
  dp : d.depth ≤ 60
def rReprZ (K : PySem.W.Frag) : List V → Hp → VK → Prop := fun xs H Q => ∃ v d, xs = [v] ∧ Box d ∧ Dz K H v d ∧ ShZ d ∧ Q (.str d.shown) H
theorem call_reprZ {X : Cx} {k : Nat} (hr : Room k X.A) (hg : X.A.guards = some []) : CallR X (.builtin "repr") (rReprZ X.K) := by
  intro pins s σ H xs us Q I r h
  obtain ⟨v, d, rfl, bx, hd, sh, q⟩ := h
  obtain ⟨u, rfl, ru⟩ := vals1 r
  obtain ⟨as, rd, hn⟩ := Dz.reads I d v u hd ru
  have hs := okZ_show d sh.ok
  have hz : d.shown.length ≤ sizeLine := Nat.le_trans (shown_wz d sh.ok) sh.wt
  have hu := hr.un
  have hdp := sh.dp
  obtain ⟨a, rfl⟩ : ∃ a, v = .ref a := by
    cases bx with
    | tup ds => cases hd; exact ⟨_, rfl⟩
    | dct ds => cases hd; exact ⟨_, rfl⟩
  cases ru
  exact repr_of_reads' rd hs (fun _ => hn) hg (by omega) (fun _ _ e => e) (fun h' u tk hk => ⟨.str _, H, I.kept hk, ⟨_, rfl⟩, q⟩) hz
end Ts

namespace Ts
open PySem PySem.Spec PyProof.Rows L2
/-! ### what is put in, piece by piece -/
theorem ahead41 {ins l : List Nat} (h : 41 ∉ ins) : ahead 41 (ins ++ 41 :: l) = ins := by
  induction ins with
  | nil => rfl
  | cons c r ih =>
    have hc : c ≠ 41 := fun e => h (e ▸ List.mem_cons_self ..)
    show List.takeWhile _ (c :: (r ++ 41 :: l)) = _
    rw [List.takeWhile_cons, if_pos (by simpa using hc)]
    exact congrArg (c :: ·) (ih fun m => h (List.mem_cons_of_mem _ m))
theorem told_R {x : Nat} {ins l : List Nat} (h : 41 ∉ ins) (hj : justL [x] ins = true) : toldL (92 :: x :: 40 :: (ins ++ 41 :: l)) = ([x], ins) := by
  unfold toldL
  rw [if_pos ⟨rfl, rfl⟩]
  show (if 41 ∈ ins ++ 41 :: l ∧ justL [x] (ahead 41 (ins ++ 41 :: l)) = true then ([x], ahead 41 (ins ++ 41 :: l)) else ([], [])) = _
  rw [ahead41 h, if_pos ⟨by simp, hj⟩]
section
variable {ss : Strs} {as : List (List Nat)} {rs rs' : Regs} {u l : List Nat}
theorem puts_told {x : Nat} {ins : List Nat} (h : 41 ∉ ins) (hj : justL [x] ins = true) (p : Puts ss as l (oneR [x] ins rs) u rs') : Puts ss as (92 :: x :: 40 :: (ins ++ 41 :: l)) rs (oneT [x] ins rs ss as ++ u) rs' := by
  have ht := told_R (l := l) h hj
  have := Puts.told (ss := ss) (as := as) (l := 92 :: x :: 40 :: (ins ++ 41 :: l)) (u := u) (rs := rs) (rs' := rs') (by rw [ht]; simp) (by
    rw [ht]
    have e : (92 :: x :: 40 :: (ins ++ 41 :: l)).drop (ins.length + 4) = l := by
      show (ins ++ 41 :: l).drop (ins.length + 1) = l
      simp
    rw [e]
    exact p)
  rw [ht] at this
  exact this
theorem told_not {c : Nat} (h : c ≠ 92) : (toldL (c :: l)).1 = [] := by
  unfold toldL
  rw [if_neg fun e => h (by simpa using e.1)]
theorem puts_one {c : Nat} (h : c ≠ 92) (p : Puts ss as l rs u rs') : Puts ss as (c :: l) rs (c :: u) rs' :=
  Puts.one (told_not h) (fun e => h (by
    cases l with
    | nil => simp at e
    | cons d r => simp at e; exact e.1)) (by simp) p
end
theorem ex_none {H H' : Hp} {a : Addr} (e : Ex H H') (n : H' a = none) : H a = none := by
  cases h : H a with
  | none => rfl
  | some o => rw [e _ _ h] at n; cases n
/-! ### a register asked many times -/
def stepN : Nat → Reg → Reg
  | 0, r => r
  | n + 1, r => stepN n (stepR r)
theorem stepN_succ : ∀ (n : Nat) (r : Reg), stepN (n + 1) r = stepR (stepN n r)
  | 0, _ => rfl
  | n + 1, r => stepN_succ n (stepR r)
theorem stepN_form : ∀ (n : Nat) (r : Reg), (stepN n r).2 = r.2
  | 0, _ => rfl
  | n + 1, r => stepN_form n (stepR r)
theorem stepN_bd {n : Nat} {r : Reg} (h : -9999 ≤ r.1 ∧ r.1 ≤ 9999) : -9999 ≤ (stepN n r).1 ∧ (stepN n r).1 ≤ 9999 := by
  cases n with
  | zero => exact h
  | succ n =>
    rw [stepN_succ]
    show -9999 ≤ max (-9999) (min _ 9999) ∧ max (-9999) (min _ 9999) ≤ 9999
    omega
def textsN (n : Nat) (r : Reg) : List (List Nat) := (List.range n).map fun j => shownN (stepN (j + 1) r).1 r.2.2
theorem textsN_succ (n : Nat) (r : Reg) : textsN (n + 1) r = shownN (stepR r).1 r.2.2 :: textsN n (stepR r) := by
  unfold textsN
  rw [List.range_succ_eq_map, List.map_cons, List.map_map]
  rfl
abbrev nmA : List Nat := [97]
abbrev nmO : List Nat := [111, 116, 104, 101, 114]
abbrev askP : List Nat := [32, 92, 82, 40, 43, 97, 41]
abbrev askO : List Nat := [32, 92, 82, 40, 111, 116, 104, 101, 114, 41]
theorem oneR_plus {rs : Regs} {r : Reg} (h : lookA rs nmA = some r) : oneR [82] [43, 97] rs = putA rs nmA (stepR r) := by
  unfold oneR
  rw [if_neg (by decide), if_neg (by decide), show stripP [43, 97] = nmA from rfl, h]
  exact if_pos ⟨by decide, by decide⟩
theorem oneR_plain {rs : Regs} {ins : List Nat} (h : stripP ins = ins) : oneR [82] ins rs = rs := by
  unfold oneR
  rw [if_neg (by decide), if_neg (by decide)]
  split
  · rfl
  · exact if_neg fun e => e.1 h
theorem oneT_R {rs : Regs} {ins : List Nat} {ss : Strs} {as : List (List Nat)} {r : Reg} (h : lookA (oneR [82] ins rs) (stripP ins) = some r) : oneT [82] ins rs ss as = shownN r.1 r.2.2 := by
  unfold oneT
  rw [if_neg (by decide), if_neg (by decide), h]
theorem oneT_none {rs : Regs} {ins : List Nat} {ss : Strs} {as : List (List Nat)} (h : lookA (oneR [82] ins rs) (stripP ins) = none) : oneT [82] ins rs ss as = [48] := by
  unfold oneT
  rw [if_neg (by decide), if_neg (by decide), h]
theorem walkP : ∀ (n : Nat) (r o : Reg), Puts [] [] ((List.replicate n askP).flatten ++ askO) [(nmA, r), (nmO, o)] (((textsN n r).map (32 :: ·)).flatten ++ 32 :: shownN o.1 o.2.2) [(nmA, stepN n r), (nmO, o)]
  | 0, r, o => by
    show Puts [] [] (32 :: (92 :: 82 :: 40 :: ([111, 116, 104, 101, 114] ++ 41 :: []))) _ (32 :: shownN o.1 o.2.2) _
    refine puts_one (by decide) ?_
    have hR : oneR [82] nmO [(nmA, r), (nmO, o)] = [(nmA, r), (nmO, o)] := oneR_plain rfl
    have hT : oneT [82] nmO [(nmA, r), (nmO, o)] [] [] = shownN o.1 o.2.2 := oneT_R (by rw [hR]; rfl)
    have := puts_told (ss := []) (as := []) (l := []) (x := 82) (ins := nmO) (rs := [(nmA, r), (nmO, o)]) (by decide) (by decide) (by rw [hR]; exact .nil _)
    rw [hT, List.append_nil] at this
    exact this
  | n + 1, r, o => by
    have ih := walkP n (stepR r) o
    rw [List.replicate_succ, List.flatten_cons, textsN_succ, List.map_cons, List.flatten_cons, List.append_assoc, List.append_assoc]
    show Puts [] [] (32 :: (92 :: 82 :: 40 :: ([43, 97] ++ 41 :: ((List.replicate n askP).flatten ++ askO)))) _ (32 :: (shownN (stepR r).1 r.2.2 ++ _)) _
    refine puts_one (by decide) ?_
    have hR : oneR [82] [43, 97] [(nmA, r), (nmO, o)] = [(nmA, stepR r), (nmO, o)] := oneR_plus rfl
    have hT : oneT [82] [43, 97] [(nmA, r), (nmO, o)] [] [] = shownN (stepR r).1 r.2.2 := oneT_R (by rw [hR]; rfl)
    have := puts_told (ss := []) (as := []) (x := 82) (ins := [43, 97]) (rs := [(nmA, r), (nmO, o)]) (by decide) (by decide) (by rw [hR]; exact ih)
    rw [hT] at this
    exact this
theorem walkA (n : Nat) (r o : Reg) : Puts [] [] ([92, 82, 40, 97, 41] ++ ((List.replicate n askP).flatten ++ askO)) [(nmA, r), (nmO, o)] (shownN r.1 r.2.2 ++ (((textsN n r).map (32 :: ·)).flatten ++ 32 :: shownN o.1 o.2.2)) [(nmA, stepN n r), (nmO, o)] := by
  have hR : oneR [82] nmA [(nmA, r), (nmO, o)] = [(nmA, r), (nmO, o)] := oneR_plain rfl
  have hT : oneT [82] nmA [(nmA, r), (nmO, o)] [] [] = shownN r.1 r.2.2 := oneT_R (by rw [hR]; rfl)
  have := puts_told (ss := []) (as := []) (x := 82) (ins := nmA) (rs := [(nmA, r), (nmO, o)]) (by decide) (by decide) (by rw [hR]; exact walkP n r o)
  rw [hT] at this
  exact this
theorem one_A (r o : Reg) : Puts [] [] [92, 82, 40, 97, 41] [(nmA, r), (nmO, o)] (shownN r.1 r.2.2) [(nmA, r), (nmO, o)] := by
  have hR : oneR [82] nmA [(nmA, r), (nmO, o)] = [(nmA, r), (nmO, o)] := oneR_plain rfl
  have hT : oneT [82] nmA [(nmA, r), (nmO, o)] [] [] = shownN r.1 r.2.2 := oneT_R (by rw [hR]; rfl)
  have := puts_told (ss := []) (as := []) (l := []) (x := 82) (ins := nmA) (rs := [(nmA, r), (nmO, o)]) (by decide) (by decide) (by rw [hR]; exact .nil _)
  rw [hT, List.append_nil] at this
  exact this
abbrev nmB2 : List Nat := [97, 98]
theorem one_AB (r : Reg) : Puts [] [] [92, 82, 40, 97, 98, 41] [(nmB2, r)] (shownN r.1 r.2.2) [(nmB2, r)] := by
  have hR : oneR [82] nmB2 [(nmB2, r)] = [(nmB2, r)] := oneR_plain rfl
  have hT : oneT [82] nmB2 [(nmB2, r)] [] [] = shownN r.1 r.2.2 := oneT_R (by rw [hR]; rfl)
  have := puts_told (ss := []) (as := []) (l := []) (x := 82) (ins := nmB2) (rs := [(nmB2, r)]) (by decide) (by decide) (by rw [hR]; exact .nil _)
  rw [hT, List.append_nil] at this
  exact this
theorem puts_none {ins : List Nat} (h : stripP ins = [110, 111, 110, 101]) (h2 : 41 ∉ ins) (l : List Nat) : Puts [] [] l [] l [] → Puts [] [] (92 :: 82 :: 40 :: (ins ++ 41 :: l)) [] (48 :: l) [] := fun p => by
  have hR : oneR [82] ins [] = [] := by
    unfold oneR
    rw [if_neg (by decide), if_neg (by decide)]
    rfl
  have hT : oneT [82] ins [] [] [] = [48] := oneT_none (by rw [hR]; rfl)
  have := puts_told (ss := []) (as := []) (l := l) (x := 82) (ins := ins) (rs := []) h2 (by unfold justL; rw [if_pos rfl, h]; decide) (by rw [hR]; exact p)
  rw [hT] at this
  exact this
theorem sh_shown {v : Int} {f : List Nat} (h0 : -1000000 ≤ v) (h1 : v ≤ 1000000) : Sh (.str (S (shownN v f))) :=
  Sh.of (okw_str (okL.ok (n := 20) ⟨shownN_le h0 h1, fun c hc => Nat.lt_trans (shownN_lt c hc) (by decide)⟩)) (by decide) (by decide)
theorem joinL_cons (w a : List Nat) : ∀ l : List (List Nat), TL.joinL w (a :: l) = a ++ (l.map (w ++ ·)).flatten
  | [] => by simp [TL.joinL]
  | b :: r => by
    have := joinL_cons w b r
    rw [show TL.joinL w (a :: b :: r) = a ++ (w ++ TL.joinL w (b :: r)) by simp [TL.joinL], this]
    simp
def dueN (n : Nat) (r : Reg) : List (List Nat) := (List.range (n + 1)).map fun j => shownN (stepN j r).1 r.2.2
theorem dueN_eq (n : Nat) (r : Reg) : dueN n r = shownN r.1 r.2.2 :: textsN n r := by
  unfold dueN textsN
  rw [List.range_succ_eq_map, List.map_cons, List.map_map]
  rfl
theorem due_join (n : Nat) (r : Reg) (o : List Nat) : TL.joinL [32] (dueN n r ++ [o]) = shownN r.1 r.2.2 ++ (((textsN n r).map (32 :: ·)).flatten ++ 32 :: o) := by
  rw [dueN_eq, List.cons_append, joinL_cons, List.map_append, List.flatten_append]
  simp
theorem join_bd {k : Nat} : ∀ {ws : List (List Nat)}, (∀ z ∈ ws, z.length ≤ k) → (TL.joinL [32] ws).length ≤ ws.length * (k + 1)
  | [], _ => by simp [TL.joinL]
  | a :: l, h => by
    rw [joinL_cons, List.length_append, List.length_cons, Nat.succ_mul]
    have h1 := h a (List.mem_cons_self ..)
    have h2 : ∀ l : List (List Nat), (∀ z ∈ l, z.length ≤ k) → (l.map ([32] ++ ·)).flatten.length ≤ l.length * (k + 1) := by
      intro l
      induction l with
      | nil => intro _; simp
      | cons b l ih =>
        intro h
        have h3 := ih fun z hz => h z (List.mem_cons_of_mem _ hz)
        have h4 := h b (List.mem_cons_self ..)
        rw [List.map_cons, List.flatten_cons, List.length_append, List.length_cons, Nat.succ_mul, List.length_append]
        simp only [List.length_cons, List.length_nil]
        omega
    have h3 := h2 l fun z hz => h z (List.mem_cons_of_mem _ hz)
    omega
theorem sumB {k : Nat} : ∀ {ws : List (List Nat)}, (∀ z ∈ ws, z.length ≤ k) → (ws.map List.length).sum ≤ ws.length * k
  | [], _ => by simp
  | a :: l, h => by
    have h1 := h a (List.mem_cons_self ..)
    have h2 := sumB (ws := l) fun z hz => h z (List.mem_cons_of_mem _ hz)
    rw [List.map_cons, List.sum_cons, List.length_cons, Nat.succ_mul]
    omega
theorem dueN_le {n : Nat} {r : Reg} (h : -9999 ≤ r.1 ∧ r.1 ≤ 9999) : ∀ z ∈ dueN n r, z.length ≤ 20 := fun z hz => by
  unfold dueN at hz
  obtain ⟨j, _, rfl⟩ := List.mem_map.mp hz
  have := stepN_bd (n := j) h
  exact shownN_le (by omega) (by omega)
theorem dueN_take (n : Nat) (r : Reg) : dueN (n + 1) r = dueN n r ++ [shownN (stepN (n + 1) r).1 r.2.2] := by
  unfold dueN
  rw [List.range_succ, List.map_append]
  rfl
/-! ### registers and strings as data -/
def dRg (r : Reg) : PyData := .tuple [.int r.1, .int r.2.1, .str (S r.2.2)]
def dRgs (rs : Regs) : PyData := .dict (rs.map fun x => (.str (S x.1), dRg x.2))
def dSrs (ss : Strs) : PyData := .dict (ss.map fun x => (.str (S x.1), .str (S x.2)))
section
variable {K : PySem.W.Frag} {H : Hp}
theorem RgV.dp {v : V} {r : Reg} : RgV K H v r → Dp K H v (dRg r) := fun ⟨b, h, h1⟩ => by
  subst h
  exact .tup h1 (.cons (.int _) (.cons (.int _) (.cons (.str _) .nil)))
theorem RgV.dz {v : V} {r : Reg} : RgV K H v r → Dz K H v (dRg r) := fun ⟨b, h, h1⟩ => by
  subst h
  exact .tup h1 (.cons (.int _) (.cons (.int _) (.cons (.str _) .nil)))
theorem EntA.dz {α : Type} {A : V → α → Prop} {f : α → PyData} (h : ∀ v r, A v r → Dz K H v (f r)) : ∀ {kvs : List (Key × V)} {rs : List (List Nat × α)}, EntA A kvs rs → DzKv K H kvs (rs.map fun x => (.str (S x.1), f x.2))
  | [], [], _ => .nil
  | (k, v) :: kvs, (n, r) :: rs, ⟨h1, h2, h3⟩ => by
    subst h1
    exact .cons (h _ _ h2) (EntA.dz h h3)
  | [], _ :: _, e => e.elim
  | _ :: _, [], e => e.elim
theorem RgsAt.dz {a : Addr} {rs : Regs} : RgsAt K H a rs → Dz K H (.ref a) (dRgs rs) := fun ⟨kvs, h, h1⟩ => .dct h (EntA.dz (f := dRg) (fun _ _ => RgV.dz) h1)
theorem SrsAt.dz {a : Addr} {ss : Strs} : SrsAt H a ss → Dz K H (.ref a) (dSrs ss) := fun ⟨kvs, h, h1⟩ => .dct h (EntA.dz (f := fun t => .str (S t)) (fun v r e => by
  have e : v = .str (S r) := e
  subst e
  exact Dz.str _) h1)
theorem Dp.dz : ∀ {v : V} {z : List Nat}, v = SV z → Dz K H v (.str (S z)) := fun e => e ▸ .str _
theorem dz_strs : ∀ zs : List (List Nat), DzAll K H (zs.map SV) (zs.map dS)
  | [] => .nil
  | _ :: r => .cons (.str _) (dz_strs r)
end
theorem dRgs_depth (rs : Regs) : (dRgs rs).depth ≤ 2 := by
  have h : ∀ rs : Regs, PyData.depthKv (rs.map fun x => (PyData.str (S x.1), dRg x.2)) ≤ 1 := by
    intro rs
    induction rs with
    | nil => simp [PyData.depthKv]
    | cons x r ih =>
      have h2 : (dRg x.2).depth ≤ 1 := by simp [dRg, PyData.depth, PyData.depthAll]
      simp only [List.map_cons, PyData.depthKv, PyData.depth]
      omega
  have := h rs
  simp only [dRgs, PyData.depth]
  omega
theorem dSrs_depth (ss : Strs) : (dSrs ss).depth ≤ 1 := by
  have h : ∀ ss : Strs, PyData.depthKv (ss.map fun x => (PyData.str (S x.1), PyData.str (S x.2))) ≤ 0 := by
    intro rs
    induction rs with
    | nil => simp [PyData.depthKv]
    | cons x r ih =>
      simp only [List.map_cons, PyData.depthKv, PyData.depth]
      omega
  have := h ss
  simp only [dSrs, PyData.depth]
  omega
/-- a text and registers -/
def dTR (u : List Nat) (rs : Regs) : PyData := .tuple [.str (S u), dRgs rs]
theorem dTR_depth (u : List Nat) (rs : Regs) : (dTR u rs).depth ≤ 60 := by
  have := dRgs_depth rs
  simp only [dTR, PyData.depth, PyData.depthAll]
  omega
section
variable {K : PySem.W.Frag} {H : Hp} {Q : VK} {x y : V}
theorem r_eqZ {d : PyData} (b : Box d) (h1 : Dz K H x d) (h2 : Dz K H y d) (hd : d.depth ≤ 60) (q : Q (.bl true) H) : rEqZ K x y H Q := ⟨d, b, h1, h2, hd, q⟩
theorem r_neZ {d : PyData} (b : Box d) (h1 : Dz K H x d) (h2 : Dz K H y d) (hd : d.depth ≤ 60) (q : Q (.bl false) H) : rNeZ K x y H Q := ⟨d, b, h1, h2, hd, q⟩
theorem r_reprZ {d : PyData} (b : Box d) (h : Dz K H x d) (s : ShZ d) (q : Q (.str d.shown) H) : rReprZ K [x] H Q := ⟨x, d, rfl, b, h, s, q⟩
theorem dz_TR {a d : Addr} {u : List Nat} {rs : Regs} (h : SqT K H a [.str (S u), .ref d]) (g : RgsAt K H d rs) : Dz K H (.ref a) (dTR u rs) := .tup h (.cons (.str _) (.cons g.dz .nil))
end
/-! ### bounds of what is shown -/
structure OkZ (d : PyData) (n k : Nat) : Prop where
  ok : okZ d
  wt : wz d ≤ n
  dp : d.depth ≤ k
structure OkZs (ds : List PyData) (n k : Nat) : Prop where
  ok : okZs ds
  wt : wzs ds ≤ n
  dp : PyData.depthAll ds ≤ k
structure OkZk (ds : List (PyData × PyData)) (n k : Nat) : Prop where
  ok : okZk ds
  wt : wzk ds ≤ n
  dp : PyData.depthKv ds ≤ k
theorem ShZ.of {d : PyData} {n k : Nat} (h : OkZ d n k) (hn : n ≤ sizeLine) (hk : k ≤ 60) : ShZ d := ⟨h.ok, Nat.le_trans h.wt hn, Nat.le_trans h.dp hk⟩
theorem okz_int {i : Int} (h1 : -10000000000000000000000000000000000000000 < i) (h2 : i < 10000000000000000000000000000000000000000) : OkZ (.int i) 41 0 := by
  have := okw_int h1 h2
  exact ⟨by simpa only [okZ, okD] using this.ok, by simpa only [wz, wt] using this.wt, this.dp⟩
theorem okz_str {n : Nat} {z : List Nat} (h : z.length ≤ n) (g : ∀ c ∈ z, c < 1114112) : OkZ (.str (S z)) (10 * n + 2) 0 :=
  ⟨by simp only [okZ]; exact fun c hc => Nat.lt_trans (g c hc) (by decide), by simp only [wz, S_len]; omega, by simp only [PyData.depth]; decide⟩
theorem okz_tup {ds : List PyData} {n k : Nat} (h : OkZs ds n k) : OkZ (.tuple ds) (n + 3) (k + 1) :=
  ⟨by simp only [okZ]; exact h.ok, by simp only [wz]; have := h.wt; omega, by simp only [PyData.depth]; have := h.dp; omega⟩
theorem okz_dct {ds : List (PyData × PyData)} {n k : Nat} (h : OkZk ds n k) : OkZ (.dict ds) (n + 2) (k + 1) :=
  ⟨by simp only [okZ]; exact h.ok, by simp only [wz]; have := h.wt; omega, by simp only [PyData.depth]; have := h.dp; omega⟩
theorem okzs_nil : OkZs [] 0 0 := ⟨trivial, by simp only [wzs]; decide, by simp only [PyData.depthAll]; decide⟩
theorem okzs_cons {d : PyData} {ds : List PyData} {n k n' k' : Nat} (h : OkZ d n k) (t : OkZs ds n' k') : OkZs (d :: ds) (n + 2 + n') (max k k') :=
  ⟨⟨h.ok, t.ok⟩, by simp only [wzs]; have := h.wt; have := t.wt; omega, by simp only [PyData.depthAll]; have := h.dp; have := t.dp; omega⟩
theorem lay_dRg {r : Reg} (h : ∀ c ∈ r.2.2, c < 1114112) : Lay (dRg r) 1 := lay_tup (lays_cons lay_int (lays_cons lay_int (lays_cons (lay_str h) lays_nil)))
theorem okzs_all {n k : Nat} : ∀ {ds : List PyData}, (∀ d ∈ ds, OkZ d n k) → OkZs ds (ds.length * (n + 2)) k
  | [], _ => ⟨trivial, by simp only [wzs]; exact Nat.zero_le _, by simp only [PyData.depthAll]; omega⟩
  | d :: ds, h => by
    have h1 := h d (List.mem_cons_self ..)
    have h2 := okzs_all (ds := ds) fun e he => h e (List.mem_cons_of_mem _ he)
    refine ⟨⟨h1.ok, h2.ok⟩, ?_, ?_⟩
    · simp only [wzs]
      have := h1.wt
      have := h2.wt
      rw [List.length_cons, Nat.succ_mul]
      omega
    · simp only [PyData.depthAll]
      have := h1.dp
      have := h2.dp
      omega
theorem okzk_all {n k : Nat} : ∀ {ds : List (PyData × PyData)}, (∀ d ∈ ds, OkZ d.1 n k ∧ OkZ d.2 n k) → OkZk ds (ds.length * (n + n + 4)) k
  | [], _ => ⟨trivial, by simp only [wzk]; exact Nat.zero_le _, by simp only [PyData.depthKv]; omega⟩
  | (a, b) :: ds, h => by
    obtain ⟨h1, h2⟩ := h (a, b) (List.mem_cons_self ..)
    have h3 := okzk_all (ds := ds) fun e he => h e (List.mem_cons_of_mem _ he)
    refine ⟨⟨h1.ok, h2.ok, h3.ok⟩, ?_, ?_⟩
    · simp only [wzk]
      have g1 : wz a ≤ n := h1.wt
      have g2 : wz b ≤ n := h2.wt
      have g3 := h3.wt
      rw [List.length_cons, Nat.succ_mul]
      omega
    · simp only [PyData.depthKv]
      have g1 : a.depth ≤ k := h1.dp
      have g2 : b.depth ≤ k := h2.dp
      have g3 := h3.dp
      omega
theorem OkZ.le {d : PyData} {n k n' k' : Nat} (h : OkZ d n k) (hn : n ≤ n') (hk : k ≤ k') : OkZ d n' k' := ⟨h.ok, Nat.le_trans h.wt hn, Nat.le_trans h.dp hk⟩
/-- registers that can be shown -/
structure NiceR (rs : Regs) : Prop where
  len : rs.length ≤ 100
  bd : ∀ x ∈ rs, x.1.length ≤ 10 ∧ (∀ c ∈ x.1, c < 1114112) ∧ (-1000000 ≤ x.2.1 ∧ x.2.1 ≤ 1000000) ∧ (-1000000 ≤ x.2.2.1 ∧ x.2.2.1 ≤ 1000000) ∧ x.2.2.2.length ≤ 10 ∧ ∀ c ∈ x.2.2.2, c < 1114112
theorem NiceR.okz {rs : Regs} (h : NiceR rs) : OkZ (dRgs rs) 60000 2 := by
  have : OkZk (rs.map fun x => (PyData.str (S x.1), dRg x.2)) (rs.length * (200 + 200 + 4)) 1 := by
    have := okzk_all (n := 200) (k := 1) (ds := rs.map fun x => (PyData.str (S x.1), dRg x.2)) fun d hd => by
      obtain ⟨x, hx, rfl⟩ := List.mem_map.mp hd
      obtain ⟨h1, h2, h3, h4, h5, h6⟩ := h.bd x hx
      exact ⟨(okz_str h1 h2).le (by decide) (by decide), (okz_tup (okzs_cons (okz_int (by omega) (by omega)) (okzs_cons (okz_int (by omega) (by omega)) (okzs_cons (okz_str h5 h6) okzs_nil)))).le (by decide) (by decide)⟩
    rwa [List.length_map] at this
  have hl : rs.length * (200 + 200 + 4) ≤ 100 * 404 := Nat.mul_le_mul_right _ h.len
  exact (okz_dct this).le (by omega) (by decide)
structure NiceS (ss : Strs) : Prop where
  len : ss.length ≤ 100
  bd : ∀ x ∈ ss, x.1.length ≤ 10 ∧ (∀ c ∈ x.1, c < 1114112) ∧ x.2.length ≤ 100 ∧ ∀ c ∈ x.2, c < 1114112
theorem NiceS.okz {ss : Strs} (h : NiceS ss) : OkZ (dSrs ss) 300000 2 := by
  have : OkZk (ss.map fun x => (PyData.str (S x.1), PyData.str (S x.2))) (ss.length * (1010 + 1010 + 4)) 1 := by
    have := okzk_all (n := 1010) (k := 1) (ds := ss.map fun x => (PyData.str (S x.1), PyData.str (S x.2))) fun d hd => by
      obtain ⟨x, hx, rfl⟩ := List.mem_map.mp hd
      obtain ⟨h1, h2, h3, h4⟩ := h.bd x hx
      exact ⟨(okz_str h1 h2).le (by decide) (by decide), (okz_str h3 h4).le (by decide) (by decide)⟩
    rwa [List.length_map] at this
  have hl : ss.length * (1010 + 1010 + 4) ≤ 100 * 2024 := Nat.mul_le_mul_right _ h.len
  exact (okz_dct this).le (by omega) (by decide)
end Ts

namespace Ts
open PySem PySem.Spec PyProof.Rows L2
/-! ### comprehensions that draw, and make new things -/
section
variable {σ : L2.St} {H : Hp} {Q : VK} {K : PySem.W.Frag}
theorem lc_drK {lo : Int} {n : Nat} {tt : TT} {te : TE} {vs : List Nat} {j : Nat} {p : Addr} (hp : ∃ o, H p = some o) (hz : n < 1000000)
    (hw : ∀ x, wipe ((wipe σ vs).set j (some x)) vs = wipe σ vs)
    (I : Nat → List V → Hp → Prop) (h0 : ∀ H', Ex H H' → I 0 [] H')
    (hK : ∀ D i acc H1 H2, H D = none → Ol H1 D → Kp D H1 H2 → I i acc H1 → I i acc H2)
    (hb : ∀ i acc H', i < n → I i acc H' → Kp p H H' → ∀ (Y : VK) (N : Hp → Prop), (∀ y H4, I (i + 1) (acc ++ [y]) H4 → Kp p H' H4 → Y y H4) → (∀ H3, I (i + 1) acc H3 → Kp p H' H3 → N H3) →
      tt ((wipe σ vs).set j (some (.int (lo + i)))) H' fun b H3 => IfB b (te ((wipe σ vs).set j (some (.int (lo + i)))) H3 Y) (N H3))
    (q : ∀ D H2 acc, H D = none → H2 D = some (.lst acc) → I n acc H2 → Kp p H H2 → Q (.ref D) H2) : LcK (Itr lo n) (gName j) tt te vs σ H Q := by
  intro D nD
  have keep := kpR hp
  refine ⟨fun i m H' => m = n - i ∧ i ≤ n ∧ Kp p H H' ∧ ∃ acc, acc.length ≤ i ∧ I i acc H' ∧ H' D = some (.lst acc), ⟨n, by omega, Nat.zero_le _, (Kp.refl _ _).ex (Evl.Ex.new nD), [], Nat.le_refl _, h0 _ (Evl.Ex.new nD), upd_same⟩, ?_⟩
  rintro i m H' ⟨rfl, hi, hk, acc, hl, hI, hd⟩
  by_cases h : i < n
  · refine .inr ⟨h, fun H'' => i + 1 ≤ n ∧ Kp p H H'' ∧ ∃ acc, acc.length ≤ i + 1 ∧ I (i + 1) acc H'' ∧ H'' D = some (.lst acc), fun H'' hh => ⟨n - (i + 1), by omega, rfl, hh⟩, fun x H2 y => ?_⟩
    obtain ⟨rfl, rfl⟩ := y
    refine ⟨hw _, hb i acc _ h hI hk _ _ (fun y H4 h4 k4 => ?_) (fun H3 h3 k3 => ⟨by omega, hk.trans k3, acc, by omega, h3, keep _ _ _ _ nD k3 hd⟩)⟩
    have hd4 := keep _ _ _ _ nD k4 hd
    exact ⟨acc, hd4, Nat.lt_of_lt_of_le (m := 1000000) (by omega) (by decide), by omega, (hk.trans k4).updN nD, acc ++ [y], by rw [List.length_append]; exact Nat.succ_le_succ hl, hK D _ _ _ _ nD ⟨_, hd4⟩ Kp.upd h4, upd_same⟩
  · have : i = n := by omega
    subst this
    exact .inl ⟨Nat.le_refl _, q D H' acc nD hd hI hk⟩
end
/-! ### pieces of a line, and what is put in for each -/
/-- a piece a that tells b whatever stands behind it -/
def PcT (ss : Strs) (as : List (List Nat)) (a b : List Nat) : Prop := ∀ (l u : List Nat) (rs rs' : Regs), Puts ss as l rs u rs' → Puts ss as (a ++ l) rs (b ++ u) rs'
theorem PcT.nil (ss : Strs) (as : List (List Nat)) : PcT ss as [] [] := fun _ _ _ _ p => p
theorem PcT.app {ss : Strs} {as : List (List Nat)} {a b c d : List Nat} (h : PcT ss as a b) (g : PcT ss as c d) : PcT ss as (a ++ c) (b ++ d) := fun l u rs rs' p => by
  rw [List.append_assoc, List.append_assoc]
  exact h _ _ _ _ (g _ _ _ _ p)
theorem PcT.plain {ss : Strs} {as : List (List Nat)} : ∀ {a : List Nat}, 92 ∉ a → PcT ss as a a
  | [], _ => .nil ss as
  | c :: r, h => fun l u rs rs' p => puts_one (fun e => h (e ▸ List.mem_cons_self ..)) (PcT.plain (fun m => h (List.mem_cons_of_mem _ m)) _ _ _ _ p)
theorem PcT.str {ss : Strs} {as : List (List Nat)} {n : List Nat} (h1 : 41 ∉ n) (h2 : nmB n = true) (h3 : 3 ≤ n.length) : PcT ss as (92 :: 83 :: 40 :: (n ++ [41])) ((lookA ss n).getD []) := fun l u rs rs' p => by
  have hR : oneR [83] n rs = rs := if_pos rfl
  have hT : oneT [83] n rs ss as = (lookA ss n).getD [] := (if_pos rfl).trans (if_pos h3)
  have := puts_told (ss := ss) (as := as) (l := l) (x := 83) (ins := n) (rs := rs) h1 (by unfold justL; rw [if_neg (by decide), if_pos rfl]; exact h2) (by rw [hR]; exact p)
  rw [hT] at this
  simpa using this
theorem PcT.arg {ss : Strs} {as : List (List Nat)} {k : Nat} (h : k < 10) : PcT ss as [92, 65, 40, 48 + k, 41] (argL k as) := fun l u rs rs' p => by
  have hR : oneR [65] [48 + k] rs = rs := (if_neg (by decide)).trans (if_pos rfl)
  have hn : numA [48 + k] = k := by
    show 48 + k - 48 = k
    omega
  have hT : oneT [65] [48 + k] rs ss as = argL k as := (if_neg (by decide)).trans ((if_pos rfl).trans (by rw [hn]))
  have := puts_told (ss := ss) (as := as) (l := l) (x := 65) (ins := [48 + k]) (rs := rs) (by simp; omega) (by
    unfold justL
    rw [if_neg (by decide), if_neg (by decide), decide_eq_true rfl]
    simp
    omega) (by rw [hR]; exact p)
  rw [hT] at this
  exact this
theorem PcT.flat {ss : Strs} {as : List (List Nat)} : ∀ {ps : List (List Nat × List Nat)}, (∀ q ∈ ps, PcT ss as q.1 q.2) → PcT ss as (ps.map (·.1)).flatten (ps.map (·.2)).flatten
  | [], _ => .nil ss as
  | q :: r, h => by
    rw [List.map_cons, List.map_cons, List.flatten_cons, List.flatten_cons]
    exact (h q (List.mem_cons_self ..)).app (PcT.flat fun x hx => h x (List.mem_cons_of_mem _ hx))
theorem PcT.all {ss : Strs} {as : List (List Nat)} {a b : List Nat} (h : PcT ss as a b) (rs : Regs) : Puts ss as a rs b rs := by
  have := h [] [] rs rs (.nil rs)
  rwa [List.append_nil, List.append_nil] at this
theorem u_sget {H : Hp} {Q : VK} {a : Addr} {ss : Strs} {n z : List Nat} (h : SrsAt H a ss) (hl : lookA ss n = some z) (q : Q (.str (S z)) H) : GetD (.ref a) (.str (S n)) H Q := by
  obtain ⟨kvs, h1, h2⟩ := h
  rcases h2.look (n := n) with ⟨g1, g2⟩ | ⟨r', v, g1, g2, g3⟩
  · rw [g1] at hl; cases hl
  · rw [g1] at hl
    cases hl
    have g3 : v = .str (S z) := g3
    subst g3
    exact ⟨a, _, rfl, by rw [← g2]; exact .inl ⟨kvs, kS n, h1, rfl, rfl⟩, q⟩
theorem SrsAt.ne {H : Hp} {a D : Addr} {ss : Strs} (h : SrsAt H a ss) (n : H D = none) : a ≠ D := fun e => by
  obtain ⟨kvs, h1, _⟩ := h
  subst e
  rcases h1 with h1 | ⟨o, h1⟩ <;> (rw [n] at h1; cases h1)
theorem RgsAt.ne {K : PySem.W.Frag} {H : Hp} {a D : Addr} {rs : Regs} (h : RgsAt K H a rs) (n : H D = none) : a ≠ D := fun e => by
  obtain ⟨kvs, h1, _⟩ := h
  subst e
  rcases h1 with h1 | ⟨o, h1⟩ <;> (rw [n] at h1; cases h1)
theorem puts_plusA {ss : Strs} {as : List (List Nat)} : Puts ss as [92, 82, 40, 43, 97, 41] [(nmA, (1, 1, [49]))] [50] [(nmA, (2, 1, [49]))] := by
  have hR : oneR [82] [43, 97] [(nmA, (1, 1, [49]))] = [(nmA, (2, 1, [49]))] := (oneR_plus (r := (1, 1, [49])) rfl).trans (by decide)
  have hT : oneT [82] [43, 97] [(nmA, (1, 1, [49]))] ss as = [50] := by
    rw [oneT_R (r := (2, 1, [49])) (by rw [hR]; rfl)]
    decide +kernel
  have := puts_told (ss := ss) (as := as) (l := []) (x := 82) (ins := [43, 97]) (rs := [(nmA, (1, 1, [49]))]) (by decide) (by decide) (by rw [hR]; exact .nil _)
  rw [hT, List.append_nil] at this
  exact this
theorem sumW_flat' : ∀ zs : List (List Nat), (zs.map List.length).sum = zs.flatten.length
  | [] => rfl
  | z :: r => by rw [List.map_cons, List.sum_cons, List.flatten_cons, List.length_append, sumW_flat' r]
theorem repl1 {c : Nat} {k : Int} : (List.replicate k.toNat [c]).flatten = List.replicate k.toNat c := by
  generalize k.toNat = n
  induction n with
  | zero => rfl
  | succ n ih => rw [List.replicate_succ, List.flatten_cons, ih, List.replicate_succ]; rfl
theorem bound_str {z : List Nat} {n : Nat} (h : z.length ≤ n) (hn : n ≤ 1000) (g : ∀ c ∈ z, c < 1114112) : Sh (.str (S z)) := Sh.of (okw_str (okL.ok (n := n) ⟨h, g⟩)) (Nat.le_trans (Nat.add_le_add_right (Nat.mul_le_mul_left 10 hn) 2) (by decide)) (by decide)
/-! ### pairs of texts -/
abbrev TT2 := List Nat × List Nat
section
variable {K : PySem.W.Frag} {H H' : Hp}
def PrAt (K : PySem.W.Frag) (H : Hp) (v : V) (t : TT2) : Prop := ∃ a, v = .ref a ∧ SqT K H a [SV t.1, SV t.2]
def PrsAt (K : PySem.W.Frag) (H : Hp) : List V → List TT2 → Prop
  | [], [] => True
  | v :: vs, t :: ts => PrAt K H v t ∧ PrsAt K H vs ts
  | _, _ => False
theorem PrAt.ex {v : V} {t : TT2} (e : Ex H H') : PrAt K H v t → PrAt K H' v t := fun ⟨a, h, s⟩ => ⟨a, h, Ex.T e s⟩
theorem PrAt.kp {l : Addr} {v : V} {t : TT2} (k : Kp l H H') (d : Ol H l) : PrAt K H v t → PrAt K H' v t := fun ⟨a, h, s⟩ => ⟨a, h, Kp.Tl k d s⟩
theorem PrsAt.mono (f : ∀ v t, PrAt K H v t → PrAt K H' v t) : ∀ {vs : List V} {ts : List TT2}, PrsAt K H vs ts → PrsAt K H' vs ts
  | [], [], _ => trivial
  | _ :: _, _ :: _, h => ⟨f _ _ h.1, PrsAt.mono f h.2⟩
  | [], _ :: _, h => h.elim
  | _ :: _, [], h => h.elim
theorem PrsAt.len : ∀ {vs : List V} {ts : List TT2}, PrsAt K H vs ts → vs.length = ts.length
  | [], [], _ => rfl
  | _ :: _, _ :: _, h => congrArg (· + 1) (PrsAt.len h.2)
  | [], _ :: _, h => h.elim
  | _ :: _, [], h => h.elim
theorem PrsAt.snoc {v : V} {t : TT2} (h2 : PrAt K H v t) : ∀ {vs : List V} {ts : List TT2}, PrsAt K H vs ts → PrsAt K H (vs ++ [v]) (ts ++ [t])
  | [], [], _ => ⟨h2, trivial⟩
  | _ :: _, _ :: _, h => ⟨h.1, PrsAt.snoc h2 h.2⟩
  | [], _ :: _, h => h.elim
  | _ :: _, [], h => h.elim
theorem PrsAt.get : ∀ {vs : List V} {ts : List TT2} {i : Nat}, PrsAt K H vs ts → i < vs.length → ∃ t, ts[i]? = some t ∧ PrAt K H (vs.getD i .non) t
  | v :: vs, t :: ts, 0, h, _ => ⟨t, rfl, h.1⟩
  | v :: vs, t :: ts, i + 1, h, hi => by
    have := PrsAt.get (i := i) h.2 (Nat.lt_of_succ_lt_succ hi)
    simpa using this
  | [], _, i, _, hi => absurd hi (Nat.not_lt_zero i)
  | _ :: _, [], _, h, _ => h.elim
end
/-! ### strings as a dict that changes -/
def SrsW (H : Hp) (a : Addr) (ss : Strs) : Prop := ∃ kvs, H a = some (.dK kvs) ∧ EntA StV kvs ss
theorem SrsW.at {H : Hp} {a : Addr} {ss : Strs} : SrsW H a ss → SrsAt H a ss := fun ⟨kvs, h, h1⟩ => ⟨kvs, .inl h, h1⟩
theorem SrsW.ex {H H' : Hp} {a : Addr} {ss : Strs} (e : Ex H H') : SrsW H a ss → SrsW H' a ss := fun ⟨kvs, h, h1⟩ => ⟨kvs, e _ _ h, h1⟩
theorem SrsW.kp {H H' : Hp} {a l : Addr} {ss : Strs} (k : Kp l H H') (n : a ≠ l) : SrsW H a ss → SrsW H' a ss := fun ⟨kvs, h, h1⟩ => ⟨kvs, k _ _ n h, h1⟩
theorem SrsW.od {H : Hp} {a : Addr} {ss : Strs} : SrsW H a ss → Od H a := fun ⟨kvs, h, _⟩ => ⟨kvs, h⟩
theorem u_dputS {H : Hp} {a : Addr} {ss : Strs} {n z : List Nat} {C : Hp → Prop} (h : SrsW H a ss) (hd : NoDupA ss) (hl : ss.length < 1000000)
    (q : ∀ H', Kp a H H' → SrsW H' a (putA ss n z) → C H') : PutD (.ref a) (.str (S n)) (.str (S z)) H C := by
  obtain ⟨kvs, h1, h2⟩ := h
  have hlen := h2.len
  have hk : Kp a H (upd H a (.dK (putK kvs (kS n) (.str (S z))))) := Kp.upd
  exact ⟨a, _, rfl, .inl ⟨kvs, kS n, h1, rfl, Nat.lt_of_lt_of_le (m := 1000000) (by omega) (by decide), rfl⟩, q _ hk ⟨_, upd_same, h2.put (A := StV) rfl hd⟩⟩
def rDictS : List V → Hp → VK → Prop := rDictOf
theorem u_dictOfS {H : Hp} {a : Addr} {Q : VK} {ss : Strs} (h : SrsAt H a ss) (q : ∀ p H', H p = none → Ex H H' → SrsW H' p ss → Q (.ref p) H') : rDictOf [.ref a] H Q := by
  obtain ⟨kvs, h1, h2⟩ := h
  exact ⟨a, kvs, rfl, h1, fun p np => q p _ np (Evl.Ex.new np) ⟨kvs, upd_same, h2⟩⟩
theorem RgsW.kl {K : PySem.W.Frag} {H H' : Hp} {a l : Addr} {rs : Regs} (k : Kp l H H') (n : a ≠ l) (d : Ol H l) : RgsW K H a rs → RgsW K H' a rs := fun ⟨kvs, h, h1⟩ => ⟨kvs, k _ _ n h, h1.mono fun _ _ => RgV.kl k d⟩
theorem RgsW.kd {K : PySem.W.Frag} {H H' : Hp} {a l : Addr} {rs : Regs} (k : Kp l H H') (n : a ≠ l) (d : Od H l) : RgsW K H a rs → RgsW K H' a rs := fun ⟨kvs, h, h1⟩ => ⟨kvs, k _ _ n h, h1.mono fun _ _ => RgV.kd k d⟩
/-! ### lists and texts alike -/
def rIxE (K : PySem.W.Frag) : V → V → Hp → VK → Prop := fun x i H Q => rIxL K x i H Q ∨ rIxS x i H Q
def rLenE (K : PySem.W.Frag) : List V → Hp → VK → Prop := fun xs H Q => rLenQ K xs H Q ∨ rLenS xs H Q
section
variable {X : Cx}
theorem ix_either : IxR X (rIxE X.K) := by
  intro value slice pins s σ H x y v u Q I rx ry h hs
  rcases h with h | h
  · exact ix_list value slice pins s σ H x y v u Q I rx ry h hs
  · exact ix_str value slice pins s σ H x y v u Q I rx ry h hs
theorem c_lenE : CallR X (.builtin "len") (rLenE X.K) := by
  intro pins s σ H xs us Q I r h
  rcases h with h | h
  · exact c_lenQ pins s σ H xs us Q I r h
  · exact c_lenS pins s σ H xs us Q I r h
end
section
variable {K : PySem.W.Frag} {H : Hp} {Q : VK} {a : Addr} {xs : List V} {z : List Nat} {m : Int}
theorem r_lenEl (h : SqL K H a xs) (q : Q (.int xs.length) H) : rLenE K [.ref a] H Q := .inl (r_lenL h q)
theorem r_lenEs (h : z.length ≤ 1000000) (q : Q (.int z.length) H) : rLenE K [.str (S z)] H Q := .inr (r_lenSS h q)
theorem r_ixEl (h : SqL K H a xs) (c : 0 ≤ m) (c2 : m < xs.length) (q : ∀ v, v ∈ xs → Q v H) : rIxE K (.ref a) (.int m) H Q := .inl (r_ixM h c c2 q)
theorem r_ixEs (l : z.length ≤ 1000000) (c : 0 ≤ m) (c2 : m < z.length) (q : ∀ x, x ∈ z → Q (.str (S [x])) H) : rIxE K (.str (S z)) (.int m) H Q := .inr (r_ixSM l c c2 q)
end
end Ts

namespace Ts
open PySem PySem.Spec PyProof.Rows L2
/-! ### lines of pieces -/
abbrev nmSpare : List Nat := [115, 112, 97, 114, 101]
def pcX (z : List Nat) : List Nat := (z.drop 1).take 1
def pcI (z : List Nat) : List Nat := (z.drop 3).dropLast
/-- a piece that is told, and asks for nothing spare -/
def okGood (z : List Nat) : Bool :=
  decide (z = 92 :: ((z.getD 1 0) :: 40 :: (pcI z ++ [41]))) && (decide (pcX z = [z.getD 1 0]) && (decide (41 ∉ pcI z) && (justL (pcX z) (pcI z) && (decide (stripP (pcI z) ≠ nmSpare) && decide (pcI z ≠ nmSpare)))))
/-- a piece that is told, or plain -/
def OkPc (z : List Nat) : Prop := if 92 ∈ z then okGood z = true else True
def stepP (ss : Strs) (as : List (List Nat)) (z : List Nat) (rs : Regs) : List Nat × Regs := if 92 ∈ z then (oneT (pcX z) (pcI z) rs ss as, oneR (pcX z) (pcI z) rs) else (z, rs)
def runP (ss : Strs) (as : List (List Nat)) : List (List Nat) → Regs → List Nat × Regs
  | [], rs => ([], rs)
  | z :: zs, rs => ((stepP ss as z rs).1 ++ (runP ss as zs (stepP ss as z rs).2).1, (runP ss as zs (stepP ss as z rs).2).2)
section
variable {ss : Strs} {as : List (List Nat)}
theorem good_form {z : List Nat} (h : okGood z = true) : ∃ x, z = 92 :: x :: 40 :: (pcI z ++ [41]) ∧ pcX z = [x] ∧ 41 ∉ pcI z ∧ justL [x] (pcI z) = true ∧ stripP (pcI z) ≠ nmSpare ∧ pcI z ≠ nmSpare := by
  unfold okGood at h
  simp only [Bool.and_eq_true, decide_eq_true_eq] at h
  obtain ⟨h1, h2, h3, h4, h5, h6⟩ := h
  exact ⟨_, h1, h2, h3, by rw [← h2]; exact h4, h5, h6⟩
theorem stepP_puts {z l u : List Nat} {rs rs' : Regs} (h : OkPc z) (p : Puts ss as l (stepP ss as z rs).2 u rs') : Puts ss as (z ++ l) rs ((stepP ss as z rs).1 ++ u) rs' := by
  unfold OkPc at h
  unfold stepP at p ⊢
  split at h
  · rename_i hb
    rw [if_pos hb] at p ⊢
    obtain ⟨x, h1, h2, h3, h4, _, _⟩ := good_form h
    rw [h2] at p ⊢
    have := puts_told (ss := ss) (as := as) (l := l) (u := u) (rs := rs) (rs' := rs') h3 h4 p
    have e : z ++ l = 92 :: x :: 40 :: (pcI z ++ 41 :: l) := by
      conv => lhs; rw [h1]
      simp
    rw [e]
    exact this
  · rename_i hb
    rw [if_neg hb] at p ⊢
    exact PcT.plain hb _ _ _ _ p
theorem runP_puts : ∀ {zs : List (List Nat)} {rs : Regs} {l u : List Nat} {rs' : Regs}, (∀ z ∈ zs, OkPc z) → Puts ss as l (runP ss as zs rs).2 u rs' → Puts ss as (zs.flatten ++ l) rs ((runP ss as zs rs).1 ++ u) rs'
  | [], _, _, _, _, _, p => p
  | z :: zs, rs, l, u, rs', h, p => by
    rw [List.flatten_cons, List.append_assoc]
    show Puts ss as _ rs (((stepP ss as z rs).1 ++ (runP ss as zs (stepP ss as z rs).2).1) ++ u) rs'
    rw [List.append_assoc]
    exact stepP_puts (h z (List.mem_cons_self ..)) (runP_puts (fun y hy => h y (List.mem_cons_of_mem _ hy)) p)
theorem runP_all {zs : List (List Nat)} {rs : Regs} (h : ∀ z ∈ zs, OkPc z) : Puts ss as zs.flatten rs (runP ss as zs rs).1 (runP ss as zs rs).2 := by
  have := runP_puts (ss := ss) (as := as) (l := []) (u := []) (rs := rs) h (.nil _)
  rwa [List.append_nil, List.append_nil] at this
theorem runP_app : ∀ (a b : List (List Nat)) (rs : Regs), runP ss as (a ++ b) rs = ((runP ss as a rs).1 ++ (runP ss as b (runP ss as a rs).2).1, (runP ss as b (runP ss as a rs).2).2)
  | [], b, rs => rfl
  | z :: a, b, rs => by
    show ((stepP ss as z rs).1 ++ (runP ss as (a ++ b) (stepP ss as z rs).2).1, (runP ss as (a ++ b) (stepP ss as z rs).2).2) = _
    rw [runP_app a b]
    simp [runP]
end
/-! ### what is spare -/
theorem look_app {α : Type} {n m : List Nat} {r : α} (h : n ≠ m) : ∀ {rs : List (List Nat × α)}, lookA (rs ++ [(m, r)]) n = lookA rs n
  | [] => by
    show (if m = n then some r else none) = none
    rw [if_neg fun e => h e.symm]
  | (k, x) :: rs => by
    show (if k = n then some x else lookA (rs ++ [(m, r)]) n) = if k = n then some x else lookA rs n
    rw [look_app h]
theorem put_app {α : Type} {n m : List Nat} {r x : α} : ∀ {rs : List (List Nat × α)} {y : α}, lookA rs n = some y → putA (rs ++ [(m, r)]) n x = putA rs n x ++ [(m, r)]
  | [], _, h => by cases h
  | (k, z) :: rs, y, h => by
    show (if k = n then (k, x) :: (rs ++ [(m, r)]) else (k, z) :: putA (rs ++ [(m, r)]) n x) = (if k = n then (k, x) :: rs else (k, z) :: putA rs n x) ++ [(m, r)]
    rw [lookA] at h
    split
    · rfl
    · rename_i e
      rw [if_neg e] at h
      rw [put_app h]
      rfl
section
variable {ss : Strs} {as : List (List Nat)} {t : List Nat} {r : Reg}
theorem oneR_app {x ins : List Nat} {rs : Regs} (h : stripP ins ≠ nmSpare) : oneR x ins (rs ++ [(nmSpare, r)]) = oneR x ins rs ++ [(nmSpare, r)] := by
  unfold oneR
  rw [look_app h]
  split
  · rfl
  · split
    · rfl
    · cases hl : lookA rs (stripP ins) with
      | none => rfl
      | some y =>
        dsimp only
        split
        · exact put_app hl
        · rfl
theorem oneT_app {x ins : List Nat} {rs : Regs} (h : stripP ins ≠ nmSpare) (h2 : ins ≠ nmSpare) : oneT x ins (rs ++ [(nmSpare, r)]) (ss ++ [(nmSpare, t)]) as = oneT x ins rs ss as := by
  unfold oneT
  rw [oneR_app h, look_app h, look_app h2]
theorem stepP_app {z : List Nat} {rs : Regs} (h : OkPc z) : stepP (ss ++ [(nmSpare, t)]) as z (rs ++ [(nmSpare, r)]) = ((stepP ss as z rs).1, (stepP ss as z rs).2 ++ [(nmSpare, r)]) := by
  unfold OkPc at h
  unfold stepP
  split at h
  · rename_i hb
    rw [if_pos hb, if_pos hb]
    obtain ⟨x, h1, h2, h3, h4, h5, h6⟩ := good_form h
    rw [oneT_app h5 h6, oneR_app h5]
  · rename_i hb
    rw [if_neg hb, if_neg hb]
theorem runP_spare : ∀ {zs : List (List Nat)} {rs : Regs}, (∀ z ∈ zs, OkPc z) → runP (ss ++ [(nmSpare, t)]) as zs (rs ++ [(nmSpare, r)]) = ((runP ss as zs rs).1, (runP ss as zs rs).2 ++ [(nmSpare, r)])
  | [], _, _ => rfl
  | z :: zs, rs, h => by
    show ((stepP (ss ++ [(nmSpare, t)]) as z (rs ++ [(nmSpare, r)])).1 ++ _, _) = _
    rw [stepP_app (h z (List.mem_cons_self ..))]
    dsimp only
    rw [runP_spare fun y hy => h y (List.mem_cons_of_mem _ hy)]
    rfl
end
/-! ### any entry put -/
theorem keys_put {α : Type} {n : List Nat} {x : α} : ∀ {rs : List (List Nat × α)}, (putA rs n x).map (·.1) = if n ∈ rs.map (·.1) then rs.map (·.1) else rs.map (·.1) ++ [n]
  | [] => rfl
  | (k, z) :: rs => by
    rw [putA]
    by_cases e : k = n
    · subst e
      rw [if_pos rfl, if_pos (by simp)]
      rfl
    · have hn : ¬ n = k := fun h => e h.symm
      rw [if_neg e, List.map_cons, keys_put]
      simp only [List.map_cons, List.mem_cons, hn, false_or]
      split <;> rfl
theorem nodup_put {α : Type} {n : List Nat} {x : α} {rs : List (List Nat × α)} (h : NoDupA rs) : NoDupA (putA rs n x) := by
  unfold NoDupA at *
  rw [keys_put]
  split
  · exact h
  · rename_i hn
    rw [List.nodup_append]
    exact ⟨h, by simp, fun a ha b hb e => hn (by
      rw [List.mem_singleton] at hb
      rw [← hb, ← e]
      exact ha)⟩
theorem len_put {α : Type} {n : List Nat} {x : α} {rs : List (List Nat × α)} : (putA rs n x).length ≤ rs.length + 1 := by
  have := congrArg List.length (keys_put (n := n) (x := x) (rs := rs))
  rw [List.length_map] at this
  rw [this]
  split
  · rw [List.length_map]; omega
  · rw [List.length_append, List.length_map]; simp
theorem OkRg.putN {rs : Regs} {n : List Nat} {r : Reg} (h : OkRg rs) (hl : rs.length < 1000) (hr : -100000 ≤ r.1 ∧ r.1 ≤ 100000 ∧ -100000 ≤ r.2.1 ∧ r.2.1 ≤ 100000 ∧ r.2.2.length ≤ 10) : OkRg (putA rs n r) := by
  refine ⟨nodup_put h.nd, ?_, fun x hx => ?_⟩
  · have := len_put (n := n) (x := r) (rs := rs)
    omega
  · rcases put_mem hx with hx | hx
    · exact h.bd x hx
    · rw [hx]
      exact hr
theorem OkRg.snoc {rs : Regs} {n : List Nat} {r : Reg} (h : OkRg rs) (hn : n ∉ rs.map (·.1)) (hl : rs.length < 1000) (hr : -100000 ≤ r.1 ∧ r.1 ≤ 100000 ∧ -100000 ≤ r.2.1 ∧ r.2.1 ≤ 100000 ∧ r.2.2.length ≤ 10) : OkRg (rs ++ [(n, r)]) := by
  refine ⟨?_, by rw [List.length_append]; simp; omega, fun x hx => ?_⟩
  · unfold NoDupA
    rw [List.map_append, List.nodup_append]
    exact ⟨h.nd, by simp, fun a ha b hb e => hn (by
      simp only [List.map_cons, List.map_nil, List.mem_singleton] at hb
      rw [← hb, ← e]
      exact ha)⟩
  · rcases List.mem_append.mp hx with hx | hx
    · exact h.bd x hx
    · rw [List.mem_singleton] at hx
      rw [hx]
      exact hr
theorem take_app2 (a b : List Nat) (n : Nat) : (a.take n ++ b.take n).take n = (a ++ b).take n := by
  by_cases h : a.length ≤ n
  · rw [List.take_of_length_le h]
    rw [List.take_append, List.take_append, List.take_take]
    congr 2
    omega
  · rw [List.take_append_of_le_length (by rw [List.length_take]; omega), List.take_take, Nat.min_self, List.take_append_of_le_length (by omega)]
theorem look_new {α : Type} {n : List Nat} {r : α} : ∀ {rs : List (List Nat × α)}, n ∉ rs.map (·.1) → lookA (rs ++ [(n, r)]) n = some r
  | [], _ => by
    show (if n = n then some r else none) = _
    rw [if_pos rfl]
  | (m, x) :: rs, h => by
    have hm : ¬ m = n := fun (e : m = n) => h (by subst e; exact List.mem_cons_self ..)
    show (if m = n then some x else lookA (rs ++ [(n, r)]) n) = _
    rw [if_neg hm, look_new fun m => h (List.mem_cons_of_mem _ m)]
theorem nodup_last {rs : Regs} {n : List Nat} {r : Reg} (h : NoDupA (rs ++ [(n, r)])) : n ∉ rs.map (·.1) := fun m => by
  unfold NoDupA at h
  rw [List.map_append, List.nodup_append] at h
  exact h.2.2 n m n (by simp) rfl
theorem look_at {α : Type} {n : List Nat} {z : α} : ∀ {ss : List (List Nat × α)}, NoDupA ss → (n, z) ∈ ss → lookA ss n = some z
  | [], _, h => by cases h
  | (m, y) :: ss, nd, h => by
    have nd2 := List.nodup_cons.mp nd
    rw [lookA]
    rcases List.mem_cons.mp h with h | h
    · cases h
      rw [if_pos rfl]
    · have hm : ¬ m = n := fun e => nd2.1 (List.mem_map.mpr ⟨(n, z), h, e.symm⟩)
      rw [if_neg hm]
      exact look_at nd2.2 h
/-! ### a dict gone through by its keys -/
section
variable {K : PySem.W.Frag} {H H' : Hp} {l a : Addr} {xs : List V} {o : Obj} {kvs : List (Key × V)}
theorem SqT.kf (k : Kp l H H') (d : H l = some (.frz o (.dK kvs))) : SqT K H a xs → SqT K H' a xs := fun h => by
  rcases h with (h | ⟨o2, h⟩) | h
  · exact .inl (.inl (k _ _ (fun e => by subst e; rw [d] at h; cases h) h))
  · exact .inl (.inr ⟨o2, k _ _ (fun e => by subst e; rw [d] at h; cases h) h⟩)
  · exact .inr h
theorem RgsW.kf {dk : Addr} {rs : Regs} (k : Kp l H H') (d : H l = some (.frz o (.dK kvs))) (n : dk ≠ l) : RgsW K H dk rs → RgsW K H' dk rs := fun ⟨ks, h, h1⟩ => ⟨ks, k _ _ n h, h1.mono fun _ _ ⟨b, e, s⟩ => ⟨b, e, SqT.kf k d s⟩⟩
def KeysAt (x : V) (H1 : Hp) (R : It → Hp → Prop) : Prop := ∃ d o, x = .ref d ∧ ((∃ kvs, H1 d = some (.frz o (.dK kvs)) ∧ R (Itk d o kvs) H1) ∨ ∃ kvs, H1 d = some (.frz o (.dT kvs)) ∧ R (Itkt d o kvs) H1)
theorem r_ikeys {td : TE} {σ : L2.St} {R : It → Hp → Prop} (q : td σ H fun x H1 => KeysAt x H1 R) : iKeys td σ H R := q
theorem r_keysK {R : It → Hp → Prop} (h : H l = some (.frz o (.dK kvs))) (q : R (Itk l o kvs) H) : KeysAt (.ref l) H R := ⟨l, o, rfl, .inl ⟨kvs, h, q⟩⟩
theorem f_keys {α : Type} {A : V → α → Prop} {ss : List (List Nat × α)} (he : EntA A kvs ss) {g : TG} {tb : TS} {D : Ends} {σ : L2.St} (Pv : Nat → L2.St → Hp → Prop) (h0 : Pv 0 σ H)
    (hd : ∀ i σ H, Pv i σ H → H l = some (.frz o (.dK kvs)))
    (hs : ∀ i n z σ H, ss[i]? = some (n, z) → Pv i σ H → g (.str (S n)) σ H fun σ2 H2 => tb { D with nx := Pv (i + 1), ct := Pv (i + 1), bk := D.nx } σ2 H2)
    (hend : ∀ σ H, Pv ss.length σ H → D.nx σ H) : ForK (Itk l o kvs) g tb D σ H := by
  have hl := he.len
  refine f_inv ss.length (fun i => .str (S ((ss.map (·.1)).getD i []))) Pv h0 (fun i σ H hi h => ⟨hd i σ H h, by omega⟩) (fun σ H h => ⟨hd _ σ H h, by omega⟩) (fun i σ H x H' hi h y => ?_) (fun i σ H hi h => ?_) hend
  · obtain ⟨rfl, k, v, hkv, rfl⟩ := y
    refine ⟨rfl, ?_⟩
    have hk := congrArg (fun l => l[i]?) he.keys
    simp only [List.getElem?_map, hkv, Option.map_some] at hk
    have hsi : ss[i]? = some ss[i] := List.getElem?_eq_getElem hi
    rw [hsi] at hk
    simp only [Option.map_some, Option.some.injEq] at hk
    subst hk
    rw [List.getD_eq_getElem?_getD, List.getElem?_map, hsi]
    rfl
  · have hsi : ss[i]? = some ss[i] := List.getElem?_eq_getElem hi
    have e : (ss.map (·.1)).getD i [] = ss[i].1 := by
      rw [List.getD_eq_getElem?_getD, List.getElem?_map, hsi]
      rfl
    rw [e]
    exact hs i ss[i].1 ss[i].2 σ H hsi h
end
end Ts

namespace Ts
open PySem PySem.Spec PyProof.Rows L2
/-! ### where a sign stands from a place on -/
theorem aheadL_len {c : Nat} : ∀ {z : List Nat} {m : Nat}, z[m]? = some c → (∀ v, v < m → z[v]? ≠ some c) → (ahead c z).length = m
  | [], m, h, _ => by simp at h
  | d :: r, 0, h, _ => by
    rw [List.getElem?_cons_zero] at h
    cases h
    rw [ahead, List.takeWhile_cons, if_neg (by simp)]
    rfl
  | d :: r, m + 1, h, g => by
    have hd : d ≠ c := fun e => g 0 (by omega) (by rw [e]; rfl)
    rw [ahead, List.takeWhile_cons, if_pos (by simpa using hd), List.length_cons]
    have := aheadL_len (z := r) (m := m) (by rw [List.getElem?_cons_succ] at h; exact h) fun v hv => by
      have := g (v + 1) (by omega)
      rw [List.getElem?_cons_succ] at this
      exact this
    rw [ahead] at this
    rw [this]
def findL (l : List Nat) (c k : Nat) : Int := if c ∈ l.drop k then ((k + (ahead c (l.drop k)).length : Nat) : Int) else -1
theorem find3_S (l : List Nat) (c k : Nat) (hk : k ≤ l.length) : Txt.find3 (S l) (S [c]) (k : Int) = findL l c k := by
  have hf : fromIndex (S l).length (k : Int) = k := by
    unfold fromIndex
    rw [if_neg (by omega)]
    omega
  have hg : ∀ v, v < l.length → ((S l).cps.getD v 0 ≠ c ↔ l[v]? ≠ some c) := fun v hv => by
    have e : (S l).cps.getD v 0 = l[v] := by
      simp [S, Array.getD, hv]
    rw [e, List.getElem?_eq_getElem hv]
    simp
  have hd : ∀ v, (l.drop k)[v]? = l[k + v]? := fun v => by rw [List.getElem?_drop]
  rcases StrLaws.find3_spec (S l) c (k : Int) with ⟨h, hn⟩ | ⟨m, h, h1, h2, h3, h4⟩
  · rw [hf, Ts.S_len] at hn
    have : c ∉ l.drop k := fun hm => by
      obtain ⟨v, hv⟩ := List.getElem?_of_mem hm
      rw [hd] at hv
      have hlt : k + v < l.length := (List.getElem?_eq_some_iff.mp hv).1
      exact (hg _ hlt).mp (hn (k + v) (by omega) hlt) hv
    rw [findL, if_neg this]
    exact h
  · rw [hf] at h1 h4
    rw [Ts.S_len] at h2
    have hm : l[m]? = some c := by
      by_cases e : l[m]? = some c
      · exact e
      · exact absurd h3 ((hg m h2).mpr e)
    have hl := aheadL_len (z := l.drop k) (m := m - k) (c := c) (by rw [hd, show k + (m - k) = m by omega]; exact hm) fun v hv => by
      rw [hd]
      exact (hg _ (by omega)).mp (h4 (k + v) (by omega) (by omega))
    have : c ∈ l.drop k := List.mem_of_getElem? (i := m - k) (by rw [hd, show k + (m - k) = m by omega]; exact hm)
    rw [findL, if_pos this, hl, show k + (m - k) = m by omega]
    exact h
def rFind3 : V → List V → Hp → VK → Prop := fun x xs H Q => ∃ (a b : Str) (i : Int), x = .str a ∧ xs = [.str b, .int i] ∧ Q (.int (Txt.find3 a b i)) H
theorem m_find3 {X : Cx} : MtR X "str.find" rFind3 := mt_find3
theorem r_find3 {l : List Nat} {c k : Nat} {H : Hp} {Q : VK} (hk : k ≤ l.length) (q : Q (.int (findL l c k)) H) : rFind3 (.str (S l)) [.str (S [c]), .int (k : Int)] H Q :=
  ⟨S l, S [c], k, rfl, rfl, by rw [find3_S l c k hk]; exact q⟩
/-! ### a sign not in a text -/
def rNiSg : R2 := fun x y H Q => ∃ (c : Nat) (z : Str), x = .str ⟨#[c]⟩ ∧ y = .str z ∧ Q (.bl (!decide (c ∈ z.cps.toList))) H
theorem o_niSg {X : Cx} : OpR X (compareOp .NotIn) rNiSg := op_notIn_sign
abbrev abcL : List Nat := [97, 98, 99, 100, 101, 102, 103, 104, 105, 106, 107, 108, 109, 110, 111, 112, 113, 114, 115, 116, 117, 118, 119, 120, 121, 122]
theorem abc_iff (c : Nat) : c ∈ abcL ↔ ltr c = true := by
  unfold ltr
  simp only [abcL, List.mem_cons, List.not_mem_nil, or_false, Bool.and_eq_true, Bool.not_eq_true', decide_eq_false_iff_not, List.cons_lt_cons_iff, List.not_lt_nil, and_false, or_false]
  omega
theorem r_niAbc {c : Nat} {H : Hp} {Q : VK} (q : Q (.bl (!ltr c)) H) : rNiSg (.str (S [c])) (.str (S abcL)) H Q := by
  refine ⟨c, S abcL, rfl, rfl, ?_⟩
  have e : decide (c ∈ (S abcL).cps.toList) = ltr c := by
    rw [S_cps]
    cases h : ltr c
    · exact decide_eq_false fun g => by rw [(abc_iff c).mp g] at h; cases h
    · exact decide_eq_true ((abc_iff c).mpr h)
  rw [e]
  exact q
theorem r_niFig {c : Nat} {H : Hp} {Q : VK} (q : Q (.bl (!decide (48 ≤ c ∧ c ≤ 57))) H) : rNiSg (.str (S [c])) (.str (S figs)) H Q := by
  refine ⟨c, S figs, rfl, rfl, ?_⟩
  have e : decide (c ∈ (S figs).cps.toList) = decide (48 ≤ c ∧ c ≤ 57) := by
    simp only [S_cps, figs_iff]
  rw [e]
  exact q
/-! ### a tuple some times over -/
theorem r_repT {K : PySem.W.Frag} {H : Hp} {Q : VK} {l : Addr} {xs : List V} {m : Int} (h : SqT K H l xs) (hn : xs ≠ []) (hl : xs.length ≤ 1000) (c : 2 ≤ m) (c2 : m ≤ 1000) (q : ∀ p H1, H p = none → Ex H H1 → SqT K H1 p (List.replicate m.toNat xs).flatten → Q (.ref p) H1) : rRepT K (.ref l) (.int m) H Q :=
  ⟨l, m, xs, rfl, rfl, h, hn, c, c2, hl, fun p np => q p _ np (Evl.Ex.new np) (SqT.at upd_same)⟩
/-! ### repr within a comprehension -/
theorem call_reprk {X : Cx} {A : Around} {K' : PySem.W.Frag} {k : Nat} (hr : Room k A) (hg : A.guards = some []) (eA : X.A = A) (e : X.K = K') : CallR X (.builtin "repr") (rRepr K') := by
  subst e
  subst eA
  exact call_repr hr hg
/-! ### a register looked up, or a new one -/
theorem u_dget2R {K : PySem.W.Frag} {σ : L2.St} {H : Hp} {Q : VK} {a : Addr} {n : List Nat} {td ty tx : TE} {rs : Regs} (h : RgsAt K H a rs) (hy : ∀ QQ : VK, QQ (.str (S n)) H → ty σ H QQ)
    (hz : ∀ QQ : VK, (∀ b H', Ex H H' → SqT K H' b [.int 0, .int 0, .str (S [49])] → QQ (.ref b) H') → tx σ H QQ) (hd : ∀ QQ : VK, QQ (.ref a) H → td σ H QQ)
    (q : ∀ b H', Ex H H' → SqT K H' b [.int ((lookA rs n).getD (0, 0, [49])).1, .int ((lookA rs n).getD (0, 0, [49])).2.1, .str (S ((lookA rs n).getD (0, 0, [49])).2.2)] → Q (.ref b) H') : tDGet2 td ty tx σ H Q := by
  refine hd _ ⟨a, rfl, ?_, hy _ (hz _ fun b H' e hb => ?_)⟩
  · obtain ⟨kvs, h1, h2⟩ := h
    exact .inl ⟨kvs, h1⟩
  · obtain ⟨kvs, h1, h2⟩ := RgsAt.ex e h
    refine ⟨_, .inl ⟨kvs, kS n, h1, rfl, rfl⟩, ?_⟩
    rcases h2.look (n := n) with ⟨g1, g2⟩ | ⟨r, v, g1, g2, b', rfl, h3⟩
    · rw [g2]
      exact q b H' e (by rw [g1]; exact hb)
    · rw [g2]
      exact q b' H' e (by rw [g1]; exact h3)
/-- .. or None; it is there -/
theorem u_dget2N {K : PySem.W.Frag} {σ : L2.St} {H : Hp} {Q : VK} {a : Addr} {n : List Nat} {td ty tx : TE} {rs : Regs} {r : Reg} (h : RgsAt K H a rs) (hl : lookA rs n = some r) (hd : ∀ QQ : VK, QQ (.ref a) H → td σ H QQ) (hy : ∀ QQ : VK, QQ (.str (S n)) H → ty σ H QQ)
    (hz : ∀ QQ : VK, QQ .non H → tx σ H QQ) (q : ∀ b, SqT K H b [.int r.1, .int r.2.1, .str (S r.2.2)] → Q (.ref b) H) : tDGet2 td ty tx σ H Q := by
  refine hd _ ⟨a, rfl, ?_, hy _ (hz _ ?_)⟩
  · obtain ⟨kvs, h1, h2⟩ := h
    exact .inl ⟨kvs, h1⟩
  · obtain ⟨kvs, h1, h2⟩ := h
    refine ⟨_, .inl ⟨kvs, kS n, h1, rfl, rfl⟩, ?_⟩
    rcases h2.look (n := n) with ⟨g1, g2⟩ | ⟨r', v, g1, g2, b', rfl, h3⟩
    · rw [g1] at hl; cases hl
    · rw [g1] at hl
      cases hl
      rw [g2]
      exact q b' h3
theorem u_din {K : PySem.W.Frag} {H : Hp} {Q : VK} {a : Addr} {n : List Nat} {rs : Regs} (h : RgsAt K H a rs) (q : Q (.bl (lookA rs n).isSome) H) : InD (.ref a) (.str (S n)) H Q := by
  obtain ⟨kvs, h1, h2⟩ := h
  refine ⟨a, _, rfl, .inl ⟨kvs, kS n, h1, rfl, rfl⟩, ?_⟩
  rcases h2.look (n := n) with ⟨g1, g2⟩ | ⟨r, v, g1, g2, _⟩
  · rw [g2]; rw [g1] at q; exact q
  · rw [g2]; rw [g1] at q; exact q
/-- the law's own way to tell a name -/
theorem lets_filter {z : List Nat} (h : 1 ≤ z.length) : lets z = decide (z.filter (fun c => !ltr c) = []) := by
  unfold lets
  rw [decide_eq_false (show ¬ z = [] from fun e => by rw [e] at h; simp at h)]
  rw [Bool.not_false, Bool.true_and, Bool.eq_iff_iff, decide_eq_true_eq, List.all_eq_true, List.filter_eq_nil_iff]
  simp
/-! ### a walk's next step -/
theorem Puts.two' {ss : Strs} {as : List (List Nat)} {l u : List Nat} {rs R : Regs} (h : Puts ss as l rs u R) (n : (toldL l).1 = []) (h2 : l.take 2 = [92, 92]) : ∃ u2, Puts ss as (l.drop 2) rs u2 R ∧ u = [92, 92] ++ u2 := by
  cases h with
  | nil => cases h2
  | told m p => exact absurd n m
  | two m g p => exact ⟨_, p, rfl⟩
  | one m g e p => exact absurd h2 g
theorem Puts.one1 {ss : Strs} {as : List (List Nat)} {l u : List Nat} {rs R : Regs} (h : Puts ss as l rs u R) (n : (toldL l).1 = []) (h2 : l.take 2 ≠ [92, 92]) (e : l ≠ []) : ∃ u2, Puts ss as (l.drop 1) rs u2 R ∧ u = l.take 1 ++ u2 := by
  cases h with
  | nil => exact absurd rfl e
  | told m p => exact absurd n m
  | two m g p => exact absurd g h2
  | one m g e p => exact ⟨_, p, rfl⟩
theorem Puts.told' {ss : Strs} {as : List (List Nat)} {l u : List Nat} {rs R : Regs} (h : Puts ss as l rs u R) (n : (toldL l).1 ≠ []) : ∃ u2, Puts ss as (l.drop ((toldL l).2.length + 4)) (oneR (toldL l).1 (toldL l).2 rs) u2 R ∧ u = oneT (toldL l).1 (toldL l).2 rs ss as ++ u2 := by
  cases h with
  | nil => exact absurd rfl n
  | told m p => exact ⟨_, p, rfl⟩
  | two m g p => exact absurd m n
  | one m g e p => exact absurd m n
/-- a line whose first sign is a stroke and whose next two are a letter that asks and a bracket -/
theorem findL_told {l : List Nat} {k : Nat} (h : (l.drop k).take 3 = [92, 82, 40] ∨ (l.drop k).take 3 = [92, 83, 40] ∨ (l.drop k).take 3 = [92, 65, 40]) :
    findL l 41 k = if 41 ∈ (l.drop k).drop 3 then ((k + 3 + (ahead 41 ((l.drop k).drop 3)).length : Nat) : Int) else -1 := by
  unfold findL
  generalize l.drop k = z at *
  have : ∃ a b c r, z = a :: b :: c :: r ∧ a ≠ 41 ∧ b ≠ 41 ∧ c ≠ 41 := by
    match z with
    | [] => simp at h
    | [_] => simp at h
    | [_, _] => simp at h
    | a :: b :: c :: r =>
      simp only [List.take_succ_cons, List.take_zero, List.cons.injEq, and_true] at h
      refine ⟨a, b, c, r, rfl, ?_, ?_, ?_⟩ <;> omega
  obtain ⟨a, b, c, r, rfl, ha, hb, hc⟩ := this
  have hm : 41 ∈ a :: b :: c :: r ↔ 41 ∈ r := by
    simp only [List.mem_cons]
    constructor
    · rintro (h | h | h | h)
      · exact absurd h.symm ha
      · exact absurd h.symm hb
      · exact absurd h.symm hc
      · exact h
    · exact fun h => .inr (.inr (.inr h))
  have hl : (ahead 41 (a :: b :: c :: r)).length = 3 + (ahead 41 r).length := by
    show (List.takeWhile _ _).length = _
    rw [List.takeWhile_cons, if_pos (by simpa using ha), List.takeWhile_cons, if_pos (by simpa using hb), List.takeWhile_cons, if_pos (by simpa using hc)]
    simp only [List.length_cons]
    show (ahead 41 r).length + 1 + 1 + 1 = _
    omega
  show (if 41 ∈ a :: b :: c :: r then _ else _) = if 41 ∈ r then _ else _
  by_cases h4 : 41 ∈ r
  · rw [if_pos (hm.mpr h4), if_pos h4, hl]
    show _ = ((k + 3 + (ahead 41 r).length : Nat) : Int)
    omega
  · rw [if_neg (fun g => h4 (hm.mp g)), if_neg h4]
/-! ### a comprehension over a dict's keys -/
theorem lc_keys {α : Type} {A : V → α → Prop} {ss : List (List Nat × α)} {kvs : List (Key × V)} {H : Hp} {l : Addr} {o : Obj} {σ : L2.St} {Q : VK} (he : EntA A kvs ss) (hf : H l = some (.frz o (.dK kvs))) (hz : ss.length < 1000000) {g : TG} {tt : TT} {te : TE} {vs : List Nat} (I : Nat → List V → Hp → Prop)
    (h0 : ∀ H', Ex H H' → I 0 [] H')
    (hK : ∀ D i acc H1 H2, H D = none → Ol H1 D → Kp D H1 H2 → I i acc H1 → I i acc H2)
    (hb : ∀ i n z acc H', ss[i]? = some (n, z) → Ex H H' → I i acc H' → ∀ (Y : VK) (N : Hp → Prop), (∀ y H4, Ex H' H4 → I (i + 1) (acc ++ [y]) H4 → Y y H4) → (∀ H3, Ex H' H3 → I (i + 1) acc H3 → N H3) →
      g (.str (S n)) (wipe σ vs) H' fun σ2 H2 => wipe σ2 vs = wipe σ vs ∧ tt σ2 H2 fun b H3 => IfB b (te σ2 H3 Y) (N H3))
    (q : ∀ D H2 acc, H D = none → Ex H H2 → H2 D = some (.lst acc) → I ss.length acc H2 → Q (.ref D) H2) : LcK (Itk l o kvs) g tt te vs σ H Q := by
  have hl := he.len
  refine lc_fw ss.length (fun i => .str (S ((ss.map (·.1)).getD i []))) hz I (fun i H' hi e => ⟨e _ _ hf, by omega⟩) (fun H' e => ⟨e _ _ hf, by omega⟩) (fun i H' x H'' hi e y => ?_) h0 hK (fun i acc H' hi e h => ?_) q
  · obtain ⟨rfl, k, v, hkv, rfl⟩ := y
    refine ⟨rfl, ?_⟩
    have hk := congrArg (fun l => l[i]?) he.keys
    simp only [List.getElem?_map, hkv, Option.map_some] at hk
    have hsi : ss[i]? = some ss[i] := List.getElem?_eq_getElem hi
    rw [hsi] at hk
    simp only [Option.map_some, Option.some.injEq] at hk
    subst hk
    rw [List.getD_eq_getElem?_getD, List.getElem?_map, hsi]
    rfl
  · have hsi : ss[i]? = some ss[i] := List.getElem?_eq_getElem hi
    have e2 : (ss.map (·.1)).getD i [] = ss[i].1 := by
      rw [List.getD_eq_getElem?_getD, List.getElem?_map, hsi]
      rfl
    show ∀ (Y : VK) (N : Hp → Prop), _ → _ → g (.str (S ((ss.map (·.1)).getD i []))) _ _ _
    rw [e2]
    exact hb i ss[i].1 ss[i].2 acc H' hsi e h
end Ts

namespace Ts
open PySem PySem.Spec PyProof.Rows L2
/-! ### a set of texts: its table, its members -/
open PySem.Froz in
def TxSet (P : Program) (w : World) (h : Heap) (a : Addr) (l : List Str) : Prop :=
  ∃ D : SD, h.get? a = some (sObj "set" D) ∧ TxOk P w D l ∧ Ris D.2.2.place.toList ∧ (w.params.followText "set-order" = true ∨ D.2.2.led = true)
open PySem.Froz in
theorem addTx_tab {h : Int} {v : Value} {D : SD} (r : Ris D.2.2.place.toList) : Ris (addTx h v D).2.2.place.toList ∧ (addTx h v D).2.2.led = D.2.2.led := by
  obtain ⟨es, ep, t⟩ := D
  have r1 := layNew_ris t es h v r
  have l1 := layNew_led t es h v
  unfold addTx
  dsimp only
  generalize layNew t es h v = L at *
  obtain ⟨es1, t1, wd, gv⟩ := L
  dsimp only at *
  have key : ∀ t2 : SetTable, Ris t2.place.toList → t2.led = t.led → Ris (tailTx ep es1 t2 wd).2.2.place.toList ∧ (tailTx ep es1 t2 wd).2.2.led = t.led := fun t2 r2 l2 => by
    unfold tailTx
    split
    · exact ⟨relayAll_ris t2 es1 _, (relayAll_led t2 es1 _).trans l2⟩
    · exact ⟨r2, l2⟩
  split
  · exact key _ r1 l1
  · exact key _ r1 l1
section
variable {P : Program} {w : World} {A : Around} {s : Shared}
theorem TxSet.at {h h' : Heap} {a : Addr} {l : List Str} (R : TxSet P w h a l) (k : ∀ o, h.get? a = some o → h'.get? a = some o) : TxSet P w h' a l := by
  obtain ⟨D, e, r⟩ := R
  exact ⟨D, k _ e, r⟩
open PySem.Froz in
theorem TxSet.add {E : Value → Shared → Prop} {a : Addr} {l : List Str} {k : Str} {u : Tok} {Q : Bool → Shared → Prop} (R : TxSet P w s.heap a l) (hk : k ∉ l) (hb : l.length + 1 < scanBound)
    (q : ∀ h', TxSet P w h' a (k :: l) → (∀ b, b ≠ a → h'.get? b = s.heap.get? b) → Q true { s with heap := h' }) : wpAny (model P w) A (setAddHashed a (.str k u) (hashStr w k)) Q E s := by
  obtain ⟨D, e, F, r, ld⟩ := R
  refine add_x e F hk hb (q _ ?_ fun b hn => ?_)
  · obtain ⟨r2, l2⟩ := addTx_tab (h := hashStr w k) (v := .str k u) r
    exact ⟨_, get_upd _ e rfl, add_ok u F, r2, ld.imp id fun z => l2.trans z⟩
  · exact Heap.get?_update_ne _ _ _ _ hn
/-- the loop that puts a list's texts in, all unlike -/
theorem tx_loop {I : Addr} {fp wr : List Addr} {G : Array GenState → Array GenState → Prop} {n : Nat} {Pv : Nat → Value → Prop} {St : Nat → Shared → Prop} {R : Result → Shared → Prop}
    (W : WalksS P w A.in1 I fp wr G n Pv St) (T : Addr) (hT : T ∉ fp) (ws : List Str) (hn : ws.length = n) (nd : ws.Nodup) (hv : ∀ i v, Pv i v → ∃ t, v = .str (ws.getD i Str.empty) t) (hb : n + 1 < scanBound) :
    ∀ (k i : Nat) (s : Shared), n - i = k → i ≤ n → St i s → TxSet P w s.heap T (ws.take i).reverse →
      (∀ s', Moved (T :: wr) G s s' → TxSet P w s'.heap T ws.reverse → R (.ok (.ret .none)) s') →
      codeAny (model P w) A (.builtin "set.update.loop" ⟨[.ref T, .ref I], []⟩) R s := by
  have hTw : T ∉ wr := fun m => hT (W.sub _ m)
  have up : ∀ b ∈ wr, b ∈ T :: wr := fun b m => List.mem_cons_of_mem _ m
  intro k
  induction k with
  | zero =>
    intro i s ek li st hS q
    obtain rfl : i = n := by omega
    refine codeAny_builtin PyProof.Rows.F.entry_set_update_loop ?_
    rw [Around.under_plainId PyProof.Rows.F.plain_set_update_loop]
    change wpAny _ A.in1 (pyNext (.ref I) >>= _) _ _ s
    refine wpAny_bind <| W.done s _ _ st fun s' mv => ?_
    change wpAny _ A.in1 (ret Value.none) _ _ s'
    rw [← hn, List.take_length] at hS
    exact wpAny_pure <| q s' (mv.mono up) <| hS.at fun o e => mv.heap T o hTw e
  | succ k ih =>
    intro i s ek li st hS q
    have lt : i < n := by omega
    refine codeAny_builtin PyProof.Rows.F.entry_set_update_loop ?_
    rw [Around.under_plainId PyProof.Rows.F.plain_set_update_loop]
    change wpAny _ A.in1 (pyNext (.ref I) >>= _) _ _ s
    refine wpAny_bind <| W.item i s _ _ lt st fun v s' pv st' mv => ?_
    obtain ⟨t, rfl⟩ := hv i v pv
    have hS' : TxSet P w s'.heap T (ws.take i).reverse := hS.at fun o e => mv.heap T o hTw e
    have hil : i < ws.length := by omega
    have hg : ws.getD i Str.empty = ws[i] := by rw [List.getD_eq_getElem?_getD, List.getElem?_eq_getElem hil]; rfl
    rw [hg]
    change wpAny _ A.in1 (holding [Value.str ws[i] t] (setAdd T (.str ws[i] t)) >>= _) _ _ s'
    refine wpAny_bind <| wpAny_holding ?_
    unfold setAdd
    refine wpAny_holding <| wpAny_bind ?_
    refine (strKind P w).pyHash (k := ws[i]) (strKind_is _ _ _ _) ?_
    have hni : ws[i] ∉ (ws.take i).reverse := fun m => by
      rw [List.mem_reverse] at m
      obtain ⟨j, hj, e⟩ := List.getElem_of_mem m
      rw [List.length_take] at hj
      rw [List.getElem_take] at e
      have := (List.getElem_inj nd).mp e
      omega
    refine TxSet.add (s := { s' with toks := s'.toks + 1 }) hS' hni (by rw [List.length_reverse, List.length_take]; omega) fun h' new kb => ?_
    have hS2 : TxSet P w h' T (ws.take (i + 1)).reverse := by
      rw [List.take_add_one, List.getElem?_eq_getElem hil, List.reverse_append]
      exact new
    refine wpAny_pure ⟨plainId_quiet PyProof.Rows.F.plain_set_update_loop _, ?_⟩
    refine ih (i + 1) _ (by omega) lt (W.frame _ s' _ _ st' (Nat.le_succ _) fun b m o e => ?_) hS2 fun s'' mv2 fin => q s'' ?_ fin
    · have : b ≠ T := fun z => hT (z ▸ m)
      rw [kb b this]
      exact e
    · refine Moved.trans W.gtrans ((mv.mono up).then_heap (Nat.le_succ _) fun b o m e => ?_) mv2
      rw [kb b fun z => m (z ▸ List.mem_cons_self)]
      exact e
/-- the empty set as it is laid -/
abbrev set0 (w : World) : Obj := { cls := .type "set", dict := none, data := .set #[] 0 (.fresh 0 0 (!w.params.followText "set-order")) }
open PySem.Froz in
theorem set0_tx {h : Heap} {a : Addr} (e : h.get? a = some (set0 w)) : TxSet P w h a [] := by
  refine ⟨(#[], 0, .fresh 0 0 (!w.params.followText "set-order")), e, TxOk.nil (by rfl), List.Pairwise.nil, ?_⟩
  cases hb : w.params.followText "set-order"
  · exact .inr (by rfl)
  · exact .inl rfl
set_option maxHeartbeats 3200000 in
theorem set_of_list {E : Value → Shared → Prop} {l : Addr} {its : List Value} {ws : List Str} {Q : Value → Shared → Prop} (hh : A.handled = none) (hl : s.heap.IsList l its.toArray) (hi : StrsAre its ws) (nd : ws.Nodup) (hb : ws.length + 1 < scanBound)
    (q : ∀ (h' : Heap) (tk : Nat), TxSet P w h' s.heap.objs.size ws.reverse → (∀ b o, s.heap.get? b = some o → h'.get? b = some o) → Q (.ref s.heap.objs.size) { s with heap := h', toks := tk }) :
    wpAny (model P w) A (call (.type "set") [.ref l]) Q E s := by
  have hsz : its.toArray.size = ws.length := List.size_toArray.trans hi.length
  obtain ⟨c, tl, hmro⟩ := PySem.F.called_set.mro
  have m1 := PySem.F.called_set.made
  have m2 := PySem.F.called_set.sub
  refine wpAny_call <| codeAny_of_tree ?_
  change wpAny _ _ (callAny (.type "set") _) _ _ _
  refine wpAny_pure ⟨Code.quiet_builtin _ (by decide +kernel), ?_⟩
  refine codeAny_builtin PySem.F.entry_type_call ?_
  rw [Around.under_plain (weight_type_call_type "set" [.ref l] []) rfl]
  have m3 := PySem.F.called_set.notType
  have m4 := PySem.F.called_set.canCreate
  have m5 := PySem.F.typeCall_set_1 (.ref l)
  repeat any_goals (first | assumption | wp_step)
  refine codeAny_mono (code_set_led1 (.ref l) (E := E) (Q₁ := fun u s1 => u = .ref s.heap.objs.size ∧ s1 = { s with heap := s.heap.push (set0 w) }) ⟨rfl, rfl⟩) fun r s1 hr => ?_
  match r, hr with
  | .error e, hr => exact hr
  | .ok (.ret u), hr =>
    obtain ⟨rfl, rfl⟩ := hr
    have at0 : (s.heap.push (set0 w)).get? s.heap.objs.size = some (set0 w) := Heap.get?_push_size _ rfl
    have ty0 : Shared.TypeIs { s with heap := s.heap.push (set0 w) } (.ref s.heap.objs.size) "set" := ⟨_, at0, rfl⟩
    have m6 := PySem.F.called_set.init.lookup
    have m7 := PySem.F.called_set.init.bind (.ref s.heap.objs.size)
    repeat any_goals (first | assumption | wp_step)
    refine codeAny_mono (codeAny_call_builtin (R := wants (fun r s2 => r = .none ∧ ∃ h' tk, s2 = { s with heap := h', toks := tk } ∧ TxSet P w h' s.heap.objs.size ws.reverse ∧
      ∀ b o, s.heap.get? b = some o → h'.get? b = some o) E) PySem.F.called_set.init.plain PySem.F.entry_set_init (check_set_init_1 ty0 ?_)) fun r2 s2 hr2 => ?_
    · obtain ⟨⟨oc, od, odt, osl⟩, hol, hcl, nl, hdl⟩ := hl
      dsimp only at hcl hdl
      subst hcl
      subst hdl
      have lo : (s.heap.push (set0 w)).get? l = some { cls := .type "list", dict := od, data := .seq its.toArray nl, slots := osl } := Heap.get?_push_of_some _ hol
      have n1 := PySem.F.sub_list_set
      have n2 := PySem.F.sub_list_frozenset
      have n3 : (Value.type "list" == Value.type "dict") = false := by decide
      have il : (s.heap.push (set0 w)).IsList l its.toArray := ⟨_, lo, rfl, nl, rfl⟩
      unfold Builtin.«set.__init__» noKeywords Builtin.Frozenset.updateFrom
      generalize hPI : pyIter = PI
      wp_walk
      subst hPI
      refine wpAny_pyIter_list il (wpAny_bind <| wpAny_runValue ?_)
      have lS : l < s.heap.objs.size := Heap.lt_size hol
      have h3 : A.in1.in1.in1.handled = none := by simp [hh]
      have pz : (s.heap.push (set0 w)).objs.size = s.heap.objs.size + 1 := Heap.size_push _ _
      have lI : l ≠ (s.heap.push (set0 w)).objs.size := by rw [pz]; exact Nat.ne_of_lt (Nat.lt_succ_of_lt lS)
      have Sf : s.heap.objs.size ∉ [(s.heap.push (set0 w)).objs.size, l] := fun m => by
        rw [pz] at m
        simp only [List.mem_cons, List.not_mem_nil, or_false] at m
        exact m.elim (Nat.ne_of_lt (Nat.lt_succ_self _)) (Nat.ne_of_gt lS)
      refine tx_loop (Walks.list h3 _ l lI its.toArray).toS s.heap.objs.size Sf ws hsz.symm nd ?hv (by omega) (its.toArray.size - 0) 0 _ (by omega) (Nat.zero_le _) ⟨⟨_, Heap.get?_push_size _ rfl, rfl, rfl⟩, il.push _⟩ ?h0 ?hR
      case hv => exact fun i v e => SS.strs_at hi i v (by simpa using e)
      case h0 => exact set0_tx (Heap.get?_push_of_some _ at0)
      case hR =>
        rintro ⟨h', g2, d2, tk2, os2⟩ mv fin
        obtain rfl : g2 = s.gens := mv.gens
        obtain rfl : d2 = s.drawn := mv.drawn
        obtain rfl : os2 = s.os := mv.os
        change wpAny _ _ _ _ _ _
        refine wpAny_pure ?_
        change wpAny _ _ (ret Value.none) _ _ _
        refine wpAny_pure ⟨rfl, h', tk2, rfl, fin, fun b o e => mv.heap b o (fun m => ?_) (Heap.get?_push_of_some _ (Heap.get?_push_of_some _ e))⟩
        have b0 := Heap.lt_size e
        have c1 : b ≠ s.heap.objs.size := Nat.ne_of_lt b0
        have c2 : b ≠ (s.heap.push (set0 w)).objs.size := by rw [pz]; exact Nat.ne_of_lt (Nat.lt_succ_of_lt b0)
        simp only [List.mem_cons, List.not_mem_nil, or_false] at m
        exact m.elim c1 c2
    · match r2, hr2 with
      | .error e, hr2 => exact hr2
      | .ok (.ret r), hr2 =>
        obtain ⟨rfl, h', tk, rfl, new, kp⟩ := hr2
        repeat any_goals (first | assumption | wp_step)
        exact q _ _ new kp
      | .ok .next, hr2 => exact hr2.elim
      | .ok .brk, hr2 => exact hr2.elim
      | .ok .cont, hr2 => exact hr2.elim
  | .ok .next, hr => exact hr.elim
  | .ok .brk, hr => exact hr.elim
  | .ok .cont, hr => exact hr.elim
end
end Ts

namespace Ts
open PySem PySem.Spec PyProof.Rows L2
section
variable {P : Program} {w : World} {A : Around} {s : Shared}
/-- values that are texts -/
theorem strs_exist : ∀ {vs : List Value}, (∀ v ∈ vs, ∃ k t, v = Value.str k t) → ∃ ys, StrsAre vs ys
  | [], _ => ⟨[], .nil⟩
  | v :: vs, h => by
    obtain ⟨k, t, e⟩ := h v (List.mem_cons_self ..)
    obtain ⟨ys, r⟩ := strs_exist fun u hu => h u (List.mem_cons_of_mem _ hu)
    exact ⟨k :: ys, e ▸ .cons k t r⟩
theorem perm_of_sub {α : Type} [DecidableEq α] : ∀ {l ys : List α}, l.Nodup → (∀ k ∈ l, k ∈ ys) → ys.length ≤ l.length → ys.Perm l
  | [], ys, _, _, h => by
    cases ys with
    | nil => exact .nil
    | cons y r => simp at h
  | k :: l, ys, nd, hs, hl => by
    have hk := hs k (List.mem_cons_self ..)
    have nd2 := List.nodup_cons.mp nd
    have p := List.perm_cons_erase hk
    have hlen := p.length_eq
    rw [List.length_cons] at hlen
    refine p.trans (.cons k (perm_of_sub nd2.2 (fun j hj => ?_) ?_))
    · have hne : j ≠ k := fun e => nd2.1 (e ▸ hj)
      exact (List.mem_erase_of_ne hne).mpr (hs j (List.mem_cons_of_mem _ hj))
    · rw [List.length_cons] at hl
      omega
theorem strs_mem : ∀ {vs : List Value} {ys : List Str}, StrsAre vs ys → ∀ k, k ∈ ys ↔ ∃ t, Value.str k t ∈ vs
  | _, _, .nil, k => by simp
  | _, _, .cons n t h, k => by
    rw [List.mem_cons, strs_mem h k]
    constructor
    · rintro (rfl | ⟨t2, m⟩)
      · exact ⟨t, List.mem_cons_self ..⟩
      · exact ⟨t2, List.mem_cons_of_mem _ m⟩
    · rintro ⟨t2, m⟩
      rcases List.mem_cons.mp m with e | m
      · cases e
        exact .inl rfl
      · exact .inr ⟨t2, m⟩
theorem sorted_of_set {E : Value → Shared → Prop} {a : Addr} {l : List Str} {Q : Value → Shared → Prop} (hh : A.handled = none) (R : TxSet P w s.heap a l) (nd : l.Nodup) (h64 : l.length < 64)
    (q : ∀ s' p (out : Array Value) (c : Nat) (ys : List Str), (∀ b o, s.heap.get? b = some o → s'.heap.get? b = some o) → s'.gens = s.gens → s'.os = s.os → s.heap.objs.size ≤ p → s'.heap.get? p = some (PyProof.Rows.seqObj "list" out c) →
      StrsAre out.toList ys → ys.Perm l → PyProof.Rows.sortedS ys = true → Q (.ref p) s') : wpAny (model P w) A (call (.builtin "sorted") [.ref a]) Q E s := by
  obtain ⟨⟨es, ep, t⟩, e, F, r, ld⟩ := R
  dsimp only at r ld
  refine Calls.call_function_entry kind_sorted plain_sorted entry_sorted (args_sorted1 _) ?_
  unfold Builtin.«sorted»
  refine wpAny_bind (m := checkCount "sorted" 1 1 _) <| wpAny_pure <| wpAny_bind ?_
  have hsz : es.size = l.length := F.sz
  refine collect_set (A := A.in1) hh ⟨_, e, rfl, rfl⟩ F.fit (by rw [hsz]; exact Nat.lt_trans h64 (by decide)) r ld fun s1 vs k1 hz g1 o1 pm => ?_
  have hvl : vs.length = l.length := by rw [pm.length_eq, List.length_map, Array.length_toList, hsz]
  have is_eq : ∀ (k : Str) (v : Value), (PySem.strKind P w).is k v = true → ∃ tk, v = Value.str k tk := fun k v h => by
    have h : Value.isStrOf k v = true := h
    cases v <;> simp only [Value.isStrOf, Bool.false_eq_true] at h
    rename_i x tk _
    exact ⟨tk, by rw [show x = k by simpa using h]⟩
  obtain ⟨ys, hS⟩ := strs_exist (vs := vs) fun v hv => by
    obtain ⟨x, hx, rfl⟩ := List.mem_map.mp (pm.mem_iff.mp hv)
    obtain ⟨⟨k, h1, _⟩, _⟩ := F.el x hx
    exact ⟨k, is_eq k _ h1⟩
  have hyl : ys.length = vs.length := hS.length.symm
  have hperm : ys.Perm l := perm_of_sub nd (fun k hk => by
    obtain ⟨x, hx, h1⟩ := (F.mem k).mp hk
    obtain ⟨tk, h2⟩ := is_eq k _ h1
    exact (strs_mem hS k).mpr ⟨tk, h2 ▸ pm.mem_iff.mpr (List.mem_map_of_mem hx)⟩) (by omega)
  refine wpAny_bind <| wpAny_newList ?_ (by rw [hvl]; exact Nat.le_of_lt (Nat.lt_of_lt_of_le h64 (by decide)))
  have at1 : (s1.heap.push (PyProof.Rows.seqObj "list" vs.toArray 0)).get? s1.heap.objs.size = some (PyProof.Rows.seqObj "list" vs.toArray 0) := Heap.get?_push_size _ rfl
  refine wpAny_bind <| wpAny_holding <| wpAny_call_entry PyProof.Rows.slot_list_sort ⟨_, at1, rfl⟩ PyProof.Rows.entry_list_sort ?_ (PyProof.Rows.args_list_sort _)
  refine list_sort_treeK strKind_oneLt at1 hS.keysOf (fun v1 v2 rest e => keyKind_strs (by rw [← e]; exact hS)) (by omega) fun st' hp hs => ⟨_, rfl, ?_⟩
  obtain ⟨zs, g2, g3, g4⟩ := PyProof.Rows.sorted_out_str hS hp hs
  obtain ⟨c, at2⟩ := PyProof.Rows.sortedHeap_at (vs := vs) (out := (PyProof.Rows.arrOf st').map (·.2)) at1
  refine wpAny_pure ⟨_, rfl, q _ s1.heap.objs.size _ c zs (fun b u e2 => ?_) g1 o1 hz at2 g2 (g3.trans hperm) g4⟩
  have e3 := k1 b u e2
  have lt := Heap.lt_size e3
  change (PyProof.Rows.sortedHeap _ s1.heap.objs.size vs _).get? b = some u
  rw [PyProof.Rows.sortedHeap_old (Nat.ne_of_lt lt) (by rw [Heap.size_push]; exact Nat.lt_succ_of_lt lt)]
  exact Heap.get?_push_of_some _ e3
end
/-! ### rules: a set made of a list of texts, its size, its members sorted -/
def SetT (P : Program) (w : World) (a : Addr) (l : List Str) : HO := .ext fun h => TxSet P w h a l
def rSetL (P : Program) (w : World) (K : PySem.W.Frag) : List V → Hp → VK → Prop := fun xs H Q => ∃ (a : Addr) (ws : List Str), xs = [.ref a] ∧ SqL K H a (ws.map V.str) ∧ ws.Nodup ∧ ws.length ≤ 60 ∧ ∀ p, H p = none → Q (.ref p) (upd H p (SetT P w p ws.reverse))
def rLenT (P : Program) (w : World) : List V → Hp → VK → Prop := fun xs H Q => ∃ (a : Addr) (l : List Str), xs = [.ref a] ∧ H a = some (SetT P w a l) ∧ l.length ≤ 60 ∧ Q (.int l.length) H
def rSortT (P : Program) (w : World) : List V → Hp → VK → Prop := fun xs H Q => ∃ (a : Addr) (l : List Str), xs = [.ref a] ∧ H a = some (SetT P w a l) ∧ l.Nodup ∧ l.length ≤ 60 ∧ ∀ ys p, ys.Perm l → PyProof.Rows.sortedS ys = true → H p = none → Q (.ref p) (upd H p (.lst (ys.map V.str)))
section
variable {X : Cx}
theorem setT_ok {P : Program} {w : World} {H : Hp} {h : Heap} {a : Addr} {l : List Str} (R : TxSet P w h a l) : ObjOk P w H h a (SetT P w a l) := by
  have ⟨D, e, _⟩ := R
  exact ⟨R, ⟨_, e⟩, fun h1 h2 z k => TxSet.at z k⟩
theorem setT_get {pins : List (Addr × Obj)} {σ : L2.St} {H : Hp} {s : Shared} {a : Addr} {l : List Str} (I : Inv X pins σ H s) (e : H a = some (SetT X.prog X.w a l)) : TxSet X.prog X.w s.heap a l := (I.hok a _ e).1
theorem cr_setL (hc : X.calm = true) : CallR X (.type "set") (rSetL X.prog X.w X.K) := by
  intro pins s σ H xs us Q I r h
  obtain ⟨a, ws, rfl, ha, nd, hz, q⟩ := h
  obtain ⟨u, rfl, ru⟩ := vals1 r
  cases ru
  obtain ⟨its, r2, pl, _⟩ := I.list ha
  exact set_of_list (I.ok.hd hc) pl.isList (strsAre_of r2) nd (Nat.lt_of_le_of_lt (Nat.succ_le_succ hz) (by decide)) fun h' tk new kp =>
    ⟨.ref _, upd H s.heap.objs.size (SetT X.prog X.w s.heap.objs.size ws.reverse), I.laid (t' := tk) kp (Nat.le_refl _) (setT_ok new), rfl, q _ (I.hok.fresh (Nat.le_refl _))⟩
theorem cr_lenT : CallR X (.builtin "len") (rLenT X.prog X.w) := by
  intro pins s σ H xs us Q I r h
  obtain ⟨a, l, rfl, ha, hz, q⟩ := h
  obtain ⟨u, rfl, ru⟩ := vals1 r
  cases ru
  obtain ⟨⟨es, ep, t⟩, e, F, _, _⟩ := setT_get I ha
  have hsz : es.size = l.length := F.sz
  refine call_len_set e ⟨rfl, rfl, rfl⟩ rfl F.fit (by rw [hsz]; omega) ⟨.int l.length, H, I.tok _, ⟨_, by rw [hsz]⟩, q⟩
theorem cr_sortT (hc : X.calm = true) : CallR X (.builtin "sorted") (rSortT X.prog X.w) := by
  intro pins s σ H xs us Q I r h
  obtain ⟨a, l, rfl, ha, nd, hz, q⟩ := h
  obtain ⟨u, rfl, ru⟩ := vals1 r
  cases ru
  refine sorted_of_set (I.ok.hd hc) (setT_get I ha) nd (by omega) fun s' p out c ys kp g o hp e S pm so => ?_
  have hn : H p = none := I.hok.fresh hp
  have hlen : (ys.map V.str).length ≤ sizeLine := by
    rw [List.length_map, pm.length_eq]
    exact Nat.le_trans hz (by decide)
  obtain ⟨h2, g2, d2, t2, o2⟩ := s'
  dsimp only at g o kp e
  subst o
  have J : Inv X pins σ (upd H p (.lst (ys.map V.str))) { s with heap := h2, gens := g2, drawn := d2, toks := t2 } := by
    refine I.call (ch := []) (Un.laid kp hp hn) (I.hok.laid kp hp ⟨hlen, out.toList, c, vals_of_strs S, by rw [Array.toArray_toList]; exact e⟩) ?_ fun _ z => nomatch z
    rw [g]
    exact I.bare
  exact ⟨.ref p, _, J, rfl, q ys p pm so hn⟩
end
end Ts

namespace Ts
open PySem PySem.Spec PyProof.Rows L2
theorem dig_ne (n : Nat) : dig (n : Int) ≠ [] := by
  rw [dig_nat]
  intro h
  have := PySem.toDigits_len_ge 10 n
  rw [List.map_eq_nil_iff] at h
  rw [h] at this
  exact absurd this (by decide)
theorem dig_fig (n : Nat) : NumText.AllDigits (dig (n : Int)) := by
  rw [dig_nat]
  exact TL.numL_digits n
theorem dig_val (n : Nat) : NumText.digitsVal (dig (n : Int)) = n := by
  rw [dig_nat]
  exact PySem.W.KIN.val_back n
theorem rd_nat (n : Nat) (h : n ≤ 9999) : PySem.intText? (S (dig (n : Int))) = some (n : Int) := by
  have hl := dig_le (i := (n : Int)) (by omega) (by omega)
  have := intText_digits (x := S (dig (n : Int))) (by rw [S_cps]; exact dig_fig n) (by rw [S_cps]; exact dig_ne n) (by rw [S_len]; omega)
  rwa [S_cps, dig_val] at this
theorem rd_dig {v : Int} (h0 : -9999 ≤ v) (h1 : v ≤ 9999) : PySem.intText? (S (dig v)) = some v := by
  by_cases hv : 0 ≤ v
  · obtain ⟨n, rfl⟩ := Int.eq_ofNat_of_zero_le hv
    exact rd_nat n (by omega)
  · have hl := dig_le (i := v) (by omega) (by omega)
    have := intText_neg (x := S (dig v)) (cs := dig (v.natAbs : Int)) (by rw [S_cps, dig_neg (by omega)]) (dig_fig _) (dig_ne _) (by rw [S_len]; omega)
    rw [this, dig_val]
    congr 1
    omega
theorem rd_01 {v : Int} (h0 : -9999 ≤ v) (h1 : v ≤ 9999) : PySem.intText? (S (shownN v [48, 49])) = some v := by
  rw [shownN_01 rfl]
  by_cases hs : -10 < v ∧ v < 10
  · have : ∀ k : Fin 10, PySem.intText? (S ([] ++ pad2 (k.val : Int))) = some (k.val : Int) ∧ PySem.intText? (S ([45] ++ pad2 (k.val : Int))) = some (-(k.val : Int)) := by decide +kernel
    have h := this ⟨v.natAbs, by omega⟩
    by_cases hv : v < 0
    · rw [if_pos hv, h.2]
      congr 1
      show -(v.natAbs : Int) = v
      omega
    · rw [if_neg hv, h.1]
      congr 1
      show (v.natAbs : Int) = v
      omega
  · have hp : pad2 (v.natAbs : Int) = dig (v.natAbs : Int) := by
      unfold pad2
      have : 2 ≤ (Nat.toDigits 10 v.natAbs).length := by
        have := digits10_ge (k := 1) (n := v.natAbs) (by omega)
        omega
      rw [show 2 - (Nat.toDigits 10 (v.natAbs : Int).natAbs).length = 0 by rw [Int.natAbs_natCast]; omega]
      rfl
    rw [hp]
    by_cases hv : v < 0
    · rw [if_pos hv]
      have := rd_dig h0 h1
      rw [dig_neg hv] at this
      exact this
    · rw [if_neg hv, List.nil_append, show (v.natAbs : Int) = v by omega]
      exact rd_dig h0 h1
theorem sh_1 (v : Int) : shownN v [49] = dig v := by
  unfold shownN
  rw [if_neg (by decide), if_neg (fun h => absurd h.1 (by decide)), if_neg (fun h => absurd h.1 (by decide))]
theorem sh_i {v : Int} (h : ¬ (1 ≤ v ∧ v ≤ 39)) : shownN v [105] = dig v := by
  unfold shownN
  rw [if_neg (by decide), if_neg (fun h => absurd h.1 (by decide)), if_neg (fun g => h g.2)]
theorem rom_none : ∀ k : Fin 40, 1 ≤ k.val → PySem.intText? (S (shownN (k.val : Int) [105])) = none := by decide +kernel
theorem rom_inj : ∀ a b : Fin 40, 1 ≤ a.val → 1 ≤ b.val → shownN (a.val : Int) [105] = shownN (b.val : Int) [105] → a = b := by decide +kernel
abbrev forms3 : List (List Nat) := [[49], [48, 49], [105]]
theorem sh_inj {f : List Nat} (hf : f ∈ forms3) {a b : Int} (a0 : -9999 ≤ a) (a1 : a ≤ 9999) (b0 : -9999 ≤ b) (b1 : b ≤ 9999) : shownN a f = shownN b f ↔ a = b := by
  refine ⟨fun h => ?_, fun h => by rw [h]⟩
  simp only [List.mem_cons, List.not_mem_nil, or_false] at hf
  rcases hf with rfl | rfl | rfl
  · rw [sh_1, sh_1] at h
    have h1 := rd_dig a0 a1
    rw [h, rd_dig b0 b1] at h1
    exact (Option.some.inj h1).symm
  · have h1 := rd_01 a0 a1
    rw [h, rd_01 b0 b1] at h1
    exact (Option.some.inj h1).symm
  · have rom : ∀ v : Int, 1 ≤ v ∧ v ≤ 39 → ∃ k : Fin 40, (k.val : Int) = v ∧ 1 ≤ k.val := fun v hv => ⟨⟨v.toNat, by omega⟩, by show ((v.toNat : Nat) : Int) = v; omega, by show 1 ≤ v.toNat; omega⟩
    by_cases ha : 1 ≤ a ∧ a ≤ 39
    · obtain ⟨x, rfl, hx⟩ := rom a ha
      by_cases hb : 1 ≤ b ∧ b ≤ 39
      · obtain ⟨y, rfl, hy⟩ := rom b hb
        rw [rom_inj x y hx hy h]
      · have h1 := rom_none x hx
        rw [h, sh_i hb, rd_dig b0 b1] at h1
        cases h1
    · by_cases hb : 1 ≤ b ∧ b ≤ 39
      · obtain ⟨y, rfl, hy⟩ := rom b hb
        have h1 := rom_none y hy
        rw [← h, sh_i ha, rd_dig a0 a1] at h1
        cases h1
      · rw [sh_i ha, sh_i hb] at h
        have h1 := rd_dig a0 a1
        rw [h, rd_dig b0 b1] at h1
        exact (Option.some.inj h1).symm
theorem r_numT {z : List Nat} {n : Int} {H : Hp} {Q : VK} (h : PySem.intText? (S z) = some n) (hl : z.length ≤ 640) (q : Q (.int n) H) : rIntS [.str (S z)] H Q := ⟨S z, n, rfl, h, by rw [S_len]; exact hl, q⟩
theorem rd_1 {v : Int} (h0 : -9999 ≤ v) (h1 : v ≤ 9999) : PySem.intText? (S (shownN v [49])) = some v := by rw [sh_1]; exact rd_dig h0 h1
theorem shown_640 {v : Int} {f : List Nat} (h0 : -9999 ≤ v) (h1 : v ≤ 9999) : (shownN v f).length ≤ 640 := Nat.le_trans (shownN_le (by omega) (by omega)) (by decide)
/-! ### texts in their order -/
theorem str_ext {a b : Str} (h : a.cps.toList = b.cps.toList) : a = b := by
  obtain ⟨x⟩ := a
  obtain ⟨y⟩ := b
  exact congrArg Str.mk (Array.toList_inj.mp h)
theorem pw_rising : ∀ (l : List Str) (p : Str), PyProof.Rows.risingS p l = true → (p :: l).Pairwise fun a b => a.cps.toList ≤ b.cps.toList
  | [], p, _ => List.pairwise_singleton _ _
  | y :: r, p, h => by
    unfold PyProof.Rows.risingS at h
    rw [Bool.and_eq_true] at h
    have h2 := pw_rising r y h.2
    have h1 : p.cps.toList ≤ y.cps.toList := by
      have := h.1
      rw [Bool.not_eq_true', ltCps_eq] at this
      exact of_decide_eq_false this
    refine .cons (fun z hz => ?_) h2
    rcases List.mem_cons.mp hz with rfl | hz
    · exact h1
    · exact List.le_trans h1 ((List.pairwise_cons.mp h2).1 z hz)
theorem pw_sorted {l : List Str} (h : PyProof.Rows.sortedS l = true) : l.Pairwise fun a b => a.cps.toList ≤ b.cps.toList := by
  cases l with
  | nil => exact .nil
  | cons p r => exact pw_rising r p h
theorem sorted_one {l ys : List Str} (p : ys.Perm l) (h1 : PyProof.Rows.sortedS ys = true) (h2 : PyProof.Rows.sortedS l = true) : ys = l :=
  List.Perm.eq_of_pairwise (fun a b _ _ x y => str_ext (List.le_antisymm x y)) (pw_sorted h1) (pw_sorted h2) p
end Ts

namespace Ts
open PySem PySem.Spec PyProof.Rows L2
/-! ### the text -/
def topS (i : Nat) : Stmt := PySem.Challenge.pw_trapsetter_k09_whole_registers_go_on.main.body.getD i (.Pass ⟨0, 0, 0, 0⟩)
abbrev s_clamped : Stmt := topS 3
abbrev N_clamped : List Str := ["value", "least", "most"]
abbrev P_clamped : List Str := ["value", "least", "most"]
theorem sc_clamped : FnScope N_clamped P_clamped (defScope s_clamped) := ⟨rfl, rfl, rfl, by decide +kernel, rfl, by decide +kernel, by decide +kernel⟩
abbrev s_shown : Stmt := topS 4
abbrev N_shown : List Str := ["value", "form"]
abbrev P_shown : List Str := ["value", "form"]
theorem sc_shown : FnScope N_shown P_shown (defScope s_shown) := ⟨rfl, rfl, rfl, by decide +kernel, rfl, by decide +kernel, by decide +kernel⟩
abbrev s_stepped : Stmt := topS 5
abbrev N_stepped : List Str := ["told", "value", "step", "form"]
abbrev P_stepped : List Str := ["told"]
theorem sc_stepped : FnScope N_stepped P_stepped (defScope s_stepped) := ⟨rfl, rfl, rfl, by decide +kernel, rfl, by decide +kernel, by decide +kernel⟩
abbrev s_two_figures : Stmt := topS 6
abbrev N_two_figures : List Str := ["value", "sign"]
abbrev P_two_figures : List Str := ["value"]
theorem sc_two_figures : FnScope N_two_figures P_two_figures (defScope s_two_figures) := ⟨rfl, rfl, rfl, by decide +kernel, rfl, by decide +kernel, by decide +kernel⟩
abbrev s_pen : Stmt := topS 8
abbrev N_pen : List Str := ["_law_script"]
abbrev P_pen : List Str := ["_law_script"]
theorem sc_pen : FnScope N_pen P_pen (defScope s_pen) := ⟨rfl, rfl, rfl, by decide +kernel, rfl, by decide +kernel, by decide +kernel⟩
abbrev s_take : Stmt := topS 9
abbrev N_take : List Str := ["_law_pen_here", "_law_size", "_law_cells", "_law_found", "_law_at", "_law_raw", "_law_number_here"]
abbrev P_take : List Str := ["_law_pen_here", "_law_size"]
theorem sc_take : FnScope N_take P_take (defScope s_take) := ⟨rfl, rfl, rfl, by decide +kernel, rfl, by decide +kernel, by decide +kernel⟩
abbrev s_pick : Stmt := topS 10
abbrev N_pick : List Str := ["_law_pen_here", "_law_some"]
abbrev P_pick : List Str := ["_law_pen_here", "_law_some"]
theorem sc_pick : FnScope N_pick P_pick (defScope s_pick) := ⟨rfl, rfl, rfl, by decide +kernel, rfl, by decide +kernel, by decide +kernel⟩
abbrev s_number : Stmt := topS 11
abbrev N_number : List Str := ["_law_pen_here", "_law_some"]
abbrev P_number : List Str := ["_law_pen_here"]
theorem sc_number : FnScope N_number P_number (defScope s_number) := ⟨rfl, rfl, rfl, by decide +kernel, rfl, by decide +kernel, by decide +kernel⟩
abbrev s_right : Stmt := topS 12
abbrev N_right : List Str := ["_law_pen_here", "_law_start", "_law_step", "_law_sort", "_law_now", "_law_k", "_law_ahead"]
abbrev P_right : List Str := ["_law_pen_here"]
theorem sc_right : FnScope N_right P_right (defScope s_right) := ⟨rfl, rfl, rfl, by decide +kernel, rfl, by decide +kernel, by decide +kernel⟩
abbrev s_law : Stmt := topS 13
abbrev N_law : List Str := ["_law_script", "_law_pen_here", "_law_k", "_law_letters"]
abbrev P_law : List Str := ["_law_script"]
theorem sc_law : FnScope N_law P_law (defScope s_law) := ⟨rfl, rfl, rfl, by decide +kernel, rfl, by decide +kernel, by decide +kernel⟩
structure Txt (K : PySem.W.Frag) (mg : Str → Option Value) (a_clamped a_shown a_stepped a_two_figures a_pen a_take a_pick a_number a_right a_law : Addr) (d_clamped d_shown d_stepped d_two_figures d_pen d_take d_pick d_number d_right d_law : FuncData) (u_ROMAN_ONES : Addr) : Prop where
  f_clamped : FunD K "clamped" "clamped" (defArgs s_clamped) (defBody s_clamped) (defScope s_clamped) [] [("least", .int (-9999)), ("most", .int 9999)] a_clamped d_clamped
  g_clamped : mg "clamped" = some (.ref a_clamped)
  f_shown : Fun K "shown" "shown" s_shown a_shown d_shown
  g_shown : mg "shown" = some (.ref a_shown)
  f_stepped : Fun K "stepped" "stepped" s_stepped a_stepped d_stepped
  g_stepped : mg "stepped" = some (.ref a_stepped)
  f_two_figures : Fun K "_two_figures" "_two_figures" s_two_figures a_two_figures d_two_figures
  g_two_figures : mg "_two_figures" = some (.ref a_two_figures)
  f_pen : Fun K "_law_pen" "_law_pen" s_pen a_pen d_pen
  g_pen : mg "_law_pen" = some (.ref a_pen)
  f_take : Fun K "_law_take" "_law_take" s_take a_take d_take
  g_take : mg "_law_take" = some (.ref a_take)
  f_pick : Fun K "_law_pick" "_law_pick" s_pick a_pick d_pick
  g_pick : mg "_law_pick" = some (.ref a_pick)
  f_number : Fun K "_law_number" "_law_number" s_number a_number d_number
  g_number : mg "_law_number" = some (.ref a_number)
  f_right : Fun K "_law_right" "_law_right" s_right a_right d_right
  g_right : mg "_law_right" = some (.ref a_right)
  f_law : Fun K "law" "law" s_law a_law d_law
  m_max : mg "max" = none
  m_min : mg "min" = none
  m_str : mg "str" = none
  m_abs : mg "abs" = none
  m_len : mg "len" = none
  m_range : mg "range" = none
  m_int : mg "int" = none
  m_sorted : mg "sorted" = none
  m_set : mg "set" = none
  v_LETTERS : ∃ u, mg "LETTERS" = some u ∧ RelV (.str (S [97, 98, 99, 100, 101, 102, 103, 104, 105, 106, 107, 108, 109, 110, 111, 112, 113, 114, 115, 116, 117, 118, 119, 120, 121, 122])) u
  v_ROMAN_ONES : ∃ u, mg "ROMAN_ONES" = some u ∧ RelV (.ref u_ROMAN_ONES) u
  s_ROMAN_ONES : ∀ H, SqT K H u_ROMAN_ONES [.str (S []), .str (S [105]), .str (S [105, 105]), .str (S [105, 105, 105]), .str (S [105, 118]), .str (S [118]), .str (S [118, 105]), .str (S [118, 105, 105]), .str (S [118, 105, 105, 105]), .str (S [105, 120])]
  nd : noDig K
local macro_rules | `(tactic| walk_at "ts var") => `(tactic| ((with_reducible refine' r_var ?hv ?hq); (case hv => rfl)))
local macro_rules | `(tactic| walk_at "ts in") => `(tactic| (simp only [L2.cxOf, L2.start, List.map_cons, List.map_nil, List.length_cons, List.length_nil, Nat.reduceAdd, Nat.reduceSub, List.replicate, List.cons_append, List.nil_append]))
local macro_rules | `(tactic| walk_at "ts set") => `(tactic| ((with_reducible refine r_set ?_); simp only [List.set_cons_zero, List.set_cons_succ]))
local macro_rules | `(tactic| walk_at "ts ix") => `(tactic| rfl)
local macro_rules | `(tactic| walk_at "ts ne") => `(tactic| first
  | assumption
  | (apply Ne.symm; assumption))
local macro_rules | `(tactic| walk_at "ts look") => `(tactic| first
  | assumption
  | exact SqL.at (by assumption)
  | exact SqT.at (by assumption)
  | exact ⟨_, by assumption⟩
  | (refine' Ex.L ?e ?n; (case e => assumption); (case n => walk_at "ts look"))
  | (refine' Ex.T ?e ?n; (case e => assumption); (case n => walk_at "ts look"))
  | (refine' Ex.at ?e ?n; (case e => assumption); (case n => walk_at "ts look"))
  | (refine' Kp.atL ?e ?d ?n; (case e => assumption); (case d => first | assumption | exact ⟨_, by assumption⟩); (case n => walk_at "ts look"))
  | (refine' Kp.atT ?e ?d ?n; (case e => assumption); (case d => first | assumption | exact ⟨_, by assumption⟩); (case n => walk_at "ts look"))
  | (refine' Kp.Ld ?e ?d ?n; (case e => assumption); (case d => first | assumption | exact ⟨_, by assumption⟩); (case n => walk_at "ts look"))
  | (refine' Kp.Td ?e ?d ?n; (case e => assumption); (case d => first | assumption | exact ⟨_, by assumption⟩); (case n => walk_at "ts look"))
  | (refine' Kp.L ?e ?d ?n; (case e => assumption); (case d => walk_at "ts ne"); (case n => walk_at "ts look"))
  | (refine' Kp.T ?e ?d ?n; (case e => assumption); (case d => walk_at "ts ne"); (case n => walk_at "ts look"))
  | (refine' Kp.at ?e ?d ?n; (case e => assumption); (case d => walk_at "ts ne"); (case n => walk_at "ts look")))
local macro_rules | `(tactic| walk_at "ts dp") => `(tactic| first
  | exact Dp.int _
  | exact Dp.str _
  | exact Dp.bl _
  | exact Dp.non
  | (refine' Dp.tup ?h ?d; (case h => walk_at "ts look"); (case d => walk_at "ts dps"))
  | (refine' Dp.lst ?h ?d; (case h => walk_at "ts look"); (case d => walk_at "ts dps")))
local macro_rules | `(tactic| walk_at "ts dps") => `(tactic| first
  | exact DpAll.nil
  | (refine' DpAll.cons ?h ?t; (case h => walk_at "ts dp"); (case t => walk_at "ts dps")))
local macro_rules | `(tactic| walk_at "ts okw") => `(tactic| first
  | exact okw_int (by omega) (by omega)
  | exact okw_str (by assumption)
  | exact okw_bool
  | exact okw_none
  | (refine' okw_tup ?h; (case h => walk_at "ts okws"))
  | (refine' okw_lst ?h; (case h => walk_at "ts okws")))
local macro_rules | `(tactic| walk_at "ts okws") => `(tactic| first
  | exact okws_nil
  | (refine' okws_cons ?h ?t; (case h => walk_at "ts okw"); (case t => walk_at "ts okws")))
local macro_rules | `(tactic| walk_at "ts sh") => `(tactic| first
  | exact sh_int (by omega) (by omega)
  | (refine' Sh.of ?h ?c ?d; (case h => walk_at "ts okw"); (case c => decide); (case d => decide)))
local macro_rules | `(tactic| walk_at "ts kp") => `(tactic| first
  | assumption
  | exact Kp.refl _ _
  | exact Evl.Ex.refl _
  | (refine' Kp.trans ?n ?e; (case e => assumption); (case n => walk_at "ts kp"))
  | (refine' Kp.ex ?n ?e; (case e => assumption); (case n => walk_at "ts kp"))
  | (refine' Evl.Ex.trans ?n ?e; (case e => assumption); (case n => walk_at "ts kp")))
local macro_rules | `(tactic| walk_at "ts ixb") => `(tactic| fail)
local macro_rules | `(tactic| walk_at "ts al") => `(tactic| (simp only [AllI, List.cons_append, List.nil_append, and_true]; omega))
local macro_rules | `(tactic| walk_at "tsx new") => `(tactic| fail)
local macro_rules | `(tactic| walk_at "ts use") => `(tactic| fail)
local macro_rules | `(tactic| walk_at "ts len") => `(tactic| first | omega | (simp only [List.length_append, List.length_cons, List.length_nil, List.length_take, List.length_drop, List.length_map, List.length_replicate]; omega))
local macro_rules | `(tactic| walk_at "ts cut") => `(tactic| first
  | exact cutS_ap _ _ 2
  | exact cutS_ap _ _ 1
  | exact cutS_0n _ 1
  | exact cutS_0n _ 2
  | exact cutS_n0 _ 1
  | exact cutS_n0 _ 2
  | exact cutS_0n _ 60
  | exact cutS_nn _ _ _
  | exact cutS_0n _ _
  | exact cutS_n0 _ _)
local macro_rules | `(tactic| walk_at "ts ys") => `(tactic| fail)
local macro_rules | `(tactic| walk_at "ts ixs") => `(tactic| fail)
local macro_rules | `(tactic| walk_at "ts same") => `(tactic| first | with_reducible rfl | (refine congrArg PyData.shown ?_; (simp only [PyData.tuple.injEq, PyData.list.injEq, List.cons.injEq, PyData.int.injEq, PyData.str.injEq, and_true, true_and, and_self]); first | done | omega))
local macro_rules | `(tactic| walk_at "ts put") => `(tactic| rfl)
local macro_rules | `(tactic| walk_at "ts div") => `(tactic| ((with_reducible refine r_div ?c ?d ?q); (case c => omega); (case d => omega)))
local macro_rules | `(tactic| walk_at "ts mod") => `(tactic| ((with_reducible refine r_mod ?c ?q); (case c => omega)))
local macro_rules | `(tactic| walk_at "ts") => `(tactic| first
  | (with_reducible refine r_seq ?_)
  | walk_at "ts var"
  | (with_reducible refine r_c ?_)
  | (with_reducible refine r_op ?_)
  | (with_reducible refine r_un ?_)
  | (with_reducible refine r_cb ?_)
  | (with_reducible refine r_cons ?_)
  | (with_reducible refine r_nil ?_)
  | (with_reducible refine r_call ?_)
  | (with_reducible refine r_lst ?_)
  | (with_reducible refine r_tup ?_)
  | (with_reducible refine r_sl ?_)
  | (with_reducible refine r_noP ?_)
  | (with_reducible refine r_part ?_)
  | (with_reducible refine r_isi ?_)
  | (with_reducible refine r_if ?_)
  | (with_reducible refine r_ifx ?_)
  | (with_reducible refine r_test ?_)
  | (with_reducible refine r_tB ?_)
  | (with_reducible refine r_isb ?_)
  | (with_reducible refine r_and ?_)
  | (with_reducible refine r_or ?_)
  | (with_reducible refine r_not ?_)
  | (with_reducible refine r_andV ?_)
  | (with_reducible refine r_orV ?_)
  | (with_reducible refine r_notV ?_)
  | (with_reducible refine r_T ?_)
  | (with_reducible refine r_F ?_)
  | (with_reducible refine r_ret ?_)
  | (with_reducible refine r_retN ?_)
  | (with_reducible refine r_drop ?_)
  | walk_at "ts set"
  | (with_reducible refine r_asg ?_)
  | ((with_reducible refine r_gname ?_); try simp only [List.set_cons_zero, List.set_cons_succ])
  | ((with_reducible refine' r_gtup ?l ?m ?q); (case l => walk_at "ts look"); (case m => rfl))
  | (with_reducible refine r_gcons ?_)
  | (with_reducible refine r_gnil ?_)
  | (with_reducible refine r_next ?_)
  | (with_reducible refine r_brk ?_)
  | (with_reducible refine r_cont ?_)
  | (with_reducible refine r_I0 ?_)
  | (with_reducible refine r_U ?_)
  | (with_reducible refine r_ipI ?_)
  | walk_at "tsx new"
  | (with_reducible refine r_tru ?_)
  | (with_reducible refine r_whb ?_)
  | ((with_reducible refine' r_augK ?h ?q); (case h => rfl))
  | ((with_reducible refine r_setK ?_); try simp only [List.set_cons_zero, List.set_cons_succ])
  | ((with_reducible refine' r_truS ?l ?q); (case l => walk_at "ts len"))
  | ((with_reducible refine' r_addS ?l ?q); (case l => walk_at "ts len"))
  | ((with_reducible refine' r_slS ?l ?e ?q); (case l => walk_at "ts len"); (case e => walk_at "ts cut"))
  | ((with_reducible refine' r_lenSS ?l ?q); (case l => walk_at "ts len"))
  | walk_at "ts ixs"
  | ((with_reducible refine' r_inT ?ys ?l ?e ?q); (case ys => walk_at "ts ys"); (case l => walk_at "ts look"); (case e => rfl))
  | (with_reducible refine r_bm ?_)
  | (with_reducible refine r_bm0 ?_)
  | (with_reducible refine r_tyS ?_)
  | ((with_reducible refine' r_tyL ?l ?q); (case l => walk_at "ts look"))
  | (with_reducible refine r_m1 ?_)
  | (with_reducible refine r_iss ?_)
  | ((with_reducible refine' r_app ?l ?c ?q); (case l => walk_at "ts look"); (case c => walk_at "ts len"); intro _ _ _)
  | ((with_reducible refine' r_pop ?l ?q); (case l => walk_at "ts look"); intro _ _ _)
  | ((with_reducible refine' r_listOf ?l ?q); (case l => walk_at "ts look"))
  | (with_reducible refine r_gsub ?_)
  | ((with_reducible refine' r_setL ?l ?e ?q); (case l => walk_at "ts look"); (case e => rfl); intro _ _ _)
  | (with_reducible refine r_star ?_)
  | ((with_reducible refine' r_starL ?l ?q); (case l => walk_at "ts look"))
  | ((with_reducible refine' r_intD ?c ?d) <;> intro _)
  | (with_reducible refine r_lc ?_)
  | ((with_reducible refine' r_isl ?l ?q); (case l => walk_at "ts look"))
  | ((with_reducible refine' r_ist ?l ?q); (case l => walk_at "ts look"))
  | ((with_reducible refine r_neSame ?e ?q); (case e => walk_at "ts same"))
  | ((with_reducible refine r_eqSame ?e ?q); (case e => walk_at "ts same"))
  | (with_reducible refine r_eqSS ?_)
  | (with_reducible refine r_neSS ?_)
  | (with_reducible refine r_eqI ?_)
  | (with_reducible refine r_neI ?_)
  | (with_reducible refine r_eqS ?_)
  | (with_reducible refine r_neS ?_)
  | (with_reducible refine r_eqB ?_)
  | (with_reducible refine r_neB ?_)
  | (with_reducible refine r_abs ?_)
  | (with_reducible refine r_max2 ?_)
  | (with_reducible refine r_min2 ?_)
  | walk_at "ts use"
  | (with_reducible refine r_for ?_)
  | (with_reducible refine r_rng1 ?_)
  | (with_reducible refine r_rng2 ?_)
  | ((with_reducible refine r_rng1v ?c ?d ?q); (case c => omega); (case d => omega))
  | ((with_reducible refine r_rng2v ?c ?d ?e ?f ?q); (case c => omega); (case d => omega); (case e => omega); (case f => omega))
  | (with_reducible refine r_ilist ?_)
  | (with_reducible refine r_itup ?_)
  | (with_reducible refine r_pnil ?_)
  | (with_reducible refine r_pcons ?_)
  | ((with_reducible refine r_disp ?_); intro _ _ _ _ _)
  | ((with_reducible refine r_new ?_); intro _ _ _ _ _)
  | ((refine And.intro (le_small rfl) ?_))
  | ((refine And.intro rfl ?_); try simp only [List.cons_append, List.nil_append, List.append_nil, List.map_nil, List.map_cons, List.take, List.drop])
  | (with_reducible refine r_callD ?_)
  | (with_reducible refine r_cd1 ?_)
  | (with_reducible refine r_cd2 ?_)
  | (with_reducible refine r_cd3 ?_)
  | (with_reducible refine r_callN ?_)
  | (with_reducible refine r_callN0 ?_)
  | walk_at "ts mod"
  | walk_at "ts div"
  | ((with_reducible refine r_mulL ?c ?d ?q); (case c => omega); (case d => omega))
  | ((with_reducible refine r_mulR ?c ?d ?q); (case c => omega); (case d => omega))
  | ((with_reducible refine r_pow ?c ?d ?e ?f ?q); (case c => omega); (case d => omega); (case e => omega); (case f => omega); try simp only [Int.reduceToNat, Int.reducePow])
  | ((with_reducible refine' r_ixLI ?l ?i ?j ?q); (case l => walk_at "ts look"); (case i => omega); (case j => omega); intro _ _)
  | walk_at "ts ixb"
  | ((with_reducible refine' r_ixT ?l ?i ?q); (case l => walk_at "ts look"); (case i => rfl))
  | ((with_reducible refine' r_ixL ?l ?i ?q); (case l => walk_at "ts look"); (case i => walk_at "ts ix"))
  | ((with_reducible refine' r_slL ?l ?q); (case l => walk_at "ts look"))
  | ((with_reducible refine' r_cat ?l ?m ?n ?q); (case l => walk_at "ts look"); (case m => walk_at "ts look"); (case n => exact le_small rfl); simp only [List.cons_append, List.nil_append])
  | ((with_reducible refine' r_repr ?l ?m ?q); (case l => walk_at "ts dp"); (case m => walk_at "ts sh"))
  | ((with_reducible refine' r_lenLI ?l ?q); (case l => walk_at "ts look"))
  | ((with_reducible refine' r_lenL ?l ?q); (case l => walk_at "ts look"))
  | ((with_reducible refine r_dec ?q1 ?q2) <;> intro _)
  | ((with_reducible refine r_decN ?q1 ?q2) <;> intro _)
  | ((with_reducible refine' g_dk ?h ?e ?q); (case h => walk_at "ts look"); (case e => rfl))
  | ((with_reducible refine' p_dk ?h ?l ?e ?q); (case h => walk_at "ts look"); (case l => exact lt_small rfl); (case e => walk_at "ts put"); intro _ _ _)
  | (with_reducible refine r_dget ?_)
  | (with_reducible refine r_dput ?_))

section
variable {P : Program} {w : World} {K : PySem.W.Frag} {mg : Str → Option Value} {base : Heap}
variable {a_clamped a_shown a_stepped a_two_figures a_pen a_take a_pick a_number a_right a_law : Addr} {d_clamped d_shown d_stepped d_two_figures d_pen d_take d_pick d_number d_right d_law : FuncData} {u_ROMAN_ONES : Addr}
theorem Txt.k_clamped (T : Txt K mg a_clamped a_shown a_stepped a_two_figures a_pen a_take a_pick a_number a_right a_law d_clamped d_shown d_stepped d_two_figures d_pen d_take d_pick d_number d_right d_law u_ROMAN_ONES) : PySem.W.keepIn K (.ref a_clamped) = true := T.f_clamped.kp
theorem Txt.k_shown (T : Txt K mg a_clamped a_shown a_stepped a_two_figures a_pen a_take a_pick a_number a_right a_law d_clamped d_shown d_stepped d_two_figures d_pen d_take d_pick d_number d_right d_law u_ROMAN_ONES) : PySem.W.keepIn K (.ref a_shown) = true := T.f_shown.kp
theorem Txt.b_shown (T : Txt K mg a_clamped a_shown a_stepped a_two_figures a_pen a_take a_pick a_number a_right a_law d_clamped d_shown d_stepped d_two_figures d_pen d_take d_pick d_number d_right d_law u_ROMAN_ONES) : Binds K d_shown P_shown [] := T.f_shown.binds (ps := P_shown) fun _ _ _ _ _ _ us hl => match us, hl with | [_, _], _ => rfl
theorem Txt.k_stepped (T : Txt K mg a_clamped a_shown a_stepped a_two_figures a_pen a_take a_pick a_number a_right a_law d_clamped d_shown d_stepped d_two_figures d_pen d_take d_pick d_number d_right d_law u_ROMAN_ONES) : PySem.W.keepIn K (.ref a_stepped) = true := T.f_stepped.kp
theorem Txt.b_stepped (T : Txt K mg a_clamped a_shown a_stepped a_two_figures a_pen a_take a_pick a_number a_right a_law d_clamped d_shown d_stepped d_two_figures d_pen d_take d_pick d_number d_right d_law u_ROMAN_ONES) : Binds K d_stepped P_stepped [] := T.f_stepped.binds (ps := P_stepped) fun _ _ _ _ _ _ us hl => match us, hl with | [_], _ => rfl
theorem Txt.k_two_figures (T : Txt K mg a_clamped a_shown a_stepped a_two_figures a_pen a_take a_pick a_number a_right a_law d_clamped d_shown d_stepped d_two_figures d_pen d_take d_pick d_number d_right d_law u_ROMAN_ONES) : PySem.W.keepIn K (.ref a_two_figures) = true := T.f_two_figures.kp
theorem Txt.b_two_figures (T : Txt K mg a_clamped a_shown a_stepped a_two_figures a_pen a_take a_pick a_number a_right a_law d_clamped d_shown d_stepped d_two_figures d_pen d_take d_pick d_number d_right d_law u_ROMAN_ONES) : Binds K d_two_figures P_two_figures [] := T.f_two_figures.binds (ps := P_two_figures) fun _ _ _ _ _ _ us hl => match us, hl with | [_], _ => rfl
theorem Txt.k_pen (T : Txt K mg a_clamped a_shown a_stepped a_two_figures a_pen a_take a_pick a_number a_right a_law d_clamped d_shown d_stepped d_two_figures d_pen d_take d_pick d_number d_right d_law u_ROMAN_ONES) : PySem.W.keepIn K (.ref a_pen) = true := T.f_pen.kp
theorem Txt.b_pen (T : Txt K mg a_clamped a_shown a_stepped a_two_figures a_pen a_take a_pick a_number a_right a_law d_clamped d_shown d_stepped d_two_figures d_pen d_take d_pick d_number d_right d_law u_ROMAN_ONES) : Binds K d_pen P_pen [] := T.f_pen.binds (ps := P_pen) fun _ _ _ _ _ _ us hl => match us, hl with | [_], _ => rfl
theorem Txt.k_take (T : Txt K mg a_clamped a_shown a_stepped a_two_figures a_pen a_take a_pick a_number a_right a_law d_clamped d_shown d_stepped d_two_figures d_pen d_take d_pick d_number d_right d_law u_ROMAN_ONES) : PySem.W.keepIn K (.ref a_take) = true := T.f_take.kp
theorem Txt.b_take (T : Txt K mg a_clamped a_shown a_stepped a_two_figures a_pen a_take a_pick a_number a_right a_law d_clamped d_shown d_stepped d_two_figures d_pen d_take d_pick d_number d_right d_law u_ROMAN_ONES) : Binds K d_take P_take [] := T.f_take.binds (ps := P_take) fun _ _ _ _ _ _ us hl => match us, hl with | [_, _], _ => rfl
theorem Txt.k_pick (T : Txt K mg a_clamped a_shown a_stepped a_two_figures a_pen a_take a_pick a_number a_right a_law d_clamped d_shown d_stepped d_two_figures d_pen d_take d_pick d_number d_right d_law u_ROMAN_ONES) : PySem.W.keepIn K (.ref a_pick) = true := T.f_pick.kp
theorem Txt.b_pick (T : Txt K mg a_clamped a_shown a_stepped a_two_figures a_pen a_take a_pick a_number a_right a_law d_clamped d_shown d_stepped d_two_figures d_pen d_take d_pick d_number d_right d_law u_ROMAN_ONES) : Binds K d_pick P_pick [] := T.f_pick.binds (ps := P_pick) fun _ _ _ _ _ _ us hl => match us, hl with | [_, _], _ => rfl
theorem Txt.k_number (T : Txt K mg a_clamped a_shown a_stepped a_two_figures a_pen a_take a_pick a_number a_right a_law d_clamped d_shown d_stepped d_two_figures d_pen d_take d_pick d_number d_right d_law u_ROMAN_ONES) : PySem.W.keepIn K (.ref a_number) = true := T.f_number.kp
theorem Txt.b_number (T : Txt K mg a_clamped a_shown a_stepped a_two_figures a_pen a_take a_pick a_number a_right a_law d_clamped d_shown d_stepped d_two_figures d_pen d_take d_pick d_number d_right d_law u_ROMAN_ONES) : Binds K d_number P_number [] := T.f_number.binds (ps := P_number) fun _ _ _ _ _ _ us hl => match us, hl with | [_], _ => rfl
theorem Txt.k_right (T : Txt K mg a_clamped a_shown a_stepped a_two_figures a_pen a_take a_pick a_number a_right a_law d_clamped d_shown d_stepped d_two_figures d_pen d_take d_pick d_number d_right d_law u_ROMAN_ONES) : PySem.W.keepIn K (.ref a_right) = true := T.f_right.kp
theorem Txt.b_right (T : Txt K mg a_clamped a_shown a_stepped a_two_figures a_pen a_take a_pick a_number a_right a_law d_clamped d_shown d_stepped d_two_figures d_pen d_take d_pick d_number d_right d_law u_ROMAN_ONES) : Binds K d_right P_right [] := T.f_right.binds (ps := P_right) fun _ _ _ _ _ _ us hl => match us, hl with | [_], _ => rfl
/-! ### the pen -/
def Pen (K : PySem.W.Frag) (H : Hp) (p : Addr) (b : Int) : Prop := ∃ (c : Addr) (ns : List Int) (n l : Int), H p = some (.dK (penK c n l)) ∧ SqL K H c (ns.map V.int) ∧ 0 ≤ n ∧ n ≤ b ∧ 0 ≤ l
theorem Pen.od {H : Hp} {p : Addr} {b : Int} (h : Pen K H p b) : Od H p := by
  obtain ⟨c, ns, n, l, hp, _⟩ := h
  exact ⟨_, hp⟩
theorem Pen.le {H : Hp} {p : Addr} {b b' : Int} (h : Pen K H p b) (e : b ≤ b') : Pen K H p b' := by
  obtain ⟨c, ns, n, l, hp, hc, h1, h2, h3⟩ := h
  exact ⟨c, ns, n, l, hp, hc, h1, Int.le_trans h2 e, h3⟩
theorem Pen.ex {H H' : Hp} {p : Addr} {b : Int} (e : Ex H H') (h : Pen K H p b) : Pen K H' p b := by
  obtain ⟨c, ns, n, l, hp, hc, h1⟩ := h
  exact ⟨c, ns, n, l, e _ _ hp, Ex.L e hc, h1⟩
section
local macro_rules | `(tactic| walk_at "ts put") => `(tactic| first | exact put_a _ _ _ _ | exact put_l _ _ _ _ | rfl)
local macro_rules | `(tactic| walk_at "ts div") => `(tactic| ((with_reducible refine r_divF ?c ?d ?e ?q); (case c => omega); (case d => omega); (case e => omega); intro _ _ _))
local macro_rules | `(tactic| walk_at "ts mod") => `(tactic| ((with_reducible refine r_modF ?c ?q); (case c => omega); intro _ _ _))
def spTake (K : PySem.W.Frag) : Sp := fun vs H Q _ => ∃ (p : Addr) (n b : Int), vs = [.ref p, .int n] ∧ 0 < n ∧ n < 1000000 ∧ b ≤ 1000000000 ∧ Pen K H p b ∧
  ∀ r H', 0 ≤ r → r < n → Pen K H' p (b + 1) → Kp p H H' → Q (.int r) H'
theorem ok_take (T : Txt K mg a_clamped a_shown a_stepped a_two_figures a_pen a_take a_pick a_number a_right a_law d_clamped d_shown d_stepped d_two_figures d_pen d_take d_pick d_number d_right d_law u_ROMAN_ONES) : FnOk P w K mg base CX0 1 a_take d_take P_take (spTake K) := by
  refine T.f_take.ok sc_take (fun vs H Q E h => ?_) (fun cdv A outer s H vs Q E hr h => ?_)
  · obtain ⟨p, n, b, rfl, _⟩ := h
    rfl
  · obtain ⟨p, n, b, rfl, n0, n1, hb, ⟨c, ns, at', lf, hp, hc, a0, a1, l0⟩, q⟩ := h
    have hu := hu_of hr
    refine ⟨_, (pss_cons (ps_set (i := 2) sc_take.nd rfl (.inl rfl) (pe_dget hu (pv 0) (pe_strL [99, 101, 108, 108, 115]) (fun _ _ => rfl)))
      (pss_cons (ps_if (pt_cmpR op_gt (pe_dget hu (pv 0) (pe_strL [108, 101, 102, 116]) (fun _ _ => rfl)) pe_int (nomark _))
      (pss_cons (ps_set (i := 3) sc_take.nd rfl (.inl rfl) (pe_op op_mod (pe_dget hu (pv 0) (pe_strL [108, 101, 102, 116]) (fun _ _ => rfl)) (pv 1)))
      (pss_cons (ps_dput hu (pv 0) (pe_strL [108, 101, 102, 116]) (pe_op op_fdiv (pe_dget hu (pv 0) (pe_strL [108, 101, 102, 116]) (fun _ _ => rfl)) (pv 1)) rfl)
      (pss_one (ps_ret (pv 3)))))
      pss_nil)
      (pss_cons (ps_set (i := 4) sc_take.nd rfl (.inl rfl) (pe_dget hu (pv 0) (pe_strL [97, 116]) (fun _ _ => rfl)))
      (pss_cons (ps_dput hu (pv 0) (pe_strL [97, 116]) (pe_op op_add (pv 4) pe_int) rfl)
      (pss_cons (ps_set (i := 5) sc_take.nd rfl (.inl rfl) (pe_op op_add (pe_op op_add (pe_op op_mul (pe_op op_mul pe_int (pv 4)) (pv 4)) (pe_op op_mul pe_int (pv 4))) pe_int))
      (pss_cons (ps_if (pt_cmpR op_lt (pv 4) (pe_callB c_lenQ (by rfl) T.m_len PySem.boot_len (pa_cons (pv 2) pa_nil)) (nomark _))
      (pss_cons (ps_set (i := 5) sc_take.nd rfl (.inl rfl) (pe_ix ix_list (pv 2) (pv 4) (fun _ _ => rfl)))
      (pss_one (ps_if (pt_cmpR op_ge (pe_callB c_abs (by rfl) T.m_abs (by decide +kernel) (pa_cons (pv 5) pa_nil)) (pe_op op_pow pe_int pe_int) (nomark _))
      (pss_cons (ps_dput hu (pv 0) (pe_strL [108, 101, 102, 116]) (pe_op op_fdiv (pe_callB c_abs (by rfl) T.m_abs (by decide +kernel) (pa_cons (pv 5) pa_nil)) (pv 1)) rfl)
      (pss_one (ps_ret (pe_op op_mod (pe_callB c_abs (by rfl) T.m_abs (by decide +kernel) (pa_cons (pv 5) pa_nil)) (pv 1)))))
      pss_nil)))
      (pss_one (ps_if (pt_cmpR op_gt (pe_callB c_lenQ (by rfl) T.m_len PySem.boot_len (pa_cons (pv 2) pa_nil)) pe_int (nomark _))
      (pss_one (ps_set (i := 5) sc_take.nd rfl (.inl rfl) (pe_op op_add (pe_op op_mod (pe_ix ix_list (pv 2) (pe_op op_mod (pv 4) (pe_callB c_lenQ (by rfl) T.m_len PySem.boot_len (pa_cons (pv 2) pa_nil))) (fun _ _ => rfl)) (pe_op op_pow pe_int pe_int)) (pe_op op_mul pe_int (pv 4)))))
      pss_nil)))
      (pss_cons (ps_set (i := 6) sc_take.nd rfl (.inl rfl) (pe_op op_mod (pe_op op_mul (pe_op op_add (pe_op op_add (pe_op op_mod (pv 5) pe_int) (pe_op op_mul pe_int (pv 4))) pe_int) pe_int) pe_int))
      (pss_cons (ps_set (i := 6) sc_take.nd rfl (.inl rfl) (pe_op op_mod (pe_op op_add (pe_op op_mul (pv 6) (pe_op op_add (pe_op op_mod (pv 6) pe_int) pe_int)) (pe_op op_mul pe_int (pv 4))) pe_int))
      (pss_one (ps_ret (pe_op op_mod (pe_op op_fdiv (pe_op op_mod (pe_op op_mul (pv 6) (pe_op op_add (pe_op op_mod (pv 6) pe_int) pe_int)) pe_int) pe_int) (pv 1)))))))))))), ?_⟩
    walk_at "ts in"
    repeat' walk_at "ts"
    all_goals refine q _ _ (by omega) (by omega) ⟨c, ns, _, _, by assumption, by walk_at "ts look", by omega, by omega, by omega⟩ (by walk_at "ts kp")
end
theorem u_take {H : Hp} {p : Addr} {n b : Int} {Q : VK} {E : XK} (h : Pen K H p b) (c : 0 < n) (d : n < 1000000) (e : b ≤ 1000000000)
    (q : ∀ r H', 0 ≤ r → r < n → Pen K H' p (b + 1) → Kp p H H' → Od H p → Q (.int r) H') : spTake K [.ref p, .int n] H Q E := ⟨p, n, b, rfl, c, d, e, h, fun r H' h1 h2 h3 h4 => q r H' h1 h2 h3 h4 h.od⟩
local macro_rules | `(tactic| walk_at "ts pen") => `(tactic| first
  | assumption
  | (refine' Pen.ex ?e ?n; (case e => assumption); (case n => walk_at "ts pen")))
local macro_rules | `(tactic| walk_at "ts use") => `(tactic| ((with_reducible refine' u_take ?h ?c ?d ?e ?q); (case h => walk_at "ts pen"); (case c => omega); (case d => omega); (case e => omega); intro _ _ _ _ _ _ _))
def spPick (K : PySem.W.Frag) : Sp := fun vs H Q _ => ∃ (p l : Addr) (xs : List V) (b : Int), vs = [.ref p, .ref l] ∧ SqL K H l xs ∧ 0 < xs.length ∧ xs.length < 1000000 ∧ b ≤ 1000000000 ∧ Pen K H p b ∧
  ∀ v H', v ∈ xs → Pen K H' p (b + 1) → Kp p H H' → Q v H'
theorem ok_pick (T : Txt K mg a_clamped a_shown a_stepped a_two_figures a_pen a_take a_pick a_number a_right a_law d_clamped d_shown d_stepped d_two_figures d_pen d_take d_pick d_number d_right d_law u_ROMAN_ONES) : FnOk P w K mg base CX0 2 a_pick d_pick P_pick (spPick K) := by
  have O_take : FnOk P w K mg base CX0 1 a_take d_take P_take (spTake K) := ok_take T
  refine T.f_pick.ok sc_pick (fun vs H Q E h => ?_) (fun cdv A outer s H vs Q E hr h => ?_)
  · obtain ⟨p, l, xs, b, rfl, _⟩ := h
    rfl
  · obtain ⟨p, l, xs, b, rfl, hl, x0, x1, hb, hp, q⟩ := h
    have hu := hu_of hr
    have hod := hp.od
    refine ⟨_, (pss_one (ps_ret (pe_ix ix_list (pv 1) (pe_call O_take (hr.mono (by decide)) (by rfl) T.g_take T.k_take T.b_take .nil pass0 (pa_cons (pv 0) (pa_cons (pe_callB c_lenQ (by rfl) T.m_len PySem.boot_len (pa_cons (pv 1) pa_nil)) pa_nil))) (fun _ _ => rfl)))), ?_⟩
    walk_at "ts in"
    repeat' walk_at "ts"
    refine r_ixM (xs := xs) (by walk_at "ts look") (by assumption) (by assumption) fun v hv => ?_
    exact q v _ hv (by assumption) (by walk_at "ts kp")
theorem u_pick {H : Hp} {p l : Addr} {xs : List V} {b : Int} {Q : VK} {E : XK} (h : Pen K H p b) (hl : SqL K H l xs) (c : decide (0 < xs.length ∧ xs.length < 1000) = true) (e : b ≤ 1000000000)
    (q : ∀ v H', v ∈ xs → Pen K H' p (b + 1) → Kp p H H' → Od H p → Q v H') : spPick K [.ref p, .ref l] H Q E := by
  have c := of_decide_eq_true c
  exact ⟨p, l, xs, b, rfl, hl, c.1, by omega, e, h, fun r H' h1 h2 h3 => q r H' h1 h2 h3 h.od⟩
theorem u_pickI {lo hi : Int} {H : Hp} {p l : Addr} {xs : List V} {b : Int} {Q : VK} {E : XK} (h : Pen K H p b) (hl : SqL K H l xs) (c : decide (0 < xs.length ∧ xs.length < 1000) = true) (al : AllI lo hi xs) (e : b ≤ 1000000000)
    (q : ∀ z H', lo ≤ z → z ≤ hi → Pen K H' p (b + 1) → Kp p H H' → Od H p → Q (.int z) H') : spPick K [.ref p, .ref l] H Q E :=
  u_pick h hl c e fun v H' hv h1 h2 h3 => by
    obtain ⟨z, rfl, z1, z2⟩ := al.at hv
    exact q z H' z1 z2 h1 h2 h3
local macro_rules | `(tactic| walk_at "ts ixb") => `(tactic| ((with_reducible refine' r_ixB (lo := -9999) (hi := 9999) ?l ?i ?j ?al ?q); (case l => walk_at "ts look"); (case i => omega); (case j => (simp only [List.length_cons, List.length_nil]; omega)); (case al => walk_at "ts al"); intro _ _ _))
local macro_rules | `(tactic| walk_at "ts use") => `(tactic| ((with_reducible refine' u_pickI (lo := -9999) (hi := 9999) ?h ?l ?c ?al ?e ?q); (case h => walk_at "ts pen"); (case l => walk_at "ts look"); (case c => rfl); (case al => walk_at "ts al"); (case e => omega); intro _ _ _ _ _ _ _))
def spNum (K : PySem.W.Frag) : Sp := fun vs H Q _ => ∃ (p : Addr) (b : Int), vs = [.ref p] ∧ b ≤ 1000000000 - 10 ∧ Pen K H p b ∧
  ∀ v H', -9999 ≤ v → v ≤ 9999 → Pen K H' p (b + 5) → Kp p H H' → Q (.int v) H'
theorem ok_number (T : Txt K mg a_clamped a_shown a_stepped a_two_figures a_pen a_take a_pick a_number a_right a_law d_clamped d_shown d_stepped d_two_figures d_pen d_take d_pick d_number d_right d_law u_ROMAN_ONES) : FnOk P w K mg base CX0 3 a_number d_number P_number (spNum K) := by
  have O_take : FnOk P w K mg base CX0 1 a_take d_take P_take (spTake K) := ok_take T
  have O_pick : FnOk P w K mg base CX0 2 a_pick d_pick P_pick (spPick K) := ok_pick T
  refine T.f_number.ok sc_number (fun vs H Q E h => ?_) (fun cdv A outer s H vs Q E hr h => ?_)
  · obtain ⟨p, b, rfl, _⟩ := h
    rfl
  · obtain ⟨p, b, rfl, hb, hp, q⟩ := h
    have hu := hu_of hr
    have hod := hp.od
    refine ⟨_, (pss_cons (ps_set (i := 1) sc_number.nd rfl (.inl rfl) (pe_lst (pa_cons (pe_op op_sub (pe_call O_take (hr.mono (by decide)) (by rfl) T.g_take T.k_take T.b_take .nil pass0 (pa_cons (pv 0) (pa_cons pe_int pa_nil))) pe_int) (pa_cons (pe_ix ix_list (pe_lst (pa_cons pe_int (pa_cons pe_int (pa_cons pe_int (pa_cons pe_int (pa_cons pe_int (pa_cons pe_int (pa_cons pe_int (pa_cons pe_int (pa_cons (pe_un un_neg pe_int) (pa_cons (pe_un un_neg pe_int) (pa_cons (pe_un un_neg pe_int) pa_nil)))))))))))) (pe_call O_take (hr.mono (by decide)) (by rfl) T.g_take T.k_take T.b_take .nil pass0 (pa_cons (pv 0) (pa_cons pe_int pa_nil))) (fun _ _ => rfl)) pa_nil))))
      (pss_cons (ps_set (i := 1) sc_number.nd rfl (.inl rfl) (pe_op op_cat (pv 1) (pe_lst (pa_cons (pe_ix ix_list (pe_lst (pa_cons pe_int (pa_cons (pe_un un_neg pe_int) (pa_cons pe_int (pa_cons pe_int (pa_cons pe_int (pa_cons pe_int pa_nil))))))) (pe_call O_take (hr.mono (by decide)) (by rfl) T.g_take T.k_take T.b_take .nil pass0 (pa_cons (pv 0) (pa_cons pe_int pa_nil))) (fun _ _ => rfl)) (pa_cons (pe_op op_sub (pe_call O_take (hr.mono (by decide)) (by rfl) T.g_take T.k_take T.b_take .nil pass0 (pa_cons (pv 0) (pa_cons pe_int pa_nil))) pe_int) pa_nil)))))
      (pss_one (ps_ret (pe_call O_pick (hr.mono (by decide)) (by rfl) T.g_pick T.k_pick T.b_pick .nil pass0 (pa_cons (pv 0) (pa_cons (pv 1) pa_nil))))))), ?_⟩
    walk_at "ts in"
    repeat' walk_at "ts"
    exact q _ _ (by assumption) (by assumption) (Pen.le (by assumption) (by omega)) (by walk_at "ts kp")
def spPen (K : PySem.W.Frag) : Sp := fun vs H Q _ => ∃ (a : Addr) (ns : List Int), vs = [.ref a] ∧ SqL K H a (ns.map V.int) ∧ ∀ p H', Pen K H' p 0 → Q (.ref p) H'
theorem cut63 (ns : List Int) : cutV (ns.map V.int) none (some 63) = (ns.take 63).map V.int := by
  unfold cutV
  rw [HT.sIx_none, show HT.sIx (ns.map V.int).length (ns.map V.int).length (some 63) = min 63 (ns.map V.int).length from HT.sIx_nat _ _ 63, List.drop_zero, List.map_take, Nat.sub_zero]
  by_cases h : 63 ≤ (ns.map V.int).length
  · rw [Nat.min_eq_left h]
  · rw [Nat.min_eq_right (by omega), List.take_of_length_le (Nat.le_refl _), List.take_of_length_le (by omega)]
theorem ok_pen (T : Txt K mg a_clamped a_shown a_stepped a_two_figures a_pen a_take a_pick a_number a_right a_law d_clamped d_shown d_stepped d_two_figures d_pen d_take d_pick d_number d_right d_law u_ROMAN_ONES) : FnOk P w K mg base CX0 1 a_pen d_pen P_pen (spPen K) := by
  refine T.f_pen.ok sc_pen (fun vs H Q E h => ?_) (fun cdv A outer s H vs Q E hr h => ?_)
  · obtain ⟨a, ns, rfl, _⟩ := h
    rfl
  · obtain ⟨a, ns, rfl, ha, q⟩ := h
    have hu := hu_of hr
    refine ⟨_, (pss_one (ps_ret (pe_disp (pps_cons (pe_strL [99, 101, 108, 108, 115]) (pe_slice sl_list (pv 0) po_none (po_some pe_int)) (pps_cons (pe_strL [97, 116]) pe_int (pps_cons (pe_strL [108, 101, 102, 116]) pe_int pps_nil))) (by rfl) (by rfl) (fun z => by cases z) (by decide)))), ?_⟩
    walk_at "ts in"
    repeat' walk_at "ts"
    rename_i p H1 np e1 hp c H2 nc e2 hc
    rw [cut63] at hc
    refine r_mkd (penK c 0 0) (kw := penK c 0 0) (by walk_at "ts look") rfl (by show 3 ≤ 15; decide) rfl fun H3 k3 h3 => ?_
    refine q p H3 ⟨c, ns.take 63, 0, 0, h3, ?_, Int.le_refl _, Int.le_refl _, Int.le_refl _⟩
    exact Kp.L k3 (fun e => by subst e; rw [hp] at nc; cases nc) (SqL.at hc)
theorem u_number {H : Hp} {p : Addr} {b : Int} {Q : VK} {E : XK} (h : Pen K H p b) (e : b ≤ 1000000000 - 10)
    (q : ∀ v H', -9999 ≤ v → v ≤ 9999 → Pen K H' p (b + 5) → Kp p H H' → Od H p → Q (.int v) H') : spNum K [.ref p] H Q E := ⟨p, b, rfl, e, h, fun v H' h1 h2 h3 h4 => q v H' h1 h2 h3 h4 h.od⟩

section
/-! ### the forms -/
local macro_rules | `(tactic| walk_at "tsx new") => `(tactic| first
  | (with_reducible refine r_chain ?_)
  | (with_reducible refine r_addS (roman_len (by omega)) ?_)
  | ((with_reducible refine' r_addS (minus_len ?k ?l) ?q); (case k => decide); (case l => walk_at "ts len"))
  | ((with_reducible refine' r_ixS ?l ?e ?q); (case l => decide); (case e => exact at_letters (by omega) (by omega)))
  | (refine r_ixT (xs := ones.map fun y => V.str (S y)) (by apply_assumption) (at_ones (by omega) (by omega)) ?_)
  | (refine r_ixL (xs := ones.map fun y => V.str (S y)) (by walk_at "ts look") (at_ones (by omega) (by omega)) ?_)
  | ((with_reducible refine' r_strI ?c ?d ?q); (case c => omega); (case d => omega))
  | ((with_reducible refine' r_mulS ?l ?c ?d ?q); (case l => walk_at "ts len"); (case c => omega); (case d => omega))
  | (with_reducible refine r_fmt2 ?_)
  | (with_reducible refine r_fmt ?_)
  | ((with_reducible refine' r_fstep ?l ?q); (case l => walk_at "ts len"))
  | (with_reducible refine r_jstart ?_)
  | (with_reducible refine r_jcons ?_)
  | (with_reducible refine r_jnil ?_)
  | ((with_reducible refine' r_jstep ?l ?q); (case l => walk_at "ts len"))
  | ((with_reducible refine' r_ex2 ?c ?d ?q); (case c => omega); (case d => omega)))
def spTwo (K : PySem.W.Frag) : Sp := fun vs H Q _ => ∃ v : Int, vs = [.int v] ∧ -1000000 ≤ v ∧ v ≤ 1000000 ∧ Q (.str (S ((if v < 0 then [45] else []) ++ pad2 (v.natAbs : Int)))) H
theorem ok_two_figures (T : Txt K mg a_clamped a_shown a_stepped a_two_figures a_pen a_take a_pick a_number a_right a_law d_clamped d_shown d_stepped d_two_figures d_pen d_take d_pick d_number d_right d_law u_ROMAN_ONES) : FnOk P w K mg base CX0 1 a_two_figures d_two_figures P_two_figures (spTwo K) := by
  refine T.f_two_figures.ok sc_two_figures (fun vs H Q E h => ?_) (fun cdv A outer s H vs Q E hr h => ?_)
  · obtain ⟨v, rfl, _⟩ := h
    rfl
  · obtain ⟨v, rfl, h0, h1, q⟩ := h
    refine ⟨_, (pss_cons (ps_set (i := 1) sc_two_figures.nd rfl (.inl rfl) (pe_ifExp (pt_cmpR op_lt (pv 0) pe_int (nomark _)) (pe_strL [45]) (pe_strL [])))
      (pss_one (ps_ret (pe_joined (.cons (pe_fmt (pv 1)) (.cons (pe_fmt2 T.nd (pe_callB c_abs (by rfl) T.m_abs (by decide +kernel) (pa_cons (pv 0) pa_nil))) .nil)))))), ?_⟩
    have hp := pad2_le (m := (v.natAbs : Int)) (by omega) (by omega)
    walk_at "ts in"
    repeat' walk_at "ts"
    · rename_i h
      rw [if_pos h] at q
      exact q
    · rename_i h
      rw [if_neg h] at q
      exact q
theorem u_two {v : Int} {H : Hp} {Q : VK} {E : XK} (h0 : -1000000 ≤ v) (h1 : v ≤ 1000000) (q : Q (.str (S ((if v < 0 then [45] else []) ++ pad2 (v.natAbs : Int)))) H) : spTwo K [.int v] H Q E := ⟨v, rfl, h0, h1, q⟩
local macro_rules | `(tactic| walk_at "ts use") => `(tactic| ((with_reducible refine' u_two ?c ?d ?q); (case c => omega); (case d => omega)))
def spShown (K : PySem.W.Frag) : Sp := fun vs H Q _ => ∃ (v : Int) (f : List Nat), vs = [.int v, .str (S f)] ∧ -1000000 ≤ v ∧ v ≤ 1000000 ∧ f.length ≤ 1000 ∧ ∀ H', Ex H H' → Q (.str (S (shownN v f))) H'
theorem ok_shown (T : Txt K mg a_clamped a_shown a_stepped a_two_figures a_pen a_take a_pick a_number a_right a_law d_clamped d_shown d_stepped d_two_figures d_pen d_take d_pick d_number d_right d_law u_ROMAN_ONES) : FnOk P w K mg base CX0 2 a_shown d_shown P_shown (spShown K) := by
  have O_two_figures : FnOk P w K mg base CX0 1 a_two_figures d_two_figures P_two_figures (spTwo K) := ok_two_figures T
  refine T.f_shown.ok sc_shown (fun vs H Q E h => ?_) (fun cdv A outer s H vs Q E hr h => ?_)
  · obtain ⟨v, f, rfl, _⟩ := h
    rfl
  · obtain ⟨v, f, rfl, h0, h1, hf, q⟩ := h
    have hones := T.s_ROMAN_ONES
    refine ⟨_, (pss_cons (ps_if (pt_cmpR op_eq (pv 1) (pe_strL [48, 49]) (nomark _))
      (pss_one (ps_ret (pe_call O_two_figures (hr.mono (by decide)) (by rfl) T.g_two_figures T.k_two_figures T.b_two_figures .nil pass0 (pa_cons (pv 0) pa_nil))))
      pss_nil)
      (pss_cons (ps_if (PW.pt (pw_and (pt_cmpR op_eq (pv 1) (pe_strL [97]) (nomark _)) (pw_and1 (pt_chain op_le op_le pe_int (pv 0) pe_int))))
      (pss_one (ps_ret (pe_ix ix_str (pe_globE rfl T.v_LETTERS) (pe_op op_sub (pv 0) pe_int) (fun _ _ => rfl))))
      pss_nil)
      (pss_cons (ps_if (PW.pt (pw_and (pt_cmpR op_eq (pv 1) (pe_strL [105]) (nomark _)) (pw_and1 (pt_chain op_le op_le pe_int (pv 0) pe_int))))
      (pss_one (ps_ret (pe_op o_addS (pe_op o_mulS (pe_strL [120]) (pe_op op_fdiv (pv 0) pe_int)) (pe_ix ix_tup (pe_globE rfl T.v_ROMAN_ONES) (pe_op op_mod (pv 0) pe_int) (fun _ _ => rfl)))))
      pss_nil)
      (pss_one (ps_ret (pe_callTy c_strI (by rfl) T.m_str (by decide +kernel) (pa_cons (pv 0) pa_nil))))))), ?_⟩
    walk_at "ts in"
    repeat' walk_at "ts"
    all_goals first
      | (exact absurd ‹f = [97]› (fun h => two_ne h ‹f = [105]› (by decide)))
      | (exact absurd ‹f = [97]› (fun h => two_ne h ‹f = [48, 49]› (by decide)))
      | (exact absurd ‹f = [105]› (fun h => two_ne h ‹f = [48, 49]› (by decide)))
      | (rw [shownN_01 (by assumption)] at q; exact q _ (by walk_at "ts kp"))
      | (rw [shownN_a (by assumption) (by omega) (by omega)] at q; exact q _ (by walk_at "ts kp"))
      | (rw [shownN_i (by assumption) (by omega) (by omega)] at q; exact q _ (by walk_at "ts kp"))
      | (rw [shownN_o (by assumption) (fun h => by have h1 := h.1; have h2 := h.2; first | contradiction | omega) (fun h => by have h1 := h.1; have h2 := h.2; first | contradiction | omega)] at q; exact q _ (by walk_at "ts kp"))
end
theorem u_shown {v : Int} {f : List Nat} {H : Hp} {Q : VK} {E : XK} (h0 : -1000000 ≤ v) (h1 : v ≤ 1000000) (hf : f.length ≤ 1000) (q : ∀ H', Ex H H' → Q (.str (S (shownN v f))) H') : spShown K [.int v, .str (S f)] H Q E := ⟨v, f, rfl, h0, h1, hf, q⟩

def spClamped (K : PySem.W.Frag) : Sp := fun vs H Q _ => ∃ v lo hi : Int, vs = [.int v, .int lo, .int hi] ∧ Q (.int (max lo (min v hi))) H
theorem ok_clamped (T : Txt K mg a_clamped a_shown a_stepped a_two_figures a_pen a_take a_pick a_number a_right a_law d_clamped d_shown d_stepped d_two_figures d_pen d_take d_pick d_number d_right d_law u_ROMAN_ONES) : FnOk P w K mg base CX0 1 a_clamped d_clamped P_clamped (spClamped K) := by
  refine T.f_clamped.ok sc_clamped (fun vs H Q E h => ?_) (fun cdv A outer s H vs Q E hr h => ?_)
  · obtain ⟨v, lo, hi, rfl, _⟩ := h
    rfl
  · obtain ⟨v, lo, hi, rfl, q⟩ := h
    refine ⟨_, (pss_one (ps_ret (pe_callB (c_max2 rfl) (by rfl) T.m_max (by decide +kernel) (pa_cons (pv 1) (pa_cons (pe_callB (c_min2 rfl) (by rfl) T.m_min (by decide +kernel) (pa_cons (pv 0) (pa_cons (pv 2) pa_nil))) pa_nil))))), ?_⟩
    walk_at "ts in"
    repeat' walk_at "ts"
    exact q
theorem u_clamped {H : Hp} {v lo hi : Int} {Q : VK} {E : XK} (q : Q (.int (max lo (min v hi))) H) : spClamped K [.int v, .int lo, .int hi] H Q E := ⟨v, lo, hi, rfl, q⟩

/-! ### steps -/
section
local macro_rules | `(tactic| walk_at "ts use") => `(tactic| (with_reducible refine u_clamped ?_))
def spStepped (K : PySem.W.Frag) : Sp := fun vs H Q _ => ∃ (a : Addr) (v s : Int) (f : Str), vs = [.ref a] ∧ SqT K H a [.int v, .int s, .str f] ∧
  ∀ p H', Ex H H' → H' p = some (.tup [.int (max (-9999) (min (v + s) 9999)), .int s, .str f]) → Q (.ref p) H'
theorem ok_stepped (T : Txt K mg a_clamped a_shown a_stepped a_two_figures a_pen a_take a_pick a_number a_right a_law d_clamped d_shown d_stepped d_two_figures d_pen d_take d_pick d_number d_right d_law u_ROMAN_ONES) : FnOk P w K mg base CX0 2 a_stepped d_stepped P_stepped (spStepped K) := by
  have O_clamped : FnOk P w K mg base CX0 1 a_clamped d_clamped P_clamped (spClamped K) := ok_clamped T
  obtain ⟨ds1, D0, B_clamped1⟩ := T.f_clamped.binds0 (ps := P_clamped) 1 (by decide) rfl (fun D doc pm an cdv ct us ks h1 h2 => (match us, ks, h1, h2 with
    | [_], [_, _], _, _ => ⟨_, _, _, _, _, _, rfl, rfl, _, _, _, _, _, _, rfl, rfl, rfl⟩))
  have D_clamped1 : Vals [V.int (-9999), V.int 9999] ds1 := D0
  refine T.f_stepped.ok sc_stepped (fun vs H Q E h => ?_) (fun cdv A outer s H vs Q E hr h => ?_)
  · obtain ⟨a, v, s, f, rfl, _⟩ := h
    rfl
  · obtain ⟨a, v, st, f, rfl, ha, q⟩ := h
    refine ⟨_, (pss_cons (ps_asg (pv 0) (pg_tup (by rfl) (pgs_cons (pg_name (i := 1) sc_stepped.nd rfl (.inl rfl)) (pgs_cons (pg_name (i := 2) sc_stepped.nd rfl (.inl rfl)) (pgs_cons (pg_name (i := 3) sc_stepped.nd rfl (.inl rfl)) pgs_nil)))))
      (pss_one (ps_ret (pe_tup (pa_cons (pe_call O_clamped (hr.mono (by decide)) (by rfl) T.g_clamped T.k_clamped B_clamped1 D_clamped1 pass0 (pa_cons (pe_op op_add (pv 1) (pv 2)) pa_nil)) (pa_cons (pv 2) (pa_cons (pv 3) pa_nil))))))), ?_⟩
    walk_at "ts in"
    repeat' walk_at "ts"
    exact q _ _ (by assumption) (by assumption)
end
theorem u_stepped {H : Hp} {a : Addr} {v s : Int} {f : Str} {Q : VK} {E : XK} (h : SqT K H a [.int v, .int s, .str f])
    (q : ∀ p H', Ex H H' → H' p = some (.tup [.int (max (-9999) (min (v + s) 9999)), .int s, .str f]) → Q (.ref p) H') : spStepped K [.ref a] H Q E := ⟨a, v, s, f, rfl, h, q⟩

/-! ### whether it goes on -/
def spRight (K : PySem.W.Frag) : Sp := fun vs H Q _ => ∃ (p : Addr) (b : Int), vs = [.ref p] ∧ b ≤ 100000 ∧ Pen K H p b ∧ ∀ H', Pen K H' p (b + 20) → Q (.bl true) H'
section
local macro_rules | `(tactic| walk_at "ts use") => `(tactic| ((with_reducible refine' u_number ?h ?e ?q); (case h => walk_at "ts pen"); (case e => omega); intro _ _ _ _ _ _ _))
local macro_rules | `(tactic| walk_at "ts use") => `(tactic| (with_reducible refine u_clamped ?_))
theorem ok_right (T : Txt K mg a_clamped a_shown a_stepped a_two_figures a_pen a_take a_pick a_number a_right a_law d_clamped d_shown d_stepped d_two_figures d_pen d_take d_pick d_number d_right d_law u_ROMAN_ONES) : FnOk P w K mg base CX0 4 a_right d_right P_right (spRight K) := by
  have O_take : FnOk P w K mg base CX0 1 a_take d_take P_take (spTake K) := ok_take T
  have O_pick : FnOk P w K mg base CX0 2 a_pick d_pick P_pick (spPick K) := ok_pick T
  have O_number : FnOk P w K mg base CX0 3 a_number d_number P_number (spNum K) := ok_number T
  have O_clamped : FnOk P w K mg base CX0 1 a_clamped d_clamped P_clamped (spClamped K) := ok_clamped T
  have O_stepped : FnOk P w K mg base CX0 2 a_stepped d_stepped P_stepped (spStepped K) := ok_stepped T
  have O_shown : FnOk P w K mg base CX0 2 a_shown d_shown P_shown (spShown K) := ok_shown T
  obtain ⟨ds1, D0, B_clamped1⟩ := T.f_clamped.binds0 (ps := P_clamped) 1 (by decide) rfl (fun D doc pm an cdv ct us ks h1 h2 => (match us, ks, h1, h2 with
    | [_], [_, _], _, _ => ⟨_, _, _, _, _, _, rfl, rfl, _, _, _, _, _, _, rfl, rfl, rfl⟩))
  have D_clamped1 : Vals [V.int (-9999), V.int 9999] ds1 := D0
  refine T.f_right.ok sc_right (fun vs H Q E h => ?_) (fun cdv A outer s H vs Q E hr h => ?_)
  · obtain ⟨p, b, rfl, _⟩ := h
    rfl
  · obtain ⟨p, b, rfl, hb, hp, q⟩ := h
    have hu := hu_of hr
    have hod := hp.od
    refine ⟨_, (pss_cons (ps_set (i := 1) sc_right.nd rfl (.inl rfl) (pe_call O_number (hr.mono (by decide)) (by rfl) T.g_number T.k_number T.b_number .nil pass0 (pa_cons (pv 0) pa_nil)))
      (pss_cons (ps_set (i := 2) sc_right.nd rfl (.inl rfl) (pe_call O_pick (hr.mono (by decide)) (by rfl) T.g_pick T.k_pick T.b_pick .nil pass0 (pa_cons (pv 0) (pa_cons (pe_lst (pa_cons pe_int (pa_cons (pe_un un_neg pe_int) (pa_cons pe_int (pa_cons pe_int (pa_cons (pe_call O_number (hr.mono (by decide)) (by rfl) T.g_number T.k_number T.b_number .nil pass0 (pa_cons (pv 0) pa_nil)) pa_nil)))))) pa_nil))))
      (pss_cons (ps_set (i := 3) sc_right.nd rfl (.inl rfl) (pe_call O_pick (hr.mono (by decide)) (by rfl) T.g_pick T.k_pick T.b_pick .nil pass0 (pa_cons (pv 0) (pa_cons (pe_lst (pa_cons (pe_strL [49]) (pa_cons (pe_strL [48, 49]) (pa_cons (pe_strL [105]) pa_nil)))) pa_nil))))
      (pss_cons (ps_set (i := 4) sc_right.nd rfl (.inl rfl) (pe_tup (pa_cons (pv 1) (pa_cons (pv 2) (pa_cons (pv 3) pa_nil)))))
      (pss_cons (ps_for PassesOwn.never rfl (pi_range1 rfl T.m_range (pa_cons (pe_call O_take (hr.mono (by decide)) (by rfl) T.g_take T.k_take T.b_take .nil pass0 (pa_cons (pv 0) (pa_cons pe_int pa_nil))) pa_nil)) (pg_name (i := 5) sc_right.nd rfl (.inl rfl))
      (pss_cons (ps_set (i := 6) sc_right.nd rfl (.inl rfl) (pv 4))
      (pss_cons (ps_set (i := 4) sc_right.nd rfl (.inl rfl) (pe_call O_stepped (hr.mono (by decide)) (by rfl) T.g_stepped T.k_stepped T.b_stepped .nil pass0 (pa_cons (pv 6) pa_nil)))
      (pss_cons (ps_if (PW.pt (pw_or (pt_cmpR op_ne (pe_ix ix_tup (pv 4) pe_int (fun _ _ => rfl)) (pe_call O_clamped (hr.mono (by decide)) (by rfl) T.g_clamped T.k_clamped B_clamped1 D_clamped1 pass0 (pa_cons (pe_op op_add (pe_ix ix_tup (pv 6) pe_int (fun _ _ => rfl)) (pv 2)) pa_nil)) (nomark _)) (pw_or1 (pt_cmpR (op_neD hr.units) (pe_slice sl_tupA (pv 4) (po_some pe_int) po_none) (pe_tup (pa_cons (pv 2) (pa_cons (pv 3) pa_nil))) (nomark _)))))
      (pss_one (ps_ret pe_bl))
      pss_nil)
      (pss_cons (ps_if (pt_cmpR op_ne (pe_cmpR op_eq (pe_call O_shown (hr.mono (by decide)) (by rfl) T.g_shown T.k_shown T.b_shown .nil pass0 (pa_cons (pe_ix ix_tup (pv 4) pe_int (fun _ _ => rfl)) (pa_cons (pv 3) pa_nil))) (pe_call O_shown (hr.mono (by decide)) (by rfl) T.g_shown T.k_shown T.b_shown .nil pass0 (pa_cons (pe_ix ix_tup (pv 6) pe_int (fun _ _ => rfl)) (pa_cons (pv 3) pa_nil))) (nomark _)) (pe_cmpR op_eq (pe_ix ix_tup (pv 4) pe_int (fun _ _ => rfl)) (pe_ix ix_tup (pv 6) pe_int (fun _ _ => rfl)) (nomark _)) (nomark _))
      (pss_one (ps_ret pe_bl))
      pss_nil)
      (pss_cons (ps_if (PW.pt (pw_and (pt_cmpR op_le (pe_callB c_abs (by rfl) T.m_abs (by decide +kernel) (pa_cons (pe_op op_add (pe_ix ix_tup (pv 6) pe_int (fun _ _ => rfl)) (pv 2)) pa_nil)) pe_int (nomark _)) (pw_and1 (pt_cmpR op_ne (pe_ix ix_tup (pe_call O_stepped (hr.mono (by decide)) (by rfl) T.g_stepped T.k_stepped T.b_stepped .nil pass0 (pa_cons (pe_tup (pa_cons (pe_ix ix_tup (pv 4) pe_int (fun _ _ => rfl)) (pa_cons (pe_op op_sub pe_int (pv 2)) (pa_cons (pv 3) pa_nil)))) pa_nil)) pe_int (fun _ _ => rfl)) (pe_ix ix_tup (pv 6) pe_int (fun _ _ => rfl)) (nomark _)))))
      (pss_one (ps_ret pe_bl))
      pss_nil)
      (pss_one (ps_if (PW.pt (pw_or (pt_cmpR op_ne (pe_callTy c_intS (by rfl) T.m_int (by decide +kernel) (pa_cons (pe_call O_shown (hr.mono (by decide)) (by rfl) T.g_shown T.k_shown T.b_shown .nil pass0 (pa_cons (pe_ix ix_tup (pv 4) pe_int (fun _ _ => rfl)) (pa_cons (pe_strL [49]) pa_nil))) pa_nil)) (pe_ix ix_tup (pv 4) pe_int (fun _ _ => rfl)) (nomark _)) (pw_or1 (pt_cmpR op_ne (pe_callTy c_intS (by rfl) T.m_int (by decide +kernel) (pa_cons (pe_call O_shown (hr.mono (by decide)) (by rfl) T.g_shown T.k_shown T.b_shown .nil pass0 (pa_cons (pe_ix ix_tup (pv 4) pe_int (fun _ _ => rfl)) (pa_cons (pe_strL [48, 49]) pa_nil))) pa_nil)) (pe_ix ix_tup (pv 4) pe_int (fun _ _ => rfl)) (nomark _)))))
      (pss_one (ps_ret pe_bl))
      pss_nil))))))))
      (pss_one (ps_ret pe_bl))))))), ?_⟩
    walk_at "ts in"
    repeat' walk_at "ts"
    rename_i st H2 st0 st1 hp2 k2 od2 v3 H3 v30 v31 hp3 k3 od3 l4 H4 n4 e4 g4 sp H5 sp0 sp1 hp5 k5 od5 l6 H6 n6 e6 g6
    refine u_pick (Pen.ex e6 hp5) (show SqL K H6 l6 (forms3.map SV) from SqL.at g6) (by decide) (by omega) fun vv H7 hvv hp7 k7 od7 => ?_
    obtain ⟨f, hf, rfl⟩ := List.mem_map.mp hvv
    have hfl : f.length ≤ 2 ∧ ∀ c ∈ f, c < 1114112 := (by decide : ∀ f ∈ forms3, f.length ≤ 2 ∧ ∀ c ∈ f, c < 1114112) f hf
    clear hvv g4 g6 hp2 hp3 hp5 k2 k3 k5 od2 od3 od5 hp hod
    repeat' walk_at "ts"
    rename_i t8 H8 n8 e8 g8 r9 H9 r90 r91 hp9 k9 od9
    have ht9 : SqT K H9 t8 [.int st, .int sp, .str (S f)] := Kp.Td k9 od9 (SqT.at g8)
    refine f_range (fun i σ H' => ∃ (v : Int) (t : Addr) (v5 v6 : Option V), σ = [some (.ref p), some (.int st), some (.int sp), some (.str (S f)), some (.ref t), v5, v6] ∧ -9999 ≤ v ∧ v ≤ 9999 ∧ SqT K H' t [.int v, .int sp, .str (S f)] ∧ Pen K H' p (b + 13)) ⟨st, t8, _, _, rfl, st0, st1, ht9, Pen.le hp9 (by omega)⟩ ?_ ?_
    · rintro i σ H10 hi ⟨v, t, v5, v6, rfl, v0, v1, ht, hp10⟩
      clear g8 ht9 hp9 k9 od9 hp7 k7 od7
      repeat' walk_at "ts"
      refine u_stepped ht fun t2 H11 e11 ht2 => ?_
      have hp11 := Pen.ex e11 hp10
      have ht11 := Ex.T e11 ht
      have ht2 : SqT K H11 t2 [.int (max (-9999) (min (v + sp) 9999)), .int sp, .str (S f)] := SqT.at ht2
      clear hp10 ht
      obtain ⟨nw, hnw⟩ : ∃ x, x = max (-9999) (min (v + sp) 9999) := ⟨_, rfl⟩
      have nw0 : -9999 ≤ nw := by omega
      have nw1 : nw ≤ 9999 := by omega
      rw [← hnw] at ht2
      repeat' walk_at "ts"
      · exact absurd hnw ‹_›
      · refine r_slA ht2 fun t3 H12 e12 ht3 => ?_
        rw [show (some (1 : Int)) = some ((1 : Nat) : Int) from rfl, cutV_drop] at ht3
        repeat' walk_at "ts"
        rename_i t4 H13 n13 e13 ht4
        refine r_neSelf (d := .tuple [.int sp, .str (S f)]) (.tup (Ex.T e13 ht3) (.cons (.int _) (.cons (.str _) .nil))) (.tup (SqT.at ht4) (.cons (.int _) (.cons (.str _) .nil))) (lay_tup (n := 1) (lays_cons lay_int (lays_cons (lay_str hfl.2) lays_nil))) (by decide) ?_
        have ht13 := Ex.T (e12.trans e13) ht2
        have ha13 := Ex.T (e12.trans e13) ht11
        have hp13 := Pen.ex (e12.trans e13) hp11
        clear ht3 ht4 ht2 ht11 hp11
        repeat' walk_at "ts"
        refine u_shown (by omega) (by omega) (by omega) fun H14 e14 => ?_
        have ht14 := Ex.T e14 ht13
        have ha14 := Ex.T e14 ha13
        repeat' walk_at "ts"
        refine u_shown (by omega) (by omega) (by omega) fun H15 e15 => ?_
        have ht15 := Ex.T e15 ht14
        have ha15 := Ex.T e15 ha14
        have hp15 := Pen.ex (e14.trans e15) hp13
        clear ht13 ht14 ha13 ha14 hp13
        repeat' walk_at "ts"
        · exact absurd (decide_eq_decide.mpr (sh_inj hf nw0 nw1 v0 v1)) ‹¬ decide _ = decide _›
        · rename_i hab t5 H16 n16 e16 ht5
          refine u_stepped (SqT.at ht5) fun t6 H17 e17 ht6 => ?_
          rw [show max (-9999) (min (nw + (0 - sp)) 9999) = v by omega] at ht6
          have e1517 := e16.trans e17
          have ht17 := Ex.T e1517 ht15
          have ha17 := Ex.T e1517 ha15
          have hp17 := Pen.ex e1517 hp15
          have ht6 := SqT.at (K := K) ht6
          clear ht5 ht15 ha15 hp15
          repeat' walk_at "ts"
          all_goals try exact absurd rfl ‹¬ v = v›
          refine u_shown (f := [49]) (by omega) (by omega) (by decide) fun Ha ea => ?_
          repeat' walk_at "ts"
          refine r_numT (rd_1 nw0 nw1) (shown_640 nw0 nw1) ?_
          repeat' walk_at "ts"
          all_goals try exact absurd rfl ‹¬ nw = nw›
          have hta := Ex.T ea ht17
          repeat' walk_at "ts"
          refine u_shown (f := [48, 49]) (by omega) (by omega) (by decide) fun Hb eb => ?_
          repeat' walk_at "ts"
          refine r_numT (rd_01 nw0 nw1) (shown_640 nw0 nw1) ?_
          have htb := Ex.T eb hta
          repeat' walk_at "ts"
          all_goals try exact absurd rfl ‹¬ nw = nw›
          exact ⟨nw, t2, _, _, rfl, nw0, nw1, htb, Pen.ex (ea.trans eb) hp17⟩
        · skip
          repeat' walk_at "ts"
          all_goals try exact absurd rfl ‹¬ v = v›
          refine u_shown (f := [49]) (by omega) (by omega) (by decide) fun Ha ea => ?_
          repeat' walk_at "ts"
          refine r_numT (rd_1 nw0 nw1) (shown_640 nw0 nw1) ?_
          repeat' walk_at "ts"
          all_goals try exact absurd rfl ‹¬ nw = nw›
          have hta := Ex.T ea ht15
          repeat' walk_at "ts"
          refine u_shown (f := [48, 49]) (by omega) (by omega) (by decide) fun Hb eb => ?_
          repeat' walk_at "ts"
          refine r_numT (rd_01 nw0 nw1) (shown_640 nw0 nw1) ?_
          have htb := Ex.T eb hta
          repeat' walk_at "ts"
          all_goals try exact absurd rfl ‹¬ nw = nw›
          exact ⟨nw, t2, _, _, rfl, nw0, nw1, htb, Pen.ex (ea.trans eb) hp15⟩
    · rintro σ H10 ⟨v, t, v5, v6, rfl, v0, v1, ht, hp10⟩
      repeat' walk_at "ts"
      exact q H10 (Pen.le hp10 (by omega))
end
/-! ### the law -/
def spLaw (K : PySem.W.Frag) : Sp := fun vs H Q _ => ∃ (a : Addr) (ns : List Int), vs = [.ref a] ∧ SqL K H a (ns.map V.int) ∧ ns.length ≤ 63 ∧ ∀ H', Q (.bl true) H'
abbrev letW : List Str := (List.range 26).map fun (j : Nat) => S (shownN (1 + (j : Int)) [97])
abbrev romW : List Str := (List.range 39).map fun (j : Nat) => S (shownN (1 + (j : Int)) [105])
abbrev letL : List (List Nat) := (List.range 26).map fun (j : Nat) => shownN (1 + (j : Int)) [97]
theorem letL_sg : ∀ t ∈ letL, ∀ c ∈ t, c < 1114112 := by decide +kernel
theorem letW_nd : letW.Nodup := by decide +kernel
theorem romW_nd : romW.Nodup := by decide +kernel
theorem letW_so : PyProof.Rows.sortedS letW = true := by decide +kernel
section
theorem ok_law (T : Txt K mg a_clamped a_shown a_stepped a_two_figures a_pen a_take a_pick a_number a_right a_law d_clamped d_shown d_stepped d_two_figures d_pen d_take d_pick d_number d_right d_law u_ROMAN_ONES) : FnG P w K mg base CX0 5 a_law d_law P_law (spLaw K) := by
  have O_pen : FnOk P w K mg base CX0 1 a_pen d_pen P_pen (spPen K) := ok_pen T
  have O_right : FnOk P w K mg base CX0 4 a_right d_right P_right (spRight K) := ok_right T
  have O_stepped : FnOk P w K mg base CX0 2 a_stepped d_stepped P_stepped (spStepped K) := ok_stepped T
  have O_shown : FnOk P w K mg base CX0 2 a_shown d_shown P_shown (spShown K) := ok_shown T
  refine okG T.f_law sc_law (fun vs H Q E h => ?_) (fun cdv A outer s H vs Q E hr hg h => ?_)
  · obtain ⟨a, ns, rfl, _⟩ := h
    rfl
  · obtain ⟨a, ns, rfl, ha, hl, q⟩ := h
    have hu := hu_of hr
    refine ⟨_, (pss_cons (ps_set (i := 1) sc_law.nd rfl (.inl rfl) (pe_call O_pen (hr.mono (by decide)) (by rfl) T.g_pen T.k_pen T.b_pen .nil pass0 (pa_cons (pv 0) pa_nil)))
      (pss_cons (ps_for PassesOwn.never rfl (pi_range1 rfl T.m_range (pa_cons pe_int pa_nil)) (pg_name (i := 2) sc_law.nd rfl (.inl rfl))
      (pss_one (ps_if (pt_not (pt_val (pe_call O_right (hr.mono (by decide)) (by rfl) T.g_right T.k_right T.b_right .nil pass0 (pa_cons (pv 1) pa_nil))))
      (pss_one (ps_ret pe_bl))
      pss_nil)))
      (pss_cons (ps_setLc (i := 3) (own := [("_law_k", 2)]) (g := gName 2) (tt := tYes) rfl sc_law.nd rfl rfl (sw_true rfl rfl rfl (by decide +kernel)) (pi_range2 rfl T.m_range (pa_cons pe_int (pa_cons pe_int pa_nil))) (blkOk_by (own := [("_law_k", 2)]) (N := N_law) (sc := defScope s_law) (by decide +kernel)) (fun _ _ _ _ _ => pg_name (i := 2) sc_law.nd rfl (Or.inl rfl)) (fun _ _ _ _ _ => pts_nil) (fun _ _ _ _ _ => (pe_call O_shown (hr.mono (by decide)) (by rfl) T.g_shown T.k_shown T.b_shown .nil pass0 (pa_cons (pv 2) (pa_cons (pe_strL [97]) pa_nil)))))
      (pss_cons (ps_if (PW.pt (pw_or (pt_cmpR (op_neD hr.units) (pv 3) (pe_callB (cr_sortT rfl) (by rfl) T.m_sorted (by decide +kernel) (pa_cons (pe_callTy (cr_setL rfl) (by rfl) T.m_set (by decide +kernel) (pa_cons (pv 3) pa_nil)) pa_nil)) (nomark _)) (pw_or1 (pt_cmpR (op_neD hr.units) (pe_call O_stepped (hr.mono (by decide)) (by rfl) T.g_stepped T.k_stepped T.b_stepped .nil pass0 (pa_cons (pe_tup (pa_cons pe_int (pa_cons pe_int (pa_cons (pe_strL [105]) pa_nil)))) pa_nil)) (pe_tup (pa_cons pe_int (pa_cons pe_int (pa_cons (pe_strL [105]) pa_nil)))) (nomark _)))))
      (pss_one (ps_ret pe_bl))
      pss_nil)
      (pss_one (ps_ret (pe_and (pe_cmpR op_eq (pe_callB cr_lenT (by rfl) T.m_len PySem.boot_len (pa_cons (pe_callTy (cr_setL rfl) (by rfl) T.m_set (by decide +kernel) (pa_cons (pe_lc (own := [("_law_k", 2)]) (g := gName 2) (tt := tYes) rfl sc_law.nd (pi_range2 rfl T.m_range (pa_cons pe_int (pa_cons pe_int pa_nil))) (blkOk_by (own := [("_law_k", 2)]) (N := N_law) (sc := defScope s_law) (by decide +kernel)) (fun _ _ _ _ _ => pg_name (i := 2) sc_law.nd rfl (Or.inl rfl)) (fun _ _ _ _ _ => pts_nil) (fun _ _ _ _ _ => (pe_call O_shown (hr.mono (by decide)) (by rfl) T.g_shown T.k_shown T.b_shown .nil pass0 (pa_cons (pv 2) (pa_cons (pe_strL [105]) pa_nil))))) pa_nil)) pa_nil)) pe_int (nomark _)) (pe_one (pe_cmpR op_eq (pe_ix ix_tup (pe_call O_stepped (hr.mono (by decide)) (by rfl) T.g_stepped T.k_stepped T.b_stepped .nil pass0 (pa_cons (pe_tup (pa_cons (pe_un un_neg pe_int) (pa_cons (pe_un un_neg pe_int) (pa_cons (pe_strL [49]) pa_nil)))) pa_nil)) pe_int (fun _ _ => rfl)) (pe_un un_neg pe_int) (nomark _)))))))))), ?_⟩
    walk_at "ts in"
    repeat' walk_at "ts"
    refine ⟨a, ns, rfl, ha, fun p H1 hp => ?_⟩
    repeat' walk_at "ts"
    refine f_range (fun i σ H' => ∃ v2 v3 : Option V, σ = [some (.ref a), some (.ref p), v2, v3] ∧ Pen K H' p (20 * i)) ⟨_, _, rfl, Pen.le hp (by omega)⟩ ?_ ?_
    · rintro i σ H2 hi ⟨v2, v3, rfl, hp2⟩
      have hi : i < 20 := hi
      repeat' walk_at "ts"
      refine ⟨p, _, rfl, by omega, hp2, fun H3 hp3 => ?_⟩
      repeat' walk_at "ts"
      exact ⟨_, _, rfl, Pen.le hp3 (by omega)⟩
    · rintro σ H2 ⟨v2, v3, rfl, hp2⟩
      repeat' walk_at "ts"
      refine lc_map (fun j => .str (S (shownN (1 + (j : Int)) [97]))) (by decide) (fun _ => rfl) ?_ ?_
      · intro j H3 hj e3 Y hY
        have hj : j < 26 := hj
        simp only [L2.wipe, List.map_cons, List.map_nil, List.set_cons_zero, List.set_cons_succ]
        repeat' walk_at "ts"
        exact u_shown (by omega) (by omega) (by decide) fun H4 e4 => hY _ e4
      · intro D H3 nD e3 hD
        have hD : H3 D = some (.lst (letW.map V.str)) := by rw [hD, List.map_map]; rfl
        have hW : letW.map V.str = letL.map SV := by rw [List.map_map, List.map_map]; rfl
        repeat' walk_at "ts"
        refine ⟨D, letW, rfl, SqL.at hD, letW_nd, by decide, fun p5 n5 => ?_⟩
        have e5 : Ex H3 (upd H3 p5 (SetT P w p5 letW.reverse)) := Evl.Ex.new n5
        have g5 : (upd H3 p5 (SetT P w p5 letW.reverse)) p5 = some (SetT P w p5 letW.reverse) := upd_same
        generalize upd H3 p5 (SetT P w p5 letW.reverse) = H5 at *
        repeat' walk_at "ts"
        refine ⟨p5, _, rfl, g5, (List.reverse_perm _).nodup_iff.mpr letW_nd, by rw [List.length_reverse]; decide, fun ys p6 hpm hso n6 => ?_⟩
        obtain rfl : ys = letW := sorted_one (hpm.trans (List.reverse_perm _)) hso letW_so
        have e6 : Ex H5 (upd H5 p6 (.lst (letW.map V.str))) := Evl.Ex.new n6
        have g6 : (upd H5 p6 (.lst (letW.map V.str))) p6 = some (.lst (letW.map V.str)) := upd_same
        generalize upd H5 p6 (.lst (letW.map V.str)) = H6 at *
        have hD6 := e6 _ _ (e5 _ _ hD)
        rw [hW] at hD6 g6
        repeat' walk_at "ts"
        refine r_neW (ws := letL) (us := letL) (SqL.at hD6) (SqL.at g6) letL_sg letL_sg ?_
        rw [show (!decide (letL = letL)) = false by simp]
        repeat' walk_at "ts"
        rename_i t7 H7 n7 e7 g7
        refine u_stepped (f := S [105]) (SqT.at g7) fun t8 H8 e8 g8 => ?_
        rw [show max (-9999) (min ((9999 : Int) + 1) 9999) = 9999 by decide] at g8
        repeat' walk_at "ts"
        rename_i t9 H9 n9 e9 g9
        refine r_neSelf (d := .tuple [.int 9999, .int 1, .str (S [105])]) (.tup (SqT.at (e9 _ _ g8)) (.cons (.int _) (.cons (.int _) (.cons (.str _) .nil)))) (.tup (SqT.at g9) (.cons (.int _) (.cons (.int _) (.cons (.str _) .nil)))) (lay_tup (n := 1) (lays_cons lay_int (lays_cons lay_int (lays_cons (lay_str (by decide)) lays_nil)))) (by decide) ?_
        repeat' walk_at "ts"
        refine lc_map (fun j => .str (S (shownN (1 + (j : Int)) [105]))) (by decide) (fun _ => rfl) ?_ ?_
        · intro j Ha hj ea Y hY
          have hj : j < 39 := hj
          simp only [L2.wipe, List.map_cons, List.map_nil, List.set_cons_zero, List.set_cons_succ]
          repeat' walk_at "ts"
          exact u_shown (by omega) (by omega) (by decide) fun H4 e4 => hY _ e4
        · intro D2 Ha nD2 ea hD2
          have hD2 : Ha D2 = some (.lst (romW.map V.str)) := by rw [hD2, List.map_map]; rfl
          repeat' walk_at "ts"
          refine ⟨D2, romW, rfl, SqL.at hD2, romW_nd, by decide, fun pb nb => ?_⟩
          have gb : (upd Ha pb (SetT P w pb romW.reverse)) pb = some (SetT P w pb romW.reverse) := upd_same
          generalize upd Ha pb (SetT P w pb romW.reverse) = Hb at *
          repeat' walk_at "ts"
          refine ⟨pb, _, rfl, gb, by rw [List.length_reverse]; decide, ?_⟩
          rw [show ((romW.reverse.length : Nat) : Int) = 39 by rw [List.length_reverse]; decide]
          repeat' walk_at "ts"
          · rename_i tc Hc nc ec gc
            refine u_stepped (f := S [49]) (SqT.at gc) fun td Hd ed gd => ?_
            rw [show max (-9999) (min ((-9999 : Int) + -1) 9999) = -9999 by decide] at gd
            repeat' walk_at "ts"
            exact q _
          · exact absurd rfl ‹¬ (39 : Int) = 39›
end
end
theorem all_mk {l : PySem.W.OpenLaw} {w : World} {K : PySem.W.Frag} {h : Heap} {mg : Str → Option Value} {fa : Addr} (X : K.In h) (G : h.Ns mainGlobals mg) (hfa : mg "law" = some (.ref fa))
    {f_clamped : Addr} {oc_clamped dc_clamped pm_clamped cd_clamped ct_clamped : Value} {od_clamped an_clamped : Option Addr} {sl_clamped : Array (Option Value)}
    {D_clamped : Addr}
    {t_clamped_most : Tok}
    {t_clamped_least : Tok}
    {f_shown : Addr} {oc_shown dc_shown pm_shown cd_shown ct_shown : Value} {od_shown an_shown : Option Addr} {sl_shown : Array (Option Value)}
    {kV_shown : Value}
    {f_stepped : Addr} {oc_stepped dc_stepped pm_stepped cd_stepped ct_stepped : Value} {od_stepped an_stepped : Option Addr} {sl_stepped : Array (Option Value)}
    {kV_stepped : Value}
    {f_two_figures : Addr} {oc_two_figures dc_two_figures pm_two_figures cd_two_figures ct_two_figures : Value} {od_two_figures an_two_figures : Option Addr} {sl_two_figures : Array (Option Value)}
    {kV_two_figures : Value}
    {f_pen : Addr} {oc_pen dc_pen pm_pen cd_pen ct_pen : Value} {od_pen an_pen : Option Addr} {sl_pen : Array (Option Value)}
    {kV_pen : Value}
    {f_take : Addr} {oc_take dc_take pm_take cd_take ct_take : Value} {od_take an_take : Option Addr} {sl_take : Array (Option Value)}
    {kV_take : Value}
    {f_pick : Addr} {oc_pick dc_pick pm_pick cd_pick ct_pick : Value} {od_pick an_pick : Option Addr} {sl_pick : Array (Option Value)}
    {kV_pick : Value}
    {f_number : Addr} {oc_number dc_number pm_number cd_number ct_number : Value} {od_number an_number : Option Addr} {sl_number : Array (Option Value)}
    {kV_number : Value}
    {f_right : Addr} {oc_right dc_right pm_right cd_right ct_right : Value} {od_right an_right : Option Addr} {sl_right : Array (Option Value)}
    {kV_right : Value}
    {f_law : Addr} {oc_law dc_law pm_law cd_law ct_law : Value} {od_law an_law : Option Addr} {sl_law : Array (Option Value)}
    {kV_law : Value}
    {t_LETTERS : Tok}
    {u_ROMAN_ONES : Addr} {od_ROMAN_ONES : Option Addr} {n_ROMAN_ONES : Nat} {sl_ROMAN_ONES : Array (Option Value)} {t_ROMAN_ONES_0 : Tok} {t_ROMAN_ONES_1 : Tok} {t_ROMAN_ONES_2 : Tok} {t_ROMAN_ONES_3 : Tok} {t_ROMAN_ONES_4 : Tok} {t_ROMAN_ONES_5 : Tok} {t_ROMAN_ONES_6 : Tok} {t_ROMAN_ONES_7 : Tok} {t_ROMAN_ONES_8 : Tok} {t_ROMAN_ONES_9 : Tok}
    (a_clamped : PySem.W.nsIn K mainGlobals "clamped" = some (some (.ref f_clamped)))
    (l_clamped : K.lookup f_clamped = some ⟨oc_clamped, od_clamped, .func (PySem.W.fnOf "clamped" "clamped" (defArgs s_clamped) (defBody s_clamped) (defScope s_clamped) .none (.ref D_clamped) dc_clamped pm_clamped an_clamped cd_clamped ct_clamped), sl_clamped⟩)
    (c_clamped : PySem.W.codeIn K cd_clamped "clamped" = true)
    (k_clamped : PySem.W.keepIn K (.ref f_clamped) = true)
    (q_clamped_most : PySem.W.nsIn K D_clamped "most" = some (some (.int 9999 t_clamped_most)))
    (q_clamped_least : PySem.W.nsIn K D_clamped "least" = some (some (.int (-9999) t_clamped_least)))
    (a_shown : PySem.W.nsIn K mainGlobals "shown" = some (some (.ref f_shown)))
    (l_shown : K.lookup f_shown = some ⟨oc_shown, od_shown, .func (PySem.W.fnOf "shown" "shown" (defArgs s_shown) (defBody s_shown) (defScope s_shown) .none kV_shown dc_shown pm_shown an_shown cd_shown ct_shown), sl_shown⟩)
    (c_shown : PySem.W.codeIn K cd_shown "shown" = true)
    (k_shown : PySem.W.keepIn K (.ref f_shown) = true)
    (a_stepped : PySem.W.nsIn K mainGlobals "stepped" = some (some (.ref f_stepped)))
    (l_stepped : K.lookup f_stepped = some ⟨oc_stepped, od_stepped, .func (PySem.W.fnOf "stepped" "stepped" (defArgs s_stepped) (defBody s_stepped) (defScope s_stepped) .none kV_stepped dc_stepped pm_stepped an_stepped cd_stepped ct_stepped), sl_stepped⟩)
    (c_stepped : PySem.W.codeIn K cd_stepped "stepped" = true)
    (k_stepped : PySem.W.keepIn K (.ref f_stepped) = true)
    (a_two_figures : PySem.W.nsIn K mainGlobals "_two_figures" = some (some (.ref f_two_figures)))
    (l_two_figures : K.lookup f_two_figures = some ⟨oc_two_figures, od_two_figures, .func (PySem.W.fnOf "_two_figures" "_two_figures" (defArgs s_two_figures) (defBody s_two_figures) (defScope s_two_figures) .none kV_two_figures dc_two_figures pm_two_figures an_two_figures cd_two_figures ct_two_figures), sl_two_figures⟩)
    (c_two_figures : PySem.W.codeIn K cd_two_figures "_two_figures" = true)
    (k_two_figures : PySem.W.keepIn K (.ref f_two_figures) = true)
    (a_pen : PySem.W.nsIn K mainGlobals "_law_pen" = some (some (.ref f_pen)))
    (l_pen : K.lookup f_pen = some ⟨oc_pen, od_pen, .func (PySem.W.fnOf "_law_pen" "_law_pen" (defArgs s_pen) (defBody s_pen) (defScope s_pen) .none kV_pen dc_pen pm_pen an_pen cd_pen ct_pen), sl_pen⟩)
    (c_pen : PySem.W.codeIn K cd_pen "_law_pen" = true)
    (k_pen : PySem.W.keepIn K (.ref f_pen) = true)
    (a_take : PySem.W.nsIn K mainGlobals "_law_take" = some (some (.ref f_take)))
    (l_take : K.lookup f_take = some ⟨oc_take, od_take, .func (PySem.W.fnOf "_law_take" "_law_take" (defArgs s_take) (defBody s_take) (defScope s_take) .none kV_take dc_take pm_take an_take cd_take ct_take), sl_take⟩)
    (c_take : PySem.W.codeIn K cd_take "_law_take" = true)
    (k_take : PySem.W.keepIn K (.ref f_take) = true)
    (a_pick : PySem.W.nsIn K mainGlobals "_law_pick" = some (some (.ref f_pick)))
    (l_pick : K.lookup f_pick = some ⟨oc_pick, od_pick, .func (PySem.W.fnOf "_law_pick" "_law_pick" (defArgs s_pick) (defBody s_pick) (defScope s_pick) .none kV_pick dc_pick pm_pick an_pick cd_pick ct_pick), sl_pick⟩)
    (c_pick : PySem.W.codeIn K cd_pick "_law_pick" = true)
    (k_pick : PySem.W.keepIn K (.ref f_pick) = true)
    (a_number : PySem.W.nsIn K mainGlobals "_law_number" = some (some (.ref f_number)))
    (l_number : K.lookup f_number = some ⟨oc_number, od_number, .func (PySem.W.fnOf "_law_number" "_law_number" (defArgs s_number) (defBody s_number) (defScope s_number) .none kV_number dc_number pm_number an_number cd_number ct_number), sl_number⟩)
    (c_number : PySem.W.codeIn K cd_number "_law_number" = true)
    (k_number : PySem.W.keepIn K (.ref f_number) = true)
    (a_right : PySem.W.nsIn K mainGlobals "_law_right" = some (some (.ref f_right)))
    (l_right : K.lookup f_right = some ⟨oc_right, od_right, .func (PySem.W.fnOf "_law_right" "_law_right" (defArgs s_right) (defBody s_right) (defScope s_right) .none kV_right dc_right pm_right an_right cd_right ct_right), sl_right⟩)
    (c_right : PySem.W.codeIn K cd_right "_law_right" = true)
    (k_right : PySem.W.keepIn K (.ref f_right) = true)
    (a_law : PySem.W.nsIn K mainGlobals "law" = some (some (.ref f_law)))
    (l_law : K.lookup f_law = some ⟨oc_law, od_law, .func (PySem.W.fnOf "law" "law" (defArgs s_law) (defBody s_law) (defScope s_law) .none kV_law dc_law pm_law an_law cd_law ct_law), sl_law⟩)
    (c_law : PySem.W.codeIn K cd_law "law" = true)
    (k_law : PySem.W.keepIn K (.ref f_law) = true)
    (z_max : PySem.W.nsIn K mainGlobals "max" = some none)
    (z_min : PySem.W.nsIn K mainGlobals "min" = some none)
    (z_str : PySem.W.nsIn K mainGlobals "str" = some none)
    (z_abs : PySem.W.nsIn K mainGlobals "abs" = some none)
    (z_len : PySem.W.nsIn K mainGlobals "len" = some none)
    (z_range : PySem.W.nsIn K mainGlobals "range" = some none)
    (z_int : PySem.W.nsIn K mainGlobals "int" = some none)
    (z_sorted : PySem.W.nsIn K mainGlobals "sorted" = some none)
    (z_set : PySem.W.nsIn K mainGlobals "set" = some none)
    (z_nd : PySem.W.nsIn K cStatics "sys.int_max_str_digits" = some none)
    (v_LETTERS : PySem.W.nsIn K mainGlobals "LETTERS" = some (some (.str "abcdefghijklmnopqrstuvwxyz" t_LETTERS)))
    (v_ROMAN_ONES : PySem.W.nsIn K mainGlobals "ROMAN_ONES" = some (some (.ref u_ROMAN_ONES)))
    (o_ROMAN_ONES : K.lookup u_ROMAN_ONES = some ⟨.type "tuple", od_ROMAN_ONES, .seq #[.str "" t_ROMAN_ONES_0, .str "i" t_ROMAN_ONES_1, .str "ii" t_ROMAN_ONES_2, .str "iii" t_ROMAN_ONES_3, .str "iv" t_ROMAN_ONES_4, .str "v" t_ROMAN_ONES_5, .str "vi" t_ROMAN_ONES_6, .str "vii" t_ROMAN_ONES_7, .str "viii" t_ROMAN_ONES_8, .str "ix" t_ROMAN_ONES_9] n_ROMAN_ONES, sl_ROMAN_ONES⟩) :
    ∃ fd : FuncData, (∀ (s : Shared) (v : Value), BindsTo s fd ⟨[v], []⟩ [("_law_script", v)]) ∧ ∀ base : Heap, K.In base → base.Ns mainGlobals mg → FnG l.prog w K mg base CX0 5 fa fd ["_law_script"] (spLaw K) := by
  have e := hfa.symm.trans (PySem.W.mg_of X G a_law)
  cases e
  have T : Txt K mg f_clamped f_shown f_stepped f_two_figures f_pen f_take f_pick f_number f_right fa _ _ _ _ _ _ _ _ _ _ u_ROMAN_ONES := {
    f_clamped := ⟨⟨_, _, _, _, _, _, _, _, _, _, rfl, l_clamped, c_clamped, .inl ⟨rfl, rfl⟩, .inr ⟨_, rfl, List.forall_mem_cons.mpr ⟨⟨_, q_clamped_least, ⟨_, rfl⟩⟩, List.forall_mem_cons.mpr ⟨⟨_, q_clamped_most, ⟨_, rfl⟩⟩, List.forall_mem_nil _⟩⟩⟩⟩, k_clamped⟩
    g_clamped := PySem.W.mg_of X G a_clamped
    f_shown := fun_mk (st := s_shown) l_shown c_shown k_shown
    g_shown := PySem.W.mg_of X G a_shown
    f_stepped := fun_mk (st := s_stepped) l_stepped c_stepped k_stepped
    g_stepped := PySem.W.mg_of X G a_stepped
    f_two_figures := fun_mk (st := s_two_figures) l_two_figures c_two_figures k_two_figures
    g_two_figures := PySem.W.mg_of X G a_two_figures
    f_pen := fun_mk (st := s_pen) l_pen c_pen k_pen
    g_pen := PySem.W.mg_of X G a_pen
    f_take := fun_mk (st := s_take) l_take c_take k_take
    g_take := PySem.W.mg_of X G a_take
    f_pick := fun_mk (st := s_pick) l_pick c_pick k_pick
    g_pick := PySem.W.mg_of X G a_pick
    f_number := fun_mk (st := s_number) l_number c_number k_number
    g_number := PySem.W.mg_of X G a_number
    f_right := fun_mk (st := s_right) l_right c_right k_right
    g_right := PySem.W.mg_of X G a_right
    f_law := fun_mk (st := s_law) l_law c_law k_law
    m_max := PySem.W.mg_none_of X G z_max
    m_min := PySem.W.mg_none_of X G z_min
    m_str := PySem.W.mg_none_of X G z_str
    m_abs := PySem.W.mg_none_of X G z_abs
    m_len := PySem.W.mg_none_of X G z_len
    m_range := PySem.W.mg_none_of X G z_range
    m_int := PySem.W.mg_none_of X G z_int
    m_sorted := PySem.W.mg_none_of X G z_sorted
    m_set := PySem.W.mg_none_of X G z_set
    nd := z_nd
    v_LETTERS := ⟨_, PySem.W.mg_of X G v_LETTERS, ⟨_, rfl⟩⟩
    v_ROMAN_ONES := ⟨_, PySem.W.mg_of X G v_ROMAN_ONES, rfl⟩
    s_ROMAN_ONES := fun _ => .inr ⟨_, _, _, o_ROMAN_ONES, rfl, rfl, (show 10 ≤ sizeLine by decide), (.cons ⟨_, rfl⟩ (.cons ⟨_, rfl⟩ (.cons ⟨_, rfl⟩ (.cons ⟨_, rfl⟩ (.cons ⟨_, rfl⟩ (.cons ⟨_, rfl⟩ (.cons ⟨_, rfl⟩ (.cons ⟨_, rfl⟩ (.cons ⟨_, rfl⟩ (.cons ⟨_, rfl⟩ .nil))))))))))⟩ }
  exact ⟨_, fun s v => .of_eq rfl, fun base _ _ => ok_law T⟩
end Ts
open PySem PySem.W PyProof.Rows
set_option maxHeartbeats 0 in
theorem PySem.Challenge.cw_trapsetter_k09_whole_registers_go_on_holds : PySem.Challenge.rw_trapsetter_k09_whole_registers_go_on.Holds := by
  w_on; o_law; k_head; (case hw => w_witness2)
  k_fill
  refine Ts.walkG (l := PySem.Challenge.rw_trapsetter_k09_whole_registers_go_on) (n := 63) (k := 5) (x := "_law_script") (sp := Ts.spLaw) rfl (by decide) rfl ⟨rfl, by decide, by decide⟩ (fun w h Y => PySem.W.kIn_of Y) ?F (fun K H a ns hl _ hS => ⟨a, ns, rfl, hS, hl, fun _ => rfl⟩)
  case F =>
    intro w mg fa h KX G hmg
    refine' Ts.all_mk KX G hmg ?a_clamped ?l_clamped ?c_clamped ?k_clamped ?q_clamped_most ?q_clamped_least ?a_shown ?l_shown ?c_shown ?k_shown ?a_stepped ?l_stepped ?c_stepped ?k_stepped ?a_two_figures ?l_two_figures ?c_two_figures ?k_two_figures ?a_pen ?l_pen ?c_pen ?k_pen ?a_take ?l_take ?c_take ?k_take ?a_pick ?l_pick ?c_pick ?k_pick ?a_number ?l_number ?c_number ?k_number ?a_right ?l_right ?c_right ?k_right ?a_law ?l_law ?c_law ?k_law ?z_max ?z_min ?z_str ?z_abs ?z_len ?z_range ?z_int ?z_sorted ?z_set ?z_nd ?v_LETTERS ?v_ROMAN_ONES ?o_ROMAN_ONES
    (case a_clamped => k_is); (case l_clamped => k_is); (case c_clamped => k_is); (case k_clamped => k_is); (case q_clamped_most => k_is); (case q_clamped_least => k_is); (case a_shown => k_is); (case l_shown => k_is); (case c_shown => k_is); (case k_shown => k_is); (case a_stepped => k_is); (case l_stepped => k_is); (case c_stepped => k_is); (case k_stepped => k_is); (case a_two_figures => k_is); (case l_two_figures => k_is); (case c_two_figures => k_is); (case k_two_figures => k_is); (case a_pen => k_is); (case l_pen => k_is); (case c_pen => k_is); (case k_pen => k_is); (case a_take => k_is); (case l_take => k_is); (case c_take => k_is); (case k_take => k_is); (case a_pick => k_is); (case l_pick => k_is); (case c_pick => k_is); (case k_pick => k_is); (case a_number => k_is); (case l_number => k_is); (case c_number => k_is); (case k_number => k_is); (case a_right => k_is); (case l_right => k_is); (case c_right => k_is); (case k_right => k_is); (case a_law => k_is); (case l_law => k_is); (case c_law => k_is); (case k_law => k_is); (case z_max => k_is); (case z_min => k_is); (case z_str => k_is); (case z_abs => k_is); (case z_len => k_is); (case z_range => k_is); (case z_int => k_is); (case z_sorted => k_is); (case z_set => k_is); (case z_nd => k_is); (case v_LETTERS => k_is); (case v_ROMAN_ONES => k_is); (case o_ROMAN_ONES => k_is)
