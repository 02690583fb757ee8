import PyProof.Rows.All
import Wide.All
import OpenK.AllK
import Wide.FinOn
import HandS.ForMost
import HandS.Dict
import HandS.ExcInit
import HandS.IsInst
import KE.KExcIs
import HandS.Wide
import HandS.Conv
import PySem.Challenge.RW_lotkeepers_k34_whole_pieces_made_anew
import HandS.Lambda
import HandS.ExcValue
import HandS.Walk
import HandS.EndTab
import HandS.HeadHook1
import HandS.HeadHook2
import KE.KStateDown
import HandS.Head0
import HandS.Head1
import HandS.Head2
import HandS.HeadEnd
import HandS.HeadHook4
import KE.KNestM
import HandS.Strs
import HandS.OwnEq
import PyProof.InstNe
import HandS.Deep
import PyProof.AutoSeq1
import PyProof.Rows.RegFStrParts
import HandS.Zip
import HandS.Text
import HandS.Iter
import HandS.CallLocal
import HandS.DictComp
import HandS.StrMore
import KE.GoesZip
import KE.GoesMore
import HandS.WideBits
import HandS.WordsDict
import PyProof.EnumMake
import HandS.Sort
import KE.KDictPairs
import KE.LtSeq
import KE.KSortTup
import HandS.SortRule
import HandS.SortInts
import PyProof.EqAt
import HandS.Small
import HandS.Defaults
import HandS.WordsExc
import HandS.ListItems
import HandS.TupAny
import HandS.List
import HandS.Steps
import HandS.TupLe
set_option Elab.async false
set_option linter.all false
set_option maxRecDepth 100000
set_option maxHeartbeats 4000000
/-! Part A: defs that are called while no repr is under way; reading nested data; repr of it. -/
namespace Lk
open PySem PySem.Spec PyProof.Rows L2

/-! ### a def's promise, where the guards around are known to be none -/
abbrev NoG (A : Around) : Prop := A.guards = some []
structure FnG (P : Program) (w : World) (K : PySem.W.Frag) (mg : Str → Option Value) (base : Heap)
    (lev : Nat) (fA : Addr) (fD : FuncData) (pars : List Str) (sp : Sp) : Prop where
  many : ∀ vs H Q, sp vs H Q E0 → vs.length = pars.length
  goes : ∀ (A : Around) (around : List Env) (s : Shared) (H : Hp) (args : Args) (us : List Value) (vs : List V) (Q : VK),
    Room lev A → NoG A → Env0 P w K mg base A around s H → BindsTo s fD args (pars.zip us) → Vals vs us → sp vs H Q E0 →
    codeAny (model P w) A (.call (.ref fA) args) (CR CX0 around P w H s Q E0) s

theorem FnG.of {P : Program} {w : World} {K : PySem.W.Frag} {mg : Str → Option Value} {base : Heap} {lev : Nat} {fA : Addr}
    {pars N : List Str} {sp : Sp} {nm ql : Str} {st : Stmt} {fD : FuncData}
    (F : Fun K nm ql st fA fD) (S : FnScope N pars (defScope st))
    (many : ∀ vs H Q, sp vs H Q E0 → vs.length = pars.length)
    (body : ∀ (cdv : Value) (A : Around) (around : List Env) (s : Shared) (H : Hp) (vs : List V) (Q : VK),
      Room lev (A.deeper (envOfC ql (defScope st) s.heap.objs.size fA cdv)) → NoG A → sp vs H Q E0 →
      ∃ t, PSs (cxOf CX0 P w K mg base N ql (defScope st) fA cdv A around s H E0).nox (defBody st) t ∧
        t { nx := fun _ H' => Q .non H', rt := Q } (start N vs) H) :
    FnG P w K mg base (lev + 1) fA fD pars sp := by
  obtain ⟨oc, od, kV, doc, pm, an, cdv, ct, osl, rfl, look, code⟩ := F.ex
  constructor
  · exact many
  intro A around s H args us vs Q room noG e0 binds rel want
  have same := many _ _ _ want
  have inK : K.In s.heap := e0.mod.kin.keeps fun b o e => (e0.bs b o e).1
  have free := e0.mod.nolimit.keeps fun b o e => (e0.bs b o e).1
  have kinds : ∀ y ∈ pars.zip us, (defScope st).names.lookup y.1 = some .local ∨
      ((defScope st).names.lookup y.1 = some .cell ∧ ((cellsFrom (s.heap.objs.size + 1) (defScope st).names []).lookup y.1).isSome = true) := by
    rintro ⟨n, v⟩ hy
    rcases S.par n (List.of_mem_zip hy).1 with q | q
    · exact Or.inl q
    · exact Or.inr ⟨q, PySem.W.cellsFrom_some _ _ _ (Or.inl q)⟩
  refine codeAny_call_function room.depth (inK _ _ look) rfl S.co S.gen rfl (PySem.W.codeRec_of inK code) (binds _ _ _ _ ?_)
  refine wpAny_newFunctionEnv_cells S.kind kinds ?_
  intro env he s1 x
  subst he
  refine ⟨free.keeps x.toInCall.keep, codeAny_func ?_⟩
  obtain ⟨t, ht, hq⟩ := body cdv A around s H vs Q (room.deeper _) noG want
  have I := inv_start (CX := CX0) (E := E0) S room.hd e0 same rel x
  have run := ht.nox.run [] s1 (start N vs) H _ I hq
  refine wpAny_mono run ?_ fun e s' hs => hs
  intro fl s' hs
  cases fl with
  | ret u =>
    obtain ⟨v, σ', H', J, rv, q⟩ := hs
    exact ⟨v, H', J.os, J.bare, J.base, J.hok, rv, q⟩
  | next =>
    obtain ⟨σ', H', J, q⟩ := hs
    exact ⟨V.non, H', J.os, J.bare, J.base, J.hok, rfl, q⟩
  | brk => obtain ⟨_, _, _, q⟩ := hs; exact False.elim q
  | cont => obtain ⟨_, _, _, q⟩ := hs; exact False.elim q

/-- a plain promise serves, too -/
theorem FnG.ofOk {P : Program} {w : World} {K : PySem.W.Frag} {mg : Str → Option Value} {base : Heap} {lev : Nat} {fA : Addr}
    {fD : FuncData} {pars : List Str} {sp : Sp} (F : FnOk P w K mg base CX0 lev fA fD pars sp) : FnG P w K mg base lev fA fD pars sp :=
  ⟨fun vs H Q h => F.len vs H Q E0 h, fun A around s H args us vs Q r _ e b v h => F.run A around s H args us vs Q E0 r e b v h⟩

section
variable {X : Cx} {lev : Nat} {fA : Addr} {fD : FuncData} {pars : List Str} {sp : Sp} {x : Str} {e : Expr} {es : List Expr} {t : TA} {p pos : Pos}
theorem pe_gcall (F : FnG X.prog X.w X.K X.mg X.base lev fA fD pars sp) (room : Room lev X.A) (noG : NoG X.A) (hg : Gl X x)
    (hm : X.mg x = some (.ref fA)) (hk : PySem.W.keepIn X.K (.ref fA) = true) (hb : Binds X.K fD pars []) (ha : PA X (e :: es) t)
    (hdb : (x == ("__debug__" : Str)) = false := by decide) (hst : starEach (e :: es) X.env = (false, eval e X.env) :: starEach es X.env := by rfl)
    (hpl : (backTo pos (starEach es X.env)).any (·.1) = false := by rfl) : PE X (.Call (.Name x p) (e :: es) [] pos) (tCall sp [] E0 t) := by
  constructor
  intro pins s σ H Q I want
  refine wpAny_Call_Name_kw (ld_glob I hg hm ?_ hdb)
  refine PySem.W.callWith_K (h₀ := X.base) I.ok.mod.kin hk (thn (ha.run pos pins s σ H _ I want) ?_) hst hpl
  rintro us s1 ⟨vs, H1, I1, rel, q⟩
  refine ⟨I1.kIn, ?_⟩
  have rel2 : Vals (vs ++ []) us := by rw [List.append_nil]; exact rel
  have same : us.length = pars.length := by rw [← rel2.length]; exact F.many _ _ _ q
  have binds : BindsTo s1 fD ⟨us, []⟩ (pars.zip us) := by
    have z := hb s1 us I1.kIn (by simpa using same)
    simpa using z
  refine wpAny_call (codeAny_mono (F.goes X.A X.stack s1 H1 ⟨us, []⟩ us _ Q room noG I1.env0 binds rel2 q) ?_)
  intro r s' hq
  cases r with
  | error er => exact hq.elim
  | ok fl =>
    cases fl with
    | ret u => exact I1.after hq
    | next => exact False.elim hq
    | brk => exact False.elim hq
    | cont => exact False.elim hq
end

/-! ### the end of a law: from its promise to the row -/
theorem gcall {P : Program} {w : World} {K : PySem.W.Frag} {mg mb : Str → Option Value} {lev : Nat} {fa a : Addr} {fD : FuncData} {x : Str} {sp : Sp}
    {s0 : Shared} {vs : List Value} {ns : List Int} (KX : K.In s0.heap) (hns : s0.heap.Ns mainGlobals mg) (hb : s0.heap.Ns builtinsNs mb)
    (hbb : ∀ x : Str, x ≠ "__name__" → mb x = bootBuiltins x) (hlim : s0.heap.NoLimit) (hg : s0.gens = #[])
    (ha : s0.heap.get? a = some { cls := .type "list", data := .seq vs.toArray }) (hi : IntsAre vs ns) (hl : ns.length ≤ sizeLine) (room : Room lev callerA)
    (F : ∀ base : Heap, K.In base → base.Ns mainGlobals mg → FnG P w K mg base lev fa fD [x] sp)
    (hbind : ∀ (s : Shared) (u : Value), BindsTo s fD ⟨[u], []⟩ [(x, u)])
    (hsp : ∀ H : Hp, Only H → SqL K H a (ns.map V.int) → sp [.ref a] H (fun v _ => v = .bl true) E0) :
    codeAny (model P w) callerA (.call (.ref fa) ⟨[.ref a], []⟩) (fun r s' => r = .ok (.ret (.bool true)) ∧ OldK s0.heap s'.heap ∧ s'.os = s0.os ∧ AllBare s'.gens) s0 := by
  have rv := vals_ints hi
  have lenV := hi.length
  have main : ∀ H : Hp, Only H → SqL K H a (ns.map V.int) → HOk P w H s0.heap → (∀ b, H b ≠ none → b = a) → (H a ≠ none → K.lookup a = none) →
      codeAny (model P w) callerA (.call (.ref fa) ⟨[.ref a], []⟩) (fun r s' => r = .ok (.ret (.bool true)) ∧ OldK s0.heap s'.heap ∧ s'.os = s0.os ∧ AllBare s'.gens) s0 := by
    intro H hO hS hok hA hK
    have look : ∀ {b : Addr} {o : Obj}, s0.heap.get? b = some o → H b = none → (hidT s0.heap H).get? b = some o := by
      intro b o e n
      exact hidT_get e n
    have noD : ∀ {b : Addr} {o : Obj} {es : Array DictEntry} {ep : Nat}, s0.heap.get? b = some o → o.data = .dict es ep → H b = none := by
      intro b o es ep e d
      cases q : H b with
      | none => rfl
      | some u =>
        have e' : b = a := hA b (by rw [q]; simp)
        subst e'
        rw [ha] at e
        cases e
        cases (show Data.seq vs.toArray _ = Data.dict es ep from d)
    have ns2 : ∀ {b : Addr} {m : Str → Option Value}, s0.heap.Ns b m → (hidT s0.heap H).Ns b m := by
      rintro b m ⟨o, es, ep, e, d, r⟩
      exact ⟨o, es, ep, look e (noD e d), d, r⟩
    have inB : K.In (hidT s0.heap H) := by
      intro b o e
      refine look (KX b o e) ?_
      cases q : H b with
      | none => rfl
      | some u =>
        have e' : b = a := hA b (by rw [q]; simp)
        subst e'
        rw [hK (by rw [q]; simp)] at e
        cases e
    have lim2 : (hidT s0.heap H).NoLimit := by
      obtain ⟨mc, h1, h2⟩ := hlim
      exact ⟨mc, ns2 h1, h2⟩
    have e0 : Env0 P w K mg (hidT s0.heap H) callerA [] s0 H :=
      ⟨rfl, ⟨inB, ns2 hns, ⟨mb, ns2 hb, hbb⟩, lim2⟩, fun b o e => of_hidT e, Nat.le_of_eq (hidT_size _ _), trivial,
        fun b hb => absurd (show b ∈ ([] : List Addr) from hb) (by simp), hok, .of_eq hg⟩
    refine codeAny_mono ((F _ inB (ns2 hns)).goes callerA [] s0 H ⟨[.ref a], []⟩ [.ref a] [.ref a] _ room rfl e0 (hbind s0 (.ref a)) (.cons rfl .nil) (hsp H hO hS)) ?_
    intro r s' h
    cases r with
    | error e => exact h.elim
    | ok fl =>
      cases fl with
      | next => exact False.elim h
      | brk => exact False.elim h
      | cont => exact False.elim h
      | ret u =>
        obtain ⟨v, H', os, bare, un, hok', r', q⟩ := h
        cases (show v = .bl true from q)
        cases (show u = Value.bool true from r')
        refine ⟨rfl, OldK.of_keep ?_, os, bare⟩
        intro b o e
        cases q : H b with
        | none => exact un.keep b o e q (fun z => absurd (show b ∈ ([] : List Addr) from z) (by simp)) (by simp)
        | some u =>
          rcases hO b with z | ⟨ob, xs, z⟩
          · rw [q] at z; cases z
          · obtain ⟨e1, _⟩ := hok b _ z
            obtain ⟨e2, _⟩ := hok' b _ (un.frzs b ob _ z)
            rw [e] at e1
            cases e1
            exact e2
  cases hk : K.lookup a with
  | some o =>
    have e := KX a o hk
    rw [ha] at e
    cases e
    exact main (fun _ => none) (fun _ => .inl rfl) (.inr ⟨_, vs.toArray, _, hk, rfl, rfl, rfl, by rw [List.size_toArray, lenV]; exact hl, by simpa using rv⟩)
      (fun b u z => nomatch (show (none : Option HO) = some u from z)) (fun b z => absurd rfl z) (fun z => absurd rfl z)
  | none =>
    refine main (fun b => if b = a then some (.frz { cls := .type "list", data := .seq vs.toArray } (.lst (ns.map V.int))) else none) ?_ (.inl (.inr ⟨_, if_pos rfl⟩)) ?_ ?_ (fun _ => hk)
    · intro b
      by_cases hb : b = a
      · exact .inr ⟨_, _, if_pos hb⟩
      · exact .inl (if_neg hb)
    · intro b u z
      by_cases hb : b = a
      · have z' := (if_pos hb).symm.trans z
        cases z'
        subst hb
        exact ⟨ha, by rw [List.length_map]; exact hl, vs, _, rv, ha⟩
      · cases (if_neg hb).symm.trans z
    · intro b z
      by_cases hb : b = a
      · exact hb
      · exact absurd (if_neg hb) z
end Lk

namespace Lk
open PySem PySem.Spec PyProof.Rows L2
/-- from the promise of `law` to the row -/
theorem walkG {l : PySem.W.OpenLaw} {n lev : Nat} {q : Program} {loose : List Str} {XP : (Str → Option Value) → Heap → Prop} {YP : World → Heap → Prop}
    {d : DefRec} {K : Params → PySem.W.Frag} {sp : PySem.W.Frag → Sp} {x : Str}
    (hn : l.most = some n) (hn2 : n ≤ sizeLine) (hdf : d.params.defaults = []) (room : Room lev callerA)
    (hY : ∀ (w : World) (h : Heap), YP w h → (K w.params).In h)
    (F : ∀ (w : World) (mg : Str → Option Value) (fa : Addr) (h : Heap), (K w.params).In h → h.Ns mainGlobals mg → mg d.name = some (.ref fa) →
      ∃ fD : FuncData, (∀ (s : Shared) (u : Value), BindsTo s fD ⟨[u], []⟩ [(x, u)]) ∧
        ∀ base : Heap, (K w.params).In base → base.Ns mainGlobals mg → FnG l.prog w (K w.params) mg base lev fa fD [x] (sp (K w.params)))
    (hsp : ∀ (K : PySem.W.Frag) (H : Hp) (a : Addr) (ns : List Int), ns.length ≤ n → Only H → SqL K H a (ns.map V.int) → sp K [.ref a] H (fun v _ => v = .bl true) E0) :
    PySem.W.WalkO q loose XP YP l.row.toRowW d [] (fun f vs => PySem.call f vs) := by
  refine Att.attach_call hn hdf ?_
  intro w s₀ s₁ mg mb fa o pm cd doc a vs ns G Y ho hd hcd hmg hobj hints hlen hg
  have KX := hY w _ Y
  obtain ⟨fD, hb, hF⟩ := F w mg fa _ KX G.T.g hmg
  exact gcall KX G.T.g G.T.b G.T.builtins G.T.nolimit hg hobj hints (Nat.le_trans hlen hn2) room hF hb fun H hO hS => hsp _ H a ns hlen hO hS
end Lk
set_option Elab.async false
set_option linter.all false
set_option maxRecDepth 100000
set_option maxHeartbeats 4000000
/-! Part B: values that are data through and through, and their repr. -/
namespace Lk
open PySem PySem.Spec PyProof.Rows L2

def keyD : Key → PyData
  | .inl i => .int i
  | .inr x => .str x

mutual
/-- v stands for the data d: lists, tuples and dicts that are tracked, ints, texts -/
inductive DW (H : Hp) : V → PyData → Prop
  | non : DW H .non .none
  | bl (b : Bool) : DW H (.bl b) (.bool b)
  | int (i : Int) : DW H (.int i) (.int i)
  | str (x : Str) : DW H (.str x) (.str x)
  | lst {a : Addr} {xs : List V} {ds : List PyData} : H a = some (.lst xs) → a ≠ sysModules → DWs H xs ds → DW H (.ref a) (.list ds)
  | tup {a : Addr} {xs : List V} {ds : List PyData} : H a = some (.tup xs) → DWs H xs ds → DW H (.ref a) (.tuple ds)
  | dic {a : Addr} {kvs : List (Key × V)} {ps : List (PyData × PyData)} : H a = some (.dK kvs) → DWk H kvs ps → DW H (.ref a) (.dict ps)
inductive DWs (H : Hp) : List V → List PyData → Prop
  | nil : DWs H [] []
  | cons {v : V} {vs : List V} {d : PyData} {ds : List PyData} : DW H v d → DWs H vs ds → DWs H (v :: vs) (d :: ds)
inductive DWk (H : Hp) : List (Key × V) → List (PyData × PyData) → Prop
  | nil : DWk H [] []
  | cons {k : Key} {v : V} {kvs : List (Key × V)} {d : PyData} {ps : List (PyData × PyData)} : DW H v d → DWk H kvs ps → DWk H ((k, v) :: kvs) ((keyD k, d) :: ps)
end

mutual
theorem DW.same {H H' : Hp} (k : Same H H') : ∀ {v : V} {d : PyData}, DW H v d → DW H' v d
  | _, _, .non => .non
  | _, _, .bl b => .bl b
  | _, _, .int i => .int i
  | _, _, .str x => .str x
  | _, _, .lst h n r => .lst (k _ _ h) n (DWs.same k r)
  | _, _, .tup h r => .tup (k _ _ h) (DWs.same k r)
  | _, _, .dic h r => .dic (k _ _ h) (DWk.same k r)
theorem DWs.same {H H' : Hp} (k : Same H H') : ∀ {vs : List V} {ds : List PyData}, DWs H vs ds → DWs H' vs ds
  | _, _, .nil => .nil
  | _, _, .cons h r => .cons (DW.same k h) (DWs.same k r)
theorem DWk.same {H H' : Hp} (k : Same H H') : ∀ {vs : List (Key × V)} {ds : List (PyData × PyData)}, DWk H vs ds → DWk H' vs ds
  | _, _, .nil => .nil
  | _, _, .cons h r => .cons (DW.same k h) (DWk.same k r)
end
theorem DWs.length {H : Hp} : ∀ {vs : List V} {ds : List PyData}, DWs H vs ds → vs.length = ds.length
  | _, _, .nil => rfl
  | _, _, .cons _ r => congrArg (· + 1) (DWs.length r)
theorem DWs.get {H : Hp} : ∀ {vs : List V} {ds : List PyData} {i : Nat} {d : PyData}, DWs H vs ds → ds[i]? = some d → ∃ v, vs[i]? = some v ∧ DW H v d
  | _, _, _, _, .nil, e => by simp at e
  | _, _, 0, _, .cons h _, e => by simp at e; subst e; exact ⟨_, rfl, h⟩
  | _, _, i + 1, _, .cons _ r, e => by
    obtain ⟨v, h1, h2⟩ := DWs.get (i := i) r (by simpa using e)
    exact ⟨v, by simpa using h1, h2⟩
theorem DWs.get' {H : Hp} : ∀ {vs : List V} {ds : List PyData} {i : Nat} {v : V}, DWs H vs ds → vs[i]? = some v → ∃ d, ds[i]? = some d ∧ DW H v d
  | _, _, _, _, .nil, e => by simp at e
  | _, _, 0, _, .cons h _, e => by simp at e; subst e; exact ⟨_, rfl, h⟩
  | _, _, i + 1, _, .cons _ r, e => by
    obtain ⟨v, h1, h2⟩ := DWs.get' (i := i) r (by simpa using e)
    exact ⟨v, by simpa using h1, h2⟩
theorem DWs.append {H : Hp} : ∀ {vs ws : List V} {ds es : List PyData}, DWs H vs ds → DWs H ws es → DWs H (vs ++ ws) (ds ++ es)
  | _, _, _, _, .nil, r => r
  | _, _, _, _, .cons h t, r => .cons h (DWs.append t r)

section
variable {X : Cx} {pins : List (Addr × Obj)} {σ : L2.St} {H : Hp} {s : Shared}
theorem reads_key {P : Program} {w : World} {k : Key} {v : Value} (h : (mixKind P w).is k v = true) : Reads s.heap v (keyD k) [] := by
  rcases keyIs_shape (k := k) (v := v) h with ⟨i, t, rfl, rfl⟩ | ⟨x, t, rfl, rfl⟩
  · exact .int i t
  · exact .str x t
theorem pairs_read {P : Program} {w : World} : ∀ {es : List DictEntry} {vs : List (Key × Value)}, Pairs (mixKind P w) es vs →
    ReadsAll s.heap (es.map (·.key)) (vs.map fun p => keyD p.1) []
  | _, _, .nil => .nil
  | _, _, .cons h _ r => ReadsAll.cons (as := []) (reads_key h) (pairs_read r)
mutual
theorem DW.reads (I : Inv X pins σ H s) : ∀ {v : V} {d : PyData} {u : Value}, DW H v d → RelV v u → ∃ as, Reads s.heap u d as ∧ sysModules ∉ as
  | _, _, _, .non, r => by cases r; exact ⟨_, .none, by simp⟩
  | _, _, _, .bl b, r => by cases r; exact ⟨_, .bool b, by simp⟩
  | _, _, _, .int i, r => by obtain ⟨t, rfl⟩ := r; exact ⟨_, .int i t, by simp⟩
  | _, _, _, .str x, r => by obtain ⟨t, rfl⟩ := r; exact ⟨_, .str x t, by simp⟩
  | _, _, _, .lst (a := a) h n rs, r => by
    cases r
    obtain ⟨_, its, m, rv, e⟩ := (show ObjOk X.prog X.w H s.heap a (.lst _) from I.hok a _ h)
    obtain ⟨as, q, z⟩ := DWs.reads I rs rv
    refine ⟨_, Reads.list e rfl rfl (by simpa using q), ?_⟩
    rw [List.mem_cons]
    rintro (e | e)
    · exact n e.symm
    · exact z e
  | _, _, _, .tup (a := a) h rs, r => by
    cases r
    obtain ⟨_, its, rv, o, e, hc, m, hd⟩ := (show ObjOk X.prog X.w H s.heap a (.tup _) from I.hok a _ h)
    obtain ⟨as, q, z⟩ := DWs.reads I rs rv
    exact ⟨_, Reads.tuple e hc hd (by simpa using q), z⟩
  | _, _, _, .dic (a := a) h rs, r => by
    cases r
    obtain ⟨_, n, vs, kv, o, es, ep, e, ex, hd, _, pr, _⟩ := (show ObjOk X.prog X.w H s.heap a (.dK _) from I.hok a _ h)
    have q := pairs_read (s := s) pr
    obtain ⟨bs, q2, q3, z⟩ := DWk.reads I rs kv pr
    refine ⟨_, Reads.dict (as := []) (bs := bs) e ex.1 hd ?_ q2, ?_⟩
    · rw [← q3]; exact q
    · have n' : a ≠ sysModules := by simpa using n
      show ¬ sysModules ∈ a :: bs
      rw [List.mem_cons]
      rintro (e | e)
      · exact n' e.symm
      · exact z e
theorem DWs.reads (I : Inv X pins σ H s) : ∀ {vs : List V} {ds : List PyData} {us : List Value}, DWs H vs ds → Vals vs us → ∃ as, ReadsAll s.heap us ds as ∧ sysModules ∉ as
  | _, _, _, .nil, r => by cases r; exact ⟨_, .nil, by simp⟩
  | _, _, _, .cons h rs, r => by
    cases r with
    | cons r1 r2 =>
      obtain ⟨as, q1, z1⟩ := DW.reads I h r1
      obtain ⟨bs, q2, z2⟩ := DWs.reads I rs r2
      exact ⟨_, .cons q1 q2, by rw [List.mem_append]; exact fun z => z.elim z1 z2⟩
theorem DWk.reads (I : Inv X pins σ H s) : ∀ {kvs : List (Key × V)} {ps : List (PyData × PyData)} {vs : List (Key × Value)} {es : List DictEntry}, DWk H kvs ps → KV kvs vs →
    Pairs (mixKind X.prog X.w) es vs → ∃ bs, ReadsAll s.heap (es.map (·.val)) (ps.map (·.2)) bs ∧ vs.map (fun p => keyD p.1) = ps.map (·.1) ∧ sysModules ∉ bs
  | _, _, _, _, .nil, r, p => by cases r; cases p; exact ⟨_, .nil, rfl, by simp⟩
  | _, _, _, _, .cons (k := k) h rs, r, p => by
    unfold KV at r
    cases r with
    | cons r1 r2 =>
      cases p with
      | cons p1 p2 p3 =>
        obtain ⟨as, q1, z1⟩ := DW.reads I h r1.2
        obtain ⟨bs, q2, q3, z2⟩ := DWk.reads I rs r2 p3
        rw [← p2] at q1
        refine ⟨_, .cons q1 q2, ?_, by rw [List.mem_append]; exact fun z => z.elim z1 z2⟩
        rw [List.map_cons, List.map_cons, ← r1.1, q3]
end
end

/-- repr of such data -/
theorem call_reprD {X : Cx} (noG : NoG X.A) (hu : X.A.units + 64 < cLine) : CallR X (.builtin "repr") (fun xs H Q => ∃ v d, xs = [v] ∧ DW H v d ∧
    d.showable = true ∧ d.depth ≤ 50 ∧ d.shown.length ≤ sizeLine ∧ Q (.str d.shown) H) := by
  intro pins s σ H xs us Q I r h
  obtain ⟨v, d, rfl, dw, hs, hd, hl, q⟩ := h
  obtain ⟨u, rfl, ru⟩ := r.one
  have fin : ∀ t (s' : Shared), Inv X pins σ H s' → EP X pins σ Q (.str d.shown t) s' := fun t s' J => ⟨.str d.shown, H, J, ⟨t, rfl⟩, q⟩
  have refs : ∀ a, u = .ref a → wpAny (model X.prog X.w) X.A (call (.builtin "repr") [u]) (EP X pins σ Q) X.xe s := by
    rintro a rfl
    obtain ⟨as, q1, z⟩ := DW.reads I dw ru
    exact repr_of_reads' q1 hs (fun _ => z) noG (by omega) (fun _ _ e => e) (fun h' t tk k => fin _ _ (I.kept (t' := tk) k)) hl
  cases dw with
  | non => cases (show u = Value.none from ru); exact PySem.P.repr_of_none (fin _ _ (I.tok _))
  | bl b => cases (show u = Value.bool b from ru); cases b <;> exact PySem.P.repr_of_bool (fin _ _ (I.tok _))
  | int i => obtain ⟨t, rfl⟩ := ru; exact PySem.P.repr_of_int (by simpa [PyData.showable] using hs) (fin _ _ (I.tok _))
  | str x => obtain ⟨t, rfl⟩ := ru; exact PySem.P.repr_of_str (fin _ _ (I.tok _)) hl
  | lst h n r => exact refs _ ru
  | tup h r => exact refs _ ru
  | dic h r => exact refs _ ru
end Lk
set_option Elab.async false
set_option linter.all false
set_option maxRecDepth 100000
set_option maxHeartbeats 4000000
/-! Part C: displays as data; the draws of a law. -/
namespace Lk
open PySem PySem.Spec PyProof.Rows L2
abbrev St := L2.St

/-- what is in H' and was not in H -/
def sub (H H' : Hp) : Hp := fun b => if (H b).isSome = true then none else H' b
theorem sub_of {H H' : Hp} {b : Addr} {o : HO} (h : H b = none) (h' : H' b = some o) : sub H H' b = some o := by
  unfold sub
  rw [h, if_neg (by simp)]
  exact h'
theorem of_sub {H H' : Hp} {b : Addr} {o : HO} (h : sub H H' b = some o) : H b = none ∧ H' b = some o := by
  unfold sub at h
  split at h
  · cases h
  · rename_i n
    refine ⟨?_, h⟩
    cases q : H b with
    | none => rfl
    | some u => rw [q] at n; exact absurd rfl n
theorem sub_same (H H' : Hp) : Same (sub H H') H' := fun _ _ e => (of_sub e).2
/-- a fresh value that stands for d; what was tracked stays -/
def tFr (d : PyData) : TE := fun _ H Q => ∀ v H', Same H H' → DW (sub H H') v d → Q v H'
def tFrs (ds : List PyData) : TA := fun _ H Q => ∀ vs H', Same H H' → DWs (sub H H') vs ds → Q vs H'
theorem same_new {H : Hp} {p : Addr} {o : HO} (h : H p = none) : Same H (upd H p o) := fun b u e => by
  rw [upd_ne (ne_of_none e h)]
  exact e
theorem sub_more {H H1 H2 : Hp} (s : Same H1 H2) : Same (sub H H1) (sub H H2) := fun _ _ e => sub_of (of_sub e).1 (s _ _ (of_sub e).2)
theorem sub_less {H H1 H2 : Hp} (s : Same H H1) : Same (sub H1 H2) (sub H H2) := fun _ _ e => sub_of (s.free (of_sub e).1) (of_sub e).2
theorem sub_new {H H1 : Hp} {p : Addr} {o : HO} (s : Same H H1) (h : H1 p = none) : sub H (upd H1 p o) p = some o := sub_of (s.free h) upd_same

section
variable {X : Cx} {e : Expr} {es : List Expr} {t t' : TE} {d : PyData} {ds : List PyData} {pos : Pos} {j : Nat}
theorem pe_imp (h : PE X e t) (k : ∀ σ H Q, t' σ H Q → t σ H Q) : PE X e t' := ⟨fun pins s σ H Q I q => h.run pins s σ H Q I (k σ H Q q)⟩
theorem pa_imp {t t' : TA} (h : PA X es t) (k : ∀ σ H Q, t' σ H Q → t σ H Q) : PA X es t' := ⟨fun pos pins s σ H Q I q => h.run pos pins s σ H Q I (k σ H Q q)⟩
theorem pd_int {i : Int} : PE X (.Constant (.int i) j pos) (tFr (.int i)) := pe_imp pe_int fun _ H _ q => q _ _ (Same.refl H) (.int i)
theorem pd_bl {b : Bool} : PE X (.Constant (.bool b) j pos) (tFr (.bool b)) := pe_imp pe_bl fun _ H _ q => q _ _ (Same.refl H) (.bl b)
theorem pd_non : PE X (.Constant .none j pos) (tFr .none) := pe_imp pe_non fun _ H _ q => q _ _ (Same.refl H) .non
theorem pd_str {x : Str} : PE X (.Constant (.str x) j pos) (tFr (.str x)) := pe_imp pe_str fun _ H _ q => q _ _ (Same.refl H) (.str x)
theorem pd_neg {i : Int} {p1 : Pos} : PE X (.UnaryOp .USub (.Constant (.int i) j p1) pos) (tFr (.int (-i))) :=
  pe_imp (pe_un un_neg pe_int) fun _ H _ q => ⟨i, rfl, q _ _ (Same.refl H) (.int _)⟩
theorem pds_nil : PA X [] (tFrs []) := pa_imp pa_nil fun _ H _ q => q _ _ (Same.refl H) .nil
theorem pds_cons (ha : PE X e (tFr d)) (hr : PA X es (tFrs ds)) (hs : starEach (e :: es) X.env = (false, eval e X.env) :: starEach es X.env := by rfl) : PA X (e :: es) (tFrs (d :: ds)) :=
  pa_imp (pa_cons ha hr hs) fun _ H _ q => fun v H1 s1 d1 vs H2 s2 d2 => q _ _ (s1.trans s2) (.cons (d1.same (sub_more s2)) (d2.same (sub_less s1)))
theorem few_ok {n : Nat} (h : decide (n ≤ 1000) = true) : n ≤ sizeLine := by
  rw [sizeLine_eq]
  have := of_decide_eq_true h
  omega
theorem pd_tup {c : Nat} (h : PA X es (tFrs ds)) (hl : decide (ds.length ≤ 1000) = true := by rfl) : PE X (.Tuple es c pos) (tFr (.tuple ds)) :=
  pe_imp (pe_tup h) fun _ H _ q => fun vs H1 s1 d1 => ⟨by rw [d1.length]; exact few_ok hl, fun p hp => q _ _ (s1.trans (same_new hp)) (.tup (sub_new s1 hp) (d1.same (sub_more (same_new hp))))⟩
/-- a list that is displayed, its address told not to be that of sys.modules -/
def tLstN (t : TA) : TE := fun σ H Q => t σ H fun xs H1 => xs.length ≤ sizeLine ∧ ∀ p, H1 p = none → p ≠ sysModules → Q (.ref p) (upd H1 p (.lst xs))
theorem pe_lstN {t : TA} (h : PA X es t) : PE X (.List es pos) (tLstN t) := by
  constructor
  intro pins s σ H Q I hq
  refine wpAny_List_spliced (thn (h.run pos pins s σ H _ I hq) ?_)
  rintro us s1 ⟨xs, H1, I1, r, z, q⟩
  refine ⟨by rw [← r.length]; exact z, ?_⟩
  have free : H1 s1.heap.objs.size = none := I1.hok.fresh (Nat.le_refl _)
  have J := I1.laid (t' := s1.toks) (a := s1.heap.objs.size) (o := .lst xs) (h' := s1.heap.push { cls := .type "list", data := .seq us.toArray })
    (fun b u e => Heap.get?_push_of_some _ e) (Nat.le_refl _) ⟨z, us, 0, r, Heap.get?_push_size _ rfl⟩
  exact ⟨.ref s1.heap.objs.size, _, J, rfl, q _ free (Nat.ne_of_gt I1.big)⟩
theorem pd_lst (h : PA X es (tFrs ds)) (hl : decide (ds.length ≤ 1000) = true := by rfl) : PE X (.List es pos) (tFr (.list ds)) :=
  pe_imp (pe_lstN h) fun _ H _ q => fun vs H1 s1 d1 => ⟨by rw [d1.length]; exact few_ok hl, fun p hp n => q _ _ (s1.trans (same_new hp)) (.lst (sub_new s1 hp) n (d1.same (sub_more (same_new hp))))⟩
theorem pd_dict0 : PE X (.Dict [] [] pos) (tFr (.dict [])) :=
  pe_imp pe_dnewK fun _ H _ q => fun p hp => q _ _ (same_new hp) (.dic (sub_new (Same.refl H) hp) .nil)
theorem pd_dict1 {k : Str} {p1 : Pos} (h : PE X e (tFr d)) : PE X (.Dict [some (.Constant (.str k) j p1)] [e] pos) (tFr (.dict [(.str k, d)])) :=
  pe_imp (pe_disp (pps_cons pe_str h pps_nil) rfl rfl (by simp) (by simp)) fun _ H _ q => fun p hp v H1 s1 d1 => by
    have e1 := s1 _ _ (upd_same (H := H) (a := p) (o := .dK []))
    refine ⟨e1, [(.inr k, v)], rfl, by simp, ?_⟩
    have same : Same H (upd H1 p (.dK (mergeK [] [(.inr k, v)]))) := fun b u e => by
      have nb := ne_of_none e hp
      rw [upd_ne nb]
      exact s1 b u (by rw [upd_ne nb]; exact e)
    refine q _ _ same (.dic (kvs := [(.inr k, v)]) (sub_of hp upd_same) (.cons (d1.same ?_) .nil))
    intro b u e
    obtain ⟨n1, n2⟩ := of_sub e
    have nb : b ≠ p := fun z => by rw [z, upd_same] at n1; cases n1
    exact sub_of (by rw [upd_ne nb] at n1; exact n1) (by rw [upd_ne nb]; exact n2)
end

/-! ### the draws -/
/-- H' has what H has, but for a; a may be written -/
def ExtP (a : Addr) (H H' : Hp) : Prop := ∀ b o, b ≠ a → H b = some o → H' b = some o
theorem ExtP.refl (a : Addr) (H : Hp) : ExtP a H H := fun _ _ _ e => e
theorem ExtP.trans {a : Addr} {H H1 H2 : Hp} (x : ExtP a H H1) (y : ExtP a H1 H2) : ExtP a H H2 := fun b o n e => y b o n (x b o n e)
theorem ExtP.of {a : Addr} {H H' : Hp} (s : Same H H') : ExtP a H H' := fun b o _ e => s b o e
theorem ExtP.upd (a : Addr) (H : Hp) (o : HO) : ExtP a H (upd H a o) := fun b u n e => by rw [upd_ne n]; exact e
/-- the draws' list: what is left of the cell, the mixed number, how often it was asked -/
def PotAt (a : Addr) (N : Nat) (H : Hp) : Prop := ∃ o b c : Int, H a = some (.lst [.int o, .int b, .int c]) ∧ 0 ≤ o ∧ 0 ≤ b ∧ b < 2305843009213693951 ∧ 0 ≤ c ∧ c ≤ N
theorem PotAt.mono {a : Addr} {N M : Nat} {H : Hp} (h : PotAt a N H) (k : N ≤ M) : PotAt a M H := by
  obtain ⟨o, b, c, e, h0, h1, h2, h3, h4⟩ := h
  exact ⟨o, b, c, e, h0, h1, h2, h3, by omega⟩
theorem PotAt.same {a : Addr} {N : Nat} {H H' : Hp} (h : PotAt a N H) (k : Same H H') : PotAt a N H' := by
  obtain ⟨o, b, c, e, r⟩ := h
  exact ⟨o, b, c, k _ _ e, r⟩
/-- ** to a written power, of great numbers -/
def CPowW (i j : Int) : Prop := 0 ≤ j ∧ j ≤ 1000 ∧ i.natAbs < 2 ^ 4096
theorem op_powW {X : Cx} : OpR X (binaryOp .Pow) (rI CPowW fun i j => .int (i ^ j.toNat)) := opI fun i j _ _ _ _ _ hc q => by
  obtain ⟨h1, h2, h3⟩ := hc
  refine pow_int h1 ?_ q
  have e : Builtin.Int.intBits i ≤ 4096 := by
    unfold Builtin.Int.intBits
    split
    · omega
    · have := PySem.Flt.log2_lt_of (show 0 < 4096 by decide) h3
      omega
  have : (Builtin.Int.intBits i : Int) * j ≤ 4096 * 1000 := Int.mul_le_mul (by omega) h2 h1 (by decide)
  omega
theorem pow_lt {i : Int} {n k : Nat} (h : i.natAbs < n) (hn : 0 < k) : (i ^ k).natAbs < n ^ k := by
  rw [Int.natAbs_pow]
  exact Nat.pow_lt_pow_left h (by omega)
theorem sub_ext {a : Addr} {H H1 H2 : Hp} (ha : H a ≠ none) (x : ExtP a H1 H2) : Same (sub H H1) (sub H H2) := fun b o e => by
  obtain ⟨e0, e1⟩ := of_sub e
  exact sub_of e0 (x b o (fun z => ha (z ▸ e0)) e1)
theorem sub_lessP {a : Addr} {H H1 H2 : Hp} (h1 : H1 a ≠ none) (x : ExtP a H H1) : Same (sub H1 H2) (sub H H2) := fun b o e => by
  obtain ⟨e0, e1⟩ := of_sub e
  refine sub_of ?_ e1
  cases q : H b with
  | none => rfl
  | some u =>
    have nb : b ≠ a := fun z => h1 (z ▸ e0)
    rw [x b u nb q] at e0
    cases e0
theorem PotAt.ne {a : Addr} {N : Nat} {H : Hp} (h : PotAt a N H) : H a ≠ none := by
  obtain ⟨_, _, _, e, _⟩ := h
  rw [e]
  exact fun z => by cases z
end Lk
set_option Elab.async false
set_option linter.all false
set_option maxRecDepth 100000
set_option maxHeartbeats 4000000
namespace K6
open PySem PySem.Spec PyProof.Rows L2 Lk
def top (i : Nat) : Stmt := PySem.Challenge.pw_lotkeepers_k34_whole_pieces_made_anew.main.body.getD i (.Pass ⟨0, 0, 0, 0⟩)
abbrev sPot : Stmt := top 81
abbrev sTake : Stmt := top 82
abbrev sOf : Stmt := top 83
abbrev sCells : Stmt := top 85
abbrev sSome : Stmt := top 84
/-- built-in names that the text leaves alone -/
structure Bl (mg : Str → Option Value) : Prop where
  int : mg "int" = none
  abs : mg "abs" = none
  len : mg "len" = none
  list : mg "list" = none
  range : mg "range" = none
  max : mg "max" = none
  min : mg "min" = none
  all : mg "all" = none
  any : mg "any" = none
  repr : mg "repr" = none
  isin : mg "isinstance" = none
  enum : mg "enumerate" = none
  vErr : mg "ValueError" = none
section
variable {P : Program} {w : World} {K : PySem.W.Frag} {mg : Str → Option Value} {base : Heap} {f : Addr} {fd : FuncData}
def spTake : Sp := fun vs H Q _ => ∃ (a : Addr) (n : Int) (N : Nat), vs = [.ref a, .int n] ∧ PotAt a N H ∧ N ≤ 1000000 ∧ 0 < n ∧ n ≤ 1000 ∧
  ∀ (i : Int) (H' : Hp), 0 ≤ i → i < n → ExtP a H H' → PotAt a (N + 1) H' → Q (.int i) H'
theorem scTake : FnScope ["pot", "upto", "digit", "prime", "mixed"] ["pot", "upto"] (defScope sTake) := ⟨rfl, rfl, rfl, by decide +kernel, rfl, by decide +kernel, by decide +kernel⟩
theorem ok_take (F : Fun K "_law_take" "_law_take" sTake f fd) (T : Bl mg) : FnOk P w K mg base CX0 1 f fd ["pot", "upto"] spTake := by
  refine F.ok scTake (fun vs H Q E h => ?_) (fun cdv A outer s H vs Q E hr h => ?_)
  · obtain ⟨a, n, N, rfl, _⟩ := h
    rfl
  · obtain ⟨a, n, N, rfl, ⟨o, b, c, hp, ho, hb, hb2, hc, hcN⟩, hN, hn, hn2, k⟩ := h
    have nd := scTake.nd
    refine ⟨_, pss_cons (ps_if (pt_cmpR op_gt (pe_ix ix_list (pv 0) pe_int (fun _ _ => rfl)) pe_int (nomark _))
        (pss_cons (ps_set (i := 2) nd rfl (.inl rfl) (pe_op op_mod (pe_callTy call_int1 rfl T.int boot_int (pa_cons (pe_ix ix_list (pv 0) pe_int (fun _ _ => rfl)) pa_nil)) (pv 1)))
          (pss_cons (ps_asg (pe_op op_fdiv (pe_ix ix_list (pv 0) pe_int (fun _ _ => rfl)) (pv 1)) (pg_sub (pv 0) pe_int set_list))
            (pss_one (ps_ret (pv 2))))) pss_nil)
      (pss_cons (ps_asg (pe_op op_add (pe_ix ix_list (pv 0) pe_int (fun _ _ => rfl)) pe_int) (pg_sub (pv 0) pe_int set_list))
        (pss_cons (ps_set (i := 3) nd rfl (.inl rfl) (pe_ix ix_list (pe_lst (pa_cons pe_int (pa_cons pe_int (pa_cons pe_int (pa_cons pe_int (pa_cons pe_int pa_nil))))))
            (pe_op op_mod (pe_callTy call_int1 rfl T.int boot_int (pa_cons (pe_ix ix_list (pv 0) pe_int (fun _ _ => rfl)) pa_nil)) pe_int) (fun _ _ => rfl)))
          (pss_cons (ps_set (i := 4) nd rfl (.inl rfl) (pe_op op_mod (pe_callTy call_int1 rfl T.int boot_int (pa_cons (pe_op op_powW (pe_callTy call_int1 rfl T.int boot_int (pa_cons
                (pe_op op_add (pe_op op_add (pe_ix ix_list (pv 0) pe_int (fun _ _ => rfl)) (pe_op op_mul (pe_op op_mul pe_int (pe_ix ix_list (pv 0) pe_int (fun _ _ => rfl))) (pe_ix ix_list (pv 0) pe_int (fun _ _ => rfl)))) pe_int) pa_nil)) pe_int) pa_nil)) (pv 3)))
            (pss_cons (ps_set (i := 4) nd rfl (.inl rfl) (pe_op op_mod (pe_callTy call_int1 rfl T.int boot_int (pa_cons (pe_op op_mul (pv 4)
                (pe_op op_add (pe_op op_mod (pe_callTy call_int1 rfl T.int boot_int (pa_cons (pv 4) pa_nil)) pe_int) (pe_op op_mul pe_int (pe_ix ix_list (pv 0) pe_int (fun _ _ => rfl))))) pa_nil)) pe_int))
              (pss_one (ps_ret (pe_op op_mod (pe_callTy call_int1 rfl T.int boot_int (pa_cons (pe_op op_fdiv (pv 4) pe_int) pa_nil)) (pv 1)))))))), ?_⟩
    -- if pot[0] > 0
    refine ⟨_, rfl, a, _, _, _, rfl, rfl, SqL.of hp, rfl, _, _, rfl, rfl, _, rfl, ?_⟩
    refine ite2 (fun hpos => ?_) (fun _ => ?_)
    · refine ⟨_, rfl, a, _, _, _, rfl, rfl, SqL.of hp, rfl, .inl ⟨_, rfl, _, rfl, _, _, rfl, rfl, hn, ?_⟩⟩
      refine ⟨_, rfl, a, _, _, _, rfl, rfl, SqL.of hp, rfl, _, rfl, _, _, rfl, rfl, ⟨hn, by omega⟩, _, rfl, a, _, _, 0, rfl, rfl, hp, rfl, ?_⟩
      refine ⟨_, rfl, ?_⟩
      exact k _ _ (Int.emod_nonneg _ (by omega)) (Int.emod_lt_of_pos _ hn) (ExtP.upd _ _ _)
        ⟨o / n, b, c, upd_same, Int.ediv_nonneg ho (by omega), hb, hb2, hc, by omega⟩
    · -- pot[2] = pot[2] + 1
      refine ⟨_, rfl, a, _, _, _, rfl, rfl, SqL.of hp, rfl, _, _, rfl, rfl, _, rfl, a, _, _, 2, rfl, rfl, hp, rfl, ?_⟩
      have hq : upd H a (.lst [.int o, .int b, .int (c + 1)]) a = some (.lst [.int o, .int b, .int (c + 1)]) := upd_same
      -- prime = [..][int(pot[2]) % 5]
      refine ⟨by rw [sizeLine_eq]; decide, fun p np => ?_⟩
      have nap : a ≠ p := fun z => by rw [← z, upd_same] at np; cases np
      have hq2 : ∀ o', upd (upd H a (.lst [.int o, .int b, .int (c + 1)])) p o' a = some (.lst [.int o, .int b, .int (c + 1)]) := fun o' => by rw [upd_ne nap]; exact hq
      refine ⟨_, rfl, a, _, _, _, rfl, rfl, SqL.of (hq2 _), rfl, .inl ⟨_, rfl, _, _, rfl, rfl, (show (0 : Int) < 5 by decide), ?_⟩⟩
      have r0 : 0 ≤ (c + 1) % 5 := Int.emod_nonneg _ (by decide)
      have r5 : (c + 1) % 5 < 5 := Int.emod_lt_of_pos _ (by decide)
      obtain ⟨pr, hpr, hp0⟩ : ∃ pr : Int, ([V.int 2147483647, .int 2147483629, .int 2147483587, .int 2147483579, .int 2147483563] : List V)[((c + 1) % 5).toNat]? = some (.int pr) ∧ 0 < pr := by
        have : ((c + 1) % 5).toNat = 0 ∨ ((c + 1) % 5).toNat = 1 ∨ ((c + 1) % 5).toNat = 2 ∨ ((c + 1) % 5).toNat = 3 ∨ ((c + 1) % 5).toNat = 4 := by omega
        rcases this with e | e | e | e | e <;> rw [e] <;> exact ⟨_, rfl, by decide⟩
      have hix : atI ([V.int 2147483647, .int 2147483629, .int 2147483587, .int 2147483579, .int 2147483563] : List V) ((c + 1) % 5) = some (.int pr) := by
        have e : (c + 1) % 5 = ((((c + 1) % 5).toNat : Nat) : Int) := by omega
        rw [e]
        exact atI_nat hpr
      refine ⟨p, _, _, _, rfl, rfl, SqL.of upd_same, hix, ?_⟩
      generalize hH : upd _ p _ = H2
      have hq3 : H2 a = some (.lst [.int o, .int b, .int (c + 1)]) := by rw [← hH]; exact hq2 _
      have hx : ExtP a H H2 := fun z u nz e => by
        have nzp : z ≠ p := fun q => by rw [q] at e nz; rw [upd_ne nz] at np; rw [np] at e; cases e
        rw [← hH, upd_ne nzp, upd_ne nz]
        exact e
      -- mixed = int(int(pot[1] + .. * pot[2] * pot[2] + ..) ** 3) % prime
      have c1 : c + 1 ≤ 1000001 := by omega
      refine ⟨_, rfl, a, _, _, _, rfl, rfl, SqL.of hq3, rfl, _, rfl, a, _, _, _, rfl, rfl, SqL.of hq3, rfl, _, _, rfl, rfl, .inl ⟨by decide, by decide⟩, ?_⟩
      refine ⟨_, rfl, a, _, _, _, rfl, rfl, SqL.of hq3, rfl, _, _, rfl, rfl, .inr ⟨by show -(2 ^ 64) < c + 1; omega, by show c + 1 < 2 ^ 64; omega⟩, _, _, rfl, rfl, _, _, rfl, rfl, .inl ⟨_, rfl, ?_⟩⟩
      have z1 : 0 ≤ 97843 * (c + 1) * (c + 1) := Int.mul_nonneg (by omega) (by omega)
      have z2 : 97843 * (c + 1) * (c + 1) ≤ 97843 * 1000001 * 1000001 := Int.mul_le_mul (by omega) c1 (by omega) (by decide)
      refine ⟨_, _, rfl, rfl, ⟨by decide, by decide, ?_⟩, .inl ⟨_, rfl, _, rfl, _, _, rfl, rfl, hp0, ?_⟩⟩
      · have : (b + 97843 * (c + 1) * (c + 1) + 109).natAbs < 2 ^ 64 := by omega
        exact Nat.lt_of_lt_of_le this (Nat.pow_le_pow_right (by decide) (by decide))
      have m0 := Int.emod_nonneg ((b + 97843 * (c + 1) * (c + 1) + 109) ^ (3 : Int).toNat) (show pr ≠ 0 by omega)
      have m1 := Int.emod_lt_of_pos ((b + 97843 * (c + 1) * (c + 1) + 109) ^ (3 : Int).toNat) hp0
      have hpr2 : pr ≤ 2147483647 := by
        have : ((c + 1) % 5).toNat = 0 ∨ ((c + 1) % 5).toNat = 1 ∨ ((c + 1) % 5).toNat = 2 ∨ ((c + 1) % 5).toNat = 3 ∨ ((c + 1) % 5).toNat = 4 := by omega
        rcases this with e | e | e | e | e <;> rw [e] at hpr <;> cases hpr <;> decide
      obtain ⟨m, hm⟩ : ∃ m, m = (b + 97843 * (c + 1) * (c + 1) + 109) ^ (3 : Int).toNat % pr := ⟨_, rfl⟩
      have m2 : -(2 ^ 64) < (b + 97843 * (c + 1) * (c + 1) + 109) ^ (3 : Int).toNat % pr := by rw [← hm] at m0 ⊢; omega
      have m3 : (b + 97843 * (c + 1) * (c + 1) + 109) ^ (3 : Int).toNat % pr < 2 ^ 64 := by rw [← hm] at m1 ⊢; omega
      -- mixed = int(mixed * (int(mixed) % .. + .. * pot[2])) % ..; return int(mixed // ..) % upto
      refine ⟨_, rfl, _, rfl, .inl ⟨_, rfl, _, _, rfl, rfl, (show (0 : Int) < 10487 by decide), ?_⟩⟩
      refine ⟨_, rfl, a, _, _, _, rfl, rfl, SqL.of hq3, rfl, _, _, rfl, rfl, .inl ⟨by decide, by decide⟩, _, _, rfl, rfl, _, _, rfl, rfl, .inl ⟨m2, m3⟩, .inl ⟨_, rfl, _, _, rfl, rfl, (show (0 : Int) < 2305843009213693907 by decide), ?_⟩⟩
      refine ⟨_, rfl, _, _, rfl, rfl, ⟨by decide, by decide⟩, .inl ⟨_, rfl, _, rfl, _, _, rfl, rfl, hn, ?_⟩⟩
      exact k _ _ (Int.emod_nonneg _ (by omega)) (Int.emod_lt_of_pos _ hn) hx ⟨o, b, c + 1, hq3, ho, hb, hb2, by omega, by omega⟩
end
section
variable {P : Program} {w : World} {K : PySem.W.Frag} {mg : Str → Option Value} {base : Heap} {f : Addr} {fd : FuncData}
/-! ### _law_of -/
def spOf : Sp := fun vs H Q _ => ∃ (a l : Addr) (N : Nat) (xs : List V), vs = [.ref a, .ref l] ∧ PotAt a N H ∧ N ≤ 1000000 ∧ l ≠ a ∧ H l = some (.lst xs) ∧ 0 < xs.length ∧ xs.length ≤ 1000 ∧
  ∀ (i : Nat) (x : V) (H' : Hp), xs[i]? = some x → ExtP a H H' → PotAt a (N + 1) H' → Q x H'
theorem scOf : FnScope ["pot", "some"] ["pot", "some"] (defScope sOf) := ⟨rfl, rfl, rfl, by decide +kernel, rfl, by decide +kernel, by decide +kernel⟩
theorem ok_of {f1 : Addr} {fd1 : FuncData} (F : Fun K "_law_of" "_law_of" sOf f fd) (T : Bl mg) (F1 : Fun K "_law_take" "_law_take" sTake f1 fd1) (b1 : Binds K fd1 ["pot", "upto"] []) (m1 : mg "_law_take" = some (.ref f1)) :
    FnOk P w K mg base CX0 2 f fd ["pot", "some"] spOf := by
  have G1 : FnOk P w K mg base CX0 1 f1 fd1 ["pot", "upto"] spTake := ok_take F1 T
  refine F.ok scOf (fun vs H Q E h => ?_) (fun cdv A outer s H vs Q E hr h => ?_)
  · obtain ⟨a, l, N, xs, rfl, _⟩ := h
    rfl
  · obtain ⟨a, l, N, xs, rfl, hp, hN, nla, hl, h0, h1, k⟩ := h
    refine ⟨_, pss_one (ps_ret (pe_ix ix_list (pv 1) (pe_call G1 hr rfl m1 F1.kp b1 .nil pass0 (pa_cons (pv 0) (pa_cons (pe_callB call_len_seq (by rfl) T.len PySem.boot_len (pa_cons (pv 1) pa_nil)) pa_nil))) (fun _ _ => rfl))), ?_⟩
    refine ⟨_, rfl, _, rfl, _, rfl, l, _, rfl, .inl (SqL.of hl), a, _, N, rfl, hp, hN, by omega, by omega, fun i H' i0 i1 ex hp' => ?_⟩
    have hl' : H' l = some (.lst xs) := ex l _ nla hl
    obtain ⟨x, hx⟩ : ∃ x, xs[i.toNat]? = some x := ⟨_, List.getElem?_eq_getElem (by omega)⟩
    refine ⟨l, xs, i, x, rfl, rfl, SqL.of hl', ?_, k i.toNat x H' hx ex hp'⟩
    have e : i = ((i.toNat : Nat) : Int) := by omega
    rw [e]
    exact atI_nat hx
/-! ### _law_cells -/
def spCells (K : PySem.W.Frag) : Sp := fun vs H Q _ => ∃ (a : Addr) (ns : List Int) (m : Int), vs = [.ref a, .int m] ∧ SqL K H a (ns.map V.int) ∧ ns.length ≤ 63 ∧ 0 ≤ m ∧ m ≤ 60 ∧
  ∀ (l : Addr) (n : Nat), n ≤ 63 → H l = none → Q (.ref l) (upd H l (.lst (rgV 0 (n : Int))))
theorem scCells : FnScope ["script", "limit"] ["script", "limit"] (defScope sCells) := ⟨rfl, rfl, rfl, by decide +kernel, rfl, by decide +kernel, by decide +kernel⟩
theorem ok_cells (F : Fun K "_law_cells" "_law_cells" sCells f fd) (T : Bl mg) : FnOk P w K mg base CX0 1 f fd ["script", "limit"] (spCells K) := by
  refine F.ok scCells (fun vs H Q E h => ?_) (fun cdv A outer s H vs Q E hr h => ?_)
  · obtain ⟨a, ns, m, rfl, _⟩ := h
    rfl
  · obtain ⟨a, ns, m, rfl, hs, hl, m0, m1, k⟩ := h
    refine ⟨_, pss_one (ps_ret (pe_listRg rfl (by rfl) T.list (prg_1 (by rfl) T.range (pe_callB (call_max2 rfl) (by rfl) T.max boot_max (pa_cons pe_int (pa_cons
      (pe_callB (call_min2 rfl) (by rfl) T.min boot_min (pa_cons (pv 1) (pa_cons (pe_callB call_len_seq (by rfl) T.len PySem.boot_len (pa_cons (pv 0) pa_nil)) pa_nil))) pa_nil)))))), ?_⟩
    refine ⟨_, rfl, _, rfl, a, _, rfl, .inl hs, _, _, rfl, _, _, rfl, _, rfl, ?_, ?_⟩
    · rw [List.length_map]
      exact RgOk.of_le (by decide) (by split <;> split <;> omega) (by decide) (by split <;> split <;> omega)
    · intro l hn
      have := k l (if (if ((ns.map V.int).length : Int) < m then ((ns.map V.int).length : Int) else m) > 1 then (if ((ns.map V.int).length : Int) < m then ((ns.map V.int).length : Int) else m) else 1).toNat
        (by rw [List.length_map]; split <;> split <;> omega) hn
      rw [Int.toNat_of_nonneg (by rw [List.length_map]; split <;> split <;> omega)] at this
      exact this
/-! ### _law_pot -/
def spPot (K : PySem.W.Frag) : Sp := fun vs H Q _ => ∃ (a : Addr) (ns : List Int) (i : Int), vs = [.ref a, .int i] ∧ SqL K H a (ns.map V.int) ∧ ns.length ≤ 63 ∧ 0 ≤ i ∧ i ≤ 100 ∧
  ∀ (p : Addr) (H' : Hp), H p = none → Same H H' → PotAt p 0 H' → Q (.ref p) H'
theorem scPot : FnScope ["script", "place", "cell", "own", "small"] ["script", "place"] (defScope sPot) := ⟨rfl, rfl, rfl, by decide +kernel, rfl, by decide +kernel, by decide +kernel⟩
theorem ten_pow : (0 : Int) < ((10 : Int) ^ (60 : Int).toNat) ^ (5 : Int).toNat := by decide +kernel
theorem ten_bits : ((10 : Int) ^ (60 : Int).toNat).natAbs < 2 ^ 4096 := by
  refine Nat.lt_of_lt_of_le (show ((10 : Int) ^ (60 : Int).toNat).natAbs < 2 ^ 256 by decide +kernel) (Nat.pow_le_pow_right (by decide) (by decide))
/-- the cell: some int -/
def tCell (K : PySem.W.Frag) : TE := fun σ H Q => ∃ (a : Addr) (ns : List Int) (i : Int), σ[0]? = some (some (.ref a)) ∧ σ[1]? = some (some (.int i)) ∧ SqL K H a (ns.map V.int) ∧ 0 ≤ i ∧ i ≤ 100 ∧ ∀ n : Int, Q (.int n) H
theorem ok_pot (F : Fun K "_law_pot" "_law_pot" sPot f fd) (T : Bl mg) : FnOk P w K mg base CX0 1 f fd ["script", "place"] (spPot K) := by
  refine F.ok scPot (fun vs H Q E h => ?_) (fun cdv A outer s H vs Q E hr h => ?_)
  · obtain ⟨a, ns, i, rfl, _⟩ := h
    rfl
  · obtain ⟨a, ns, i, rfl, hs, hl, i0, i1, k⟩ := h
    have nd := scPot.nd
    refine ⟨_, pss_cons (ps_set (i := 2) nd rfl (.inl rfl) (pe_imp (t' := tCell K) (pe_ifExp (pt_cmpR op_lt (pv 1) (pe_callB call_len_seq (by rfl) T.len PySem.boot_len (pa_cons (pv 0) pa_nil)) (nomark _))
          (pe_ix ix_list (pv 0) (pv 1) (fun _ _ => rfl)) (pe_op op_add (pe_op op_mul pe_int (pv 1)) pe_int)) ?_))
      (pss_cons (ps_set (i := 3) nd rfl (.inl rfl) (pe_op op_mul (pe_op op_mod (pe_callTy call_int1 rfl T.int boot_int (pa_cons (pe_callB call_abs (by rfl) T.abs boot_abs (pa_cons (pv 2) pa_nil)) pa_nil)) (pe_op op_powW (pe_op op_pow pe_int pe_int) pe_int))
          (pe_callTy call_int1 rfl T.int boot_int (pa_cons (pe_cmpR op_ge (pe_callB call_abs (by rfl) T.abs boot_abs (pa_cons (pv 2) pa_nil)) (pe_op op_pow pe_int pe_int) (nomark _)) pa_nil))))
        (pss_cons (ps_set (i := 4) nd rfl (.inl rfl) (pe_op op_mod (pe_callTy call_int1 rfl T.int boot_int (pa_cons (pv 2) pa_nil)) pe_int))
          (pss_one (ps_ret (pe_lst (pa_cons (pv 3) (pa_cons (pe_op op_mod (pe_callTy call_int1 rfl T.int boot_int (pa_cons
            (pe_op op_add (pe_op op_add (pe_op op_mul (pv 4) pe_int) (pe_op op_mul (pe_op op_mul pe_int (pv 1)) (pv 1))) pe_int) pa_nil)) pe_int) (pa_cons pe_int pa_nil)))))))), ?_⟩
    · rintro σ H' Q' ⟨a, ns, i, e0, e1, hs, i0, i1, q⟩
      refine ⟨_, e1, _, e0, a, _, rfl, .inl hs, _, _, rfl, rfl, _, rfl, ?_⟩
      refine ite2 (fun hlt => ?_) (fun _ => ?_)
      · have hlt' : i.toNat < ns.length := by have := of_decide_eq_true hlt; rw [List.length_map] at this; omega
        obtain ⟨x, hx0⟩ : ∃ x, ns[i.toNat]? = some x := ⟨_, List.getElem?_eq_getElem hlt'⟩
        have hx : atI (ns.map V.int) i = some (.int x) := by
          have e : i = ((i.toNat : Nat) : Int) := by omega
          rw [e]
          exact atI_nat (by rw [List.getElem?_map, hx0]; rfl)
        exact ⟨_, e0, _, e1, a, _, _, _, rfl, rfl, hs, hx, q _⟩
      · exact ⟨_, e1, _, _, rfl, rfl, .inl ⟨by decide, by decide⟩, _, _, rfl, rfl, q _⟩
    · refine ⟨a, ns, i, rfl, rfl, hs, i0, i1, fun n => ?_⟩
      have b2 : ∀ c : Bool, -(2 ^ 64) < (if c = true then (1 : Int) else 0) ∧ (if c = true then (1 : Int) else 0) < 2 ^ 64 := by decide
      have b0 : ∀ c : Bool, 0 ≤ (if c = true then (1 : Int) else 0) := by decide
      refine ⟨_, rfl, _, rfl, .inl ⟨_, rfl, _, _, rfl, rfl, ⟨by decide, by decide, by decide⟩, _, _, rfl, rfl, ⟨by decide, by decide, ten_bits⟩, _, _, rfl, rfl, ten_pow, ?_⟩⟩
      refine ⟨_, rfl, _, rfl, _, _, rfl, rfl, ⟨by decide, by decide, by decide⟩, _, _, rfl, rfl, .inr ⟨_, rfl, _, _, rfl, rfl, .inr (b2 _), ?_⟩⟩
      refine ⟨_, rfl, .inl ⟨_, rfl, _, _, rfl, rfl, (show (0 : Int) < 2305843009213693951 by decide), ?_⟩⟩
      refine ⟨_, rfl, _, rfl, _, _, rfl, rfl, .inr ⟨by decide, by decide⟩, _, rfl, _, _, rfl, rfl, .inl ⟨by decide, by decide⟩, _, rfl, _, _, rfl, rfl,
        .inl ⟨by show -(2 ^ 64) < 7793 * i; omega, by show 7793 * i < 2 ^ 64; omega⟩, _, _, rfl, rfl, _, _, rfl, rfl, .inl ⟨_, rfl, _, _, rfl, rfl, (show (0 : Int) < 2305843009213693921 by decide), ?_⟩⟩
      refine ⟨(show 3 ≤ sizeLine by rw [sizeLine_eq]; decide), fun p np => k p _ np (same_new np) ⟨_, _, _, upd_same, ?_, Int.emod_nonneg _ (by decide), ?_, by decide, by decide⟩⟩
      · exact Int.mul_nonneg (Int.emod_nonneg _ (Int.ne_of_gt ten_pow)) (b0 _)
      · exact Int.lt_trans (Int.emod_lt_of_pos _ (show (0 : Int) < 2305843009213693921 by decide)) (by decide)
end
end K6
set_option Elab.async false
set_option linter.all false
set_option maxRecDepth 100000
set_option maxHeartbeats 4000000
/-! Part X: exceptions of the text as values: made, asked for their class, read. -/
namespace Lk
open PySem PySem.Spec PyProof.Rows L2
/-- an own exception with the one field `value`: its object at a, of the class at C, its dict at d -/
def ErrAt (H : Hp) (C a d : Addr) (v : V) : Prop := H a = some (exo a C (some d)) ∧ H d = some (exd d [("value", v)])
theorem ErrAt.same {H H' : Hp} {C a d : Addr} {v : V} (h : ErrAt H C a d v) (k : Same H H') : ErrAt H' C a d v := ⟨k _ _ h.1, k _ _ h.2⟩
/-- what is asked of such a class: all of it is read off the written part -/
structure ErC (K : PySem.W.Frag) (C fI : Addr) : Prop where
  oex : OexC K C
  init : PySem.W.findIn K (.ref C) "__init__" = some (some (.ref fI))
  noV : PySem.W.findIn K (.ref C) "value" = some none
  ga : PySem.W.findIn K (.ref C) "__getattribute__" = some (some (.builtin "BaseException.__getattribute__"))
  gg : PySem.W.findIn K (.ref C) "__getattr__" = some none
  hd : PySem.W.hasDictIn K C = true
  cl : PySem.W.findIn K (.ref C) "__class__" = some (some (.builtin "object.__class__"))
  ob : PySem.W.mroIn K C (.type "object") = some true
/-- .. of the written part as a whole -/
structure ErK (K : PySem.W.Frag) (fI : Addr) : Prop where
  fn : PySem.W.typeIn K (.ref fI) = some (.type "function")
  cg : PySem.W.specialIn K (.builtin "object.__class__") "__get__" = some (some (.builtin "getset_descriptor.__get__"))
  ct : PySem.W.takesIn K (.builtin "object.__class__") = some true
/-- the promise of that __init__ -/
def spInitV (K : PySem.W.Frag) (fI : Addr) : Sp := fun vs H Q _ => ∃ (a C : Addr) (v : V), vs = [.ref a, v] ∧ ErC K C fI ∧ H a = some (exo a C none) ∧
  ∀ d, H d = none → d ≠ a → Q .non (upd (upd H d (exd d [("value", v)])) a (exo a C (some d)))
section
variable {X : Cx} {lev : Nat} {C fI : Addr} {fD : FuncData} {x : Str} {e : Expr} {t : TE} {p pos : Pos}
/-- C(e) as a value -/
def tErr (C : Addr) (t : TA) : TE := fun σ H Q => t σ H fun vs H1 => ∃ v, vs = [v] ∧ ∀ a d H2, H1 a = none → H1 d = none → Same H1 H2 → ErrAt H2 C a d v → Q (.ref a) H2
theorem pe_err {t : TA} (T : ErC X.K C fI) (TK : ErK X.K fI) (G : FnOk X.prog X.w X.K X.mg X.base CX0 lev fI fD ["self", "value"] (spInitV X.K fI)) (room : Room (lev + 1) X.A) (hb : Binds X.K fD ["self", "value"] [])
    (hg : Gl X x) (hm : X.mg x = some (.ref C)) (ha : PA X [e] t) (hdb : (x == ("__debug__" : Str)) = false := by decide)
    (hst : starEach [e] X.env = (false, eval e X.env) :: starEach [] X.env := by rfl) (hpl : (backTo pos (starEach [] X.env)).any (·.1) = false := by rfl) :
    PE X (.Call (.Name x p) [e] [] pos) (tErr C t) := by
  constructor
  intro pins s σ H Q I want
  obtain ⟨nm, qq, NN, bs, bm, sn, su, ab, col, dd, k0, k1, k2, k3, k5, hC, hbm⟩ := T.oex.cls
  refine wpAny_Call_Name_kw (ld_glob I hg hm ?_ hdb)
  refine PySem.W.callWith_K (h₀ := X.base) I.ok.mod.kin T.oex.kC (thn (ha.run pos pins s σ H _ I want) ?_) hst hpl
  rintro us s1 ⟨vs, H1, I1, rel, v, rfl, q1⟩
  refine ⟨I1.kIn, ?_⟩
  obtain ⟨hp, g, dr, tk, os⟩ := s1
  show wpAny _ _ (call (.ref C) us) _ _ _
  have up : hp.objs.size ≤ hp.objs.size + 1 := Nat.le_succ _
  have free : H1 (hp.objs.size + 1) = none := I1.hok.fresh up
  generalize hA : hp.objs.size + 1 = a at free up
  have keep : ∀ b o, hp.get? b = some o → ((hp.push (PySem.W.kdv_tup us)).push (PySem.HandSPX.excO C hp.objs.size)).get? b = some o :=
    fun b o z => Heap.get?_push_of_some _ (Heap.get?_push_of_some _ z)
  have here : ((hp.push (PySem.W.kdv_tup us)).push (PySem.HandSPX.excO C hp.objs.size)).get? a = some (PySem.HandSPX.excO C hp.objs.size) := by
    rw [← hA]
    heap_get
  have I2 : Inv X pins σ (upd H1 a (exo a C none)) ⟨(hp.push (PySem.W.kdv_tup us)).push (PySem.HandSPX.excO C hp.objs.size), g, dr, tk, os⟩ :=
    I1.laid (t' := tk) (a := a) (o := exo a C none) keep up (exo_ok here)
  have rel2 : Vals [V.ref a, v] (Value.ref a :: us) := .cons rfl rel
  have many : us.length = 1 := (Paired.length rel).symm
  have few : us.length ≤ sizeLine := by rw [many, sizeLine_eq]; decide
  have sp : spInitV X.K fI [V.ref a, v] (upd H1 a (exo a C none)) (fun r H2 => r = .non ∧ Q (.ref a) H2) E0 := by
    refine ⟨a, C, v, rfl, T, upd_same, fun d hd nd => ⟨rfl, q1 a d _ free ?_ ?_ ⟨upd_same, ?_⟩⟩⟩
    · rw [upd_ne nd] at hd; exact hd
    · intro b o z
      have nb := ne_of_none z free
      have nd2 : b ≠ d := fun y => by rw [← y, upd_ne nb, z] at hd; cases hd
      rw [upd_ne nb, upd_ne nd2, upd_ne nb]
      exact z
    · rw [upd_ne nd, upd_same]
  have binds := hb ⟨(hp.push (PySem.W.kdv_tup us)).push (PySem.HandSPX.excO C hp.objs.size), g, dr, tk, os⟩ (Value.ref a :: us) I2.kIn (by simp [many])
  rw [List.append_nil] at binds
  subst hA
  refine wpAny_call (PySem.HandSPX.call_own F.excBase_ValueError (fun Y => PySem.HandSPX.refsVE_contains Y bm hbm) (I1.kIn _ _ hC) (PySem.W.looks_findIn I1.kIn T.init)
    (fun self => PySem.W.bind_fn I1.kIn self TK.fn) few ?_)
  refine codeAny_mono (G.run _ X.stack _ _ ⟨Value.ref (hp.objs.size + 1) :: us, []⟩ (Value.ref (hp.objs.size + 1) :: us) _ _ E0 (room.make C us []) (I2.env0.make C us []) binds rel2 sp) ?_
  intro r s' hq
  cases r with
  | error er => exact hq.elim
  | ok fl =>
    cases fl with
    | ret u =>
      obtain ⟨w', H2, J, rv, e0, q2⟩ := I2.after hq
      subst e0
      exact ⟨rv, .ref (hp.objs.size + 1), H2, J, rfl, q2⟩
    | next => exact False.elim hq
    | brk => exact False.elim hq
    | cont => exact False.elim hq
/-- e.value -/
def tErrV (t : TE) : TE := fun σ H Q => t σ H fun x H1 => ∃ a C d v fI, x = .ref a ∧ ErC X.K C fI ∧ ErrAt H1 C a d v ∧ Q v H1
theorem pe_errV {e : Expr} {t : TE} (he : PE X e t) (hb : attributeBase e "value" X.env (eval e X.env) = eval e X.env := by rfl) : PE X (.Attribute e "value" pos) (tErrV (X := X) t) := by
  constructor
  intro pins s σ H Q I want
  refine attr_of hb (thn (he.run pins s σ H _ I want) ?_)
  rintro u s1 ⟨x, H1, I1, rx, a, C, d, v, fI, rfl, T, ⟨ea, ed⟩, q⟩
  cases (show u = Value.ref a from rx)
  obtain ⟨t1, ho⟩ := exo_at I1.hok ea
  obtain ⟨mA, hns, rel⟩ := exd_at I1.hok ed
  obtain ⟨od, hod, hl⟩ := lookIn_ns hns
  obtain ⟨u, hu, ru⟩ := RelO.some_of (v := v) (o := mA "value") (by
    have := rel "value"
    rw [lookup_put, if_pos rfl] at this
    exact this)
  have J : PySem.W.InstAt s1.heap a { cls := .ref C, dict := some d, data := .fields #[.ref t1, .none, .none, .none, .bool false, .none] } C (some od) := ⟨ho, rfl, rfl, hod⟩
  exact HandSPX.exc_get I1.kIn J T.ga T.gg T.oex.exC (PySem.W.findObj_own T.hd T.noV rfl (by rw [hl, hu])) (handed_of ru) ⟨v, H1, I1.tok _, ru, q⟩
/-- isinstance(e, D) of such an exception -/
def rErrIs (K : PySem.W.Frag) : List V → Hp → VK → Prop := fun xs H Q => ∃ (a C d fI : Addr) (v c : V) (u : Value) (b : Bool), xs = [.ref a, c] ∧ ErC K C fI ∧ ErK K fI ∧ ErrAt H C a d v ∧ ClsV c u ∧ PySem.W.kitOne K (.ref C) u = some b ∧ Q (.bl b) H
theorem call_errIs : CallR X (.builtin "isinstance") (rErrIs X.K) := by
  intro pins s σ H xs us Q I r h
  obtain ⟨a, C, d, fI, v, c, u, b, rfl, T, TK, ⟨ea, ed⟩, hc, hk, q⟩ := h
  obtain ⟨u1, u2, rfl, r1, r2⟩ := vals2 r
  have e2 := hc.eq r2
  subst e2
  cases (show u1 = Value.ref a from r1)
  obtain ⟨t1, ho⟩ := exo_at I.hok ea
  obtain ⟨mA, hns, rel⟩ := exd_at I.hok ed
  obtain ⟨od, hod, _⟩ := lookIn_ns hns
  have J : PySem.W.InstAt s.heap a { cls := .ref C, dict := some d, data := .fields #[.ref t1, .none, .none, .none, .bool false, .none] } C (some od) := ⟨ho, rfl, rfl, hod⟩
  have hcl : (PySem.W.clsIn X.K C).isSome = true := by
    have := T.hd
    unfold PySem.W.hasDictIn at this
    cases z : PySem.W.clsIn X.K C with
    | none => rw [z] at this; simp at this
    | some _ => rfl
  exact PySem.W.kia_one (PySem.W.kitx_exc hcl T.ga T.gg T.oex.exC T.cl TK.cg TK.ct T.ob) I.kIn J hk (fun z => nomatch z) fun tk => ⟨.bl b, H, I.tok tk, rfl, q⟩
end

/-! ### what the written part says of the classes -/
abbrev veMro : List Value := [.type "ValueError", .type "Exception", .type "BaseException", .type "object"]
/-- one class of the text, below the class at L (whose __init__ stands at fI), bound to the name x -/
structure ErRow (K : PySem.W.Frag) (mg : Str → Option Value) (fI : Addr) (ms : List Value) (x : Str) (C : Addr) : Prop where
  at_ : mg x = some (.ref C)
  er : ErC K C fI
  some_ : (PySem.W.clsIn K C).isSome = true
  mro : ∀ b : Value, PySem.W.subIn K (.ref C) b = some ((.ref C :: ms).contains b)
theorem erRow_mk {K : PySem.W.Frag} {h : Heap} {mg : Str → Option Value} (X : K.In h) (G : h.Ns mainGlobals mg) {fI C : Addr} {x : Str} {ms : List Value}
    {nm q : Str} {N : Addr} {bs : List Value} {sn : List Str} {su : List Value} {ab : Bool} {col : Option Bool} {dd : Option Addr} {m0 m1 m2 m3 m5 : Option Value}
    (aC : PySem.W.nsIn K mainGlobals x = some (some (.ref C)))
    (xL : K.lookup C = some (excClassObj nm q C N bs ms true sn su ab col dd m0 m1 m2 m3 m5 "ValueError.__new__"))
    (hms : PySem.HandSPX.refsVE ms = true)
    (sa : PySem.W.findIn K (.ref C) "__setattr__" = some (some (.builtin "object.__setattr__")))
    (ga : PySem.W.findIn K (.ref C) "__getattribute__" = some (some (.builtin "BaseException.__getattribute__")))
    (gg : PySem.W.findIn K (.ref C) "__getattr__" = some none)
    (nv : PySem.W.findIn K (.ref C) "value" = some none)
    (ini : PySem.W.findIn K (.ref C) "__init__" = some (some (.ref fI)))
    (cl : PySem.W.findIn K (.ref C) "__class__" = some (some (.builtin "object.__class__")))
    (kC : PySem.W.keepIn K (.ref C) = true) : ErRow K mg fI ms x C := by
  have hcl : PySem.W.clsIn K C = some { name := nm, bases := bs, mro := .ref C :: ms, ns := N, qualname := q, hasDict := true, slotNames := sn, subclasses := su, abstract := ab, collection := col, hasDel := false } := by
    unfold PySem.W.clsIn
    rw [xL] <;> rfl
  have hmro : ∀ b : Value, PySem.W.mroIn K C b = some ((.ref C :: ms).contains b) := by
    intro b
    unfold PySem.W.mroIn
    rw [hcl] <;> rfl
  have hty : PySem.W.typeIn K (.ref C) = some (.type "type") := by
    show (K.lookup C).map (·.cls) = _
    rw [xL] <;> rfl
  have has : ∀ Y : String, veMro.contains (.type Y) = true → ((.ref C :: ms).contains (.type Y)) = true := by
    intro Y hY
    have := PySem.HandSPX.refsVE_contains Y (.ref C :: ms) (show PySem.HandSPX.refsVE (.ref C :: ms) = true from hms)
    rw [this]
    exact hY
  refine ⟨PySem.W.mg_of X G aC, ⟨⟨⟨nm, q, N, bs, ms, sn, su, ab, col, dd, m0, m1, m2, m3, m5, xL, hms⟩, sa, ?_, hty, kC⟩, ini, nv, ga, gg, ?_, cl, ?_⟩, ?_, hmro⟩
  · show PySem.W.mroIn K C _ = _
    rw [hmro, has "BaseException" (by decide +kernel)]
  · unfold PySem.W.hasDictIn
    rw [hcl] <;> rfl
  · rw [hmro, has "object" (by decide +kernel)]
  · rw [hcl] <;> rfl
/-- isinstance, as the classes' chains tell it -/
theorem ErRow.kit {K : PySem.W.Frag} {mg : Str → Option Value} {fI C D : Addr} {ms ms' : List Value} {x y : Str} (r : ErRow K mg fI ms x C) (r' : ErRow K mg fI ms' y D) :
    PySem.W.kitOne K (.ref C) (.ref D) = some ((.ref C :: ms).contains (.ref D)) := by
  unfold PySem.W.kitOne
  by_cases e : C = D
  · subst e
    rw [if_pos (by simp)]
    simp
  · have n : ((Value.ref C == Value.ref D) = true) ↔ False := by simp [e]
    rw [if_neg (by rw [n]; exact id)]
    show (if ((PySem.W.clsIn K D).isSome && PySem.W.typeIn K (.ref D) == some (.type "type")) = true then PySem.W.subIn K (.ref C) (.ref D) else none) = _
    rw [if_pos (by rw [r'.some_, r'.er.oex.tyC]; rfl)]
    exact r.mro _
theorem ErRow.kitT {K : PySem.W.Frag} {mg : Str → Option Value} {fI C : Addr} {ms : List Value} {x : Str} (r : ErRow K mg fI ms x C) (T : String) (hT : PySem.W.kitMeta T = true) :
    PySem.W.kitOne K (.ref C) (.type T) = some ((.ref C :: ms).contains (.type T)) := by
  unfold PySem.W.kitOne
  rw [if_neg (by simp)]
  show (if PySem.W.kitMeta T = true then PySem.W.subIn K (.ref C) (.type T) else none) = _
  rw [if_pos hT]
  exact r.mro _
/-- a row each for several classes -/
inductive ErRows (K : PySem.W.Frag) (mg : Str → Option Value) (fI : Addr) (ms : List Value) : List Str → List Addr → Prop
  | nil : ErRows K mg fI ms [] []
  | cons {x : Str} {C : Addr} {xs : List Str} {Cs : List Addr} : ErRow K mg fI ms x C → ErRows K mg fI ms xs Cs → ErRows K mg fI ms (x :: xs) (C :: Cs)
theorem ErRows.get {K : PySem.W.Frag} {mg : Str → Option Value} {fI : Addr} {ms : List Value} : ∀ {xs : List Str} {Cs : List Addr} (i : Nat) {x : Str}, ErRows K mg fI ms xs Cs → xs[i]? = some x → ErRow K mg fI ms x (Cs.getD i 0)
  | _, _, _, _, .nil, e => by simp at e
  | _, _, 0, _, .cons r _, e => by simp at e; subst e; exact r
  | _, _, i + 1, _, .cons _ rs, e => by
    have := ErRows.get i rs (by simpa using e)
    simpa using this
theorem ErRows.length {K : PySem.W.Frag} {mg : Str → Option Value} {fI : Addr} {ms : List Value} : ∀ {xs : List Str} {Cs : List Addr}, ErRows K mg fI ms xs Cs → xs.length = Cs.length
  | _, _, .nil => rfl
  | _, _, .cons _ r => congrArg (· + 1) r.length
theorem ErRows.mem {K : PySem.W.Frag} {mg : Str → Option Value} {fI : Addr} {ms : List Value} {C : Addr} : ∀ {xs : List Str} {Cs : List Addr}, ErRows K mg fI ms xs Cs → C ∈ Cs → ∃ x, ErRow K mg fI ms x C
  | _, _, .nil, h => by simp at h
  | _, _, .cons r rs, h => by
    rcases List.mem_cons.mp h with rfl | h
    · exact ⟨_, r⟩
    · exact rs.mem h
end Lk
set_option Elab.async false
set_option linter.all false
set_option maxRecDepth 100000
set_option maxHeartbeats 4000000
/-! Part Ex: an exception that is caught and stays behind the suite. -/
namespace Lk
open PySem PySem.Spec PyProof.Rows L2
/-- at a: an exception that was caught and stays, of the class cls, its dict d -/
def exq (a : Addr) (cls : Value) (d : Option Addr) : HO := .ext fun h => ∃ oe vs, h.get? a = some oe ∧ Zc cls d oe ∧ oe.data = .fields vs
theorem exq_ok {P : Program} {w : World} {H : Hp} {h : Heap} {a : Addr} {cls : Value} {d : Option Addr} {oe : Obj} {vs : Array Value} (e : h.get? a = some oe) (z : Zc cls d oe) (f : oe.data = .fields vs) : ObjOk P w H h a (exq a cls d) :=
  ⟨⟨oe, vs, e, z, f⟩, ⟨oe, e⟩, fun _ _ ⟨o, v, x, y, u⟩ k => ⟨o, v, k _ x, y, u⟩⟩
theorem exq_at {P : Program} {w : World} {H : Hp} {h : Heap} {a : Addr} {cls : Value} {d : Option Addr} (hok : HOk P w H h) (e : H a = some (exq a cls d)) : ∃ oe vs, h.get? a = some oe ∧ Zc cls d oe ∧ oe.data = .fields vs := by
  have x : ObjOk P w H h a (exq a cls d) := hok a _ e
  exact x.1
section
variable {X : Cx} {pins : List (Addr × Obj)} {σ : L2.St} {H : Hp} {s : Shared} {a : Addr} {cls : Value} {d : Option Addr} {oe : Obj} {vs : Array Value}
/-- such an exception is taken among what is known -/
theorem track (I : Inv X pins σ H s) (e : s.heap.get? a = some oe) (z : Zc cls d oe) (f : oe.data = .fields vs) (na : H a = none) (nL : a ≠ X.env.locals) (n0 : X.s_0.heap.get? a = none) (np : ∀ p ∈ X.pn ++ pins, p.1 ≠ a) :
    Inv X pins σ (upd H a (exq a cls d)) s := by
  have far : ∀ {b : Addr} {u : HO}, H b = some u → b ≠ a := fun q => ne_of_none q na
  refine ⟨I.ok, I.os, I.bare, ⟨I.base.keep, I.base.slot, fun b o q n x => ?_, I.base.there, fun b xs q => ?_, fun b o u q => ?_, fun b ps q => ?_⟩, I.loc, I.cell, ?_, fun x c q => ?_, fun p hp => ?_, HOk.laidN I.hok (fun _ _ q => q) na (exq_ok e z f), I.len⟩
  · rw [upd_ne (fun y => by rw [y, n0] at q; cases q)]
    exact I.base.free b o q n x
  · have t := I.base.tups b xs q
    rw [upd_ne (far t)]
    exact t
  · have t := I.base.frzs b o u q
    rw [upd_ne (far t)]
    exact t
  · obtain ⟨more, t⟩ := I.base.tbls b ps q
    exact ⟨more, by rw [upd_ne (far t)]; exact t⟩
  · rw [upd_ne (Ne.symm nL)]
    exact I.free
  · have nc : c ≠ a := fun y => by
      obtain ⟨v, o, h1, h2⟩ := I.cell x c q
      rw [y, e] at h1
      cases h1
      rw [f] at h2
      cases h2
    rw [upd_ne nc]
    exact I.freeC x c q
  · obtain ⟨h1, h2, h3⟩ := I.pin p hp
    exact ⟨h1, by rw [upd_ne (np p hp)]; exact h2, h3⟩
theorem suiteT (I : Inv X pins σ H s) (a : Addr) : Inv (X.suite a (X.pn ++ pins)) [] σ H s :=
  ⟨I.ok.suite _ _, I.os, I.bare, I.base, I.loc, I.cell, I.free, I.freeC, fun p hp => I.pin p (by rw [List.append_nil] at hp; exact hp), I.hok, I.len⟩
theorem unsuiteT {pn' : List (Addr × Obj)} (ok : X.Ok) (I : Inv (X.suite a (X.pn ++ pins)) pn' σ H s) : Inv X pins σ H s :=
  ⟨ok, I.os, I.bare, I.base, I.loc, I.cell, I.free, I.freeC, fun p hp => I.pin p (List.mem_append_left _ hp), I.hok, I.len⟩
end
/-- the ends behind a suite whose name, in slot i, goes -/
def behind (i : Nat) (D : Ends) : Ends := { nx := fun σ H => D.nx (σ.set i none) H, rt := D.rt, bk := fun σ H => D.bk (σ.set i none) H, ct := fun σ H => D.ct (σ.set i none) H }
/-- what 'except x as n: suite' wishes of an exception of the body that it catches for sure -/
def wTrk (K : PySem.W.Frag) (c : Value) (i : Nat) (ts : TS) (D : Ends) : WX := fun cls d σ H =>
  PySem.W.exmOne K cls c = some true ∧ ∀ a, H a = none → ts (behind i D) (σ.set i (some (.ref a))) (upd H a (exq a cls d))
section
variable {X : Cx} {x n : Str} {c : Value} {i : Nat} {body suite : List Stmt} {b₀ : Stmt} {np pos pos' : Pos} {tb : WX → TS} {ts : TS}
theorem ps_try_trk (hs : X.stack = X.env :: X.outer) (hf : X.env.frame = some X.env.locals) (hex : X.ex = []) (hN : X.N.Nodup) (hi : X.N[i]? = some n) (hl : X.env.kindOf n = some .local) (hc : Names X x c)
    (hb : ∀ (W : WX) (pn : List (Addr × Obj)) (xe : Value → Shared → Prop), Takes (X.tr pn xe) W → PassesOwn (model X.prog X.w) X.A X.env xe → PSs (X.tr pn xe) body (tb W))
    (hu : ∀ (a : Addr) (pn : List (Addr × Obj)), PSs (X.suite a pn) (b₀ :: suite) ts) :
    PS X (.Try body [.ExceptHandler (some (.Name x np)) (some n) (b₀ :: suite) pos'] [] [] pos) (fun D σ H => tb (wTrk X.K c i ts D) D σ H) := by
  constructor
  intro pins s σ H D I want
  have ok := I.ok
  have fr : X.A.frames = some (X.env :: X.outer) := ok.frames.trans (congrArg some hs)
  refine wpAny_Try_except (wpAny_mono ((hb (wTrk X.K c i ts D) (X.pn ++ pins) _ ?takes PassesOwn.looking).run [] s σ H D (I.toTry _) want) ?fine (fun _ _ z => z))
  case fine =>
    intro fl s1 z
    cases fl with
    | next => exact wpAny_execs_nil (let ⟨p, q, J, r⟩ := z; ⟨p, q, J.ofTry ok, r⟩)
    | brk => exact let ⟨p, q, J, r⟩ := z; ⟨p, q, J.ofTry ok, r⟩
    | cont => exact let ⟨p, q, J, r⟩ := z; ⟨p, q, J.ofTry ok, r⟩
    | ret u => exact let ⟨v, p, q, J, r⟩ := z; ⟨v, p, q, J.ofTry ok, r⟩
  case takes =>
    rintro _ s' ⟨a, B, sI, pins', σ', H', cls, d, rfl, J', nb, up, sky, na, os, ag, yes, go⟩
    have J : Inv X pins σ' H' sI := J'.ofTry ok
    rw [show (X.tr (X.pn ++ pins) _).stack = X.env :: X.outer from hs] at sky
    show wpAny _ X.A (noteFrame (.ref a) X.env) _ _ _
    refine Sky.land Zc.steady fr hf sky fun h3 g3 up3 => ?_
    have J3 : Inv X pins σ' H' { s' with heap := h3 } := J.landed nb g3.1 (up.trans up3) os ag
    obtain ⟨o3, v3, at3, z3, f3⟩ := g3.there
    have nf : a ∉ frs (X.env :: X.outer) := fun m => by
      obtain ⟨_, o, e, no⟩ := g3.2.2.1.mem m
      rw [at3] at e
      cases e
      exact no _ f3
    have nL : a ≠ X.env.locals := fun y => nf (List.mem_filterMap.mpr ⟨X.env, List.mem_cons_self, by rw [hf, y]⟩)
    have gone : sI.heap.get? a = none := by
      cases q : sI.heap.get? a with
      | none => rfl
      | some o =>
        have y := nb a o q (by rw [hs]; exact nf)
        rw [g3.2.1] at y
        cases y
    have n0 : X.s_0.heap.get? a = none := by
      cases q : X.s_0.heap.get? a with
      | none => rfl
      | some o =>
        obtain ⟨o', y⟩ := J.base.there a o q (by rw [hex]; exact fun y => nomatch y)
        rw [gone] at y
        cases y
    have npn : ∀ p ∈ X.pn ++ pins, p.1 ≠ a := fun p hp y => by
      have q := (J.pin p hp).1
      rw [y, gone] at q
      cases q
    refine wpAny_handleBy_cons (codeAny_handlers_test ?_) (fun y => nomatch y)
    have T3 := suiteT (track J3 at3 z3 f3 na nL n0 npn) a
    have ty : PySem.W.Looks (model X.prog X.w) h3 (typeOf (.ref a)) cls := fun _ _ _ _ k q => wpAny_typeOf_ref (k _ _ at3) (by rw [z3.1]; exact q)
    have asked := (PySem.W.exm_one (M := model X.prog X.w) J3.kIn ty yes)
    have name : ∀ {Q E : Value → Shared → Prop}, Q c { s' with heap := h3 } → wpAny (model X.prog X.w) (X.A.mark (some (.ref a))) (eval (.Name x np) X.env) Q E { s' with heap := h3 } := by
      intro Q E q
      obtain ⟨g1, g2, g3 | ⟨g3, g4, g5⟩⟩ := hc
      · exact ld_glob T3 g1 g3 q g2
      · exact ld_blt T3 g1 g3 g4 q g5 g2
    refine name (asked.here (codeAny_handlers_suite_as ?_))
    refine HandSPX.lands_againZ g3 fun h4 g4 up4 => ?_
    have J4 : Inv X pins σ' H' { s' with heap := h4 } := J.landed nb g4.1 ((up.trans up3).trans up4) os ag
    obtain ⟨o4, v4, at4, z4, f4⟩ := g4.there
    refine store_ok (X := X.suite a (X.pn ++ pins)) (v := .ref a) (suiteT (track J4 at4 z4 f4 na nL n0 npn) a) hN hi (.inl hl) rfl (fun s5 S5 => ?_) (.inr hl)
    refine wpAny_mono ((hu a (X.pn ++ pins)).run [] s5 _ _ _ S5 (go a na)) ?_ (fun _ _ y => y.elim)
    intro fl s6 z
    have out : ∀ {τ : St} {G : Hp} {Q : Shared → Prop}, Inv (X.suite a (X.pn ++ pins)) [] τ G s6 → (∀ s7, Inv X pins (τ.set i none) G s7 → Q s7) →
        wpAny (model X.prog X.w) X.A (do bindName X.env n .none; unbindBehindTheSuite X.env n pos') (fun _ s7 => Q s7) X.xe s6 :=
      fun S6 q => gone_ok (unsuiteT ok S6) hN hi hl q
    cases fl with
    | next => exact let ⟨τ, G, S6, r⟩ := z; out S6 fun s7 J7 => ⟨_, _, J7, r⟩
    | brk => exact let ⟨τ, G, S6, r⟩ := z; out S6 fun s7 J7 => ⟨_, _, J7, r⟩
    | cont => exact let ⟨τ, G, S6, r⟩ := z; out S6 fun s7 J7 => ⟨_, _, J7, r⟩
    | ret u => exact let ⟨v, τ, G, S6, r1, r2⟩ := z; out S6 fun s7 J7 => ⟨v, _, _, J7, r1, r2⟩
end
/-! ### what is known of it: its class, its field -/
/-- at a: a caught exception of the class at C, its dict at d, with the one field `value` -/
def CauAt (H : Hp) (C a d : Addr) (v : V) : Prop := H a = some (exq a (.ref C) (some d)) ∧ H d = some (.xd [("value", v)])
theorem CauAt.keeps {H H' : Hp} {C a d : Addr} {v : V} (h : CauAt H C a d v) (k : ∀ b o, H b = some o → (∀ ps, o ≠ .tbl ps) → H' b = some o) : CauAt H' C a d v :=
  ⟨k _ _ h.1 (fun _ z => by cases (show HO.ext _ = HO.tbl _ from z)), k _ _ h.2 (fun _ z => by cases z)⟩
theorem CauAt.same {H H' : Hp} {C a d : Addr} {v : V} (h : CauAt H C a d v) (k : Same H H') : CauAt H' C a d v := h.keeps fun b o e _ => k b o e
section
variable {X : Cx} {e : Expr} {t : TE} {pos : Pos}
/-- e.value -/
def tCauV (K : PySem.W.Frag) (t : TE) : TE := fun σ H Q => t σ H fun x H1 => ∃ a C d v fI, x = .ref a ∧ ErC K C fI ∧ CauAt H1 C a d v ∧ Q v H1
theorem pe_cauV (he : PE X e t) (hb : attributeBase e "value" X.env (eval e X.env) = eval e X.env := by rfl) : PE X (.Attribute e "value" pos) (tCauV X.K t) := by
  constructor
  intro pins s σ H Q I want
  refine attr_of hb (thn (he.run pins s σ H _ I want) ?_)
  rintro u s1 ⟨x, H1, I1, rx, a, C, d, v, fI, rfl, T, ⟨ea, ed⟩, q⟩
  cases (show u = Value.ref a from rx)
  obtain ⟨oe, vs, ho, hz, hf⟩ := exq_at I1.hok ea
  obtain ⟨mA, hns, rel⟩ : ObjOk X.prog X.w H1 s1.heap d (.xd [("value", v)]) := I1.hok d _ ed
  obtain ⟨od, hod, hl⟩ := lookIn_ns hns
  obtain ⟨u, hu, ru⟩ := RelO.some_of (v := v) (o := mA "value") (by
    have := rel "value"
    rw [lookup_put, if_pos rfl] at this
    exact this)
  have J : PySem.W.InstAt s1.heap a oe C (some od) := ⟨ho, hz.1, by unfold PySem.W.notCls; rw [hf] <;> rfl, by rw [hz.2]; exact hod⟩
  exact HandSPX.exc_get I1.kIn J T.ga T.gg T.oex.exC (PySem.W.findObj_own T.hd T.noV rfl (by rw [hl, hu])) (handed_of ru) ⟨v, H1, I1.tok _, ru, q⟩
/-- isinstance(e, D) -/
def rCauIs (K : PySem.W.Frag) : List V → Hp → VK → Prop := fun xs H Q => ∃ (a C d fI : Addr) (v c : V) (u : Value) (b : Bool), xs = [.ref a, c] ∧ ErC K C fI ∧ ErK K fI ∧ CauAt H C a d v ∧ ClsV c u ∧ PySem.W.kitOne K (.ref C) u = some b ∧ Q (.bl b) H
theorem call_cauIs : CallR X (.builtin "isinstance") (rCauIs X.K) := by
  intro pins s σ H xs us Q I r h
  obtain ⟨a, C, d, fI, v, c, u, b, rfl, T, TK, ⟨ea, ed⟩, hc, hk, q⟩ := h
  obtain ⟨u1, u2, rfl, r1, r2⟩ := vals2 r
  have e2 := hc.eq r2
  subst e2
  cases (show u1 = Value.ref a from r1)
  obtain ⟨oe, vs, ho, hz, hf⟩ := exq_at I.hok ea
  obtain ⟨mA, hns, rel⟩ : ObjOk X.prog X.w H s.heap d (.xd [("value", v)]) := I.hok d _ ed
  obtain ⟨od, hod, _⟩ := lookIn_ns hns
  have J : PySem.W.InstAt s.heap a oe C (some od) := ⟨ho, hz.1, by unfold PySem.W.notCls; rw [hf] <;> rfl, by rw [hz.2]; exact hod⟩
  have hcl : (PySem.W.clsIn X.K C).isSome = true := by
    have := T.hd
    unfold PySem.W.hasDictIn at this
    cases z : PySem.W.clsIn X.K C with
    | none => rw [z] at this; simp at this
    | some _ => rfl
  exact PySem.W.kia_one (PySem.W.kitx_exc hcl T.ga T.gg T.oex.exC T.cl TK.cg TK.ct T.ob) I.kIn J hk (fun z => nomatch z) fun tk => ⟨.bl b, H, I.tok tk, rfl, q⟩
end
end Lk
set_option Elab.async false
set_option linter.all false
set_option maxRecDepth 100000
set_option maxHeartbeats 4000000
/-! Part D: comprehensions whose items are known; code that is never come to. -/
namespace Lk
open PySem PySem.Spec PyProof.Rows L2
theorem range_fm {α β : Type} (f : α → Option β) : ∀ xs : List α, (List.range xs.length).filterMap (fun i => (xs[i]?).bind f) = xs.filterMap f
  | [] => rfl
  | x :: xs => by
    rw [List.length_cons, List.range_succ_eq_map, List.filterMap_cons, List.filterMap_cons, List.filterMap_map]
    have ih := range_fm f xs
    have e : ((fun i => ((x :: xs)[i]?).bind f) ∘ Nat.succ) = fun i => (xs[i]?).bind f := by
      funext i
      simp
    rw [e, ih]
    rfl
/-- [e for t in it if ..]: which items go in, and as what, is told by f; nothing that was tracked changes -/
theorem lc_fm {α : Type} {J : It} {n : Nat} {G : Hp → Prop} {Y : Nat → Hp → V → Hp → Prop} (w : Walk J n G Y) {g : TG} {tt : TT} {te : TE} {vs : List Nat} {σ : L2.St} {H1 : Hp} {D : Addr} {Qd : Hp → Prop}
    (xs : List α) (f : α → Option V) (hn : xs.length = n) (few : n ≤ 100000) (nD : H1 D = none) (hG : ∀ H, Same H1 H → G H)
    (hs : ∀ i x a H H' (R : VK) (Rn : Hp → Prop), xs[i]? = some a → Same H1 H → Y i H x H' → (∀ H4 y, f a = some y → Same H H4 → R y H4) → (∀ H4, f a = none → Same H H4 → Rn H4) →
      g x (wipe σ vs) H' fun σ2 H2 => wipe σ2 vs = wipe σ vs ∧ tt σ2 H2 fun b H3 => if b = true then te σ2 H3 R else Rn H3)
    (hd : ∀ H, Same H1 H → H D = some (.lst (xs.filterMap f)) → Qd H) :
    ∃ W : Nat → Nat → Hp → Prop, (∃ m, W 0 m (upd H1 D (.lst []))) ∧ ∀ i m H, W i m H →
      (J.stop i H ∧ Qd H) ∨ (J.go i H ∧ ∃ Nx : Hp → Prop, (∀ H', Nx H' → ∃ m', m' < m ∧ W (i + 1) m' H') ∧ ∀ x H', J.yld i H x H' → g x (wipe σ vs) H' fun σ2 H2 => wipe σ2 vs = wipe σ vs ∧ tt σ2 H2 fun b H3 =>
        if b = true then te σ2 H3 fun y H4 => ∃ acc, H4 D = some (.lst acc) ∧ acc.length < sizeLine ∧ Nx (upd H4 D (.lst (acc ++ [y]))) else Nx H3) := by
  have len : ∀ i, ((List.range i).filterMap fun j => (xs[j]?).bind f).length ≤ i := fun i => by
    have := List.length_filterMap_le (fun j => (xs[j]?).bind f) (List.range i)
    rw [List.length_range] at this
    exact this
  refine lc_it w (fun i H => Same H1 H ∧ H D = some (.lst ((List.range i).filterMap fun j => (xs[j]?).bind f))) ⟨same_new nD, upd_same⟩ (fun i H _ p => hG H p.1) ?_ ?_
  · rintro i x H H' hi ⟨s, e⟩ y
    obtain ⟨a, ha⟩ : ∃ a, xs[i]? = some a := ⟨_, List.getElem?_eq_getElem (by omega)⟩
    refine hs i x a H H' _ _ ha s y (fun H4 z hz s4 => ?_) (fun H4 hz s4 => ?_)
    · refine ⟨_, s4 _ _ e, ?_, fun b o q => ?_, ?_⟩
      · have := len i
        rw [sizeLine_eq]
        omega
      · rw [upd_ne (ne_of_none q nD)]
        exact s4 _ _ (s _ _ q)
      · rw [upd_same, List.range_succ, List.filterMap_append]
        simp [ha, hz]
    · refine ⟨s.trans s4, ?_⟩
      rw [s4 _ _ e, List.range_succ, List.filterMap_append]
      simp [ha, hz]
  · rintro H ⟨s, e⟩
    refine hd H s ?_
    rw [e, ← hn, range_fm]
/-- what a comprehension over J asks -/
def LcR (J : It) (g : TG) (tt : TT) (te : TE) (vs : List Nat) (σ : L2.St) (H1 : Hp) (Q : VK) : Prop := ∀ D, H1 D = none → ∃ W : Nat → Nat → Hp → Prop, (∃ m, W 0 m (upd H1 D (.lst []))) ∧ ∀ i m H, W i m H →
  (J.stop i H ∧ Q (.ref D) H) ∨ (J.go i H ∧ ∃ Nx : Hp → Prop, (∀ H', Nx H' → ∃ m', m' < m ∧ W (i + 1) m' H') ∧ ∀ x H', J.yld i H x H' → g x (wipe σ vs) H' fun σ2 H2 => wipe σ2 vs = wipe σ vs ∧ tt σ2 H2 fun b H3 =>
    if b = true then te σ2 H3 fun y H4 => ∃ acc, H4 D = some (.lst acc) ∧ acc.length < sizeLine ∧ Nx (upd H4 D (.lst (acc ++ [y]))) else Nx H3)
/-- a list or a tuple -/
def Sq (K : PySem.W.Frag) (H : Hp) (a : Addr) (xs : List V) : Prop := SqL K H a xs ∨ SqT K H a xs
theorem sqT_same {K : PySem.W.Frag} {H H' : Hp} {a : Addr} {xs : List V} (e : Same H H') (h : SqT K H a xs) : SqT K H' a xs := by
  rcases h with (h | ⟨o, h⟩) | h
  · exact .inl (.inl (e _ _ h))
  · exact .inl (.inr ⟨o, e _ _ h⟩)
  · exact .inr h
theorem Sq.same {K : PySem.W.Frag} {H H' : Hp} {a : Addr} {xs : List V} (h : Sq K H a xs) (e : Same H H') : Sq K H' a xs := h.elim (fun h => .inl (e.seq h)) fun h => .inr (sqT_same e h)
theorem sqL_ext {K : PySem.W.Frag} {a l : Addr} {xs : List V} {H H' : Hp} (h : SqL K H l xs) (n : l ≠ a) (x : ExtP a H H') : SqL K H' l xs := by
  rcases h with (h | ⟨o, h⟩) | h
  · exact .inl (.inl (x _ _ n h))
  · exact .inl (.inr ⟨o, x _ _ n h⟩)
  · exact .inr h
theorem sqT_ext {K : PySem.W.Frag} {a l : Addr} {xs : List V} {H H' : Hp} (h : SqT K H l xs) (n : l ≠ a) (x : ExtP a H H') : SqT K H' l xs := by
  rcases h with (h | ⟨o, h⟩) | h
  · exact .inl (.inl (x _ _ n h))
  · exact .inl (.inr ⟨o, x _ _ n h⟩)
  · exact .inr h
theorem Sq.ext {K : PySem.W.Frag} {a l : Addr} {xs : List V} {H H' : Hp} (h : Sq K H l xs) (n : l ≠ a) (x : ExtP a H H') : Sq K H' l xs := h.elim (fun h => .inl (sqL_ext h n x)) fun h => .inr (sqT_ext h n x)
/-- for .. in x, x a name that holds a list or a tuple -/
def iSeq (K : PySem.W.Frag) (i : Nat) : TI := fun σ H R => ∃ a, σ[i]? = some (some (.ref a)) ∧ (((∃ xs, SqL K H a xs) ∧ R (Itl K a) H) ∨ ((∃ xs, SqT K H a xs) ∧ R (Itt K a) H))
theorem pi_seq {X : Cx} {tg e : Expr} {i : Nat} (h1 : PI X tg e (iList X.K (tVar i))) (h2 : PI X tg e (iTup X.K (tVar i))) : PI X tg e (iSeq X.K i) := by
  constructor
  rintro pins s σ H R I ⟨a, e, ⟨hx, hr⟩ | ⟨hx, hr⟩⟩
  · exact h1.run pins s σ H R I ⟨_, e, a, rfl, hx, hr⟩
  · exact h2.run pins s σ H R I ⟨_, e, a, rfl, hx, hr⟩
theorem lc_over {α : Type} {J : It} {G : Hp → Prop} {vs0 : List V} (w : Walk J vs0.length G (YAt vs0)) {g : TG} {tt : TT} {te : TE} {vs : List Nat} {σ : L2.St} {H1 : Hp} {Q : VK}
    (xs : List α) (e : α → V) (f : α → Option V) (hv : vs0 = xs.map e) (few : xs.length ≤ 100000) (hG : ∀ H, Same H1 H → G H)
    (hs : ∀ (i : Nat) b H (R : VK) (Rn : Hp → Prop), xs[i]? = some b → Same H1 H → (∀ H4 y, f b = some y → Same H H4 → R y H4) → (∀ H4, f b = none → Same H H4 → Rn H4) →
      g (e b) (wipe σ vs) H fun σ2 H2 => wipe σ2 vs = wipe σ vs ∧ tt σ2 H2 fun c H3 => if c = true then te σ2 H3 R else Rn H3)
    (hd : ∀ D H, H1 D = none → Same H1 H → H D = some (.lst (xs.filterMap f)) → Q (.ref D) H) : LcR J g tt te vs σ H1 Q := by
  intro D nD
  have hl : vs0.length = xs.length := by rw [hv, List.length_map]
  refine lc_fm w xs f (by rw [hl]) (by rw [hl]; exact few) nD hG ?_ (fun H s e => hd D H nD s e)
  rintro i x b H H' R Rn hb s ⟨rfl, hx⟩ k1 k2
  have : x = e b := by
    rw [hv, List.getElem?_map, hb] at hx
    exact (Option.some.inj hx).symm
  subst this
  exact hs i b _ R Rn hb s k1 k2
/-- a comprehension over a list or a tuple -/
theorem seq_lc {α : Type} {K : PySem.W.Frag} {a : Addr} {g : TG} {tt : TT} {te : TE} {vs : List Nat} {σ : L2.St} {H1 : Hp} {Q : VK}
    (xs : List α) (e : α → V) (f : α → Option V) (hq : Sq K H1 a (xs.map e)) (few : xs.length ≤ 100000)
    (hs : ∀ (i : Nat) b H (R : VK) (Rn : Hp → Prop), xs[i]? = some b → Same H1 H → (∀ H4 y, f b = some y → Same H H4 → R y H4) → (∀ H4, f b = none → Same H H4 → Rn H4) →
      g (e b) (wipe σ vs) H fun σ2 H2 => wipe σ2 vs = wipe σ vs ∧ tt σ2 H2 fun c H3 => if c = true then te σ2 H3 R else Rn H3)
    (hd : ∀ D H, H1 D = none → Same H1 H → H D = some (.lst (xs.filterMap f)) → Q (.ref D) H) :
    ((∃ zs, SqL K H1 a zs) ∧ LcR (Itl K a) g tt te vs σ H1 Q) ∨ ((∃ zs, SqT K H1 a zs) ∧ LcR (Itt K a) g tt te vs σ H1 Q) := by
  rcases hq with hq | hq
  · exact .inl ⟨⟨_, hq⟩, lc_over walk_list xs e f rfl few (fun H s => s.seq hq) hs hd⟩
  · exact .inr ⟨⟨_, hq⟩, lc_over walk_tup xs e f rfl few (fun H s => sqT_same s hq) hs hd⟩
/-- what is never come to -/
theorem ps_no {X : Cx} {st : Stmt} : PS X st (fun _ _ _ => False) := ⟨fun _ _ _ _ _ _ h => h.elim⟩
theorem pss_no {X : Cx} {st : List Stmt} : PSs X st (fun _ _ _ => False) := ⟨fun _ _ _ _ _ _ h => h.elim⟩
theorem pe_no {X : Cx} {e : Expr} : PE X e (fun _ _ _ => False) := ⟨fun _ _ _ _ _ _ h => h.elim⟩
theorem pt_no {X : Cx} {e : Expr} : PT X e (fun _ _ _ => False) := ⟨fun _ _ _ _ _ _ h => h.elim⟩
theorem pw_no {X : Cx} {e : Expr} : PW X e (fun _ _ _ => False) := ⟨fun _ _ _ _ _ _ _ h => h.elim⟩
theorem iteB {A B : Prop} {c : Bool} (h : c = false) (hb : B) : if c = true then A else B := by
  rw [h]
  exact iteF hb
theorem iteA {A B : Prop} {c : Bool} (h : c = true) (ha : A) : if c = true then A else B := by
  rw [h]
  exact iteT ha
end Lk
set_option Elab.async false
set_option linter.all false
set_option maxRecDepth 100000
set_option maxHeartbeats 4000000
/-! Part G: comprehensions whose items are made anew, each told by a relation. -/
namespace Lk
open PySem PySem.Spec PyProof.Rows L2
/-- what may be written in its place: lists, tables of code objects -/
inductive Mv : HO → Prop
  | lst (xs : List V) : Mv (.lst xs)
  | tbl (ps : Array Value) : Mv (.tbl ps)
/-- all but lists and tables stand -/
def Keep (H H' : Hp) : Prop := ∀ b o, H b = some o → (∀ _ : Unit, ¬ Mv o) → H' b = some o
theorem Keep.of {H H' : Hp} (s : Same H H') : Keep H H' := fun b o e _ => s b o e
theorem Keep.trans {H H1 H2 : Hp} (x : Keep H H1) (y : Keep H1 H2) : Keep H H2 := fun b o e n => y b o (x b o e n) n
theorem Keep.upd {H : Hp} {D : Addr} {xs : List V} {o : HO} (h : H D = some (.lst xs)) : Keep H (upd H D o) := fun b u e n => by
  have : b ≠ D := fun z => by
    rw [z, h] at e
    cases e
    exact n () (.lst _)
  rw [upd_ne this]
  exact e
theorem tYes_if (σ2 : L2.St) (H2 : Hp) (A B : Hp → Prop) : (tYes σ2 H2 fun c H3 => if c = true then A H3 else B H3) = A H2 := by
  show (if true = true then A H2 else B H2) = A H2
  rw [if_pos rfl]
theorem Paired.add {α β : Type} {R : α → β → Prop} : ∀ {xs : List α} {ys : List β} {x : α} {y : β}, Paired R xs ys → R x y → Paired R (xs ++ [x]) (ys ++ [y])
  | _, _, _, _, .nil, h => .cons h .nil
  | _, _, _, _, .cons a t, h => .cons a (Paired.add t h)
theorem lc_relQ {α β : Type} {J : It} {G : Hp → Prop} {vs0 : List V} (w : Walk J vs0.length G (YAt vs0)) {g : TG} {te : TE} {vs : List Nat} {σ : L2.St} {H1 : Hp} {D : Addr} {Qd : Hp → Prop} (nD : H1 D = none)
    (xs : List α) (e : α → V) (f : α → β) (Rel : Hp → V → β → Prop) (mono : ∀ H H' v b, Keep H H' → Rel H v b → Rel H' v b) (hv : vs0 = xs.map e) (few : xs.length ≤ 100000) (hG : ∀ H, Same H1 H → G H)
    (hs : ∀ (i : Nat) b H (R : VK), xs[i]? = some b → Same H1 H → (∀ H4 y, Same H H4 → Rel H4 y (f b) → R y H4) → g (e b) (wipe σ vs) H fun σ2 H2 => wipe σ2 vs = wipe σ vs ∧ te σ2 H2 R)
    (hd : ∀ H ts, Same H1 H → H D = some (.lst ts) → Paired (Rel H) ts (xs.map f) → Qd H) :
    ∃ W : Nat → Nat → Hp → Prop, (∃ m, W 0 m (upd H1 D (.lst []))) ∧ ∀ i m H, W i m H → (J.stop i H ∧ Qd H) ∨ (J.go i H ∧ ∃ Nx : Hp → Prop, (∀ H', Nx H' → ∃ m', m' < m ∧ W (i + 1) m' H') ∧ ∀ x H', J.yld i H x H' → g x (wipe σ vs) H' fun σ2 H2 => wipe σ2 vs = wipe σ vs ∧ tYes σ2 H2 fun b H3 =>
        if b = true then te σ2 H3 fun y H4 => ∃ acc, H4 D = some (.lst acc) ∧ acc.length < sizeLine ∧ Nx (upd H4 D (.lst (acc ++ [y]))) else Nx H3) := by
  have hl : vs0.length = xs.length := by rw [hv, List.length_map]
  refine lc_it w (fun j H => ∃ ts, H D = some (.lst ts) ∧ Paired (Rel H) ts ((xs.take j).map f) ∧ ts.length = j ∧ Same H1 H) ⟨[], upd_same, .nil, rfl, same_new nD⟩ (fun i H _ p => hG H (by obtain ⟨_, _, _, _, s⟩ := p; exact s)) ?_ ?_
  · rintro i x H H' hi ⟨ts, eD, pr, tl, s⟩ ⟨rfl, hx⟩
    obtain ⟨b, hb⟩ : ∃ b, xs[i]? = some b := ⟨_, List.getElem?_eq_getElem (by omega)⟩
    have ex : x = e b := by
      rw [hv, List.getElem?_map, hb] at hx
      exact (Option.some.inj hx).symm
    subst ex
    have z := hs i b _ (fun y H4 => ∃ acc, H4 D = some (.lst acc) ∧ acc.length < sizeLine ∧ ∃ ts, upd H4 D (.lst (acc ++ [y])) D = some (.lst ts) ∧ Paired (Rel (upd H4 D (.lst (acc ++ [y])))) ts ((xs.take (i + 1)).map f) ∧ ts.length = i + 1 ∧ Same H1 (upd H4 D (.lst (acc ++ [y])))) hb s fun H4 y s4 ry => by
      refine ⟨ts, s4 _ _ eD, by rw [sizeLine_eq]; omega, ts ++ [y], upd_same, ?_, by rw [List.length_append, tl]; rfl, fun c o ec => ?_⟩
      · have kp : Keep H4 (upd H4 D (.lst (ts ++ [y]))) := .upd (s4 _ _ eD)
        rw [List.take_add_one, hb, Option.toList_some, List.map_append]
        exact Paired.add (Paired.mapP pr fun v c r => mono _ _ _ _ ((Keep.of s4).trans kp) r) (mono _ _ _ _ kp ry)
      · rw [upd_ne (ne_of_none ec nD)]
        exact s4 _ _ (s _ _ ec)
    exact z
  · rintro H ⟨ts, eD, pr, tl, s⟩
    rw [hl, List.take_length] at pr
    exact hd H ts s eD pr
theorem lc_rel {α β : Type} {J : It} {G : Hp → Prop} {vs0 : List V} (w : Walk J vs0.length G (YAt vs0)) {g : TG} {te : TE} {vs : List Nat} {σ : L2.St} {H1 : Hp} {Q : VK}
    (xs : List α) (e : α → V) (f : α → β) (Rel : Hp → V → β → Prop) (mono : ∀ H H' v b, Keep H H' → Rel H v b → Rel H' v b) (hv : vs0 = xs.map e) (few : xs.length ≤ 100000) (hG : ∀ H, Same H1 H → G H)
    (hs : ∀ (i : Nat) b H (R : VK), xs[i]? = some b → Same H1 H → (∀ H4 y, Same H H4 → Rel H4 y (f b) → R y H4) → g (e b) (wipe σ vs) H fun σ2 H2 => wipe σ2 vs = wipe σ vs ∧ te σ2 H2 R)
    (hd : ∀ D H ts, H1 D = none → Same H1 H → H D = some (.lst ts) → Paired (Rel H) ts (xs.map f) → Q (.ref D) H) : LcR J g tYes te vs σ H1 Q := fun D nD =>
  lc_relQ w nD xs e f Rel mono hv few hG hs fun H ts s eD pr => hd D H ts nD s eD pr
end Lk
namespace Lk
open PySem PySem.Spec PyProof.Rows L2
/-- a walk whose turns are told of the heap alone: the clauses of a comprehension, outer or inner -/
theorem in_it {J : It} {n : Nat} {G : Hp → Prop} {Y : Nat → Hp → V → Hp → Prop} (w : Walk J n G Y) {C : (Hp → Prop) → V → Hp → Prop} {H0 : Hp} {E : Hp → Prop} (Pv : Nat → Hp → Prop) (h0 : Pv 0 H0) (hG : ∀ i H, i ≤ n → Pv i H → G H)
    (hs : ∀ i x H H', i < n → Pv i H → Y i H x H' → C (Pv (i + 1)) x H') (hd : ∀ H, Pv n H → E H) :
    ∃ W : Nat → Nat → Hp → Prop, (∃ m, W 0 m H0) ∧ ∀ j k H, W j k H → (J.stop j H ∧ E H) ∨ (J.go j H ∧ ∃ N : Hp → Prop, (∀ H', N H' → ∃ k', k' < k ∧ W (j + 1) k' H') ∧ ∀ x H', J.yld j H x H' → C N x H') := by
  refine ⟨fun i m H => m = n - i ∧ i ≤ n ∧ Pv i H, ⟨n, by simp, Nat.zero_le _, h0⟩, ?_⟩
  rintro i m H ⟨rfl, hi, p⟩
  have q := hG i H hi p
  by_cases lt : i < n
  · exact .inr ⟨w.goes i H lt q, Pv (i + 1), fun H' p' => ⟨n - (i + 1), by omega, rfl, lt, p'⟩, fun x H' y => hs i x H H' lt p (w.yields i H x H' lt q y)⟩
  · obtain rfl : i = n := by omega
    exact .inl ⟨w.stops H q, hd H p⟩
end Lk
namespace Lk
open PySem PySem.Spec PyProof.Rows L2
def KeepB (D : Addr) (H H' : Hp) : Prop := ∀ b o, b ≠ D → H b = some o → H' b = some o
/-- as lc_rel, for items that may be lists, but not the new list itself; Qd by the heap alone -/
theorem lc_relD {α β : Type} {J : It} {G : Hp → Prop} {vs0 : List V} (w : Walk J vs0.length G (YAt vs0)) {g : TG} {te : TE} {vs : List Nat} {σ : L2.St} {H1 : Hp} {D : Addr} {Qd : Hp → Prop}
    (xs : List α) (e : α → V) (f : α → β) (Rel : Hp → V → β → Prop) (nD : H1 D = none) (mono : ∀ H H' v b, KeepB D H H' → Rel H v b → Rel H' v b) (hv : vs0 = xs.map e) (few : xs.length ≤ 100000) (hG : ∀ H, Same H1 H → G H)
    (hs : ∀ (i : Nat) b H (R : VK), xs[i]? = some b → Same H1 H → H D ≠ none → (∀ H4 y, Same H H4 → Rel H4 y (f b) → R y H4) → g (e b) (wipe σ vs) H fun σ2 H2 => wipe σ2 vs = wipe σ vs ∧ te σ2 H2 R)
    (hd : ∀ H ts, Same H1 H → H D = some (.lst ts) → Paired (Rel H) ts (xs.map f) → Qd H) :
    ∃ W : Nat → Nat → Hp → Prop, (∃ m, W 0 m (upd H1 D (.lst []))) ∧ ∀ i m H, W i m H → (J.stop i H ∧ Qd H) ∨ (J.go i H ∧ ∃ Nx : Hp → Prop, (∀ H', Nx H' → ∃ m', m' < m ∧ W (i + 1) m' H') ∧ ∀ x H', J.yld i H x H' → g x (wipe σ vs) H' fun σ2 H2 => wipe σ2 vs = wipe σ vs ∧ tYes σ2 H2 fun b H3 =>
        if b = true then te σ2 H3 fun y H4 => ∃ acc, H4 D = some (.lst acc) ∧ acc.length < sizeLine ∧ Nx (upd H4 D (.lst (acc ++ [y]))) else Nx H3) := by
  have hl : vs0.length = xs.length := by rw [hv, List.length_map]
  refine lc_it w (fun j H => ∃ ts, H D = some (.lst ts) ∧ Paired (Rel H) ts ((xs.take j).map f) ∧ ts.length = j ∧ Same H1 H) ⟨[], upd_same, .nil, rfl, same_new nD⟩ (fun i H _ p => hG H (by obtain ⟨_, _, _, _, s⟩ := p; exact s)) ?_ ?_
  · rintro i x H H' hi ⟨ts, eD, pr, tl, s⟩ ⟨rfl, hx⟩
    obtain ⟨b, hb⟩ : ∃ b, xs[i]? = some b := ⟨_, List.getElem?_eq_getElem (by omega)⟩
    have ex : x = e b := by
      rw [hv, List.getElem?_map, hb] at hx
      exact (Option.some.inj hx).symm
    subst ex
    have z := hs i b _ (fun y H4 => ∃ acc, H4 D = some (.lst acc) ∧ acc.length < sizeLine ∧ ∃ ts, upd H4 D (.lst (acc ++ [y])) D = some (.lst ts) ∧ Paired (Rel (upd H4 D (.lst (acc ++ [y])))) ts ((xs.take (i + 1)).map f) ∧ ts.length = i + 1 ∧ Same H1 (upd H4 D (.lst (acc ++ [y])))) hb s (by rw [eD]; simp) fun H4 y s4 ry => by
      refine ⟨ts, s4 _ _ eD, by rw [sizeLine_eq]; omega, ts ++ [y], upd_same, ?_, by rw [List.length_append, tl]; rfl, fun c o ec => ?_⟩
      · have kp : KeepB D H4 (upd H4 D (.lst (ts ++ [y]))) := fun c o nc ec => by rw [upd_ne nc]; exact ec
        have k4 : KeepB D H' H4 := fun c o _ ec => s4 _ _ ec
        rw [List.take_add_one, hb, Option.toList_some, List.map_append]
        exact Paired.add (Paired.mapP pr fun v c r => mono _ _ _ _ kp (mono _ _ _ _ k4 r)) (mono _ _ _ _ kp ry)
      · rw [upd_ne (ne_of_none ec nD)]
        exact s4 _ _ (s _ _ ec)
    exact z
  · rintro H ⟨ts, eD, pr, tl, s⟩
    rw [hl, List.take_length] at pr
    exact hd H ts s eD pr
end Lk
set_option Elab.async false
set_option linter.all false
set_option maxRecDepth 100000
set_option maxHeartbeats 4000000
/-! Part Lm: a lambda handed to a def that calls it where an error is caught; what is wished of the error is told at the slots. -/
namespace Lk
open PySem PySem.Spec PyProof.Rows L2 LamX
theorem Keep.extN {H H' : Hp} (x : ExtN H H') : Keep H H' := fun b o e n => x b o e fun ps z => by
  subst z
  exact n () (.tbl _)
/-- the code of a lambda, known by its name -/
abbrev lamQ (X : Cx) : Str := X.env.qual ++ "<lambda>"
section
variable {X : Cx} {pins : List (Addr × Obj)} {σ : L2.St} {H : Hp} {s : Shared}
/-- x(), in the def that got the lambda: as LamX.pe_act, but the wish is told at the slots -/
theorem act_at {Ng : List Str} {qg : Str} {sg : Scope} {g f cl : Addr} {cdg pm ctv : Value} {prs : Arguments} {body : Expr} {scope : Scope} {k i : Nat} {a : Str}
    {pn : List (Addr × Obj)} {xe : Value → Shared → Prop} {W : WX} {tb : XK → TE} {p1 p2 : Pos}
    (I : Inv X pins σ H s) (L : LamS X.env.scope scope)
    (there : s.heap.get? f = some (PySem.W.kla_obj "<lambda>" (lamQ X) prs body scope (cloFrom X.env.cells scope.names []) pm cl ctv))
    (untold : H f = none) (noframe : f ∉ frs X.stack)
    (nothing : bindArgs (PySem.W.kla_fn "<lambda>" (lamQ X) prs body scope (cloFrom X.env.cells scope.names []) pm (.ref cl) ctv) ⟨[], []⟩ = pure [])
    (tk : Takes ((cxOf C8.CX0 X.prog X.w X.K X.mg X.base Ng qg sg g cdg X.A X.stack s H C8.E0).tr pn xe) W)
    (room : Room (k + 1) (X.A.deeper (envOfC qg sg s.heap.objs.size g cdg)))
    (hb : ∀ (A : Around) (o : List Env) (s : Shared) (H : Hp) (E : XK), Room k (A.deeper (lamEnv X scope s.heap.objs.size f cl)) → PE (lamCx X A o s H E scope f cl) body (tb E))
    (hN : Ng[i]? = some a) (hv : Vis sg a) (hd : (a == ("__debug__" : Str)) = false := by decide) (hcd : (a == ("__classdict__" : Str)) = false := by decide) :
    PE ((cxOf C8.CX0 X.prog X.w X.K X.mg X.base Ng qg sg g cdg X.A X.stack s H C8.E0).tr pn xe) (.Call (.Name a p1) [] [] p2)
      (fun τ G Q => ∃ E : XK, (∀ cls d G', E cls d G' → W cls d τ G') ∧ τ[i]? = some (some (.ref f)) ∧ G cl = some (CodeO cl (lamQ X)) ∧ tb E σ G Q) := by
  constructor
  rintro pins' s0 τ G Q J ⟨E, hW, at0, hc, ht⟩
  refine wpAny_Call_Name_kw (thn ((pe_var (pos := p1) (i := i) hN hv hd hcd).run pins' s0 τ G (fun v G' => v = .ref f ∧ G' = G) J ⟨.ref f, at0, rfl, rfl⟩) ?_)
  rintro u s1 ⟨v, G1, J1, r1, rfl, rfl⟩
  cases (show u = Value.ref f from r1)
  have ob := J1.base.keep f _ there untold noframe (fun z => nomatch (show f ∈ ([] : List Addr) from z))
  refine PySem.W.callWith_F0 ⟨_, _, _, _, ob⟩ ?_
  have un : Un (frs X.stack) [] H G1 s.heap s1.heap := J1.base
  obtain ⟨⟨oc, vs, t, look, data, named⟩, _⟩ := J1.hok cl _ hc
  have ran : codeAny (model X.prog X.w) (X.A.deeper (envOfC qg sg s.heap.objs.size g cdg)) (.call (.ref f) ⟨[], []⟩)
      (CR (L2.CX X.prog X.w) (envOfC qg sg s.heap.objs.size g cdg :: X.stack) X.prog X.w G1 s1 Q E) s1 := by
    refine PySem.W.kla_callFunE room.depth ob rfl L.co L.gen rfl ⟨cl, oc, vs, t, rfl, look, data, named⟩ ?_
    rw [nothing]
    refine wpAny_pure (wpAny_newFunctionEnv (fun y hy => (L.own y hy).2) (fun y hy => absurd hy (by simp)) ?_ L.kind)
    intro h₁ names sb
    refine ⟨J1.nolimit.fresh _ sb, ?_⟩
    show codeAny _ _ (.expr body (lamEnv X scope s1.heap.objs.size f cl)) _ _
    have kept : ∀ b o, s1.heap.get? b = some o → h₁.get? b = some o := by
      intro b o e
      exact sb.extBut b o (Nat.ne_of_lt (Heap.lt_size e)) (Heap.get?_push_of_some _ e)
    have J2 : Inv (lamCx X (X.A.deeper (envOfC qg sg s.heap.objs.size g cdg)) (envOfC qg sg s.heap.objs.size g cdg :: X.stack) s1 G1 E scope f cl) [] σ G1
        { s1 with heap := h₁, toks := s1.toks + ([] : List (Str × Value)).length } := lam_start2 I L J1.env0 room.hd un names kept
    refine PySem.W.kla_codeExpr (wpAny_mono ((hb _ _ s1 G1 E (room.deeper _)).run [] _ _ G1 Q J2 ht) ?_ (fun _ _ y => y))
    rintro v s' ⟨w', G2, J3, rel, y⟩
    exact ⟨w', G2, J3.os, J3.bare, J3.base, J3.hok, rel, y⟩
  refine wpAny_call (codeAny_mono ran ?_)
  intro r s' y
  cases r with
  | error e => exact tk _ _ (XE.of_call J1 (fun cls d G' z => hW cls d G' z) y)
  | ok fl =>
    cases fl with
    | ret u => exact J1.after y
    | next => exact y.elim
    | brk => exact y.elim
    | cont => exact y.elim
end
/-- a def that calls what it got where an error is caught: a calls it; TT: what it makes of the lambda's reading -/
def HearsTo (X : Cx) (Ng : List Str) (x : Str) (sg : Scope) (g : Addr) (cdg : Value) (bg : List Stmt) (a q : Str) (TT : (XK → Hp → VK → Prop) → Hp → VK → Prop) : Prop :=
  ∀ (f cl : Addr) (s : Shared) (H : Hp) (Q : VK) (tl : XK → Hp → VK → Prop),
    (∀ (W : WX) (pn : List (Addr × Obj)) (xe : Value → Shared → Prop) (p1 p2 : Pos),
      Takes ((cxOf C8.CX0 X.prog X.w X.K X.mg X.base Ng x sg g cdg X.A X.stack s H C8.E0).tr pn xe) W →
      PE ((cxOf C8.CX0 X.prog X.w X.K X.mg X.base Ng x sg g cdg X.A X.stack s H C8.E0).tr pn xe) (.Call (.Name a p1) [] [] p2)
        (fun τ G Q => ∃ E : XK, (∀ cls d G', E cls d G' → W cls d τ G') ∧ τ[0]? = some (some (.ref f)) ∧ G cl = some (CodeO cl q) ∧ tl E G Q)) →
    H cl = some (CodeO cl q) → TT tl H Q →
    ∃ t, PSs (cxOf C8.CX0 X.prog X.w X.K X.mg X.base Ng x sg g cdg X.A X.stack s H C8.E0).nox bg t ∧ t { nx := fun _ H' => Q .non H', rt := Q } (L2.start Ng [.ref f]) H
section
variable {X : Cx}
/-- x(lambda: body), x hearing it -/
theorem pe_hear {T : List (Addr × Str)} {TT : (XK → Hp → VK → Prop) → Hp → VK → Prop} {x a : Str} {g c P : Addr} {k : Nat} {pg : Arguments} {bg : List Stmt} {sg : Scope}
    {dV kV doc pm cdv ct oc : Value} {an od : Option Addr} {osl : Array (Option Value)} {Ng : List Str} {prs : Arguments} {body : Expr} {scope : Scope} {t : XK → TE} {p lpos pos : Pos}
    (hg : Gl X x) (hm : X.mg x = some (.ref g)) (hk : PySem.W.keepIn X.K (.ref g) = true)
    (lk : X.K.lookup g = some ⟨oc, od, .func (PySem.W.fnOf x x pg bg sg dV kV doc pm an cdv ct), osl⟩) (code : PySem.W.codeIn X.K cdv x = true)
    (bd : L2.Binds X.K (PySem.W.fnOf x x pg bg sg dV kV doc pm an cdv ct) [a] []) (Sg : FnScope Ng [a] sg) (hN : Ng[0]? = some a) (hv : Vis sg a)
    (hears : HearsTo X Ng x sg g cdv bg a (lamQ X) TT)
    (TB : TabB X.base X.mg c P) (mine : X.env.code = .ref c) (told : (P, lamQ X) ∈ T) (sole : ∀ p ∈ T, p.1 = P → p.2 = lamQ X)
    (room : Room (k + 2) X.A) (L : LamS X.env.scope scope) (nodef : defaultsOf prs X.env = ([], []))
    (nothing : ∀ (q : Str) (cl : List (Str × Addr)) (pm cv ctv : Value), bindArgs (PySem.W.kla_fn "<lambda>" q prs body scope cl pm cv ctv) ⟨[], []⟩ = pure [])
    (hb : ∀ (A : Around) (o : List Env) (s : Shared) (H : Hp) (E : XK) (f cl : Addr), Room k (A.deeper (lamEnv X scope s.heap.objs.size f cl)) → PE (lamCx X A o s H E scope f cl) body (t E))
    (h1 : (x == ("__debug__" : Str)) = false := by decide) (h2 : (a == ("__debug__" : Str)) = false := by decide) (h3 : (a == ("__classdict__" : Str)) = false := by decide) :
    PE X (.Call (.Name x p) [.Lambda prs body scope lpos] [] pos) (tLam T TT t) := by
  constructor
  rintro pins s σ H Q I ⟨tabs, want⟩
  refine wpAny_Call_Name_kw (ld_glob I hg hm ?_ h1)
  refine PySem.W.callWith_K (h₀ := X.base) I.ok.mod.kin hk ?_ (by rfl) (by rfl)
  show wpAny _ _ (spliced ((false, eval (.Lambda prs body scope lpos) X.env) :: backTo pos (starEach [] X.env))) _ _ s
  refine Calls.spliced_cons (lam_make2 I TB mine told sole tabs nodef (L.has I.ok) ?_)
  intro f cl pm' ctv H1 s1 I1 grown tabs1 there untold noframe known
  refine Calls.spliced_nil ⟨I1.kIn, ?_⟩
  have ran : codeAny (model X.prog X.w) X.A (.call (.ref g) ⟨[.ref f], []⟩) (CR C8.CX0 X.stack X.prog X.w H1 s1 Q C8.E0) s1 := by
    refine run_ofS (N := Ng) (ps := [a]) (us := [.ref f]) (vs := [.ref f]) lk code Sg room I1.env0 (bd s1 [.ref f] I1.kIn rfl) (.cons rfl .nil) rfl (fun room' => ?_)
    obtain ⟨u, hu, hq⟩ := hears f cl s1 H1 Q (fun E G Q' => t E σ G Q')
      (fun W pn xe p1 p2 tk => act_at (i := 0) I1 L there untold noframe (nothing _ _ _ _ _) tk room' (fun A o s H E r => hb A o s H E f cl r) hN hv h2 h3) known (want H1 grown tabs1)
    exact ⟨u, hu.nox, hq⟩
  refine wpAny_call (codeAny_mono ran ?_)
  intro r s2 y
  cases r with
  | error e => exact (show False from y).elim
  | ok fl =>
    cases fl with
    | ret u => exact I1.after y
    | next => exact y.elim
    | brk => exact y.elim
    | cont => exact y.elim
end
end Lk
set_option Elab.async false
set_option linter.all false
set_option maxRecDepth 100000
set_option maxHeartbeats 4000000
/-! Part Gt: the end of a law whose text has one table of code objects. -/
namespace Lk
open PySem PySem.Spec PyProof.Rows L2 LamX
theorem gcallT {P : Program} {w : World} {K : PySem.W.Frag} {mg mb : Str → Option Value} {lev : Nat} {fa a c Tb : Addr} {fD : FuncData} {x : Str} {sp : Sp}
    {s0 : Shared} {vs : List Value} {ns : List Int} (KX : K.In s0.heap) (hns : s0.heap.Ns mainGlobals mg) (hb : s0.heap.Ns builtinsNs mb)
    (hbb : ∀ x : Str, x ≠ "__name__" → mb x = bootBuiltins x) (hlim : s0.heap.NoLimit) (hg : s0.gens = #[])
    (empty : s0.heap.get? Tb = some { cls := .none, data := .fields #[] }) (unseen : K.lookup Tb = none) (Cd : PySem.W.CodeHd s0.heap c Tb)
    (hbm : ∃ (bm : Addr) (ob : Obj), mg "__builtins__" = some (.ref bm) ∧ bm ≠ builtinsNs ∧ s0.heap.get? bm = some ob ∧ ob.cls = .type "module" ∧ ob.dict = some builtinsNs ∧ ob.data = .plain)
    (ha : s0.heap.get? a = some { cls := .type "list", data := .seq vs.toArray }) (hi : IntsAre vs ns) (hl : ns.length ≤ sizeLine) (room : Room lev callerA)
    (F : ∀ base : Heap, K.In base → base.Ns mainGlobals mg → TabB base mg c Tb → FnG P w K mg base lev fa fD [x] sp)
    (hbind : ∀ (s : Shared) (u : Value), BindsTo s fD ⟨[u], []⟩ [(x, u)])
    (hsp : ∀ H : Hp, H Tb = some (.tbl #[]) → SqL K H a (ns.map V.int) → sp [.ref a] H (fun v _ => v = .bl true) E0) :
    codeAny (model P w) callerA (.call (.ref fa) ⟨[.ref a], []⟩) (fun r s' => r = .ok (.ret (.bool true)) ∧ OldK s0.heap s'.heap ∧ s'.os = s0.os ∧ AllBare s'.gens) s0 := by
  have rv := vals_ints hi
  have lenV := hi.length
  have aT : a ≠ Tb := fun z => by
    rw [z, empty] at ha
    cases ha
  have main : ∀ H : Hp, H Tb = some (.tbl #[]) → (∀ b, H b = none ∨ b = Tb ∨ ∃ o xs, H b = some (.frz o (.lst xs))) → SqL K H a (ns.map V.int) → HOk P w H s0.heap → (∀ b, H b ≠ none → b = a ∨ b = Tb) → (H a ≠ none → K.lookup a = none) →
      codeAny (model P w) callerA (.call (.ref fa) ⟨[.ref a], []⟩) (fun r s' => r = .ok (.ret (.bool true)) ∧ OldK s0.heap s'.heap ∧ s'.os = s0.os ∧ AllBare s'.gens) s0 := by
    intro H hT hO hS hok hA hK
    have look : ∀ {b : Addr} {o : Obj}, s0.heap.get? b = some o → H b = none → (hidT s0.heap H).get? b = some o := by
      intro b o e n
      exact hidT_get e n
    have other : ∀ {b : Addr} {o : Obj}, s0.heap.get? b = some o → (∀ us n, o.data ≠ .seq us n) → o.data ≠ .fields #[] → H b = none := by
      intro b o e h1 h2
      cases q : H b with
      | none => rfl
      | some u =>
        rcases hA b (by rw [q]; simp) with z | z
        · subst z
          rw [ha] at e
          cases e
          exact absurd rfl (h1 _ _)
        · subst z
          rw [empty] at e
          cases e
          exact absurd rfl h2
    have noD : ∀ {b : Addr} {o : Obj} {es : Array DictEntry} {ep : Nat}, s0.heap.get? b = some o → o.data = .dict es ep → H b = none := by
      intro b o es ep e d
      exact other e (fun us n z => by rw [d] at z; cases z) (fun z => by rw [d] at z; cases z)
    have ns2 : ∀ {b : Addr} {m : Str → Option Value}, s0.heap.Ns b m → (hidT s0.heap H).Ns b m := by
      rintro b m ⟨o, es, ep, e, d, r⟩
      exact ⟨o, es, ep, look e (noD e d), d, r⟩
    have inB : K.In (hidT s0.heap H) := by
      intro b o e
      refine look (KX b o e) ?_
      cases q : H b with
      | none => rfl
      | some u =>
        rcases hA b (by rw [q]; simp) with z | z
        · subst z
          rw [hK (by rw [q]; simp)] at e
          cases e
        · subst z
          rw [unseen] at e
          cases e
    have lim2 : (hidT s0.heap H).NoLimit := by
      obtain ⟨mc, h1, h2⟩ := hlim
      exact ⟨mc, ns2 h1, h2⟩
    have TB : TabB (hidT s0.heap H) mg c Tb := by
      refine ⟨?_, ?_, ?_⟩
      · obtain ⟨o, us, file, tf, flags, tg, inF, text, tt, e1, r1, r2, r3, r4, r5, r6, r7, r8, r9⟩ := Cd
        refine ⟨o, us, file, tf, flags, tg, inF, text, tt, look e1 (other e1 ?_ ?_), r1, r2, r3, r4, r5, r6, r7, r8, r9⟩
        · intro us' n z
          rw [r2] at z
          cases z
        · intro z
          rw [r2] at z
          cases z
          simp at r3
      · obtain ⟨bm, ob, b1, b2, b3, b4, b5, b6⟩ := hbm
        refine ⟨bm, ob, b1, b2, ?_, ?_, look b3 (other b3 ?_ ?_), b4, b5, b6⟩
        · intro z
          obtain ⟨o, es, ep, e, d, _⟩ := hns
          rw [z, e] at b3
          cases b3
          rw [d] at b6
          cases b6
        · intro z
          rw [z, empty] at b3
          cases b3
          cases b6
        · intro us' n z
          rw [b6] at z
          cases z
        · intro z
          rw [b6] at z
          cases z
      · intro z
        obtain ⟨o, es, ep, e, d, _⟩ := hns
        rw [z, empty] at e
        cases e
        cases d
    have e0 : Env0 P w K mg (hidT s0.heap H) callerA [] s0 H :=
      ⟨rfl, ⟨inB, ns2 hns, ⟨mb, ns2 hb, hbb⟩, lim2⟩, fun b o e => of_hidT e, Nat.le_of_eq (hidT_size _ _), trivial,
        fun b hb => absurd (show b ∈ ([] : List Addr) from hb) (by simp), hok, .of_eq hg⟩
    refine codeAny_mono ((F _ inB (ns2 hns) TB).goes callerA [] s0 H ⟨[.ref a], []⟩ [.ref a] [.ref a] _ room rfl e0 (hbind s0 (.ref a)) (.cons rfl .nil) (hsp H hT hS)) ?_
    intro r s' h
    cases r with
    | error e => exact h.elim
    | ok fl =>
      cases fl with
      | next => exact False.elim h
      | brk => exact False.elim h
      | cont => exact False.elim h
      | ret u =>
        obtain ⟨v, H', os, bare, un, hok', r', q⟩ := h
        cases (show v = .bl true from q)
        cases (show u = Value.bool true from r')
        have stays : ∀ b o, b ≠ Tb → s0.heap.get? b = some o → s'.heap.get? b = some o := by
          intro b o nb e
          cases q : H b with
          | none => exact un.keep b o e q (fun z => absurd (show b ∈ ([] : List Addr) from z) (by simp)) (by simp)
          | some u =>
            rcases hO b with z | z | ⟨ob, xs, z⟩
            · rw [q] at z; cases z
            · exact absurd z nb
            · obtain ⟨e1, _⟩ := hok b _ z
              obtain ⟨e2, _⟩ := hok' b _ (un.frzs b ob _ z)
              rw [e] at e1
              cases e1
              exact e2
        obtain ⟨more, grew⟩ := un.tbls Tb #[] hT
        have now : s'.heap.get? Tb = some { cls := .none, data := .fields more } := by
          have y := hok' Tb _ grew
          rw [Array.empty_append] at y
          exact y
        refine ⟨rfl, ⟨?_, ?_⟩, os, bare⟩
        · intro b o e
          by_cases h : b = Tb
          · subst h
            rw [empty] at e
            cases e
            exact .inr (.inl ⟨(Cd.tab empty).isCodeTable, rfl, #[], more, rfl, by rw [Array.empty_append]; exact now⟩)
          · exact .inl (stays b o h e)
        · intro b o e
          by_cases h : b = Tb
          · subst h
            exact ⟨_, now⟩
          · exact ⟨o, stays b o h e⟩
  cases hk : K.lookup a with
  | some o =>
    have e := KX a o hk
    rw [ha] at e
    cases e
    refine main (fun b => if b = Tb then some (.tbl #[]) else none) (if_pos rfl) (fun b => ?_) (.inr ⟨_, vs.toArray, _, hk, rfl, rfl, rfl, by rw [List.size_toArray, lenV]; exact hl, by simpa using rv⟩) (fun b u z => ?_) (fun b z => ?_) (fun z => absurd (if_neg aT) z)
    · by_cases h : b = Tb
      · exact .inr (.inl h)
      · exact .inl (if_neg h)
    · by_cases h : b = Tb
      · have z' := (if_pos h).symm.trans z
        cases z'
        subst h
        exact empty
      · cases (if_neg h).symm.trans z
    · by_cases h : b = Tb
      · exact .inr h
      · exact absurd (if_neg h) z
  | none =>
    refine main (fun b => if b = a then some (.frz { cls := .type "list", data := .seq vs.toArray } (.lst (ns.map V.int))) else if b = Tb then some (.tbl #[]) else none) ?_ ?_ (.inl (.inr ⟨{ cls := .type "list", data := .seq vs.toArray }, if_pos rfl⟩)) ?_ ?_ (fun _ => hk)
    · exact (if_neg aT.symm).trans (if_pos rfl)
    · intro b
      by_cases h : b = a
      · exact .inr (.inr ⟨_, _, if_pos h⟩)
      · by_cases h2 : b = Tb
        · exact .inr (.inl h2)
        · exact .inl ((if_neg h).trans (if_neg h2))
    · intro b u z
      by_cases h : b = a
      · have z' := (if_pos h).symm.trans z
        cases z'
        subst h
        exact ⟨ha, by rw [List.length_map]; exact hl, vs, _, rv, ha⟩
      · have z1 := (if_neg h).symm.trans z
        by_cases h2 : b = Tb
        · have z' := (if_pos h2).symm.trans z1
          cases z'
          subst h2
          exact empty
        · cases (if_neg h2).symm.trans z1
    · intro b z
      by_cases h : b = a
      · exact .inl h
      · by_cases h2 : b = Tb
        · exact .inr h2
        · exact absurd ((if_neg h).trans (if_neg h2)) z
end Lk
set_option Elab.async false
set_option linter.all false
set_option maxRecDepth 100000
set_option maxHeartbeats 0
/-! Part Er: error classes of the text read off a head by a Bool. -/
namespace Lk
open PySem PySem.Spec PyProof.Rows L2
def lowA (K : PySem.W.Frag) : Addr := He.ga K "LotError"
def iniA (K : PySem.W.Frag) : Addr := He.ma K (lowA K) "__init__"
def slB (sl : List (Option Value)) : Bool := match sl with
  | [_, _, _, _, some (.builtin i), _] => decide (i = "ValueError.__new__")
  | _ => false
theorem slB_ok {sl : List (Option Value)} (h : slB sl = true) : ∃ m0 m1 m2 m3 m5, sl = [m0, m1, m2, m3, some (.builtin "ValueError.__new__"), m5] := by
  unfold slB at h
  split at h
  · obtain rfl := of_decide_eq_true h
    exact ⟨_, _, _, _, _, rfl⟩
  · cases h
def clsB (K : PySem.W.Frag) (C : Addr) (ms : List Value) : Bool := match K.lookup C with
  | some ⟨.type c, _, .cls cd, sl⟩ => decide (c = "type") && ((cd.mro == .ref C :: ms) && (cd.hasDict && (!cd.hasDel && slB sl.toList)))
  | _ => false
def rowB (K : PySem.W.Frag) (ms : List Value) (x : Str) : Bool :=
  He.eqO (PySem.W.nsIn K mainGlobals x) (some (some (.ref (He.ga K x)))) && (clsB K (He.ga K x) ms && (He.eqO (PySem.W.findIn K (.ref (He.ga K x)) "__setattr__") (some (some (.builtin "object.__setattr__")))
    && (He.eqO (PySem.W.findIn K (.ref (He.ga K x)) "__getattribute__") (some (some (.builtin "BaseException.__getattribute__"))) && (He.eqO (PySem.W.findIn K (.ref (He.ga K x)) "__getattr__") (some none)
    && (He.eqO (PySem.W.findIn K (.ref (He.ga K x)) "value") (some none) && (He.eqO (PySem.W.findIn K (.ref (He.ga K x)) "__init__") (some (some (.ref (iniA K))))
    && (He.eqO (PySem.W.findIn K (.ref (He.ga K x)) "__class__") (some (some (.builtin "object.__class__"))) && PySem.W.keepIn K (.ref (He.ga K x)))))))))
theorem clsB_ok {K : PySem.W.Frag} {C : Addr} {ms : List Value} (h : clsB K C ms = true) :
    ∃ nm q N bs sn su ab col dd m0 m1 m2 m3 m5, K.lookup C = some (excClassObj nm q C N bs ms true sn su ab col dd m0 m1 m2 m3 m5 "ValueError.__new__") := by
  unfold clsB at h
  cases z : K.lookup C with
  | none =>
    rw [z] at h
    cases h
  | some o =>
    obtain ⟨oc, od, dt, sl⟩ := o
    rw [z] at h
    cases oc with
    | type c =>
      cases dt with
      | cls cd =>
        obtain ⟨h1, h⟩ := He.ba h
        obtain ⟨h2, h⟩ := He.ba h
        obtain ⟨h3, h⟩ := He.ba h
        obtain ⟨h4, h5⟩ := He.ba h
        obtain ⟨nm, bs, mro, N, q, hdct, sn, su, ab, col, hdel⟩ := cd
        have e1 : c = "type" := of_decide_eq_true h1
        have e2 : mro = .ref C :: ms := beq_iff_eq.mp h2
        have e3 : hdct = true := h3
        have e4 : hdel = false := by simpa using h4
        subst e1 e2 e3 e4
        obtain ⟨sl⟩ := sl
        obtain ⟨m0, m1, m2, m3, m5, e5⟩ := slB_ok (show slB sl = true from h5)
        subst e5
        exact ⟨_, _, _, _, _, _, _, _, _, _, _, _, _, _, rfl⟩
      | _ => cases h
    | _ => cases dt <;> cases h
theorem rowB_ok {K : PySem.W.Frag} {h : Heap} {mg : Str → Option Value} (X : K.In h) (G : h.Ns mainGlobals mg) {x : Str} {ms : List Value} (hms : PySem.HandSPX.refsVE ms = true) (c : rowB K ms x = true) : ErRow K mg (iniA K) ms x (He.ga K x) := by
  obtain ⟨c1, c⟩ := He.ba c
  obtain ⟨c2, c⟩ := He.ba c
  obtain ⟨c3, c⟩ := He.ba c
  obtain ⟨c4, c⟩ := He.ba c
  obtain ⟨c5, c⟩ := He.ba c
  obtain ⟨c6, c⟩ := He.ba c
  obtain ⟨c7, c⟩ := He.ba c
  obtain ⟨c8, c9⟩ := He.ba c
  obtain ⟨nm, q, N, bs, sn, su, ab, col, dd, m0, m1, m2, m3, m5, xL⟩ := clsB_ok c2
  exact erRow_mk X G (He.eqO_ok c1) xL hms (He.eqO_ok c3) (He.eqO_ok c4) (He.eqO_ok c5) (He.eqO_ok c6) (He.eqO_ok c7) (He.eqO_ok c8) c9
end Lk
set_option Elab.async false
set_option linter.all false
set_option maxRecDepth 100000
set_option maxHeartbeats 0
namespace K6
open PySem PySem.Spec PyProof.Rows L2 Lk
/-! ### the head: what is looked at behind the top -/
def nxtO (o : Obj) : List Addr := match o.data with
  | .cls cd => [cd.ns]
  | .func fd => He.refV fd.code ++ He.refV fd.defaults
  | _ => []
def nxtD (o : Obj) : List Addr := match o.data with
  | .dict es _ => es.toList.flatMap fun e => He.refV e.val
  | _ => []
def step1 (n : Obj → List Addr) (g : Addr → Option Obj) (as : List Addr) : List Addr := as.flatMap fun a => match g a with
  | some o => n o
  | none => []
def as1 (g : Addr → Option Obj) : List Addr := step1 nxtD g [mainGlobals]
def as2 (g : Addr → Option Obj) : List Addr := step1 nxtO g (as1 g)
def as3 (g : Addr → Option Obj) : List Addr := step1 nxtD g (as2 g)
def as4 (g : Addr → Option Obj) : List Addr := step1 nxtO g (as3 g)
def asK (g : Addr → Option Obj) : List Addr := mainGlobals :: (as1 g ++ (as2 g ++ (as3 g ++ as4 g)))
theorem ba3 {a b c : Bool} (h : (a && (b && c)) = true) : a = true ∧ b = true ∧ c = true := by
  obtain ⟨h1, h2⟩ := He.ba h
  exact ⟨h1, He.ba h2⟩
def gC (K : PySem.W.Frag) : Addr := He.ga K "Circle"
def gS (K : PySem.W.Frag) : Addr := He.ga K "Shelf"
def erA (K : PySem.W.Frag) : Addr := He.ga K "NoHelp"
def exB (K : PySem.W.Frag) : Bool := rowB K veMro "LotError" && (rowB K (.ref (lowA K) :: veMro) "NoHelp" && (PySem.W.isFn K (.ref (iniA K)) && (He.eqO (PySem.W.specialIn K (.builtin "object.__class__") "__get__") (some (some (.builtin "getset_descriptor.__get__")))
  && (decide (PySem.W.takesIn K (.builtin "object.__class__") = some true) && decide (PySem.W.exmOne K (.ref (erA K)) (.ref (lowA K)) = some true)))))
def tfD : List He.Defn := [("_law_is_helping_right", none)]
def dx0 : He.DefD := ⟨("law", none), "law", "law", defArgs (top 117), defBody (top 117), defScope (top 117), [], []⟩
def dx1 : He.DefD := ⟨("_law_right", none), "_law_right", "_law_right", defArgs (top 116), defBody (top 116), defScope (top 116), [], []⟩
def dx2 : He.DefD := ⟨("_law_shelf", none), "_law_shelf", "_law_shelf", defArgs (top 96), defBody (top 96), defScope (top 96), [], []⟩
def dx3 : He.DefD := ⟨("_law_take", none), "_law_take", "_law_take", defArgs (top 82), defBody (top 82), defScope (top 82), [], []⟩
def dx4 : He.DefD := ⟨("_law_some", none), "_law_some", "_law_some", defArgs (top 84), defBody (top 84), defScope (top 84), [], []⟩
def dx5 : He.DefD := ⟨("_law_lot_of", none), "_law_lot_of", "_law_lot_of", defArgs (top 89), defBody (top 89), defScope (top 89), [], []⟩
def dx6 : He.DefD := ⟨("_law_names", none), "_law_names", "_law_names", defArgs (top 88), defBody (top 88), defScope (top 88), [], []⟩
def dx7 : He.DefD := ⟨("_law_piece", none), "_law_piece", "_law_piece", defArgs (top 95), defBody (top 95), defScope (top 95), [], []⟩
def dx8 : He.DefD := ⟨("_law_parts", none), "_law_parts", "_law_parts", defArgs (top 94), defBody (top 94), defScope (top 94), [], []⟩
def dx9 : He.DefD := ⟨("_law_shelf_of", none), "_law_shelf_of", "_law_shelf_of", defArgs (top 113), defBody (top 113), defScope (top 113), [], []⟩
def dx10 : He.DefD := ⟨("Shelf", some "__init__"), "__init__", "Shelf.__init__", defArgs (inClass (top 39) 0), defBody (inClass (top 39) 0), defScope (inClass (top 39) 0), [], []⟩
def dx11 : He.DefD := ⟨("_law_shelf_text", none), "_law_shelf_text", "_law_shelf_text", defArgs (top 97), defBody (top 97), defScope (top 97), [], []⟩
def dx12 : He.DefD := ⟨("Circle", some "__init__"), "__init__", "Circle.__init__", defArgs (inClass (top 24) 0), defBody (inClass (top 24) 0), defScope (inClass (top 24) 0), [], []⟩
def dx13 : He.DefD := ⟨("wrong_line", none), "wrong_line", "wrong_line", defArgs (top 22), defBody (top 22), defScope (top 22), [], []⟩
def dx14 : He.DefD := ⟨("stands_in_shelf", none), "stands_in_shelf", "stands_in_shelf", defArgs (top 42), defBody (top 42), defScope (top 42), [], []⟩
def dx15 : He.DefD := ⟨("is_name", none), "is_name", "is_name", defArgs (top 18), defBody (top 18), defScope (top 18), [], []⟩
def dx16 : He.DefD := ⟨("are_names", none), "are_names", "are_names", defArgs (top 19), defBody (top 19), defScope (top 19), [], []⟩
def dx17 : He.DefD := ⟨("is_parts_line", none), "is_parts_line", "is_parts_line", defArgs (top 43), defBody (top 43), defScope (top 43), [], []⟩
def dx18 : He.DefD := ⟨("is_piece_word", none), "is_piece_word", "is_piece_word", defArgs (top 44), defBody (top 44), defScope (top 44), [], []⟩
def dx19 : He.DefD := ⟨("is_whole_shelf", none), "is_whole_shelf", "is_whole_shelf", defArgs (top 45), defBody (top 45), defScope (top 45), [], []⟩
def dx20 : He.DefD := ⟨("read_pieces", none), "read_pieces", "read_pieces", defArgs (top 46), defBody (top 46), defScope (top 46), [], []⟩
def dx21 : He.DefD := ⟨("all_spots", none), "all_spots", "all_spots", defArgs (top 47), defBody (top 47), defScope (top 47), [], []⟩
def dx22 : He.DefD := ⟨("piece_at", none), "piece_at", "piece_at", defArgs (top 48), defBody (top 48), defScope (top 48), [], []⟩
def dx23 : He.DefD := ⟨("piece_code", none), "piece_code", "piece_code", defArgs (top 49), defBody (top 49), defScope (top 49), [], []⟩
def dx24 : He.DefD := ⟨("_law_less", none), "_law_less", "_law_less", defArgs (top 110), defBody (top 110), defScope (top 110), [], []⟩
def dx25 : He.DefD := ⟨("_law_a_lot", none), "_law_a_lot", "_law_a_lot", defArgs (top 93), defBody (top 93), defScope (top 93), [], []⟩
def dx26 : He.DefD := ⟨("mends", none), "mends", "mends", defArgs (top 70), defBody (top 70), defScope (top 70), [], []⟩
def dx27 : He.DefD := ⟨("refuse_keeper", none), "refuse_keeper", "refuse_keeper", defArgs (top 55), defBody (top 55), defScope (top 55), [], []⟩
def dx28 : He.DefD := ⟨("Circle", some "__contains__"), "__contains__", "Circle.__contains__", defArgs (inClass (top 24) 2), defBody (inClass (top 24) 2), defScope (inClass (top 24) 2), [], []⟩
def dx29 : He.DefD := ⟨("refuse_helpers", none), "refuse_helpers", "refuse_helpers", defArgs (top 74), defBody (top 74), defScope (top 74), [], []⟩
def dx30 : He.DefD := ⟨("is_lot", none), "is_lot", "is_lot", defArgs (top 26), defBody (top 26), defScope (top 26), [], []⟩
def dx31 : He.DefD := ⟨("first_lost", none), "first_lost", "first_lost", defArgs (top 76), defBody (top 76), defScope (top 76), [], []⟩
def dx32 : He.DefD := ⟨("spots_of", none), "spots_of", "spots_of", defArgs (top 58), defBody (top 58), defScope (top 58), [], []⟩
def dx33 : He.DefD := ⟨("reach", none), "reach", "reach", defArgs (top 60), defBody (top 60), defScope (top 60), [], []⟩
def dx34 : He.DefD := ⟨("span", none), "span", "span", defArgs (top 59), defBody (top 59), defScope (top 59), [], []⟩
def dx35 : He.DefD := ⟨("records", none), "records", "records", defArgs (top 51), defBody (top 51), defScope (top 51), [], []⟩
def dx36 : He.DefD := ⟨("all_bits", none), "all_bits", "all_bits", defArgs (top 21), defBody (top 21), defScope (top 21), [], []⟩
def dx37 : He.DefD := ⟨("is_hidden", none), "is_hidden", "is_hidden", defArgs (top 78), defBody (top 78), defScope (top 78), [], []⟩
def dx38 : He.DefD := ⟨("worth", none), "worth", "worth", defArgs (top 52), defBody (top 52), defScope (top 52), [], []⟩
def dx39 : He.DefD := ⟨("is_silent", none), "is_silent", "is_silent", defArgs (top 61), defBody (top 61), defScope (top 61), [], []⟩
def dx40 : He.DefD := ⟨("answer", none), "answer", "answer", defArgs (top 40), defBody (top 40), defScope (top 40), [], []⟩
def dx41 : He.DefD := ⟨("refuse_record", none), "refuse_record", "refuse_record", defArgs (top 56), defBody (top 56), defScope (top 56), [], []⟩
def dx42 : He.DefD := ⟨("are_bits", none), "are_bits", "are_bits", defArgs (top 20), defBody (top 20), defScope (top 20), [], []⟩
def dx43 : He.DefD := ⟨("is_record", none), "is_record", "is_record", defArgs (top 53), defBody (top 53), defScope (top 53), [], []⟩
def dx44 : He.DefD := ⟨("_law_is_mends_told", none), "_law_is_mends_told", "_law_is_mends_told", defArgs (top 112), defBody (top 112), defScope (top 112), [], []⟩
def dx45 : He.DefD := ⟨("_law_pieces_of", none), "_law_pieces_of", "_law_pieces_of", defArgs (top 108), defBody (top 108), defScope (top 108), [], []⟩
def dx46 : He.DefD := ⟨("_law_spots", none), "_law_spots", "_law_spots", defArgs (top 101), defBody (top 101), defScope (top 101), [], []⟩
def dx47 : He.DefD := ⟨("_law_piece_at", none), "_law_piece_at", "_law_piece_at", defArgs (top 102), defBody (top 102), defScope (top 102), [], []⟩
def dx48 : He.DefD := ⟨("_law_is_sum", none), "_law_is_sum", "_law_is_sum", defArgs (top 104), defBody (top 104), defScope (top 104), [], []⟩
def dx49 : He.DefD := ⟨("_law_is_int", none), "_law_is_int", "_law_is_int", defArgs (top 87), defBody (top 87), defScope (top 87), [.non], []⟩
def dx50 : He.DefD := ⟨("_law_comes", none), "_law_comes", "_law_comes", defArgs (top 103), defBody (top 103), defScope (top 103), [], []⟩
def dx51 : He.DefD := ⟨("_law_is_a_record", none), "_law_is_a_record", "_law_is_a_record", defArgs (top 111), defBody (top 111), defScope (top 111), [], []⟩
def dx52 : He.DefD := ⟨("_law_is_dark", none), "_law_is_dark", "_law_is_dark", defArgs (top 105), defBody (top 105), defScope (top 105), [], []⟩
def dx53 : He.DefD := ⟨("_law_piece_value", none), "_law_piece_value", "_law_piece_value", defArgs (top 99), defBody (top 99), defScope (top 99), [], []⟩
def dx54 : He.DefD := ⟨("shows_mends", none), "shows_mends", "shows_mends", defArgs (top 71), defBody (top 71), defScope (top 71), [], []⟩
def dx55 : He.DefD := ⟨("is_told", none), "is_told", "is_told", defArgs (top 17), defBody (top 17), defScope (top 17), [], []⟩
def dx56 : He.DefD := ⟨("is_row", none), "is_row", "is_row", defArgs (top 16), defBody (top 16), defScope (top 16), [], []⟩
def dx57 : He.DefD := ⟨("are_sums_for", none), "are_sums_for", "are_sums_for", defArgs (top 79), defBody (top 79), defScope (top 79), [], []⟩
def dx58 : He.DefD := ⟨("is_sum_of", none), "is_sum_of", "is_sum_of", defArgs (top 62), defBody (top 62), defScope (top 62), [], []⟩
def dx59 : He.DefD := ⟨("is_sum", none), "is_sum", "is_sum", defArgs (top 54), defBody (top 54), defScope (top 54), [], []⟩
def dx60 : He.DefD := ⟨("is_integer", none), "is_integer", "is_integer", defArgs (top 13), defBody (top 13), defScope (top 13), [], []⟩
def dx61 : He.DefD := ⟨("comes_to", none), "comes_to", "comes_to", defArgs (top 41), defBody (top 41), defScope (top 41), [], []⟩
def dx62 : He.DefD := ⟨("odd_parts", none), "odd_parts", "odd_parts", defArgs (top 50), defBody (top 50), defScope (top 50), [], []⟩
def dx63 : He.DefD := ⟨("is_number_of", none), "is_number_of", "is_number_of", defArgs (top 15), defBody (top 15), defScope (top 15), [], []⟩
def dx64 : He.DefD := ⟨("is_from_to", none), "is_from_to", "is_from_to", defArgs (top 14), defBody (top 14), defScope (top 14), [], []⟩
def dx65 : He.DefD := ⟨("made", none), "made", "made", defArgs (top 73), defBody (top 73), defScope (top 73), [], []⟩
def dx66 : He.DefD := ⟨("refuse_answers", none), "refuse_answers", "refuse_answers", defArgs (top 66), defBody (top 66), defScope (top 66), [], []⟩
def dx67 : He.DefD := ⟨("are_answers", none), "are_answers", "are_answers", defArgs (top 64), defBody (top 64), defScope (top 64), [], []⟩
def dx68 : He.DefD := ⟨("is_answer", none), "is_answer", "is_answer", defArgs (top 65), defBody (top 65), defScope (top 65), [], []⟩
def dx69 : He.DefD := ⟨("answered", none), "answered", "answered", defArgs (top 67), defBody (top 67), defScope (top 67), [], []⟩
def dx70 : He.DefD := ⟨("valued", none), "valued", "valued", defArgs (top 68), defBody (top 68), defScope (top 68), [], []⟩
def dx71 : He.DefD := ⟨("Circle", some "rest"), "rest", "Circle.rest", defArgs (inClass (top 24) 5), defBody (inClass (top 24) 5), defScope (inClass (top 24) 5), [], []⟩
def dx72 : He.DefD := ⟨("refuse_lot", none), "refuse_lot", "refuse_lot", defArgs (top 27), defBody (top 27), defScope (top 27), [], []⟩
def dx73 : He.DefD := ⟨("less", none), "less", "less", defArgs (top 29), defBody (top 29), defScope (top 29), [], []⟩
def dx74 : He.DefD := ⟨("_law_of", none), "_law_of", "_law_of", defArgs (top 83), defBody (top 83), defScope (top 83), [], []⟩
def dx75 : He.DefD := ⟨("_law_records", none), "_law_records", "_law_records", defArgs (top 98), defBody (top 98), defScope (top 98), [], []⟩
def dx76 : He.DefD := ⟨("_law_answer", none), "_law_answer", "_law_answer", defArgs (top 100), defBody (top 100), defScope (top 100), [], []⟩
def dx77 : He.DefD := ⟨("_law_is_helping_right", none), "_law_is_helping_right", "_law_is_helping_right", defArgs (top 115), defBody (top 115), defScope (top 115), [], []⟩
def dx78 : He.DefD := ⟨("LotError", some "__init__"), "__init__", "LotError.__init__", defArgs (inClass (top 1) 0), defBody (inClass (top 1) 0), defScope (inClass (top 1) 0), [], []⟩
def dx79 : He.DefD := ⟨("_law_heard", none), "_law_heard", "_law_heard", defArgs (top 86), defBody (top 86), defScope (top 86), [], []⟩
def dx80 : He.DefD := ⟨("helping", none), "helping", "helping", defArgs (top 72), defBody (top 72), defScope (top 72), [], []⟩
def dx81 : He.DefD := ⟨("refuse_no_help", none), "refuse_no_help", "refuse_no_help", defArgs (top 75), defBody (top 75), defScope (top 75), [], []⟩
def dx82 : He.DefD := ⟨("lots", none), "lots", "lots", defArgs (top 25), defBody (top 25), defScope (top 25), [], []⟩
def dx83 : He.DefD := ⟨("Circle", some "__len__"), "__len__", "Circle.__len__", defArgs (inClass (top 24) 1), defBody (inClass (top 24) 1), defScope (inClass (top 24) 1), [], []⟩
def dx84 : He.DefD := ⟨("makes", none), "makes", "makes", defArgs (top 77), defBody (top 77), defScope (top 77), [], []⟩
def dx85 : He.DefD := ⟨("least_of", none), "least_of", "least_of", defArgs (top 31), defBody (top 31), defScope (top 31), [], []⟩
def dx86 : He.DefD := ⟨("has_one", none), "has_one", "has_one", defArgs (top 33), defBody (top 33), defScope (top 33), [], []⟩
def dx87 : He.DefD := ⟨("first_within", none), "first_within", "first_within", defArgs (top 32), defBody (top 32), defScope (top 32), [], []⟩
def dx88 : He.DefD := ⟨("is_within", none), "is_within", "is_within", defArgs (top 28), defBody (top 28), defScope (top 28), [], []⟩
def dx89 : He.DefD := ⟨("_law_first_lost", none), "_law_first_lost", "_law_first_lost", defArgs (top 109), defBody (top 109), defScope (top 109), [], []⟩
def dx90 : He.DefD := ⟨("_law_do_make", none), "_law_do_make", "_law_do_make", defArgs (top 107), defBody (top 107), defScope (top 107), [], []⟩
def dx91 : He.DefD := ⟨("_law_dark_records", none), "_law_dark_records", "_law_dark_records", defArgs (top 106), defBody (top 106), defScope (top 106), [], []⟩
def dx92 : He.DefD := ⟨("_law_is_raised", none), "_law_is_raised", "_law_is_raised", defArgs (top 114), defBody (top 114), defScope (top 114), [], []⟩
def dx93 : He.DefD := ⟨("_law_all_lots", none), "_law_all_lots", "_law_all_lots", defArgs (top 91), defBody (top 91), defScope (top 91), [], []⟩
def dx94 : He.DefD := ⟨("_law_least_lots", none), "_law_least_lots", "_law_least_lots", defArgs (top 92), defBody (top 92), defScope (top 92), [], []⟩
def dx95 : He.DefD := ⟨("_law_is_inside", none), "_law_is_inside", "_law_is_inside", defArgs (top 90), defBody (top 90), defScope (top 90), [], []⟩
def dx96 : He.DefD := ⟨("_law_cells", none), "_law_cells", "_law_cells", defArgs (top 85), defBody (top 85), defScope (top 85), [], []⟩
def dx97 : He.DefD := ⟨("_law_pot", none), "_law_pot", "_law_pot", defArgs (top 81), defBody (top 81), defScope (top 81), [], []⟩
def fn : List He.DefD := [dx0, dx1, dx2, dx3, dx4, dx5, dx6, dx7, dx8, dx9, dx10, dx11, dx12, dx13, dx14, dx15, dx16, dx17, dx18, dx19, dx20, dx21, dx22, dx23, dx24, dx25, dx26, dx27, dx28, dx29, dx30, dx31, dx32, dx33, dx34, dx35, dx36, dx37, dx38, dx39, dx40, dx41, dx42, dx43, dx44, dx45, dx46, dx47, dx48, dx49, dx50, dx51, dx52, dx53, dx54, dx55, dx56, dx57, dx58, dx59, dx60, dx61, dx62, dx63, dx64, dx65, dx66, dx67, dx68, dx69, dx70, dx71, dx72, dx73, dx74, dx75, dx76, dx77, dx78, dx79, dx80, dx81, dx82, dx83, dx84, dx85, dx86, dx87, dx88, dx89, dx90, dx91, dx92, dx93, dx94, dx95, dx96, dx97]
def fa : List He.Fa := [.glo "law", .glo "_law_right", .glo "_law_shelf", .glo "_law_take", .glo "_law_some", .glo "_law_lot_of", .glo "_law_names", .glo "_law_piece", .glo "_law_parts", .glo "_law_shelf_of", .glo "_law_shelf_text", .glo "wrong_line", .glo "stands_in_shelf", .glo "is_name", .glo "are_names", .glo "is_parts_line", .glo "is_piece_word", .glo "is_whole_shelf", .glo "read_pieces", .glo "all_spots", .glo "piece_at", .glo "piece_code", .glo "_law_less", .glo "_law_a_lot", .glo "mends", .glo "refuse_keeper", .glo "refuse_helpers", .glo "is_lot", .glo "first_lost", .glo "spots_of", .glo "reach", .glo "span", .glo "records", .glo "all_bits", .glo "is_hidden", .glo "worth", .glo "is_silent", .glo "answer", .glo "refuse_record", .glo "are_bits", .glo "is_record", .glo "_law_is_mends_told", .glo "_law_pieces_of", .glo "_law_spots", .glo "_law_piece_at", .glo "_law_is_sum", .glo "_law_is_int", .glo "_law_comes", .glo "_law_is_a_record", .glo "_law_is_dark", .glo "_law_piece_value", .glo "shows_mends", .glo "is_told", .glo "is_row", .glo "are_sums_for", .glo "is_sum_of", .glo "is_sum", .glo "is_integer", .glo "comes_to", .glo "odd_parts", .glo "is_number_of", .glo "is_from_to", .glo "made", .glo "refuse_answers", .glo "are_answers", .glo "is_answer", .glo "answered", .glo "valued", .glo "refuse_lot", .glo "less", .glo "_law_of", .glo "_law_records", .glo "_law_answer", .glo "_law_is_helping_right", .glo "_law_heard", .glo "helping", .glo "refuse_no_help", .glo "lots", .glo "makes", .glo "least_of", .glo "has_one", .glo "first_within", .glo "is_within", .glo "_law_first_lost", .glo "_law_do_make", .glo "_law_dark_records", .glo "_law_is_raised", .glo "_law_all_lots", .glo "_law_least_lots", .glo "_law_is_inside", .glo "_law_cells", .glo "_law_pot", .glo "Circle", .glo "Shelf", .free "int", .free "abs", .free "len", .free "list", .free "range", .free "max", .free "min", .free "all", .free "any", .free "repr", .free "isinstance", .free "enumerate", .free "ValueError", .free "str", .free "tuple", .free "set", .free "sum", .free "sorted", .free "zip", .free "dict", .free "bool", .str "LETTERS" "abcdefghijklmnopqrstuvwxyz", .int "MOST_PARTS" 4, .int "LEAST_KEEPERS" 2, .int "MOST_KEEPERS" 6, .int "MOST_PIECES" 2, .cls "Circle", .cls "Shelf", .noat "Circle" "names", .noat "Shelf" "text", .noat "Shelf" "parts", .noat "Shelf" "circle", .noat "Shelf" "pieces", .noat "Shelf" "spots", .noat "Shelf" "codes", .mkr "Circle", .mkr "Shelf", .meth "Circle" "__contains__", .meth "Circle" "__len__", .meth "Circle" "rest"]
def Kg (g : Addr → Option Obj) : PySem.W.Frag := He.frT g (asK g)
def obK (g : Addr → Option Obj) : He.AlD × Bool := (He.obsD fa fn (Kg g), exB (Kg g) && He.tabsB g tfD (Kg g))
/-- what is told of the head's heap: facts, error classes, one table, empty and not in K -/
structure SaysY (h : Heap) (K : PySem.W.Frag) : Prop where
  d : He.obsD fa fn K = He.valD fn
  ex : exB K = true
  hd : PySem.W.codeHdIn K (He.cT K ("_law_is_helping_right", none)).1 (He.cT K ("_law_is_helping_right", none)).2 = true
  out : K.lookup (He.cT K ("_law_is_helping_right", none)).2 = none
  empty : h.get? (He.cT K ("_law_is_helping_right", none)).2 = some { cls := .none, data := .fields #[] }
theorem saysY_of {h : Heap} (e : obK h.get? = (He.valD fn, true)) : SaysY h (Kg h.get?) := by
  have e1 : He.obsD fa fn (Kg h.get?) = He.valD fn := congrArg (fun z : He.AlD × Bool => z.1) e
  have e2 : (exB (Kg h.get?) && He.tabsB h.get? tfD (Kg h.get?)) = true := congrArg (fun z : He.AlD × Bool => z.2) e
  obtain ⟨h1, h2⟩ := He.ba e2
  obtain ⟨h3, h4⟩ := He.ba (List.all_eq_true.mp h2 ("_law_is_helping_right", none) List.mem_cons_self)
  generalize hK : Kg h.get? = K at e1 h1 h3 h4 ⊢
  cases q : h.get? (He.cT K ("_law_is_helping_right", none)).2 with
  | none =>
    rw [q] at h4
    cases h4
  | some o =>
    rw [q] at h4
    refine ⟨e1, h1, h3, ?_, by rw [q, He.emptyTab_eq h4]⟩
    rw [← hK] at q ⊢
    exact He.frT_none q h4
def hk : PySem.W.Hook where
  α := He.AlD × Bool
  obs := fun s => obK s.heap.get?
  val := fun _ => (He.valD fn, true)
  says := fun _ h => ∃ K : PySem.W.Frag, K.In h ∧ SaysY h K
  of := fun _ _ e => ⟨_, He.frT_in, saysY_of e⟩
  keeps := fun _ _ _ ⟨K, hK, c⟩ k => ⟨K, PySem.W.Frag.In.keeps hK k, ⟨c.d, c.ex, c.hd, c.out, k _ _ c.empty⟩⟩
abbrev R0 : PySem.W.OpenRow := PySem.W.OpenLaw.row PySem.Challenge.rw_lotkeepers_k34_whole_pieces_made_anew
def ob (s : PySem.W.SharedT) : He.AlD × Bool := obK (HandSHeadRun.getT s)
theorem ob_eq (s : PySem.W.SharedT) : ob s = hk.obs s.abs := by
  have e : HandSHeadRun.getT s = s.abs.heap.get? := funext (HandSHeadRun.getT_eq s)
  show obK (HandSHeadRun.getT s) = obK s.abs.heap.get?
  rw [e]
def others0 : List Str := ["LotError", "BadNames", "BadLot", "BadShelf", "NoKeeper", "BadRecord", "BadSum", "BadAnswers", "BadHelpers", "NoHelp", "LETTERS", "is_integer", "is_from_to", "is_number_of", "is_row", "is_told", "is_name", "are_names", "are_bits", "all_bits", "wrong_line", "Circle", "lots", "is_lot", "refuse_lot", "is_within", "less", "least_of", "first_within", "has_one"]
def others1 : List Str := ["MOST_PARTS", "LEAST_KEEPERS", "MOST_KEEPERS", "MOST_PIECES", "Shelf", "answer", "comes_to", "stands_in_shelf", "is_parts_line", "is_piece_word", "is_whole_shelf", "read_pieces", "all_spots", "piece_at", "piece_code", "odd_parts", "records", "worth", "is_record", "is_sum", "refuse_keeper", "refuse_record", "spots_of", "span", "reach", "is_silent", "is_sum_of", "are_answers", "is_answer", "refuse_answers"]
def others2 : List Str := ["answered", "valued", "mends", "shows_mends", "helping", "made", "refuse_helpers", "refuse_no_help", "first_lost", "makes", "is_hidden", "are_sums_for", "_law_pot", "_law_take", "_law_of", "_law_some", "_law_cells", "_law_heard", "_law_is_int", "_law_names", "_law_lot_of", "_law_is_inside", "_law_all_lots", "_law_least_lots", "_law_a_lot", "_law_parts", "_law_piece", "_law_shelf", "_law_shelf_text", "_law_records"]
def others3 : List Str := ["_law_piece_value", "_law_answer", "_law_spots", "_law_piece_at", "_law_comes", "_law_is_sum", "_law_is_dark", "_law_dark_records", "_law_do_make", "_law_pieces_of", "_law_first_lost", "_law_less", "_law_is_a_record", "_law_is_mends_told", "_law_shelf_of", "_law_is_raised", "_law_is_helping_right", "_law_right"]
def others : List Str := others0 ++ others1 ++ others2 ++ others3
end K6
set_option Elab.async false
set_option linter.all false
set_option maxRecDepth 100000
set_option maxHeartbeats 0
namespace K6
open PySem PySem.Spec PyProof.Rows L2 Lk
theorem run (w : World) : HandSHeadRun.RunEq R0 (PySem.W.view R0.prog [117]) hk ob 13200 others w := by
  intro os
  kernel_rfl
end K6
set_option Elab.async false
set_option linter.all false
set_option maxRecDepth 100000
set_option maxHeartbeats 4000000
namespace K6
open PySem PySem.Spec PyProof.Rows L2 Lk
section
variable {P : Program} {w : World} {K : PySem.W.Frag} {mg : Str → Option Value} {base : Heap} {f : Addr} {fd : FuncData}
/-! ### _law_some -/
/-- ys are some of xs, each at its own place, in any sequence -/
def Sel {α : Type} (ys xs : List α) : Prop := ∃ zs, (ys ++ zs).Perm xs
theorem Sel.sub {α : Type} {ys xs : List α} (h : Sel ys xs) : ∀ y ∈ ys, y ∈ xs := fun y hy => by
  obtain ⟨zs, p⟩ := h
  exact p.mem_iff.mp (List.mem_append_left _ hy)
theorem Sel.nodup {α : Type} {ys xs : List α} (h : Sel ys xs) (n : xs.Nodup) : ys.Nodup := by
  obtain ⟨zs, p⟩ := h
  exact (p.nodup_iff.mpr n).sublist (List.sublist_append_left _ _)
theorem perm_erase {α : Type} : ∀ {xs : List α} {k : Nat} {y : α}, xs[k]? = some y → (y :: xs.eraseIdx k).Perm xs
  | [], _, _, h => by simp at h
  | x :: xs, 0, y, h => by simp at h; subst h; exact List.Perm.refl _
  | x :: xs, k + 1, y, h => by
    have := perm_erase (xs := xs) (k := k) (y := y) (by simpa using h)
    exact (List.Perm.swap x y _).trans (this.cons x)
def spSome (K : PySem.W.Frag) : Sp := fun vs H Q _ => ∃ (a l : Addr) (m : Int) (N : Nat) (xs : List V), vs = [.ref a, .ref l, .int m] ∧ PotAt a N H ∧ N + m.toNat ≤ 1000000 ∧ (SqL K H l xs ∨ SqT K H l xs) ∧ 0 ≤ m ∧ m ≤ xs.length ∧ xs.length ≤ 1000 ∧
  ∀ (ys : List V) (p : Addr) (H' : Hp), Sel ys xs → ys.length = m.toNat → ExtP a H H' → PotAt a (N + m.toNat) H' → H p = none → p ≠ sysModules → H' p = some (.lst ys) → Q (.ref p) H'
theorem scSome : FnScope ["pot", "pool", "amount", "rest_here", "found", "lap"] ["pot", "pool", "amount"] (defScope sSome) := ⟨rfl, rfl, rfl, by decide +kernel, rfl, by decide +kernel, by decide +kernel⟩
theorem ok_some {f1 : Addr} {fd1 : FuncData} (F : Fun K "_law_some" "_law_some" sSome f fd) (T : Bl mg) (F1 : Fun K "_law_take" "_law_take" sTake f1 fd1) (b1 : Binds K fd1 ["pot", "upto"] []) (m1 : mg "_law_take" = some (.ref f1)) :
    FnOk P w K mg base CX0 2 f fd ["pot", "pool", "amount"] (spSome K) := by
  have G1 : FnOk P w K mg base CX0 1 f1 fd1 ["pot", "upto"] spTake := ok_take F1 T
  refine F.ok scSome (fun vs H Q E h => ?_) (fun cdv A outer s H vs Q E hr h => ?_)
  · obtain ⟨a, l, m, N, xs, rfl, _⟩ := h
    rfl
  · obtain ⟨a, l, m, N, xs, rfl, hp, hN, hl, h0, h1, h2, k⟩ := h
    have nd := scSome.nd
    refine ⟨_, pss_cons (ps_par (i := 3) (j := 4) rfl nd rfl rfl (by decide) rfl rfl (by exact (pa_cons (pe_callTy call_list_of rfl T.list boot_list (pa_cons (pv 1) pa_nil)) (pa_cons (pe_lstN pa_nil) pa_nil))) rfl)
      (pss_cons (ps_for PassesOwn.never rfl (pi_range1 rfl T.range (pa_cons (pv 2) pa_nil)) (pg_name (i := 5) nd rfl (.inl rfl))
          (pss_one (ps_expr (pe_bm PySem.F.plainAttrs_list PySem.F.slot_list_append PySem.F.type_list_append mt_append (pv 4) (pa_cons (pe_bm PySem.F.plainAttrs_list PySem.F.slot_list_pop PySem.F.type_list_pop mt_popAt (pv 3)
            (pa_cons (pe_call G1 hr rfl m1 F1.kp b1 .nil pass0 (pa_cons (pv 0) (pa_cons (pe_callB call_len_seq (by rfl) T.len PySem.boot_len (pa_cons (pv 3) pa_nil)) pa_nil))) pa_nil)) pa_nil)))))
        (pss_one (ps_ret (pv 4)))), ?_⟩
    refine ⟨_, rfl, l, xs, rfl, hl, fun r nr => ?_⟩
    have s1 : Same H (upd H r (.lst xs)) := same_new nr
    refine ⟨Nat.zero_le _, fun q nq nsq => ⟨_, _, rfl, ?_⟩⟩
    have s2 : Same (upd H r (.lst xs)) (upd (upd H r (.lst xs)) q (.lst [])) := same_new nq
    have rq : r ≠ q := fun z => by rw [← z, upd_same] at nq; cases nq
    have nH : H q = none := by rw [upd_ne rq.symm] at nq; exact nq
    have hp2 := (hp.same s1).same s2
    have ra : r ≠ a := fun z => hp.ne (by rw [← z]; exact nr)
    have qa : q ≠ a := fun z => hp.ne (by rw [← z]; exact nH)
    refine ⟨_, rfl, m, rfl, by omega, by omega, for_range (lo := 0) (n := m.toNat) (fun i σ H' => ∃ (ys zs : List V) (u : Option V), σ = [some (.ref a), some (.ref l), some (.int m), some (.ref r), some (.ref q), u] ∧
        (ys ++ zs).Perm xs ∧ ys.length = i ∧ H' r = some (.lst zs) ∧ H' q = some (.lst ys) ∧ PotAt a (N + i) H' ∧ ∀ b o, b ≠ a → b ≠ r → b ≠ q → H b = some o → H' b = some o) ?_ ?_ ?_⟩
    · refine ⟨[], xs, none, rfl, List.Perm.refl _, rfl, by rw [upd_ne rq, upd_same], upd_same, hp2, fun b o _ nr nq e => by rw [upd_ne nq, upd_ne nr]; exact e⟩
    · rintro i σ H' hi ⟨ys, zs, u, rfl, pm, hy, er, eq, pt, ex⟩
      have lz : zs.length = xs.length - i := by
        have := pm.length_eq
        rw [List.length_append, hy] at this
        omega
      refine ⟨_, rfl, .inl ⟨rfl, _, SqL.of eq⟩, _, rfl, .inl ⟨rfl, _, SqL.of er⟩, _, rfl, _, rfl, r, _, rfl, .inl (SqL.of er), ?_⟩
      refine ⟨a, _, N + i, rfl, pt, by omega, by omega, by omega, fun j H2 j0 j1 x2 p2 => ?_⟩
      have er2 : H2 r = some (.lst zs) := x2 _ _ ra er
      have eq2 : H2 q = some (.lst ys) := x2 _ _ qa eq
      obtain ⟨y, hyj⟩ : ∃ y, zs[j.toNat]? = some y := ⟨_, List.getElem?_eq_getElem (by omega)⟩
      have sx : seqIndex? j zs.length = some j.toNat := by
        unfold seqIndex?
        rw [if_neg (show ¬ j < 0 by omega)]
        simp only [Bool.and_eq_true, decide_eq_true_eq]
        rw [if_pos ⟨by omega, by omega⟩]
      refine ⟨r, zs, j, j.toNat, y, rfl, rfl, er2, by omega, by omega, sx, hyj, ?_⟩
      have eq3 : upd H2 r (.lst (zs.eraseIdx j.toNat)) q = some (.lst ys) := by rw [upd_ne rq.symm]; exact eq2
      refine ⟨q, _, _, rfl, rfl, eq3, ?_, ?_⟩
      · rw [sizeLine_eq]; omega
      refine ⟨ys ++ [y], zs.eraseIdx j.toNat, _, rfl, ?_, by rw [List.length_append, hy]; rfl, ?_, upd_same, ?_, fun b o na nbr nbq e => ?_⟩
      · rw [List.append_assoc]
        exact ((List.Perm.append_left ys (perm_erase hyj)).trans pm)
      · rw [upd_ne rq, upd_same]
      · obtain ⟨o, b, c, e, r0⟩ := p2
        exact ⟨o, b, c, by rw [upd_ne qa.symm, upd_ne ra.symm]; exact e, r0⟩
      · rw [upd_ne nbq, upd_ne nbr]
        exact x2 b o na (ex b o na nbr nbq e)
    · rintro σ H' ⟨ys, zs, u, rfl, pm, hy, er, eq, pt, ex⟩
      refine ⟨_, rfl, k ys q H' ⟨zs, pm⟩ hy (fun b o na e => ex b o na (ne_of_none e nr) (ne_of_none e nH) e) pt nH nsq eq⟩
end
end K6
set_option Elab.async false
set_option linter.all false
set_option maxRecDepth 100000
set_option maxHeartbeats 4000000
/-! Part T: new tuples that have no dict of their own; their methods. -/
namespace Lk
open PySem PySem.Spec PyProof.Rows L2
/-- a new tuple that is known as an object: no dict -/
def TupX (H : Hp) (a : Addr) (xs : List V) : Prop := ∃ ob, H a = some (.frz ob (.tup xs)) ∧ ob.cls = .type "tuple" ∧ ob.dict = none
theorem TupX.sq {K : PySem.W.Frag} {H : Hp} {a : Addr} {xs : List V} (h : TupX H a xs) : SqT K H a xs := by
  obtain ⟨ob, e, _⟩ := h
  exact .inl (.inr ⟨ob, e⟩)
theorem TupX.same {H H' : Hp} {a : Addr} {xs : List V} (h : TupX H a xs) (s : Same H H') : TupX H' a xs := by
  obtain ⟨ob, e, r⟩ := h
  exact ⟨ob, s _ _ e, r⟩
/-- tuple(x), x a list: a new tuple without a dict -/
def kTupX (K : PySem.W.Frag) (x : V) (H : Hp) (Q : VK) : Prop := ∃ l xs, x = .ref l ∧ SqL K H l xs ∧ ∀ a H', H a = none → Same H H' → TupX H' a xs → Q (.ref a) H'
theorem pe_tupleX {X : Cx} {a : Expr} {ta : TE} {u pos : Pos} (hg : Gl X "tuple") (hm : X.mg "tuple" = none) (ha : PE X a ta) (na : starEach [a] X.env = (false, eval a X.env) :: starEach [] X.env := by rfl) :
    PE X (.Call (.Name "tuple" u) [a] [] pos) (tThen ta (kTupX X.K)) := by
  refine ⟨fun pins s σ H Q I h => Call_ (ld_blt I hg hm boot_tuple (callWith_type1 (one_arg ha I h (fun v s2 x H2 I2 r q => ?_) na) na rfl))⟩
  obtain ⟨l, xs, rfl, sq, q⟩ := q
  obtain rfl : v = .ref l := r
  obtain ⟨its, rv, pl, few⟩ := I2.list sq
  refine call_tuple_list pl.isList (fun h' keep => ?_) (by rw [List.size_toArray, ← rv.length] <;> exact few)
  have I3 : Inv X pins σ H2 { s2 with heap := h' } := I2.kept (t' := s2.toks) keep
  have at_ : (h'.push { cls := .type "tuple", data := .seq its.toArray }).get? h'.objs.size = some { cls := .type "tuple", data := .seq its.toArray } := Heap.get?_push_size _ rfl
  have I4 : Inv X pins σ (upd H2 h'.objs.size (.frz { cls := .type "tuple", data := .seq its.toArray } (.tup xs))) { s2 with heap := h'.push { cls := .type "tuple", data := .seq its.toArray } } :=
    I3.laid (t' := s2.toks) (fun b o e => Heap.get?_push_of_some _ e) (Nat.le_refl _) (show ObjOk X.prog X.w _ _ _ (.frz _ (.tup xs)) from ⟨at_, few, its, rv, IsTup.new _ _⟩)
  have fr := I3.hok.fresh (Nat.le_refl h'.objs.size)
  exact ⟨.ref h'.objs.size, _, I4, rfl, q _ _ fr (same_new fr) ⟨_, upd_same, rfl, rfl⟩⟩
/-- t.m(e ..), t such a tuple -/
def tBMX (r : V → List V → Hp → VK → Prop) (to : TE) (t : TA) : TE := fun σ H Q => to σ H fun x H1 => (∃ a xs, x = .ref a ∧ TupX H1 a xs) ∧ t σ H1 fun vs H2 => r x vs H2 Q
theorem pe_bmX {X : Cx} {o e : Expr} {es : List Expr} {to : TE} {t : TA} {name : Str} {apos cpos : Pos} {id : String} {r : V → List V → Hp → VK → Prop} (slot : Slot "tuple" name id) (hty : typeOf (.builtin id) = pure (.type "method_descriptor")) (hm : MtR X id r) (ho : PE X o to) (ha : PA X (e :: es) t)
    (hbase : attributeBase o name X.env (eval o X.env) = eval o X.env := by rfl)
    (hfew : ((backTo cpos (starEach (e :: es) X.env)).all (fun y => !y.1) && (backToKw cpos (keywordEach [] X.env)).all (fun y => y.1.isSome) && decide ((e :: es).length + ([] : List Keyword).length + (if ([] : List Keyword).isEmpty then 0 else 1) < 30)) = true := by rfl)
    (hline : (apos.endLine == cpos.line) = true := by rfl) (hs : starEach (e :: es) X.env = (false, eval e X.env) :: starEach es X.env := by rfl) (hpl : (backTo cpos (starEach es X.env)).any (·.1) = false := by rfl) : PE X (.Call (.Attribute o name apos) (e :: es) [] cpos) (tBMX r to t) := by
  refine ⟨fun pins s σ H Q I h => wpAny_Call_method_late hbase hfew hline rfl (thn (ho.run pins s σ H _ I h) fun v s1 ⟨x, H1, I1, r1, ⟨a, xs, ex, ob, ea, ec, ed⟩, q1⟩ => ?_)⟩
  subst ex
  obtain rfl : v = .ref a := r1
  obtain ⟨at_, _⟩ := (show ObjOk X.prog X.w H1 s1.heap a (.frz ob (.tup xs)) from I1.hok a _ ea)
  refine ⟨"tuple", id, PySem.F.plainAttrs_tuple, slot, hty, ⟨ob, at_, ec⟩, fun b e => ?_, ?_⟩
  · cases e
    exact ⟨ob, at_, ed⟩
  have go := ha.run cpos pins s1 σ H1 _ I1 q1
  rw [hs] at go ⊢
  refine Calls.callWith_builtin (by show (false || (backTo cpos (starEach es X.env)).any (·.1)) = false; rw [hpl] <;> rfl) (Calls.evalArgs_plain ?_)
  exact thn go fun us s2 ⟨vs, H2, I2, r2, q2⟩ => hm pins s2 σ H2 (.ref a) vs (.ref a) us Q I2 rfl r2 q2
end Lk
set_option Elab.async false
set_option linter.all false
set_option maxRecDepth 100000
set_option maxHeartbeats 4000000
namespace K6
open PySem PySem.Spec PyProof.Rows L2 Lk
abbrev sNames : Stmt := top 88
abbrev sLotOf : Stmt := top 89
abbrev sALot : Stmt := top 93
abbrev sParts : Stmt := top 94
abbrev sPiece : Stmt := top 95
theorem perm_map {α β : Type} {f : α → β} {l1 l2 : List β} (h : l1.Perm l2) : ∀ xs : List α, l2 = xs.map f → ∃ zs : List α, zs.Perm xs ∧ l1 = zs.map f := by
  induction h with
  | nil =>
    intro xs e
    have : xs = [] := List.map_eq_nil_iff.mp e.symm
    subst this
    exact ⟨[], List.Perm.refl _, rfl⟩
  | cons x _ ih =>
    intro xs e
    cases xs with
    | nil => cases e
    | cons a xs =>
      injection e with e1 e2
      obtain ⟨zs, p, q⟩ := ih xs e2
      exact ⟨a :: zs, p.cons a, by rw [List.map_cons, ← q, ← e1]⟩
  | swap x y l =>
    intro xs e
    match xs, e with
    | a :: b :: xs, e =>
      injection e with e1 e2
      injection e2 with e2 e3
      exact ⟨b :: a :: xs, List.Perm.swap a b xs, by rw [List.map_cons, List.map_cons, ← e1, ← e2, ← e3]⟩
  | trans _ _ ih1 ih2 =>
    intro xs e
    obtain ⟨ys, p, q⟩ := ih2 xs e
    obtain ⟨zs, p', q'⟩ := ih1 ys q
    exact ⟨zs, p'.trans p, q'⟩
theorem Sel.map {α β : Type} {f : α → β} {ys : List β} {xs : List α} (h : Sel ys (xs.map f)) : ∃ zs, ys = zs.map f ∧ Sel zs xs := by
  obtain ⟨rs, p⟩ := h
  obtain ⟨ws, q, e⟩ := perm_map p xs rfl
  have e1 : ys = (ws.take ys.length).map f := by rw [List.map_take, ← e, List.take_left]
  refine ⟨ws.take ys.length, e1, ws.drop ys.length, ?_⟩
  rw [List.take_append_drop]
  exact q
theorem inV_str (z : Str) : ∀ zs : List Str, inV (.str z) (zs.map V.str) = decide (z ∈ zs)
  | [] => rfl
  | y :: ys => by
    show (eqV (.str y) (.str z) || inV (.str z) (ys.map V.str)) = _
    rw [inV_str z ys]
    by_cases e : z = y
    · subst e
      simp [eqV]
    · have e' : ¬ y = z := fun q => e q.symm
      simp [eqV, e, e']
theorem flat_strs : ∀ zs : List Str, (zs.map V.str).all flatV = true
  | [] => rfl
  | _ :: ys => by
    show (true && (ys.map V.str).all flatV) = true
    rw [flat_strs ys]
    rfl
section
variable {P : Program} {w : World} {K : PySem.W.Frag} {mg : Str → Option Value} {base : Heap} {f : Addr} {fd : FuncData}
/-! ### _law_names -/
def namePool : List Str := ["a", "b", "c", "d", "e", "f", "keeper", "parts", "write", "ask", "zzzzzzzz", "x"]
def partPool : List Str := ["x", "y", "z", "w", "keeper", "a"]
def spNames : Sp := fun vs H Q _ => ∃ (a : Addr) (fw up : Int) (N : Nat), vs = [.ref a, .int fw, .int up] ∧ PotAt a N H ∧ N ≤ 100000 ∧ 0 ≤ fw ∧ fw ≤ up ∧ up ≤ 12 ∧
  ∀ (ys : List Str) (p : Addr) (H' : Hp), Sel ys namePool → fw ≤ ys.length → ys.length ≤ up → ExtP a H H' → PotAt a (N + 20) H' → H p = none → TupX H' p (ys.map V.str) → Q (.ref p) H'
theorem scNames : FnScope ["pot", "few", "upmost", "pool"] ["pot", "few", "upmost"] (defScope sNames) := ⟨rfl, rfl, rfl, by decide +kernel, rfl, by decide +kernel, by decide +kernel⟩
theorem ok_names {f1 f2 : Addr} {fd1 fd2 : FuncData} (F : Fun K "_law_names" "_law_names" sNames f fd) (T : Bl mg) (hT : mg "tuple" = none) (F1 : Fun K "_law_take" "_law_take" sTake f1 fd1) (b1 : Binds K fd1 ["pot", "upto"] []) (m1 : mg "_law_take" = some (.ref f1))
    (F2 : Fun K "_law_some" "_law_some" sSome f2 fd2) (b2 : Binds K fd2 ["pot", "pool", "amount"] []) (m2 : mg "_law_some" = some (.ref f2)) : FnOk P w K mg base CX0 3 f fd ["pot", "few", "upmost"] spNames := by
  have G1 : FnOk P w K mg base CX0 1 f1 fd1 ["pot", "upto"] spTake := ok_take F1 T
  have G2 : FnOk P w K mg base CX0 2 f2 fd2 ["pot", "pool", "amount"] (spSome K) := ok_some F2 T F1 b1 m1
  refine F.ok scNames (fun vs H Q E h => ?_) (fun cdv A outer s H vs Q E hr h => ?_)
  · obtain ⟨a, fw, up, N, rfl, _⟩ := h
    rfl
  · obtain ⟨a, fw, up, N, rfl, hp, hN, f0, fu, u12, k⟩ := h
    have nd := scNames.nd
    have hr1 : Room 1 _ := hr.mono (by decide)
    have hr2 : Room 2 _ := hr.mono (by decide)
    refine ⟨_, pss_cons (ps_set (i := 3) nd rfl (.inl rfl) (pe_lst (by exact (pa_cons pe_str (pa_cons pe_str (pa_cons pe_str (pa_cons pe_str (pa_cons pe_str (pa_cons pe_str (pa_cons pe_str (pa_cons pe_str (pa_cons pe_str (pa_cons pe_str (pa_cons pe_str (pa_cons pe_str pa_nil))))))))))))))
      ) (pss_one (ps_ret (pe_tupleX (by rfl) hT (pe_call G2 hr2 rfl m2 F2.kp b2 .nil pass0 (pa_cons (pv 0) (pa_cons (pv 3) (pa_cons (pe_op op_add (pv 1) (pe_call G1 hr1 rfl m1 F1.kp b1 .nil pass0 (pa_cons (pv 0) (pa_cons (pe_op op_add (pe_op op_sub (pv 2) (pv 1)) pe_int) pa_nil)))) pa_nil))))))), ?_⟩
    refine ⟨few_ok rfl, fun l nl => ?_⟩
    have s1 : Same H (upd H l (.lst (namePool.map V.str))) := same_new nl
    have hl : (upd H l (.lst (namePool.map V.str))) l = some (.lst (namePool.map V.str)) := upd_same
    have la : l ≠ a := fun z => hp.ne (by rw [← z]; exact nl)
    refine ⟨_, rfl, _, rfl, _, rfl, _, rfl, _, rfl, _, rfl, _, _, rfl, rfl, _, _, rfl, rfl, a, _, N, rfl, hp.same s1, by omega, by omega, by omega, fun i H2 i0 i1 x2 p2 => ?_⟩
    refine ⟨_, _, rfl, rfl, a, l, fw + i, N + 1, namePool.map V.str, rfl, p2, by omega, .inl (SqL.of (x2 _ _ la hl)), by omega, by show fw + i ≤ 12; omega, by decide, fun ys p H' sel hy ex pt np ns e => ?_⟩
    obtain ⟨zs, rfl, sz⟩ := sel.map
    rw [List.length_map] at hy
    refine ⟨p, _, rfl, SqL.of e, fun q H3 nq s3 tq => ?_⟩
    have X : ExtP a H H' := ((ExtP.of s1).trans x2).trans ex
    have qa : q ≠ a := fun z => pt.ne (by rw [← z]; exact nq)
    exact k zs q H3 sz (by omega) (by omega) (X.trans (.of s3)) ((pt.same s3).mono (by omega)) (by
      cases z : H q with
      | none => rfl
      | some u => rw [X _ _ qa z] at nq; cases nq) tq
theorem fm_if (q : Str → Prop) [DecidablePred q] : ∀ ps : List Str, ps.filterMap (fun x => if q x then some (V.str x) else none) = (ps.filter fun x => decide (q x)).map V.str
  | [] => rfl
  | p :: ps => by
    have ih := fm_if q ps
    by_cases h : q p
    · simp [List.filterMap_cons, List.filter_cons, h, ih]
    · simp [List.filterMap_cons, List.filter_cons, h, ih]
/-! ### _law_lot_of -/
def spLotOf (K : PySem.W.Frag) : Sp := fun vs H Q _ => ∃ (n s : Addr) (ns ss : List Str), vs = [.ref n, .ref s] ∧ Sq K H n (ns.map V.str) ∧ Sq K H s (ss.map V.str) ∧ ns.length ≤ 100 ∧
  ∀ p H', Same H H' → H p = none → H' p = some (.tup ((ns.filter fun p => decide (p ∈ ss)).map V.str)) → Q (.ref p) H'
theorem scLotOf : FnScope ["names", "some", "name"] ["names", "some"] (defScope sLotOf) := ⟨rfl, rfl, rfl, by decide +kernel, rfl, by decide +kernel, by decide +kernel⟩
theorem ok_lotOf (F : Fun K "_law_lot_of" "_law_lot_of" sLotOf f fd) (hT : mg "tuple" = none) : FnOk P w K mg base CX0 1 f fd ["names", "some"] (spLotOf K) := by
  refine F.ok scLotOf (fun vs H Q E h => ?_) (fun cdv A outer s H vs Q E hr h => ?_)
  · obtain ⟨n, q, ns, ss, rfl, _⟩ := h
    rfl
  · obtain ⟨n, q, ns, ss, rfl, hn, hs, n100, k⟩ := h
    have nd := scLotOf.nd
    refine ⟨_, pss_one (ps_ret (pe_tupleOf (by rfl) hT (pe_lc (own := [("name", 2)]) (g := gName 2) (tt := tTest (tOp (rIn K false) (tVar 2) (tVar 1))) rfl nd (pi_seq (pi_list (pv 0)) (pi_tup (pv 0))) (blkOk_by (N := ["names", "some", "name"]) (sc := defScope sLotOf) (by decide +kernel))
        (fun _ _ _ _ _ => pg_name (i := 2) nd rfl (Or.inl rfl)) (fun _ _ _ _ _ => pts_one (pt_cmpR op_in_seq (pv 2) (pv 1) rfl)) (fun _ _ _ _ _ => pv 2)))), ?_⟩
    refine ⟨n, rfl, seq_lc (Q := fun x H1 => kTup K x H1 Q) ns V.str (fun p => if p ∈ ss then some (V.str p) else none) hn (by omega) ?_ ?_⟩
    · intro j b H' R Rn hb s' k1 k2
      refine ⟨rfl, _, rfl, _, rfl, q, _, rfl, hs.same s', rfl, flat_strs _, _, rfl, ?_⟩
      rw [inV_str]
      by_cases hz : b ∈ ss
      · refine iteA (by simp [hz]) ?_
        exact ⟨_, rfl, k1 _ _ (by simp [hz]) (Same.refl _)⟩
      · refine iteB (by simp [hz]) ?_
        exact k2 _ (by simp [hz]) (Same.refl _)
    · intro D H' nD s' e
      rw [fm_if] at e
      exact .inl ⟨D, _, rfl, SqL.of e, fun T nT => k T _ (s'.trans (same_new nT)) (s'.free nT) upd_same⟩
/-! ### _law_a_lot -/
theorem filter_sel {ns zs : List Str} (h : Sel zs ns) (nd : ns.Nodup) : (ns.filter fun p => decide (p ∈ zs)).length = zs.length := by
  have p : (ns.filter fun p => decide (p ∈ zs)).Perm zs := by
    refine (List.perm_ext_iff_of_nodup (nd.filter _) (h.nodup nd)).mpr fun x => ?_
    rw [List.mem_filter]
    constructor
    · intro q
      exact of_decide_eq_true q.2
    · intro q
      exact ⟨h.sub x q, decide_eq_true q⟩
  exact p.length_eq
def spALot (K : PySem.W.Frag) : Sp := fun vs H Q _ => ∃ (a n : Addr) (fw : Int) (N : Nat) (ns : List Str), vs = [.ref a, .ref n, .int fw] ∧ PotAt a N H ∧ N ≤ 100000 ∧ n ≠ a ∧ Sq K H n (ns.map V.str) ∧ ns.Nodup ∧ ns.length ≤ 12 ∧ 0 ≤ fw ∧ fw ≤ ns.length ∧
  ∀ (zs : List Str) (p : Addr) (H' : Hp), zs.Sublist ns → fw ≤ zs.length → ExtP a H H' → PotAt a (N + 20) H' → H p = none → H' p = some (.tup (zs.map V.str)) → Q (.ref p) H'
theorem scALot : FnScope ["pot", "names", "few"] ["pot", "names", "few"] (defScope sALot) := ⟨rfl, rfl, rfl, by decide +kernel, rfl, by decide +kernel, by decide +kernel⟩
theorem ok_aLot {f1 f2 f3 : Addr} {fd1 fd2 fd3 : FuncData} (F : Fun K "_law_a_lot" "_law_a_lot" sALot f fd) (T : Bl mg) (hT : mg "tuple" = none) (F1 : Fun K "_law_take" "_law_take" sTake f1 fd1) (b1 : Binds K fd1 ["pot", "upto"] []) (m1 : mg "_law_take" = some (.ref f1))
    (F2 : Fun K "_law_some" "_law_some" sSome f2 fd2) (b2 : Binds K fd2 ["pot", "pool", "amount"] []) (m2 : mg "_law_some" = some (.ref f2)) (F3 : Fun K "_law_lot_of" "_law_lot_of" sLotOf f3 fd3) (b3 : Binds K fd3 ["names", "some"] []) (m3 : mg "_law_lot_of" = some (.ref f3)) :
    FnOk P w K mg base CX0 3 f fd ["pot", "names", "few"] (spALot K) := by
  have G1 : FnOk P w K mg base CX0 1 f1 fd1 ["pot", "upto"] spTake := ok_take F1 T
  have G2 : FnOk P w K mg base CX0 2 f2 fd2 ["pot", "pool", "amount"] (spSome K) := ok_some F2 T F1 b1 m1
  have G3 : FnOk P w K mg base CX0 1 f3 fd3 ["names", "some"] (spLotOf K) := ok_lotOf F3 hT
  refine F.ok scALot (fun vs H Q E h => ?_) (fun cdv A outer s H vs Q E hr h => ?_)
  · obtain ⟨a, n, fw, N, ns, rfl, _⟩ := h
    rfl
  · obtain ⟨a, n, fw, N, ns, rfl, hp, hN, na, hn, nn, n12, f0, fn, k⟩ := h
    have nd := scALot.nd
    have hr1 : Room 1 _ := hr.mono (by decide)
    have hr2 : Room 2 _ := hr.mono (by decide)
    refine ⟨_, pss_one (ps_ret (pe_call G3 hr1 (by rfl) m3 F3.kp b3 .nil pass0 (pa_cons (pv 1) (pa_cons (pe_call G2 hr2 (by rfl) m2 F2.kp b2 .nil pass0 (pa_cons (pv 0) (pa_cons (pv 1) (pa_cons (pe_op op_add (pv 2) (pe_call G1 hr1 (by rfl) m1 F1.kp b1 .nil pass0 (pa_cons (pv 0)
        (pa_cons (pe_op op_add (pe_op op_sub (pe_callB call_len_seq (by rfl) T.len PySem.boot_len (pa_cons (pv 1) pa_nil)) (pv 2)) pe_int) pa_nil)))) pa_nil)))) pa_nil)))), ?_⟩
    refine ⟨_, rfl, _, rfl, _, rfl, _, rfl, _, rfl, _, rfl, n, _, rfl, hn, _, rfl, _, _, rfl, rfl, _, _, rfl, rfl, a, _, N, rfl, hp, by omega, by rw [List.length_map]; omega, by rw [List.length_map]; omega, fun i H2 i0 i1 x2 p2 => ?_⟩
    rw [List.length_map] at i1
    refine ⟨_, _, rfl, rfl, a, n, fw + i, N + 1, ns.map V.str, rfl, p2, by omega, hn.ext na x2, by omega, by rw [List.length_map]; omega, by rw [List.length_map]; omega, fun ys p H3 sel hy x3 p3 np nsp e => ?_⟩
    obtain ⟨zs, rfl, sz⟩ := sel.map
    rw [List.length_map] at hy
    refine ⟨n, p, ns, zs, rfl, (hn.ext na x2).ext na x3, .inl (SqL.of e), by omega, fun q H4 s4 nq eq => ?_⟩
    have X : ExtP a H H3 := x2.trans x3
    have qa : q ≠ a := fun z => p3.ne (by rw [← z]; exact nq)
    exact k _ q H4 List.filter_sublist (by rw [filter_sel sz nn]; omega) (X.trans (.of s4)) ((p3.same s4).mono (by omega)) (by
      cases z : H q with
      | none => rfl
      | some u => rw [X _ _ qa z] at nq; cases nq) eq
/-! ### _law_parts -/
def spParts : Sp := fun vs H Q _ => ∃ (a : Addr) (up : Int) (N : Nat), vs = [.ref a, .int up] ∧ PotAt a N H ∧ N ≤ 100000 ∧ 1 ≤ up ∧ up ≤ 4 ∧
  ∀ (ys : List Str) (p : Addr) (H' : Hp), Sel ys partPool → 1 ≤ ys.length → ys.length ≤ up → ExtP a H H' → PotAt a (N + 10) H' → H p = none → H' p = some (.tup (ys.map V.str)) → Q (.ref p) H'
theorem scParts : FnScope ["pot", "upmost"] ["pot", "upmost"] (defScope sParts) := ⟨rfl, rfl, rfl, by decide +kernel, rfl, by decide +kernel, by decide +kernel⟩
theorem ok_parts {f1 f2 : Addr} {fd1 fd2 : FuncData} (F : Fun K "_law_parts" "_law_parts" sParts f fd) (T : Bl mg) (hT : mg "tuple" = none) (F1 : Fun K "_law_take" "_law_take" sTake f1 fd1) (b1 : Binds K fd1 ["pot", "upto"] []) (m1 : mg "_law_take" = some (.ref f1))
    (F2 : Fun K "_law_some" "_law_some" sSome f2 fd2) (b2 : Binds K fd2 ["pot", "pool", "amount"] []) (m2 : mg "_law_some" = some (.ref f2)) : FnOk P w K mg base CX0 3 f fd ["pot", "upmost"] spParts := by
  have G1 : FnOk P w K mg base CX0 1 f1 fd1 ["pot", "upto"] spTake := ok_take F1 T
  have G2 : FnOk P w K mg base CX0 2 f2 fd2 ["pot", "pool", "amount"] (spSome K) := ok_some F2 T F1 b1 m1
  refine F.ok scParts (fun vs H Q E h => ?_) (fun cdv A outer s H vs Q E hr h => ?_)
  · obtain ⟨a, up, N, rfl, _⟩ := h
    rfl
  · obtain ⟨a, up, N, rfl, hp, hN, u1, u4, k⟩ := h
    have nd := scParts.nd
    have hr1 : Room 1 _ := hr.mono (by decide)
    have hr2 : Room 2 _ := hr.mono (by decide)
    refine ⟨_, pss_one (ps_ret (pe_tupleOf (by rfl) hT (pe_call G2 hr2 (by rfl) m2 F2.kp b2 .nil pass0 (pa_cons (pv 0) (pa_cons (pe_lst (by exact (pa_cons pe_str (pa_cons pe_str (pa_cons pe_str (pa_cons pe_str (pa_cons pe_str (pa_cons pe_str pa_nil))))))))
        (pa_cons (pe_op op_add pe_int (pe_call G1 hr1 (by rfl) m1 F1.kp b1 .nil pass0 (pa_cons (pv 0) (pa_cons (pv 1) pa_nil)))) pa_nil)))))), ?_⟩
    refine ⟨_, rfl, few_ok rfl, fun l nl => ⟨_, rfl, _, rfl, a, up, N, rfl, hp.same (same_new nl), by omega, by omega, by omega, fun i H1 i0 i1 x1 p1 => ?_⟩⟩
    have la : l ≠ a := fun z => hp.ne (by rw [← z]; exact nl)
    have hl1 : H1 l = some (.lst (partPool.map V.str)) := x1 _ _ la upd_same
    refine ⟨_, _, rfl, rfl, a, l, 1 + i, N + 1, partPool.map V.str, rfl, p1, by omega, .inl (SqL.of hl1), by omega, by show (1 : Int) + i ≤ 6; omega, by decide, fun ys pa H2 sel hy x2 p2 npa nspa epa => ?_⟩
    obtain ⟨ps, rfl, sp⟩ := sel.map
    rw [List.length_map] at hy
    refine .inl ⟨pa, _, rfl, SqL.of epa, fun q nq => ?_⟩
    have X : ExtP a H H2 := ((ExtP.of (same_new nl)).trans x1).trans x2
    have qa : q ≠ a := fun z => p2.ne (by rw [← z]; exact nq)
    exact k ps q _ sp (by omega) (by omega) (X.trans (.of (same_new nq))) ((p2.same (same_new nq)).mono (by omega)) (by
      cases z : H q with
      | none => rfl
      | some u => rw [X _ _ qa z] at nq; cases nq) upd_same
/-! ### _law_piece -/
/-- a piece: some parts, in their sequence -/
def PieceOk (ps piece : List Str) : Prop := piece ≠ [] ∧ piece = ps.filter fun p => decide (p ∈ piece)
def spPiece (K : PySem.W.Frag) : Sp := fun vs H Q _ => ∃ (a l : Addr) (N : Nat) (ps : List Str), vs = [.ref a, .ref l] ∧ PotAt a N H ∧ N ≤ 100000 ∧ Sq K H l (ps.map V.str) ∧ l ≠ a ∧
  0 < ps.length ∧ ps.length ≤ 4 ∧
  ∀ (piece : List Str) (p : Addr) (H' : Hp), PieceOk ps piece → ExtP a H H' → PotAt a (N + 10) H' → H p = none → H' p = some (.tup (piece.map V.str)) → Q (.ref p) H'
def tAmt (K : PySem.W.Frag) : TE := fun σ H Q => ∃ (a l : Addr) (N : Nat) (ps : List Str), σ[0]? = some (some (.ref a)) ∧ σ[1]? = some (some (.ref l)) ∧ PotAt a N H ∧ N ≤ 100000 ∧ Sq K H l (ps.map V.str) ∧ l ≠ a ∧ 0 < ps.length ∧ ps.length ≤ 4 ∧
  ∀ (n : Int) (H1 : Hp), 1 ≤ n → n ≤ ps.length → ExtP a H H1 → PotAt a (N + 2) H1 → Q (.int n) H1
theorem scPiece : FnScope ["pot", "parts", "amount"] ["pot", "parts"] (defScope sPiece) := ⟨rfl, rfl, rfl, by decide +kernel, rfl, by decide +kernel, by decide +kernel⟩
theorem ok_piece {f1 f2 f3 : Addr} {fd1 fd2 fd3 : FuncData} (F : Fun K "_law_piece" "_law_piece" sPiece f fd) (T : Bl mg) (hT : mg "tuple" = none) (F1 : Fun K "_law_take" "_law_take" sTake f1 fd1) (b1 : Binds K fd1 ["pot", "upto"] []) (m1 : mg "_law_take" = some (.ref f1))
    (F2 : Fun K "_law_some" "_law_some" sSome f2 fd2) (b2 : Binds K fd2 ["pot", "pool", "amount"] []) (m2 : mg "_law_some" = some (.ref f2)) (F3 : Fun K "_law_lot_of" "_law_lot_of" sLotOf f3 fd3) (b3 : Binds K fd3 ["names", "some"] []) (m3 : mg "_law_lot_of" = some (.ref f3)) :
    FnOk P w K mg base CX0 3 f fd ["pot", "parts"] (spPiece K) := by
  have G1 : FnOk P w K mg base CX0 1 f1 fd1 ["pot", "upto"] spTake := ok_take F1 T
  have G2 : FnOk P w K mg base CX0 2 f2 fd2 ["pot", "pool", "amount"] (spSome K) := ok_some F2 T F1 b1 m1
  have G3 : FnOk P w K mg base CX0 1 f3 fd3 ["names", "some"] (spLotOf K) := ok_lotOf F3 hT
  refine F.ok scPiece (fun vs H Q E h => ?_) (fun cdv A outer s H vs Q E hr h => ?_)
  · obtain ⟨a, l, N, ps, rfl, _⟩ := h
    rfl
  · obtain ⟨a, l, N, ps, rfl, hp, hN, hl, nla, p0, p4, k⟩ := h
    have nd := scPiece.nd
    have hr1 : Room 1 _ := hr.mono (by decide)
    have hr2 : Room 2 _ := hr.mono (by decide)
    refine ⟨_, pss_cons (ps_set (i := 2) nd rfl (.inl rfl) (pe_imp (t' := tAmt K) (pe_ifExp (pt_cmpR op_eq (pe_call G1 hr1 (by rfl) m1 F1.kp b1 .nil pass0 (pa_cons (pv 0) (pa_cons pe_int pa_nil))) pe_int (nomark _)) pe_int
          (pe_op op_add pe_int (pe_call G1 hr1 (by rfl) m1 F1.kp b1 .nil pass0 (pa_cons (pv 0) (pa_cons (pe_callB call_len_seq (by rfl) T.len PySem.boot_len (pa_cons (pv 1) pa_nil)) pa_nil))))) ?_))
      (pss_one (ps_ret (pe_call G3 hr1 (by rfl) m3 F3.kp b3 .nil pass0 (pa_cons (pv 1) (pa_cons (pe_call G2 hr2 (by rfl) m2 F2.kp b2 .nil pass0 (pa_cons (pv 0) (pa_cons (pv 1) (pa_cons (pv 2) pa_nil)))) pa_nil))))), ?_⟩
    · rintro σ H' Q' ⟨a, l, N, ps, e0, e1, hp, hN, hl, nla, p0, p4, q⟩
      refine ⟨_, e0, a, 2, N, rfl, hp, by omega, by decide, by decide, fun i H1 i0 i1 x1 p1 => ?_⟩
      refine ⟨rfl, _, rfl, ?_⟩
      refine ite2 (fun _ => q 1 H1 (by decide) (by omega) x1 (p1.mono (by omega))) (fun _ => ?_)
      refine ⟨_, e0, _, e1, l, _, rfl, hl.ext nla x1, a, _, N + 1, rfl, p1, by omega, by rw [List.length_map]; omega, by rw [List.length_map]; omega, fun j H2 j0 j1 x2 p2 => ?_⟩
      rw [List.length_map] at j1
      exact ⟨_, _, rfl, rfl, q _ H2 (by omega) (by omega) (x1.trans x2) p2⟩
    refine ⟨a, l, N, ps, rfl, rfl, hp, hN, hl, nla, p0, p4, fun n H1 n1 n2 x1 p1 => ?_⟩
    refine ⟨_, rfl, _, rfl, _, rfl, _, rfl, a, l, n, N + 2, ps.map V.str, rfl, p1, by omega, hl.ext nla x1, by omega, by rw [List.length_map]; omega, by rw [List.length_map]; omega, fun ys q H2 sel hy x2 p2 nq nsq eq => ?_⟩
    obtain ⟨zs, rfl, sz⟩ := sel.map
    rw [List.length_map] at hy
    have hl2 : Sq K H2 l (ps.map V.str) := (hl.ext nla x1).ext nla x2
    refine ⟨l, q, ps, zs, rfl, hl2, .inl (SqL.of eq), by omega, fun t H3 s3 nt et => ?_⟩
    have X : ExtP a H H2 := x1.trans x2
    have ta : t ≠ a := fun z => p2.ne (by rw [← z]; exact nt)
    refine k _ t H3 ⟨?_, ?_⟩ (X.trans (.of s3)) ((p2.same s3).mono (by omega)) (by
      cases z : H t with
      | none => rfl
      | some u => rw [X _ _ ta z] at nt; cases nt) et
    · intro z0
      match zs, hy, sz with
      | [], hy, _ => simp at hy; omega
      | y :: ys, _, sz =>
        have hy2 : y ∈ ps := sz.sub y List.mem_cons_self
        have : y ∈ ps.filter fun p => decide (p ∈ y :: ys) := List.mem_filter.mpr ⟨hy2, by simp⟩
        rw [z0] at this
        cases this
    · refine List.filter_congr fun p hp => ?_
      simp [List.mem_filter, hp]
end
end K6
set_option Elab.async false
set_option linter.all false
set_option maxRecDepth 100000
set_option maxHeartbeats 4000000
/-! Part E: == by an own __eq__, whatever it answers and whatever stands on the right. -/
namespace Lk
open PySem PySem.Spec PyProof.Rows L2
/-- x == y, x an instance of the class at C whose __eq__ keeps the promise sp -/
def rEqI (K : PySem.W.Frag) (C : Addr) (sp : Sp) : R2 := fun x y H Q => ∃ a dx fs t, x = .ref a ∧ H a = some (.ins C dx fs) ∧ TyX K H y t ∧ PySem.W.notFirst K C t = true ∧ sp [x, y] H (fun v H' => ∃ b, v = .bl b ∧ Q v H') E0
theorem op_eqI {X : Cx} {C f : Addr} {n : Nat} {fd : FuncData} {ps : List Str} {sp : Sp} (F : FnOk X.prog X.w X.K X.mg X.base CX0 n f fd ps sp) (hs : PySem.W.findIn X.K (.ref C) "__eq__" = some (some (.ref f))) (hf : PySem.W.isFn X.K (.ref f) = true) (hb : Binds X.K fd ps []) (hr : Room n X.A) :
    OpR X (compareOp .Eq) (rEqI X.K C sp) := by
  rintro pins s σ H x y v u Q I rx ry ⟨a, dx, fs, t, rfl, ha, ty, nf, hsp⟩
  obtain rfl : v = .ref a := rx
  obtain ⟨mA, J, _⟩ := ins_get I.hok ha
  obtain ⟨od, J, _⟩ := J.look
  obtain ⟨m, fr⟩ := I.fr
  obtain ⟨Z, kit, hZ, _⟩ := kit_of I ry ty
  show wpAny (model X.prog X.w) X.A (richCompare .Eq (.ref a) u) (EP X pins σ Q) X.xe s
  refine PySem.W.cmp_K (op := .Eq) (tb := t) hr.units0 fr I.ok.mod.kin J (kit.ty _ _ I.kIn hZ) nf hs hf ?_
  have rel : Vals [V.ref a, y] [Value.ref a, u] := .cons rfl (.cons ry .nil)
  have len := F.len _ _ _ _ hsp
  have bind := hb s [Value.ref a, u] I.kIn (by simpa using len)
  rw [List.append_nil] at bind
  refine wpAny_call (codeAny_mono (F.run X.A X.stack s H ⟨[.ref a, u], []⟩ [.ref a, u] [.ref a, y] _ E0 hr I.env0 bind rel hsp) fun r s' hq => ?_)
  cases r with
  | error e => exact hq.elim
  | ok fl =>
    cases fl with
    | ret w =>
      obtain ⟨z, H', J', rz, b, rfl, q⟩ := I.after hq
      cases rz
      exact ⟨.bl b, H', J', rfl, q⟩
    | next => exact False.elim hq
    | brk => exact False.elim hq
    | cont => exact False.elim hq
/-- the class at C has an own __eq__ at f, no __ne__, and no class above it but object -/
def NeC (K : PySem.W.Frag) (C f : Addr) : Prop := ∀ (h : Heap) (x : Addr) (o : Obj), K.In h → h.get? x = some o → o.cls = .ref C → h.OwnEqNoNe x C f "object" [.type "object"]
/-- x != y of two instances of such a class -/
def rNeI (C : Addr) (sp : Sp) : R2 := fun x y H Q => ∃ a b dx dy fs gs, x = .ref a ∧ y = .ref b ∧ H a = some (.ins C dx fs) ∧ H b = some (.ins C dy gs) ∧ sp [x, y] H (fun v H' => ∃ r, v = .bl r ∧ Q (.bl (!r)) H') E0
theorem op_neI {X : Cx} {C f : Addr} {n : Nat} {fd : FuncData} {ps : List Str} {sp : Sp} (F : FnOk X.prog X.w X.K X.mg X.base CX0 n f fd ps sp) (N : NeC X.K C f) (hb : Binds X.K fd ps []) (hr : Room (n + 1) X.A) : OpR X (compareOp .NotEq) (rNeI C sp) := by
  rintro pins s σ H x y v u Q I rx ry ⟨a, b, dx, dy, fs, gs, rfl, rfl, ha, hb2, hsp⟩
  obtain rfl : v = .ref a := rx
  obtain rfl : u = .ref b := ry
  obtain ⟨mA, J, _⟩ := ins_get I.hok ha
  obtain ⟨mB, J2, _⟩ := ins_get I.hok hb2
  obtain ⟨od, J, _⟩ := J.look
  obtain ⟨od2, J2, _⟩ := J2.look
  have sb : Sub X (n + 1) X.A := ⟨hr, rfl⟩
  have e := I.env0
  have e1 : Env0 X.prog X.w X.K X.mg X.base X.A.in1 X.stack s H := ⟨by rw [sb.in1.fr]; exact e.frames, e.mod, e.bs, e.bsz, e.funs, e.frf, e.hok, e.bare⟩
  have rel : Vals [V.ref a, V.ref b] [Value.ref a, Value.ref b] := .cons rfl (.cons rfl .nil)
  have len := F.len _ _ _ _ hsp
  have bind := hb s [Value.ref a, Value.ref b] I.kIn (by simpa using len)
  rw [List.append_nil] at bind
  obtain ⟨hp, g, d, t, os⟩ := s
  refine compareOp_ne_ownEq PySem.F.cmp_object (N hp a _ I.kIn J.at_ J.cls) J2.at_ J2.cls (by have := hr.units; omega) ?_
  refine wpAny_call (codeAny_mono (F.run X.A.in1 X.stack _ H ⟨[.ref a, .ref b], []⟩ [.ref a, .ref b] [.ref a, .ref b] _ E0 sb.in1.room e1 bind rel hsp) fun r s' hq => ?_)
  cases r with
  | error e => exact hq.elim
  | ok fl =>
    cases fl with
    | ret w =>
      obtain ⟨z, H', J', rz, r, rfl, q⟩ := I.after hq
      cases rz
      exact ⟨r, rfl, .bl (!r), H', J', rfl, q⟩
    | next => exact False.elim hq
    | brk => exact False.elim hq
    | cont => exact False.elim hq
/-- run such a method, at A: what it answers comes back in the abstract -/
theorem run_own {X : Cx} {f : Addr} {n : Nat} {fd : FuncData} {ps : List Str} {sp : Sp} {pins : List (Addr × Obj)} {s : Shared} {σ : L2.St} {H : Hp} {xs : List V} {us : List Value} {R : VK} {A : Around} (F : FnOk X.prog X.w X.K X.mg X.base CX0 n f fd ps sp) (hb : Binds X.K fd ps []) (sb : Sub X n A)
    (I : Inv X pins σ H s) (rel : Vals xs us) (hsp : sp xs H R E0) {Q : Value → Shared → Prop} {E : Value → Shared → Prop} (go : ∀ z v H' s', Inv X pins σ H' s' → RelV z v → R z H' → Q v s') : wpAny (model X.prog X.w) A (call (.ref f) us) Q E s := by
  have e := I.env0
  have e1 : Env0 X.prog X.w X.K X.mg X.base A X.stack s H := ⟨by rw [sb.fr]; exact e.frames, e.mod, e.bs, e.bsz, e.funs, e.frf, e.hok, e.bare⟩
  have len := F.len _ _ _ _ hsp
  have bind := hb s us I.kIn (by rw [List.append_nil, ← rel.length]; exact len)
  rw [List.append_nil] at bind
  refine wpAny_call (codeAny_mono (F.run A X.stack s H ⟨us, []⟩ us xs _ E0 sb.room e1 bind rel hsp) fun r s' hq => ?_)
  cases r with
  | error e => exact hq.elim
  | ok fl =>
    cases fl with
    | ret w =>
      obtain ⟨z, H', J', rz, q⟩ := I.after hq
      exact go z w H' s' J' rz q
    | next => exact False.elim hq
    | brk => exact False.elim hq
    | cont => exact False.elim hq
/-- x in y, x not in y: y an instance of the class at C with its own __contains__ -/
def rInI (C : Addr) (sp : Sp) (neg : Bool) : R2 := fun x y H Q => ∃ a dx fs, y = .ref a ∧ H a = some (.ins C dx fs) ∧ sp [y, x] H (fun v H' => ∃ b, v = .bl b ∧ Q (.bl (if neg then !b else b)) H') E0
theorem op_inI {X : Cx} {C f : Addr} {n : Nat} {fd : FuncData} {ps : List Str} {sp : Sp} (F : FnOk X.prog X.w X.K X.mg X.base CX0 n f fd ps sp) (hs : PySem.W.findIn X.K (.ref C) "__contains__" = some (some (.ref f))) (hf : PySem.W.isFn X.K (.ref f) = true) (hb : Binds X.K fd ps []) (hr : Room n X.A) :
    OpR X (compareOp .In) (rInI C sp false) := by
  rintro pins s σ H x y v u Q I rx ry ⟨a, dx, fs, rfl, ha, hsp⟩
  obtain rfl : u = .ref a := ry
  obtain ⟨mA, J, _⟩ := ins_get I.hok ha
  obtain ⟨od, J, _⟩ := J.look
  obtain ⟨m, fr⟩ := I.fr
  refine PySem.W.in_K fr I.ok.mod.kin J hs hf (run_own F hb ⟨hr, rfl⟩ I (show Vals [V.ref a, x] [Value.ref a, v] from .cons rfl (.cons rx .nil)) hsp fun z w H' s' J' rz ⟨b, ez, q⟩ => ?_)
  subst ez
  cases rz
  exact wpAny_truthy_bool ⟨.bl b, H', J', rfl, q⟩
theorem op_notInI {X : Cx} {C f : Addr} {n : Nat} {fd : FuncData} {ps : List Str} {sp : Sp} (F : FnOk X.prog X.w X.K X.mg X.base CX0 n f fd ps sp) (hs : PySem.W.findIn X.K (.ref C) "__contains__" = some (some (.ref f))) (hf : PySem.W.isFn X.K (.ref f) = true) (hb : Binds X.K fd ps []) (hr : Room n X.A) :
    OpR X (compareOp .NotIn) (rInI C sp true) := by
  rintro pins s σ H x y v u Q I rx ry ⟨a, dx, fs, rfl, ha, hsp⟩
  obtain rfl : u = .ref a := ry
  obtain ⟨mA, J, _⟩ := ins_get I.hok ha
  obtain ⟨od, J, _⟩ := J.look
  obtain ⟨m, fr⟩ := I.fr
  refine PySem.W.notIn_K fr I.ok.mod.kin J hs hf (run_own F hb ⟨hr, rfl⟩ I (show Vals [V.ref a, x] [Value.ref a, v] from .cons rfl (.cons rx .nil)) hsp fun z w H' s' J' rz ⟨b, ez, q⟩ => ?_)
  subst ez
  cases rz
  exact wpAny_truthy_bool ⟨.bl (!b), H', J', rfl, q⟩
/-- len(x), x an instance of the class at C with its own __len__ -/
def rLenI (C : Addr) (sp : Sp) : List V → Hp → VK → Prop := fun xs H Q => ∃ a dx fs, xs = [.ref a] ∧ H a = some (.ins C dx fs) ∧ sp xs H (fun v H' => ∃ k : Int, v = .int k ∧ 0 ≤ k ∧ k < 1000000 ∧ Q (.int k) H') E0
theorem call_lenI {X : Cx} {C f : Addr} {n : Nat} {fd : FuncData} {ps : List Str} {sp : Sp} (F : FnOk X.prog X.w X.K X.mg X.base CX0 n f fd ps sp) (hs : PySem.W.findIn X.K (.ref C) "__len__" = some (some (.ref f))) (hf : PySem.W.isFn X.K (.ref f) = true) (hb : Binds X.K fd ps []) (hr : Room (n + 1) X.A) :
    CallR X (.builtin "len") (rLenI C sp) := by
  rintro pins s σ H xs us Q I rel ⟨a, dx, fs, rfl, ha, hsp⟩
  obtain ⟨u, rfl, ru⟩ := vals1 rel
  obtain rfl : u = .ref a := ru
  obtain ⟨mA, J, _⟩ := ins_get I.hok ha
  obtain ⟨od, J, _⟩ := J.look
  obtain ⟨m, fr⟩ := I.fr
  have sb : Sub X (n + 1) X.A := ⟨hr, rfl⟩
  refine PySem.W.len_K fr I.ok.mod.kin J hs hf (run_own F hb sb.in1 I rel hsp fun z w H' s' J' rz ⟨k, ez, k0, k1, q⟩ => ?_)
  subst ez
  obtain ⟨t, rfl⟩ := rz
  exact ⟨⟨k0, by omega⟩, ⟨.int k, H', J'.tok _, ⟨_, rfl⟩, q⟩⟩
end Lk
set_option Elab.async false
set_option linter.all false
set_option maxRecDepth 100000
set_option maxHeartbeats 4000000
/-! Part N: in a tuple of data; a list extended by a tuple. -/
namespace Lk
open PySem PySem.Spec PyProof.Rows L2
/-- x in y, x not in y: y a tuple of data of any depth -/
def rInDT (K : PySem.W.Frag) : R2 := fun x y H Q => ∃ d ds, Dp K H x d ∧ Dp K H y (.tuple ds) ∧ SeqAt.shaped d = true ∧ SeqAt.shaped (.tuple ds) = true ∧ Q (.bl (ds.any fun z => PyData.eqv z d)) H
def rNotInDT (K : PySem.W.Frag) : R2 := fun x y H Q => ∃ d ds, Dp K H x d ∧ Dp K H y (.tuple ds) ∧ SeqAt.shaped d = true ∧ SeqAt.shaped (.tuple ds) = true ∧ Q (.bl (!(ds.any fun z => PyData.eqv z d))) H
theorem op_inDT {X : Cx} (hu : X.A.units + 65 < cLine) : OpR X (compareOp .In) (rInDT X.K) := by
  intro pins s σ H x y v u Q I rx ry h
  obtain ⟨d, ds, hd, he, sd, se, q⟩ := h
  obtain ⟨as, r1⟩ := Dp.reads I d x v hd rx
  obtain ⟨bs, r2⟩ := Dp.reads I (.tuple ds) y u he ry
  exact SeqAt.in_tuple_reads r2 r1 (SeqAt.canLay_of_shaped se) (SeqAt.canLay_of_shaped sd) (room_in_shaped sd hu) ⟨.bl _, H, I, rfl, q⟩
theorem op_notInDT {X : Cx} (hu : X.A.units + 65 < cLine) : OpR X (compareOp .NotIn) (rNotInDT X.K) := by
  intro pins s σ H x y v u Q I rx ry h
  obtain ⟨d, ds, hd, he, sd, se, q⟩ := h
  obtain ⟨as, r1⟩ := Dp.reads I d x v hd rx
  obtain ⟨bs, r2⟩ := Dp.reads I (.tuple ds) y u he ry
  exact SeqAt.notIn_tuple_reads r2 r1 (SeqAt.canLay_of_shaped se) (SeqAt.canLay_of_shaped sd) (room_in_shaped sd hu) ⟨.bl _, H, I, rfl, q⟩
theorem room64 {k : Nat} {A : Around} (r : Room k A) : A.units + 64 < cLine := by have := r.un; omega
theorem room65 {k : Nat} {A : Around} (r : Room k A) : A.units + 65 < cLine := by have := r.un; omega
theorem extend_tup (l : Addr) (items : Array Value) (n : Nat) (b : Addr) (items2 : Array Value) (n2 : Nat) (dd : Option Addr) (sl : Array (Option Value)) (hs0 : ¬(!items.isEmpty && Builtin.List.listTooLong (items.size + items2.size)) = true) (hs1 : items.size ≤ sizeLine) (hs2 : items.size + items2.size ≤ sizeLine + 1) :
    Meets (Builtin.«list.extend» ⟨[.ref l, .ref b], []⟩) (fun _ R s => s.heap.get? l = some { cls := .type "list", dict := none, data := .seq items n, slots := #[] } ∧ s.heap.get? b = some { cls := .type "tuple", dict := dd, data := .seq items2 n2, slots := sl } ∧ R (.ok (.ret Value.none)) { s with heap := s.heap.update l (Obj.mapSeq fun x => x ++ items2), toks := s.toks }) :=
  .of_wp fun prog w A R s h => by
    obtain ⟨hp, g, d, tk, os⟩ := s; obtain ⟨hl, hb, h⟩ := h; have f1 := PySem.AutoSeq1.idx_int; have f2 := PySem.AutoSeq1.sub_tuple_tuple; have f3 := PySem.AutoSeq1.sub_list_list; have f4 := PySem.AutoSeq1.sub_tuple_list; have f5 := PySem.AutoSeq1.sub_list_tuple;
    have hz' : (items ++ items2).size ≤ sizeLine + 1 := by rw [Array.size_append]; exact hs2
    wp_walk using (wpAny_updateSeq hl rfl (hz := hs1) (_hz' := hz')), PySem.AutoSeq1.wpAny_loadPart' hl, PySem.AutoSeq1.wpAny_loadPart' hb; exact ⟨_, rfl, h⟩
/-- l.extend(t), t a tuple that was made here -/
def rExtendT : V → List V → Hp → VK → Prop := fun x vs H Q => ∃ l b xs zs, x = .ref l ∧ vs = [.ref b] ∧ H l = some (.lst xs) ∧ H b = some (.tup zs) ∧ xs.length + zs.length ≤ sizeLine ∧ Q .non (upd H l (.lst (xs ++ zs)))
theorem mt_extendT {X : Cx} : MtM X "list.extend" rExtendT := by
  intro pins s σ H x vs v us Q I rx rv h
  obtain ⟨l, b, xs, zs, rfl, rfl, hH, hB, hz, q⟩ := h
  cases rx
  obtain ⟨u, rfl, ru⟩ := rv.one
  cases ru
  obtain ⟨z, its, n, r, hl, e⟩ := I.lstM hH
  obtain ⟨_, its2, r2, ⟨cls, dd, data, sls⟩, e2, hc, m, hd⟩ := (show ObjOk X.prog X.w H s.heap b (.tup _) from I.hok b _ hB)
  simp only at hc hd
  subst hc hd
  have hsz : its.toArray.size + its2.toArray.size ≤ sizeLine := by rw [List.size_toArray, List.size_toArray, ← hl, ← r2.length]; exact hz
  have hlong : ¬ (!its.toArray.isEmpty && Builtin.List.listTooLong (its.toArray.size + its2.toArray.size)) = true := by
    rw [notLongL hsz, Bool.and_false]
    exact Bool.false_ne_true
  have hl2 := r2.length
  refine call_meets F.slot_list_extend ⟨_, e, rfl⟩ F.entry_list_extend (F.args_list_extend_2 _ _)
    (extend_tup l its.toArray n b its2.toArray m dd sls hlong (by rw [List.size_toArray]; omega) (by omega)) ⟨e, e2, ?_⟩
  refine ⟨.non, _, I.lset (its' := its ++ its2) hH e (by simp) (r.append r2) ?_, rfl, q⟩
  rw [List.length_append]
  omega
end Lk
set_option Elab.async false
set_option linter.all false
set_option maxRecDepth 100000
set_option maxHeartbeats 4000000
/-! Part R: data that is small enough to be compared and shown. -/
namespace Lk
open PySem PySem.Spec PyProof.Rows L2
/-- weight at most n, depth at most k, texts and ints that can be shown -/
structure Nice (n k : Nat) (d : PyData) : Prop where
  lay : d.canLay0 = true
  dep : d.depth ≤ k
  wt : d.weight ≤ n
  sh : d.intsShort 13 = true
  sw : d.showable = true
theorem Nice.mono {n k m j : Nat} {d : PyData} (h : Nice n k d) (hn : n ≤ m) (hk : k ≤ j) : Nice m j d := ⟨h.lay, Nat.le_trans h.dep hk, Nat.le_trans h.wt hn, h.sh, h.sw⟩
theorem Nice.str {x : Str} {n : Nat} (h : PyData.strOk x = true) (hl : x.length ≤ n) : Nice n 0 (.str x) :=
  ⟨by simp [PyData.canLay0, h], by simp [PyData.depth], by simpa [PyData.weight, Str.length] using hl, by simp [PyData.intsShort], by simp [PyData.showable]⟩
theorem nice_all {c k : Nat} : ∀ {ds : List PyData}, (∀ d ∈ ds, Nice c k d) → PyData.canLayAll0 ds = true ∧ PyData.depthAll ds ≤ k ∧ PyData.weightAll ds ≤ ds.length * (c + 1) ∧ PyData.intsShortAll 13 ds = true ∧ PyData.showableAll ds = true
  | [], _ => ⟨by simp [PyData.canLayAll0], by simp [PyData.depthAll], by simp [PyData.weightAll], by simp [PyData.intsShortAll], by simp [PyData.showableAll]⟩
  | d :: ds, h => by
    obtain ⟨a1, a2, a3, a4, a5⟩ := nice_all fun e he => h e (List.mem_cons_of_mem _ he)
    have hd := h d List.mem_cons_self
    refine ⟨by simp [PyData.canLayAll0, hd.lay, a1], ?_, ?_, by simp [PyData.intsShortAll, hd.sh, a4], by simp [PyData.showableAll, hd.sw, a5]⟩
    · have := hd.dep
      simp only [PyData.depthAll]
      omega
    · have := hd.wt
      have e : (d :: ds).length * (c + 1) = ds.length * (c + 1) + (c + 1) := by rw [List.length_cons, Nat.succ_mul]
      simp only [PyData.weightAll]
      omega
theorem Nice.tup {c k m : Nat} {ds : List PyData} (h : ∀ d ∈ ds, Nice c k d) (hl : ds.length ≤ m) : Nice (m * (c + 1)) (k + 1) (.tuple ds) := by
  obtain ⟨a1, a2, a3, a4, a5⟩ := nice_all h
  refine ⟨by simp [PyData.canLay0, a1], ?_, ?_, by simp [PyData.intsShort, a4], by simp [PyData.showable, a5]⟩
  · simp only [PyData.depth]
    omega
  · simp only [PyData.weight]
    exact Nat.le_trans a3 (Nat.mul_le_mul_right _ hl)
theorem Nice.lst {c k m : Nat} {ds : List PyData} (h : ∀ d ∈ ds, Nice c k d) (hl : ds.length ≤ m) : Nice (m * (c + 1)) (k + 1) (.list ds) := by
  obtain ⟨a1, a2, a3, a4, a5⟩ := nice_all h
  refine ⟨by simp [PyData.canLay0, a1], ?_, ?_, by simp [PyData.intsShort, a4], by simp [PyData.showable, a5]⟩
  · simp only [PyData.depth]
    omega
  · simp only [PyData.weight]
    exact Nat.le_trans a3 (Nat.mul_le_mul_right _ hl)
theorem Nice.shaped {n k : Nat} {d : PyData} (h : Nice n k d) (hk : k ≤ 64) : SeqAt.shaped d = true := by
  show (d.canLay0 && decide (d.depth ≤ 64)) = true
  have := h.dep
  rw [Bool.and_eq_true]
  exact ⟨h.lay, decide_eq_true (by omega)⟩
theorem Nice.fits {n k : Nat} {d : PyData} (h : Nice n k d) (hn : n ≤ 1048576) (hk : k ≤ 64) : d.shown.length ≤ sizeLine := by
  have l0 : PyData.layable0 d = true := by
    have h1 := h.dep
    have h2 := h.wt
    show (d.canLay0 && decide (d.depth ≤ 64) && decide (d.weight ≤ 2 ^ 20)) = true
    rw [Bool.and_eq_true, Bool.and_eq_true]
    exact ⟨⟨h.lay, decide_eq_true (by omega)⟩, decide_eq_true (by omega)⟩
  have := shown_le13 l0 h.sh
  rw [sizeLine_eq]
  omega
theorem Nice.eqv {n k : Nat} {d : PyData} (h : Nice n k d) : PyData.eqv d d = true := SeqAt.eqv_refl _ h.lay
/-- small ints -/
theorem nice_ints : ∀ i : Nat, i < 100 → ((PyData.int (i : Int)).intsShort 13 && ((PyData.int (i : Int)).showable && decide ((PyData.int (i : Int)).weight ≤ 8))) = true := by decide +kernel
theorem Nice.nat {i : Nat} (h : i < 100) : Nice 8 0 (.int (i : Int)) := by
  have := nice_ints i h
  rw [Bool.and_eq_true, Bool.and_eq_true] at this
  exact ⟨by simp [PyData.canLay0], by simp [PyData.depth], of_decide_eq_true this.2.2, this.1, this.2.1⟩
/-- the texts of a tuple -/
def strsD (zs : List Str) : List PyData := zs.map PyData.str
theorem dp_strs {K : PySem.W.Frag} {H : Hp} : ∀ zs : List Str, DpAll K H (zs.map V.str) (strsD zs)
  | [] => .nil
  | z :: zs => .cons (.str z) (dp_strs zs)
theorem dw_strs {H : Hp} : ∀ zs : List Str, DWs H (zs.map V.str) (strsD zs)
  | [] => .nil
  | z :: zs => .cons (.str z) (dw_strs zs)
theorem nice_strs {zs : List Str} {n m : Nat} (h : ∀ z ∈ zs, PyData.strOk z = true ∧ z.length ≤ n) (hl : zs.length ≤ m) : Nice (m * (n + 1)) 1 (.tuple (strsD zs)) := by
  refine Nice.tup (fun d hd => ?_) (by unfold strsD; rw [List.length_map]; exact hl)
  obtain ⟨z, hz, rfl⟩ := List.mem_map.mp hd
  exact .str (h z hz).1 (h z hz).2
/-- all but lists stand, where the draws' list alone was written -/
theorem Keep.ext {a : Addr} {N : Nat} {H H' : Hp} (hp : PotAt a N H) (x : ExtP a H H') : Keep H H' := fun b o e n => x b o (fun z => by
  obtain ⟨_, _, _, h, _⟩ := hp
  rw [z, h] at e
  cases e
  exact n () (.lst _)) e
theorem TupX.keep {H H' : Hp} {a : Addr} {xs : List V} (h : TupX H a xs) (k : Keep H H') : TupX H' a xs := by
  obtain ⟨ob, e, r⟩ := h
  exact ⟨ob, k _ _ e (fun xs z => by cases z), r⟩
theorem SqT.keep {K : PySem.W.Frag} {H H' : Hp} {a : Addr} {xs : List V} (h : SqT K H a xs) (k : Keep H H') : SqT K H' a xs := by
  rcases h with (h | ⟨o, h⟩) | h
  · exact .inl (.inl (k _ _ h fun xs z => by cases z))
  · exact .inl (.inr ⟨o, k _ _ h fun xs z => by cases z⟩)
  · exact .inr h
end Lk
set_option Elab.async false
set_option linter.all false
set_option maxRecDepth 100000
set_option maxHeartbeats 4000000
set_option pp.maxSteps 1200
set_option pp.deepTerms false
namespace K6
open PySem PySem.Spec PyProof.Rows L2 Lk
abbrev sShelf : Stmt := top 96
/-! ### what a shelf is drawn as -/
abbrev KP := Str × List (List Str)
structure Lore where
  parts : List Str
  kps : List KP
structure LoreOk (L : Lore) : Prop where
  p0 : 0 < L.parts.length
  p4 : L.parts.length ≤ 4
  pn : L.parts.Nodup
  pp : ∀ p ∈ L.parts, p ∈ partPool
  k2 : 2 ≤ L.kps.length
  k6 : L.kps.length ≤ 6
  kn : (L.kps.map (·.1)).Nodup
  kp : ∀ k ∈ L.kps, k.1 ∈ namePool
  q : ∀ k ∈ L.kps, 1 ≤ k.2.length ∧ k.2.length ≤ 2 ∧ ∀ p ∈ k.2, PieceOk L.parts p
/-- tuples of texts, each at its own address -/
def Pieces (H : Hp) : List V → List (List Str) → Prop := Paired fun v p => ∃ t, v = V.ref t ∧ H t = some (.tup (p.map V.str))
def RowR (H : Hp) (v : V) (q : List (List Str)) : Prop := ∃ t ts, v = V.ref t ∧ H t = some (.tup ts) ∧ Pieces H ts q
def Lore3 (H : Hp) (lo : Addr) (L : Lore) : Prop := ∃ pa nm ps ts, H lo = some (.dK [(.inr "parts", .ref pa), (.inr "names", .ref nm), (.inr "pieces", .ref ps)]) ∧ H pa = some (.tup (L.parts.map V.str)) ∧ TupX H nm ((L.kps.map (·.1)).map V.str) ∧ H ps = some (.tup ts) ∧ Paired (fun v (k : KP) => RowR H v k.2) ts L.kps
/-- a dict that begins so -/
def D3 (H : Hp) (lo pa nm ps : Addr) : Prop := ∃ rest, H lo = some (.dK ((.inr "parts", .ref pa) :: (.inr "names", .ref nm) :: (.inr "pieces", .ref ps) :: rest))
theorem D3.keep {H H' : Hp} {lo pa nm ps : Addr} (h : D3 H lo pa nm ps) (k : Keep H H') : D3 H' lo pa nm ps := let ⟨r, e⟩ := h; ⟨r, k _ _ e fun _ z => by cases z⟩
theorem D3.same {H H' : Hp} {lo pa nm ps : Addr} (h : D3 H lo pa nm ps) (s : Same H H') : D3 H' lo pa nm ps := h.keep (.of s)
def LoreAt (H : Hp) (lo : Addr) (L : Lore) : Prop := ∃ pa nm ps ts, D3 H lo pa nm ps ∧ H pa = some (.tup (L.parts.map V.str)) ∧ TupX H nm ((L.kps.map (·.1)).map V.str) ∧ H ps = some (.tup ts) ∧ Paired (fun v (k : KP) => RowR H v k.2) ts L.kps
theorem Lore3.at_ {H : Hp} {lo : Addr} {L : Lore} (h : Lore3 H lo L) : LoreAt H lo L := let ⟨pa, nm, ps, ts, e, r⟩ := h; ⟨pa, nm, ps, ts, ⟨[], e⟩, r⟩
/-- what is in H and no list stands in H', too -/
def Tups (H H' : Hp) : Prop := ∀ b xs, H b = some (.tup xs) → H' b = some (.tup xs)
theorem Tups.of {H H' : Hp} (s : Same H H') : Tups H H' := fun b xs e => s b _ e
theorem Tups.trans {H H1 H2 : Hp} (x : Tups H H1) (y : Tups H1 H2) : Tups H H2 := fun b xs e => y b xs (x b xs e)
theorem Tups.ext {a : Addr} {N : Nat} {H H' : Hp} (hp : PotAt a N H) (x : ExtP a H H') : Tups H H' := fun b xs e => x b _ (fun z => by
  obtain ⟨_, _, _, h, _⟩ := hp
  rw [z, h] at e
  cases e) e
theorem Tups.upd {H : Hp} {b : Addr} {xs : List V} {o : HO} (h : H b = some (.lst xs)) : Tups H (upd H b o) := fun c ys e => by
  rw [upd_ne (fun z => by rw [z, h] at e; cases e)]
  exact e
theorem Pieces.tups {H H' : Hp} {vs : List V} {ps : List (List Str)} (h : Pieces H vs ps) (k : Tups H H') : Pieces H' vs ps := Paired.mapP h fun _ _ ⟨t, e, h⟩ => ⟨t, e, k _ _ h⟩
theorem paired_append {α β : Type} {R : α → β → Prop} : ∀ {xs : List α} {ys : List β} {xs' : List α} {ys' : List β}, Paired R xs ys → Paired R xs' ys' → Paired R (xs ++ xs') (ys ++ ys')
  | _, _, _, _, .nil, h => h
  | _, _, _, _, .cons a t, h => .cons a (paired_append t h)
theorem paired_len {α β : Type} {R : α → β → Prop} : ∀ {xs : List α} {ys : List β}, Paired R xs ys → xs.length = ys.length
  | _, _, .nil => rfl
  | _, _, .cons _ t => by rw [List.length_cons, List.length_cons, paired_len t]
theorem Pieces.keep {H H' : Hp} {vs : List V} {ps : List (List Str)} (h : Pieces H vs ps) (k : Keep H H') : Pieces H' vs ps := Paired.mapP h fun _ _ ⟨t, e, h⟩ => ⟨t, e, k _ _ h fun _ z => by cases z⟩
theorem RowR.keep {H H' : Hp} {v : V} {q : List (List Str)} (h : RowR H v q) (k : Keep H H') : RowR H' v q := by
  obtain ⟨t, ts, e, h1, h2⟩ := h
  exact ⟨t, ts, e, k _ _ h1 (fun _ z => by cases z), h2.keep k⟩
theorem LoreAt.keep {lo : Addr} {H H' : Hp} {L : Lore} (h : LoreAt H lo L) (k : Keep H H') : LoreAt H' lo L := by
  obtain ⟨pa, nm, ps, ts, h1, h2, h3, h4, h5⟩ := h
  exact ⟨pa, nm, ps, ts, h1.keep k, k _ _ h2 (fun _ z => by cases z), h3.keep k, k _ _ h4 (fun _ z => by cases z), Paired.mapP h5 fun _ _ r => r.keep k⟩
theorem LoreAt.same {lo : Addr} {H H' : Hp} {L : Lore} (h : LoreAt H lo L) (s : Same H H') : LoreAt H' lo L := h.keep (.of s)
theorem LoreAt.ext {a lo : Addr} {N : Nat} {H H' : Hp} {L : Lore} (h : LoreAt H lo L) (hp : PotAt a N H) (x : ExtP a H H') : LoreAt H' lo L := h.keep (Keep.ext hp x)
theorem rows_zip {H : Hp} : ∀ {rows : List V} {qs : List (List (List Str))} {zs : List Str}, Paired (RowR H) rows qs → zs.length = qs.length → Paired (fun v (k : KP) => RowR H v k.2) rows (zs.zip qs)
  | _, _, [], .nil, _ => .nil
  | _, _, _ :: _, .nil, h => by cases h
  | _, _, [], .cons _ _, h => by cases h
  | _, _, _ :: _, .cons r t, h => .cons r (rows_zip t (by simpa using h))
theorem dget3 {H : Hp} {lo pa nm ps : Addr} (e : D3 H lo pa nm ps) :
    DGet H lo (.str "parts") (some (.ref pa)) ∧ DGet H lo (.str "names") (some (.ref nm)) ∧ DGet H lo (.str "pieces") (some (.ref ps)) := by
  obtain ⟨rest, e⟩ := e
  exact ⟨.inl ⟨_, .inr "parts", .inl e, rfl, rfl⟩, .inl ⟨_, .inr "names", .inl e, rfl, rfl⟩, .inl ⟨_, .inr "pieces", .inl e, rfl, rfl⟩⟩
section
variable {P : Program} {w : World} {K : PySem.W.Frag} {mg : Str → Option Value} {base : Heap} {f : Addr} {fd : FuncData}
/-! ### _law_shelf -/
def spShelf : Sp := fun vs H Q _ => ∃ (a : Addr) (fw up mp : Int) (N : Nat), vs = [.ref a, .int fw, .int up, .int mp] ∧ PotAt a N H ∧ N ≤ 10000 ∧ 2 ≤ fw ∧ fw ≤ up ∧ up ≤ 6 ∧ 1 ≤ mp ∧ mp ≤ 4 ∧
  ∀ (L : Lore) (lo : Addr) (H' : Hp), LoreOk L → ExtP a H H' → PotAt a (N + 200) H' → Lore3 H' lo L → Q (.ref lo) H'
theorem scShelf : FnScope ["pot", "few", "upmost", "most_parts", "parts", "names", "pieces", "name", "lap"] ["pot", "few", "upmost", "most_parts"] (defScope sShelf) := ⟨rfl, rfl, rfl, by decide +kernel, rfl, by decide +kernel, by decide +kernel⟩
theorem ok_shelf {f1 f2 f3 f4 f5 f6 : Addr} {fd1 fd2 fd3 fd4 fd5 fd6 : FuncData} (F : Fun K "_law_shelf" "_law_shelf" sShelf f fd) (T : Bl mg) (hT : mg "tuple" = none)
    (F1 : Fun K "_law_take" "_law_take" sTake f1 fd1) (b1 : Binds K fd1 ["pot", "upto"] []) (m1 : mg "_law_take" = some (.ref f1))
    (F2 : Fun K "_law_some" "_law_some" sSome f2 fd2) (b2 : Binds K fd2 ["pot", "pool", "amount"] []) (m2 : mg "_law_some" = some (.ref f2))
    (F3 : Fun K "_law_lot_of" "_law_lot_of" sLotOf f3 fd3) (b3 : Binds K fd3 ["names", "some"] []) (m3 : mg "_law_lot_of" = some (.ref f3))
    (F4 : Fun K "_law_names" "_law_names" sNames f4 fd4) (b4 : Binds K fd4 ["pot", "few", "upmost"] []) (m4 : mg "_law_names" = some (.ref f4))
    (F5 : Fun K "_law_piece" "_law_piece" sPiece f5 fd5) (b5 : Binds K fd5 ["pot", "parts"] []) (m5 : mg "_law_piece" = some (.ref f5))
    (F6 : Fun K "_law_parts" "_law_parts" sParts f6 fd6) (b6 : Binds K fd6 ["pot", "upmost"] []) (m6 : mg "_law_parts" = some (.ref f6)) :
    FnOk P w K mg base CX0 4 f fd ["pot", "few", "upmost", "most_parts"] spShelf := by
  have G1 : FnOk P w K mg base CX0 1 f1 fd1 ["pot", "upto"] spTake := ok_take F1 T
  have G4 : FnOk P w K mg base CX0 3 f4 fd4 ["pot", "few", "upmost"] spNames := ok_names F4 T hT F1 b1 m1 F2 b2 m2
  have G5 : FnOk P w K mg base CX0 3 f5 fd5 ["pot", "parts"] (spPiece K) := ok_piece F5 T hT F1 b1 m1 F2 b2 m2 F3 b3 m3
  have G6 : FnOk P w K mg base CX0 3 f6 fd6 ["pot", "upmost"] spParts := ok_parts F6 T hT F1 b1 m1 F2 b2 m2
  refine F.ok scShelf (fun vs H Q E h => ?_) (fun cdv A outer s H vs Q E hr h => ?_)
  · obtain ⟨a, fw, up, mp, N, rfl, _⟩ := h
    rfl
  · obtain ⟨a, fw, up, mp, N, rfl, hp, hN, f2, fu, u6, mp1, mp4, k⟩ := h
    have nd := scShelf.nd
    have hr1 : Room 1 _ := hr.mono (by decide)
    refine ⟨_, pss_cons (ps_asg (pe_tup (pa_cons (pe_call G6 hr (by rfl) m6 F6.kp b6 .nil pass0 (pa_cons (pv 0) (pa_cons (pv 3) pa_nil))) (pa_cons (pe_call G4 hr (by rfl) m4 F4.kp b4 .nil pass0 (pa_cons (pv 0) (pa_cons (pv 1) (pa_cons (pv 2) pa_nil)))) pa_nil)))
          (pg_tup rfl (pgs_cons (pg_name (i := 4) nd rfl (.inr rfl)) (pgs_cons (pg_name (i := 5) nd rfl (.inl rfl)) pgs_nil))))
      (pss_cons (ps_set (i := 6) nd rfl (.inl rfl) (pe_lst pa_nil))
      (pss_cons (ps_for PassesOwn.never rfl (pi_tup (pv 5)) (pg_name (i := 7) nd rfl (.inl rfl))
          (pss_one (ps_expr (pe_bm PySem.F.plainAttrs_list PySem.F.slot_list_append PySem.F.type_list_append mt_append (pv 6) (pa_cons (pe_tupleOf (by rfl) hT
            (pe_lc (own := [("lap", 8)]) (g := gName 8) (tt := tYes) (te := tCall (spPiece K) [] E0 (tCons (tVar 0) (tCons (tVar 4) tNil))) rfl nd
              (pi_range1 (by rfl) T.range (pa_cons (pe_op op_add pe_int (pe_callTy call_int1 rfl T.int boot_int (pa_cons (pe_cmpR op_eq (pe_call G1 hr1 (by rfl) m1 F1.kp b1 .nil pass0 (pa_cons (pv 0) (pa_cons pe_int pa_nil))) pe_int (nomark _)) pa_nil))) pa_nil))
              (blkOk_by (N := ["pot", "few", "upmost", "most_parts", "parts", "names", "pieces", "name", "lap"]) (sc := defScope sShelf) (by decide +kernel)) (fun _ _ _ _ _ => pg_name (i := 8) nd rfl (Or.inl rfl)) (fun _ _ _ _ _ => pts_nil)
              (fun _ _ _ _ _ => pe_call G5 hr (by rfl) m5 F5.kp b5 .nil pass0 (pa_cons (pv 0) (pa_cons (pv 4) pa_nil))))) pa_nil)))))
        (pss_one (ps_ret (pe_disp (pps_cons pe_str (pv 4) (pps_cons pe_str (pv 5) (pps_cons pe_str (pe_tupleOf (by rfl) hT (pv 6)) pps_nil))) rfl rfl (by simp) (by simp)))))), ?_⟩
    refine ⟨_, rfl, _, rfl, a, mp, N, rfl, hp, by omega, mp1, mp4, fun ps pa H1 sp ps1 psm x1 p1 npa epa => ?_⟩
    refine ⟨_, rfl, _, rfl, _, rfl, a, fw, up, N + 10, rfl, p1, by omega, by omega, fu, by omega, fun zs nm H2 sz z1 z2 x2 p2 nnm tnm => ?_⟩
    have K2 : Keep H1 H2 := Keep.ext p1 x2
    have paa : pa ≠ a := fun z => hp.ne (by rw [← z]; exact npa)
    have epa2 : H2 pa = some (.tup (ps.map V.str)) := x2 _ _ paa epa
    refine ⟨few_ok rfl, fun t nt => ⟨t, _, rfl, .inl (.inl upd_same), rfl, ?_⟩⟩
    refine ⟨_, _, rfl, _, _, rfl, rfl, ?_⟩
    have s3 : Same H2 (upd H2 t (.tup [.ref pa, .ref nm])) := same_new nt
    generalize hH3 : upd H2 t (.tup [.ref pa, .ref nm]) = H3 at s3
    refine ⟨few_ok rfl, fun fnd nf => ?_⟩
    have s4 : Same H2 (upd H3 fnd (.lst [])) := s3.trans (same_new nf)
    have ef4 : upd H3 fnd (.lst []) fnd = some (.lst []) := upd_same
    generalize hH4 : upd H3 fnd (.lst []) = H4 at s4 ef4
    have X2 : ExtP a H H2 := x1.trans x2
    have X4 : ExtP a H H4 := X2.trans (.of s4)
    have nfa : fnd ≠ a := fun z => (p2.same s3).ne (by rw [← z]; exact nf)
    have nfH : H fnd = none := by
      cases z : H fnd with
      | none => rfl
      | some o => rw [s3 _ _ (X2 _ _ nfa z)] at nf; cases nf
    have pl : ps.length ≤ 4 := by omega
    have zl : zs.length ≤ 6 := by omega
    refine ⟨_, rfl, nm, rfl, ⟨_, (tnm.same s4).sq⟩, for_tup (xs := zs.map V.str) (fun i σ H' => ∃ (qs : List (List (List Str))) (rows : List V) (u v : Option V), σ = [some (.ref a), some (.int fw), some (.int up), some (.int mp), some (.ref pa), some (.ref nm), some (.ref fnd), u, v] ∧ qs.length = i ∧
      (∀ q ∈ qs, 1 ≤ q.length ∧ q.length ≤ 2 ∧ ∀ p ∈ q, PieceOk ps p) ∧ H' fnd = some (.lst rows) ∧ Paired (RowR H') rows qs ∧ PotAt a (N + 60 + 22 * i) H' ∧ ExtP a H H' ∧ Keep H4 H') ?_ ?_ ?_ ?_⟩
    · exact ⟨[], [], none, none, rfl, rfl, by simp, ef4, .nil, (p2.same s4).mono (by omega), X4, .of (Same.refl _)⟩
    · rintro i σ H' _ ⟨_, _, _, _, rfl, _, _, _, _, _, _, kk⟩
      exact ((tnm.same s4).keep kk).sq
    · rintro i x σ H' hx ⟨qs, rows, u, v, rfl, hq, hall, hf, hrw, pt, ex, kk⟩
      have iz : i < zs.length := by
        have := (List.getElem?_eq_some_iff.mp hx).1
        rw [List.length_map] at this
        exact this
      have rl : rows.length = qs.length := paired_len hrw
      refine ⟨_, rfl, .inl ⟨rfl, _, SqL.of hf⟩, _, rfl, a, 3, _, rfl, pt, by omega, by decide, by decide, fun i3 H7 i30 i33 x7 p7 => ?_⟩
      refine ⟨rfl, .inr ⟨_, rfl, _, _, rfl, rfl, ?_⟩⟩
      have nb : ∀ c : Bool, (1 : Int) + (if c = true then 1 else 0) = 1 ∨ (1 : Int) + (if c = true then 1 else 0) = 2 := by decide
      have nb2 := nb (decide (V.int i3 = V.int 0))
      obtain ⟨n, hn⟩ : ∃ n : Int, n = 1 + (if decide (V.int i3 = V.int 0) = true then 1 else 0) := ⟨_, rfl⟩
      rw [← hn] at nb2
      refine ⟨n, by rw [hn], by omega, by omega, fun D nD => ?_⟩
      have n12 : n.toNat = 1 ∨ n.toNat = 2 := by omega
      have K7 : Keep H' H7 := Keep.ext pt x7
      have hpa7 : H7 pa = some (.tup (ps.map V.str)) := K7 _ _ (kk _ _ (s4 _ _ epa2) (fun _ z => by cases z)) (fun _ z => by cases z)
      have nDa : D ≠ a := fun z => p7.ne (by rw [← z]; exact nD)
      refine lc_it (walk_range (n := n.toNat)) (fun j H => ∃ (ts : List V) (pcs : List (List Str)), H D = some (.lst ts) ∧ Pieces H ts pcs ∧ ts.length = j ∧ pcs.length = j ∧ (∀ p ∈ pcs, PieceOk ps p) ∧ PotAt a (N + 60 + 22 * i + 1 + 10 * j) H ∧ ExtP a H7 H) ?_ (fun _ _ _ _ => trivial) ?_ ?_
      · exact ⟨[], [], upd_same, .nil, rfl, rfl, by simp, (p7.same (same_new nD)).mono (by omega), .of (same_new nD)⟩
      · rintro j y H8 H8' hj ⟨ts, pcs, hD, hP, hl1, hl2, hall, pt8, ex8⟩ hy
        obtain ⟨rfl, rfl⟩ := hy
        have hpa8 := ex8 _ _ paa hpa7
        refine ⟨rfl, _, rfl, _, rfl, a, pa, _, ps, rfl, pt8, by omega, .inr (SqT.of hpa8), paa, by omega, by omega, fun piece q H9 pok x9 p9 nq eq => ?_⟩
        have hD9 := x9 _ _ nDa hD
        refine ⟨ts, hD9, by rw [sizeLine_eq]; omega, ts ++ [.ref q], pcs ++ [piece], upd_same, ?_, by simp [hl1], by simp [hl2], ?_, ?_, ?_⟩
        · exact paired_append ((hP.tups (Tups.ext pt8 x9)).tups (Tups.upd hD9)) (.cons ⟨q, rfl, (Tups.upd hD9) _ _ eq⟩ .nil)
        · intro p hp
          rcases List.mem_append.mp hp with h | h
          · exact hall p h
          · rw [List.mem_singleton.mp h]; exact pok
        · obtain ⟨o, b, c, e, r0, r1, r2, r3, r4⟩ := p9
          exact ⟨o, b, c, by rw [upd_ne nDa.symm]; exact e, r0, r1, r2, r3, by omega⟩
        · intro b o nb e
          rw [upd_ne (ne_of_none e nD)]
          exact x9 _ _ nb (ex8 _ _ nb e)
      · rintro H8 ⟨ts, pcs, hD, hP, hl1, hl2, hall8, pt8, ex8⟩
        have hf8 : H8 fnd = some (.lst rows) := ex8 _ _ nfa (x7 _ _ nfa hf)
        refine .inl ⟨D, _, rfl, SqL.of hD, fun T nT => ?_⟩
        have s9 : Same H8 (upd H8 T (.tup ts)) := same_new nT
        have eT : upd H8 T (.tup ts) T = some (.tup ts) := upd_same
        generalize upd H8 T (.tup ts) = H9 at s9 eT
        have hf9 := s9 _ _ hf8
        refine ⟨fnd, rows, _, rfl, rfl, hf9, by rw [sizeLine_eq]; omega, ?_⟩
        have K9 : Keep H' H9 := (K7.trans (Keep.ext p7 ex8)).trans (.of s9)
        have KA : Keep H9 (upd H9 fnd (.lst (rows ++ [.ref T]))) := Keep.upd hf9
        refine ⟨qs ++ [pcs], rows ++ [.ref T], _, _, rfl, by simp [hq], ?_, upd_same, ?_, ?_, ?_, (kk.trans K9).trans KA⟩
        · intro q hqm
          rcases List.mem_append.mp hqm with h | h
          · exact hall q h
          · rw [List.mem_singleton.mp h]
            exact ⟨by omega, by omega, hall8⟩
        · exact paired_append (Paired.mapP hrw fun _ _ r => (r.keep K9).keep KA) (.cons ⟨T, ts, rfl, KA _ _ eT (fun _ z => by cases z), (hP.tups (.of s9)).keep KA⟩ .nil)
        · obtain ⟨o, b, c, e, r0, r1, r2, r3, r4⟩ := pt8.same s9
          exact ⟨o, b, c, by rw [upd_ne nfa.symm]; exact e, r0, r1, r2, r3, by omega⟩
        · intro b o nb e
          rw [upd_ne (ne_of_none e nfH)]
          exact s9 _ _ (ex8 _ _ nb (x7 _ _ nb (ex _ _ nb e)))
    · rintro σ H' ⟨qs, rows, u, v, rfl, hq, hall, hf, hrw, pt, ex, kk⟩
      rw [List.length_map] at hq pt
      have zsl : zs.length = qs.length := by omega
      intro lo nlo
      have nloa : lo ≠ a := fun z => pt.ne (by rw [← z]; exact nlo)
      have s1 : Same H' (upd H' lo (.dK [])) := same_new nlo
      refine ⟨_, rfl, _, rfl, _, rfl, .inl ⟨fnd, _, rfl, SqL.of (s1 _ _ hf), fun T nT => ?_⟩⟩
      have s2 : Same (upd H' lo (.dK [])) (upd (upd H' lo (.dK [])) T (.tup rows)) := same_new nT
      have nlT : lo ≠ T := fun z => by rw [← z, upd_same] at nT; cases nT
      refine ⟨by rw [upd_ne nlT, upd_same], [(.inr "parts", .ref pa), (.inr "names", .ref nm), (.inr "pieces", .ref T)], rfl, by show 3 ≤ 15; decide, ?_⟩
      have eT : upd (upd H' lo (.dK [])) T (.tup rows) T = some (.tup rows) := upd_same
      generalize upd (upd H' lo (.dK [])) T (.tup rows) = H5 at s2 eT
      have s6 : Same H' (upd H5 lo (.dK (mergeK [] [(.inr "parts", .ref pa), (.inr "names", .ref nm), (.inr "pieces", .ref T)]))) := fun b o e => by
        rw [upd_ne (ne_of_none e nlo)]
        exact s2 _ _ (s1 _ _ e)
      have K6 : Keep H4 _ := kk.trans (.of s6)
      have z1 : (zs.zip qs).map (·.1) = zs := List.map_fst_zip (by omega)
      have zq : (zs.zip qs).length = zs.length := by rw [List.length_zip]; omega
      refine k ⟨ps, zs.zip qs⟩ lo _ ⟨by show 0 < ps.length; omega, by show ps.length ≤ 4; omega, sp.nodup (by decide), sp.sub, by show 2 ≤ (zs.zip qs).length; omega, by show (zs.zip qs).length ≤ 6; omega, ?_, ?_, ?_⟩ (ex.trans (.of s6)) ((pt.same s6).mono (by omega)) ?_
      · show ((zs.zip qs).map (·.1)).Nodup
        rw [z1]
        exact sz.nodup (by decide)
      · intro k0 hk0
        exact sz.sub _ (List.of_mem_zip (show (k0.1, k0.2) ∈ zs.zip qs from hk0)).1
      · intro k0 hk0
        exact hall _ (List.of_mem_zip (show (k0.1, k0.2) ∈ zs.zip qs from hk0)).2
      · refine ⟨pa, nm, T, rows, upd_same, K6 _ _ (s4 _ _ epa2) (fun _ z => by cases z), ?_, ?_, rows_zip (Paired.mapP hrw fun _ _ r => r.keep (.of s6)) zsl⟩
        · show TupX _ nm (((zs.zip qs).map (·.1)).map V.str)
          rw [z1]
          exact (tnm.same s4).keep K6
        · rw [upd_ne nlT.symm]
          exact eT
end
end K6
set_option Elab.async false
set_option linter.all false
set_option maxRecDepth 100000
set_option maxHeartbeats 4000000
set_option pp.maxSteps 1200
set_option pp.deepTerms false
namespace K6
open PySem PySem.Spec PyProof.Rows L2 Lk RZ
abbrev sText : Stmt := top 97
/-! ### the text, as it is meant -/
def pieceW (p : List Str) : Str := Txt.join "+" p
def lineP (L : Lore) : Str := Txt.join " " ("parts" :: L.parts)
def wordsK (k : KP) : List Str := "keeper" :: k.1 :: k.2.map pieceW
def lineK (k : KP) : Str := Txt.join " " (wordsK k)
def rowsL (L : Lore) : List Str := lineP L :: L.kps.map lineK
def textL (L : Lore) : Str := Txt.join "\n" (rowsL L)
theorem join_le {s : Str} {n c : Nat} {xs : List Str} (hn : xs.length ≤ n) (hc : ∀ x ∈ xs, x.length ≤ c) : (xs.map (·.length)).sum + xs.length * s.length ≤ n * c + n * s.length ∧ (Txt.join s xs).length ≤ n * c + n * s.length := by
  have h1 : (xs.map (·.length)).sum ≤ xs.length * c := by
    clear hn
    induction xs with
    | nil => simp
    | cons x xs ih =>
      have := ih fun y hy => hc y (List.mem_cons_of_mem _ hy)
      have := hc x List.mem_cons_self
      simp only [List.map_cons, List.sum_cons, List.length_cons, Nat.succ_mul]
      omega
  have h2 := Nat.mul_le_mul_right c hn
  have h3 := Nat.mul_le_mul_right s.length hn
  have h4 := StrLaws.join_length_le s xs
  rw [show Txt.join s xs = Str.join s xs from StrLaws.glued_eq_join s xs]
  constructor <;> omega
theorem part_len : ∀ p ∈ partPool, p.length ≤ 6 := by decide +kernel
theorem name_len : ∀ p ∈ namePool, p.length ≤ 8 := by decide +kernel
theorem PieceOk.sub {ps p : List Str} (h : PieceOk ps p) : ∀ x ∈ p, x ∈ ps := fun x hx => by
  rw [h.2] at hx
  exact (List.mem_filter.mp hx).1
theorem PieceOk.len {ps p : List Str} (h : PieceOk ps p) : p.length ≤ ps.length := by
  have := List.length_filter_le (fun x => decide (x ∈ p)) ps
  rw [← h.2] at this
  exact this
theorem parts_len {L : Lore} (ok : LoreOk L) : ∀ x ∈ ("parts" : Str) :: L.parts, x.length ≤ 6 := fun x hx => by
  rcases List.mem_cons.mp hx with rfl | hx
  · decide
  · exact part_len x (ok.pp x hx)
theorem piece_len {L : Lore} (ok : LoreOk L) {k : KP} (km : k ∈ L.kps) : ∀ p ∈ k.2, p.length ≤ 4 ∧ ∀ x ∈ p, x.length ≤ 6 := fun p hp =>
  ⟨Nat.le_trans ((ok.q k km).2.2 p hp).len ok.p4, fun x hx => part_len x (ok.pp x (((ok.q k km).2.2 p hp).sub x hx))⟩
theorem words_len {L : Lore} (ok : LoreOk L) {k : KP} (km : k ∈ L.kps) : ∀ x ∈ wordsK k, x.length ≤ 28 := fun x hx => by
  rcases List.mem_cons.mp hx with rfl | hx
  · decide
  rcases List.mem_cons.mp hx with rfl | hx
  · exact Nat.le_trans (name_len _ (ok.kp k km)) (by decide)
  obtain ⟨p, hp, rfl⟩ := List.mem_map.mp hx
  exact (join_le (s := ("+" : Str)) (piece_len ok km p hp).1 (piece_len ok km p hp).2).2
theorem rows_len {L : Lore} (ok : LoreOk L) : ∀ x ∈ rowsL L, x.length ≤ 120 := fun x hx => by
  rcases List.mem_cons.mp hx with rfl | hx
  · exact Nat.le_trans (join_le (s := (" " : Str)) (n := 5) (by have := ok.p4; show L.parts.length + 1 ≤ 5; omega) (parts_len ok)).2 (by decide)
  · obtain ⟨k, hk, rfl⟩ := List.mem_map.mp hx
    exact Nat.le_trans (join_le (s := (" " : Str)) (n := 4) (by have := (ok.q k hk).2.1; show (k.2.map pieceW).length + 1 + 1 ≤ 4; rw [List.length_map]; omega) (words_len ok hk)).2 (by decide)
theorem paired_zip {α β : Type} {R : α → β → Prop} : ∀ {xs : List α} {ys : List β}, Paired R xs ys → ∃ zs : List (α × β), zs.map (·.1) = xs ∧ zs.map (·.2) = ys ∧ ∀ z ∈ zs, R z.1 z.2
  | _, _, .nil => ⟨[], rfl, rfl, fun _ h => by simp at h⟩
  | _, _, .cons (a := a) (b := b) h t => by
    obtain ⟨zs, e1, e2, e3⟩ := paired_zip t
    refine ⟨(a, b) :: zs, by rw [List.map_cons, e1], by rw [List.map_cons, e2], fun z hz => ?_⟩
    rcases List.mem_cons.mp hz with rfl | hz
    · exact h
    · exact e3 z hz
section
variable {P : Program} {w : World} {K : PySem.W.Frag} {mg : Str → Option Value} {base : Heap} {f : Addr} {fd : FuncData}
def rJoin (K : PySem.W.Frag) : V → List V → Hp → VK → Prop := fun x xs H Q => ∃ a p, ∃ ys : List Str, x = .str a ∧ xs = [.ref p] ∧ (SqL K H p (ys.map V.str) ∨ SqT K H p (ys.map V.str)) ∧ (ys.map (·.length)).sum + ys.length * a.length ≤ 16777216 ∧ Q (.str (Txt.join a ys)) H
def rListOf (K : PySem.W.Frag) : List V → Hp → VK → Prop := fun xs H Q => ∃ p ys, xs = [.ref p] ∧ (SqL K H p ys ∨ SqT K H p ys) ∧ ∀ l, H l = none → Q (.ref l) (upd H l (.lst ys))
/-! ### _law_shelf_text -/
def spText : Sp := fun vs H Q _ => ∃ (lo : Addr) (L : Lore), vs = [.ref lo] ∧ LoreAt H lo L ∧ LoreOk L ∧ ∀ H', Same H H' → Q (.str (textL L)) H'
theorem scText : FnScope ["lore", "rows", "name", "some", "piece"] ["lore"] (defScope sText) := ⟨rfl, rfl, rfl, by decide +kernel, rfl, by decide +kernel, by decide +kernel⟩
theorem ok_text (F : Fun K "_law_shelf_text" "_law_shelf_text" sText f fd) (T : Bl mg) (hZ : mg "zip" = none) : FnOk P w K mg base CX0 1 f fd ["lore"] spText := by
  refine F.ok scText (fun vs H Q E h => ?_) (fun cdv A outer s H vs Q E hr h => ?_)
  · obtain ⟨lo, L, rfl, _⟩ := h
    rfl
  · obtain ⟨lo, L, rfl, hl, ok, k⟩ := h
    have nd := scText.nd
    have hu := hu_of hr
    refine ⟨_, pss_cons (ps_set (i := 1) nd rfl (.inl rfl) (pe_lst (pa_cons (pe_join pe_str (pe_op op_cat (pe_lst (pa_cons pe_str pa_nil)) (pe_callTy call_list_of rfl T.list boot_list (pa_cons (pe_dget hu (pv 0) pe_str (fun _ _ => rfl)) pa_nil)))) pa_nil)))
      (pss_cons (ps_for PassesOwn.never rfl (pi_zipA (by rfl) hZ (pa_cons (pe_dget hu (pv 0) pe_str (fun _ _ => rfl)) (pa_cons (pe_dget hu (pv 0) pe_str (fun _ _ => rfl)) pa_nil))) (pg_tup rfl (pgs_cons (pg_name (i := 2) nd rfl (.inl rfl)) (pgs_cons (pg_name (i := 3) nd rfl (.inl rfl)) pgs_nil)))
          (pss_one (ps_expr (pe_bm PySem.F.plainAttrs_list PySem.F.slot_list_append PySem.F.type_list_append mt_append (pv 1) (pa_cons (pe_join pe_str (pe_op op_cat (pe_lst (pa_cons pe_str (pa_cons (pv 2) pa_nil)))
            (pe_lc (own := [("piece", 4)]) (g := gName 4) (tt := tYes) (te := tM1 (rJoin K) (tC (.str "+")) (tCB (rListOf K) (tCons (tVar 4) tNil))) rfl nd (pi_tup (pv 3)) (blkOk_by (N := ["lore", "rows", "name", "some", "piece"]) (sc := defScope sText) (by decide +kernel))
              (fun _ _ _ _ _ => pg_name (i := 4) nd rfl (Or.inl rfl)) (fun _ _ _ _ _ => pts_nil) (fun _ _ _ _ _ => pe_join pe_str (pe_callTy call_list_of rfl T.list boot_list (pa_cons (pv 4) pa_nil)))))) pa_nil)))))
        (pss_one (ps_ret (pe_join pe_str (pv 1))))), ?_⟩
    obtain ⟨pa, nm, pt, rows, e1, e2, e3, e4, e5⟩ := hl
    have pl : ∀ p ∈ L.parts, p.length ≤ 6 := fun p hp => part_len p (ok.pp p hp)
    have hp0 : ∀ x ∈ ("parts" : Str) :: L.parts, x.length ≤ 6 := fun x hx => by
      rcases List.mem_cons.mp hx with rfl | hx
      · decide
      · exact pl x hx
    have p4 := ok.p4
    have j0 := join_le (s := (" " : Str)) (n := 5) (by show L.parts.length + 1 ≤ 5; omega) hp0
    refine ⟨⟨_, rfl⟩, few_ok rfl, fun l1 n1 => ?_⟩
    have s1 : Same H (upd H l1 (.lst [.str "parts"])) := same_new n1
    refine ⟨_, rfl, lo, _, rfl, (dget3 (e1.same s1)).1, ?_⟩
    refine ⟨pa, _, rfl, .inr (.inl (.inl (s1 _ _ e2))), fun l2 n2 => ?_⟩
    have s2 : Same H (upd (upd H l1 (.lst [.str "parts"])) l2 (.lst (L.parts.map V.str))) := s1.trans (same_new n2)
    have l12 : l1 ≠ l2 := fun z => by rw [← z, upd_same] at n2; cases n2
    refine ⟨l1, l2, _, _, rfl, rfl, by rw [upd_ne l12, upd_same], upd_same, by rw [List.length_map, sizeLine_eq]; show 1 + L.parts.length ≤ _; omega, fun p np => ?_⟩
    have s3 := s2.trans (same_new (o := .lst ([.str "parts"] ++ L.parts.map V.str)) np)
    refine ⟨_, p, "parts" :: L.parts, rfl, rfl, .inl (SqL.of upd_same), Nat.le_trans j0.1 (by decide), ?_⟩
    refine ⟨few_ok rfl, fun rw0 nrw => ?_⟩
    have s4 := s3.trans (same_new (o := .lst [.str (Txt.join " " ("parts" :: L.parts))]) nrw)
    generalize hH0 : upd (upd (upd (upd H l1 (.lst [.str "parts"])) l2 (.lst (L.parts.map V.str))) p (.lst ([.str "parts"] ++ L.parts.map V.str))) rw0 (.lst [.str (Txt.join " " ("parts" :: L.parts))]) = H0 at s4
    have er0 : H0 rw0 = some (.lst [.str (lineP L)]) := by rw [← hH0, upd_same]; rfl
    have nHr : H rw0 = none := by
      cases z : H rw0 with
      | none => rfl
      | some o => rw [s3 _ _ z] at nrw; cases nrw
    have e1' := e1.same s4
    have rwl : rows.length = L.kps.length := paired_len e5
    refine ⟨_, rfl, lo, _, rfl, (dget3 e1').2.1, _, rfl, lo, _, rfl, (dget3 e1').2.2, nm, pt, (L.kps.map (·.1)).map V.str, rows, rfl, .inr ⟨(e3.same s4).sq, SqT.of (s4 _ _ e4), ?_⟩⟩
    obtain ⟨zs, hz1, hz2, hz3⟩ := paired_zip e5
    refine for_zipT (xs := (L.kps.map (·.1)).map V.str) (ys := rows) (by rw [List.length_map, List.length_map]; omega) (fun i σ H' => ∃ u v w : Option V, σ = [some (.ref lo), some (.ref rw0), u, v, w] ∧ H' rw0 = some (.lst ((lineP L :: (L.kps.take i).map lineK).map V.str)) ∧ Same H H') ?_ ?_ ?_ ?_
    · exact ⟨none, none, none, rfl, er0, s4⟩
    · rintro i σ H' ⟨u, v, w, rfl, hr, ss⟩
      exact ⟨(e3.same ss).sq, SqT.of (ss _ _ e4)⟩
    · rintro i x y TT σ H' hx hy ⟨u, v, w, rfl, hr, ss⟩ nTT
      obtain ⟨z, hz⟩ : ∃ z, zs[i]? = some z := by
        rw [← hz1, List.getElem?_map] at hy
        cases e : zs[i]? with
        | none => rw [e] at hy; cases hy
        | some z => exact ⟨z, rfl⟩
      have hy2 : z.1 = y := by rw [← hz1, List.getElem?_map, hz] at hy; exact Option.some.inj hy
      have hk : L.kps[i]? = some z.2 := by rw [← hz2, List.getElem?_map, hz]; rfl
      have hi : i < L.kps.length := (List.getElem?_eq_some_iff.mp hk).1
      obtain rfl : V.str z.2.1 = x := by rw [List.getElem?_map, List.getElem?_map, hk] at hx; exact Option.some.inj hx
      obtain ⟨q, ts, ex, eq, ep⟩ := hz3 z (List.mem_of_getElem? hz)
      obtain ⟨zx, kq⟩ := z
      dsimp only at hy2 hk ex eq ep
      subst hy2
      subst ex
      have km := List.mem_of_getElem? hk
      obtain ⟨q1, q2, q3⟩ := ok.q kq km
      have sT : Same H' (upd H' TT (.tup [.str kq.1, .ref q])) := same_new nTT
      refine ⟨TT, _, rfl, SqT.of upd_same, rfl, _, _, rfl, _, _, rfl, rfl, ?_⟩
      have hr' := sT _ _ hr
      have ss' := ss.trans sT
      show _
      generalize upd H' TT (.tup [.str kq.1, .ref q]) = HT at sT hr' ss'
      refine ⟨_, rfl, .inl ⟨rfl, _, SqL.of hr'⟩, ⟨_, rfl⟩, _, rfl, few_ok rfl, fun l3 n3 => ?_⟩
      have s5 : Same HT (upd HT l3 (.lst [.str "keeper", .str kq.1])) := same_new n3
      have eq5 := s5 _ _ (ss' _ _ eq)
      have ep5 : Pieces (upd HT l3 (.lst [.str "keeper", .str kq.1])) ts kq.2 := ep.tups (.of (ss'.trans s5))
      have el5 : upd HT l3 (.lst [.str "keeper", .str kq.1]) l3 = some (.lst [.str "keeper", .str kq.1]) := upd_same
      generalize upd HT l3 (.lst [.str "keeper", .str kq.1]) = H5 at s5 eq5 ep5 el5
      obtain ⟨ws, hw1, hw2, hw3⟩ := paired_zip ep5
      have wl : ws.length = kq.2.length := by rw [← hw2, List.length_map]
      have pw : ∀ p ∈ kq.2, p.length ≤ 4 ∧ ∀ x ∈ p, x.length ≤ 6 := fun p hp => ⟨Nat.le_trans (q3 p hp).len p4, fun x hx => pl x ((q3 p hp).sub x hx)⟩
      have jp : ∀ p ∈ kq.2, _ := fun p hp => join_le (s := ("+" : Str)) (pw p hp).1 (pw p hp).2
      have wk : ∀ x ∈ wordsK kq, x.length ≤ 28 := fun x hx => by
        rcases List.mem_cons.mp hx with rfl | hx
        · decide
        rcases List.mem_cons.mp hx with rfl | hx
        · exact Nat.le_trans (name_len _ (ok.kp kq km)) (by decide)
        obtain ⟨p, hp, rfl⟩ := List.mem_map.mp hx
        exact (jp p hp).2
      have jk := join_le (s := (" " : Str)) (n := 4) (by show (kq.2.map pieceW).length + 1 + 1 ≤ 4; rw [List.length_map]; omega) wk
      refine ⟨_, rfl, q, rfl, ⟨_, SqT.of eq5⟩, lc_over (Q := fun x H1 => rCat (.ref l3) x H1 _) walk_tup ws (·.1) (fun z => some (.str (pieceW z.2))) hw1.symm (by omega) (fun H s => sqT_same s (SqT.of eq5)) ?_ ?_⟩
      · intro j b H6 R Rn hb s6 k1 k2
        obtain ⟨t, et, eh⟩ := hw3 b (List.mem_of_getElem? hb)
        have bm : b.2 ∈ kq.2 := by rw [← hw2]; exact List.mem_map.mpr ⟨b, List.mem_of_getElem? hb, rfl⟩
        refine ⟨rfl, ⟨_, rfl⟩, _, rfl, t, b.2.map V.str, by rw [et], .inr (SqT.of (s6 _ _ eh)), fun l9 n9 => ?_⟩
        exact ⟨_, l9, b.2, rfl, rfl, .inl (SqL.of upd_same), Nat.le_trans (jp _ bm).1 (by decide), k1 _ _ rfl (same_new n9)⟩
      · intro D H6 nD s6 eD
        have fe : (ws.filterMap fun z => some (V.str (pieceW z.2))) = (kq.2.map pieceW).map V.str := by
          rw [← hw2]
          simp [Function.comp_def]
        rw [fe] at eD
        refine ⟨l3, D, _, _, rfl, rfl, s6 _ _ el5, eD, by rw [List.length_map, List.length_map, sizeLine_eq]; show 2 + kq.2.length ≤ _; omega, fun p np => ?_⟩
        have s7 : Same H6 (upd H6 p (.lst ([.str "keeper", .str kq.1] ++ (kq.2.map pieceW).map V.str))) := same_new np
        refine ⟨_, p, wordsK kq, rfl, rfl, .inl (SqL.of upd_same), Nat.le_trans jk.1 (by decide), ?_⟩
        have sH : Same HT (upd H6 p (.lst ([.str "keeper", .str kq.1] ++ (kq.2.map pieceW).map V.str))) := (s5.trans s6).trans s7
        refine ⟨rw0, _, _, rfl, rfl, sH _ _ hr', by rw [List.length_map, List.length_cons, List.length_map, List.length_take, sizeLine_eq]; have := ok.k6; omega, ?_⟩
        refine ⟨_, _, _, rfl, ?_, fun b o e => ?_⟩
        · rw [upd_same, List.take_add_one, hk]
          simp
          rfl
        · rw [upd_ne (ne_of_none e nHr)]
          exact sH _ _ (ss' _ _ e)
    · rintro σ H' ⟨u, v, w, rfl, hr, ss⟩
      rw [List.length_map, List.length_map, List.take_length] at hr
      refine ⟨⟨_, rfl⟩, _, rfl, _, rw0, rowsL L, rfl, rfl, .inl (SqL.of hr), ?_, k H' ss⟩
      exact Nat.le_trans (join_le (s := ("\n" : Str)) (n := 7) (c := 120) (by show (L.kps.map lineK).length + 1 ≤ 7; rw [List.length_map]; have := ok.k6; omega) (rows_len ok)).1 (by decide)
end
end K6
set_option Elab.async false
set_option linter.all false
set_option maxRecDepth 100000
set_option maxHeartbeats 4000000
/-! Part S: set(x) of unlike texts, its length. -/
namespace LkS
open PySem PySem.Spec PyProof.Rows
section
variable {p : Program} {w : World} {A : Around} {R : Result → Shared → Prop} {I : Addr} {fp wr : List Addr} {G : Array GenState → Array GenState → Prop} {n : Nat} {P : Nat → Value → Prop} {St : Nat → Shared → Prop}
theorem any_take_not {zs : List Str} (nd : zs.Nodup) {i : Nat} (hi : i < zs.length) : (zs.take i).any (· == zs.getD i Str.empty) = false := by
  have e : zs.getD i Str.empty = zs[i] := by simp [List.getD_eq_getElem?_getD, hi]
  rw [e, List.any_eq_false]
  intro z hz q
  have q2 : z = zs[i] := by simpa using q
  obtain ⟨j, hj, ej⟩ := List.mem_iff_getElem.mp hz
  rw [List.getElem_take] at ej
  have hj2 : j < i := by rw [List.length_take] at hj; omega
  exact (List.pairwise_iff_getElem.mp nd) j i (by omega) hi hj2 (ej.trans q2)
theorem strs_put (W : WalksS p w A.in1 I fp wr G n P St) (S : Addr) (out : S ∉ fp) (zs : List Str) (sz : zs.length = n) (nd : zs.Nodup) (few : n + 1 < scanBound) (val : ∀ i v, P i v → ∃ t, v = .str (zs.getD i Str.empty) t) :
    ∀ (d i : Nat) (s : Shared), n - i = d → i ≤ n → St i s → s.heap.SetOf (strKind p w) S (fun y => (zs.take i).any (· == y)) i →
      (∀ s2, Moved (S :: wr) G s s2 → s2.heap.SetOf (strKind p w) S (fun y => zs.any (· == y)) n → R (.ok (.ret .none)) s2) → codeAny (model p w) A (.builtin "set.update.loop" ⟨[.ref S, .ref I], []⟩) R s := by
  have out2 : S ∉ wr := fun q => out (W.sub _ q)
  have wide : ∀ b ∈ wr, b ∈ S :: wr := fun b q => List.mem_cons_of_mem _ q
  intro d
  induction d with
  | zero =>
    intro i s ed hi st has fin
    obtain rfl : i = n := by omega
    refine codeAny_builtin F.entry_set_update_loop ?_; rw [Around.under_plainId F.plain_set_update_loop _]
    show wpAny _ A.in1 (pyNext (.ref I) >>= _) _ _ s; refine wpAny_bind (W.done s _ _ st fun s2 mv => ?_)
    show wpAny _ A.in1 (ret Value.none) _ _ s2
    have e : zs.take i = zs := List.take_of_length_le (by omega)
    rw [e] at has
    obtain ⟨o, es, ep, t, ho, more⟩ := has
    exact wpAny_pure (fin s2 (mv.mono wide) ⟨o, es, ep, t, mv.heap S _ out2 ho, more⟩)
  | succ d ih =>
    intro i s ed hi st has fin
    have lt : i < n := by omega
    refine codeAny_builtin F.entry_set_update_loop ?_; rw [Around.under_plainId F.plain_set_update_loop _]
    show wpAny _ A.in1 (pyNext (.ref I) >>= _) _ _ s; refine wpAny_bind (W.item i s _ _ lt st fun v s2 pv st2 mv => ?_)
    obtain ⟨t, rfl⟩ := val i v pv
    have has2 : s2.heap.SetOf (strKind p w) S (fun y => (zs.take i).any (· == y)) i := by
      obtain ⟨o, es, ep, tb, ho, more⟩ := has
      exact ⟨o, es, ep, tb, mv.heap S _ out2 ho, more⟩
    show wpAny _ A.in1 (holding [Value.str (zs.getD i Str.empty) t] (setAdd S (.str (zs.getD i Str.empty) t)) >>= _) _ _ s2
    refine wpAny_bind (wpAny_holding ?_); unfold setAdd; refine wpAny_holding (wpAny_bind ((strKind p w).pyHash (k := zs.getD i Str.empty) (strKind_is _ _ _ _) ?_))
    refine wpAny_setAddHashed_of (knd := strKind p w) (s := { s2 with toks := s2.toks + 1 }) (strKind_is _ _ _ _) rfl has2 (by omega) fun g same has3 => ?_
    have has4 : g.SetOf (strKind p w) S (fun y => (zs.take (i + 1)).any (· == y)) (i + 1) := by
      have no := any_take_not nd (i := i) (by omega)
      have lt2 : i < zs.length := by omega
      refine SetOf_congr has3 (fun y => ?_) (by rw [no]; rfl)
      rw [List.take_add_one, List.any_append, List.getD_eq_getElem?_getD, List.getElem?_eq_getElem lt2]
      simp only [Option.getD_some, Option.toList_some, List.any_cons, List.any_nil, Bool.or_false]
      congr 1
      by_cases q : y = zs[i]
      · simp [q]
      · have q2 : ¬ zs[i] = y := fun z => q z.symm
        simp [q, q2]
    refine wpAny_pure ⟨plainId_quiet F.plain_set_update_loop _, ih (i + 1) _ (by omega) lt (W.frame _ s2 _ _ st2 (Nat.le_succ _) fun b hb o e => ?_) has4 fun s3 mv3 has5 => ?_⟩
    · rw [same.2 b (fun q : b = S => out (by rw [← q]; exact hb))] <;> exact e
    · refine fin s3 (Moved.trans W.gtrans ((mv.mono wide).then_heap (Nat.le_succ _) fun b o nb e => ?_) mv3) has5
      rw [same.2 b (fun q : b = S => nb (by rw [q]; exact List.mem_cons_self))] <;> exact e
end
abbrev emptyS (led : Bool) : Obj := { cls := .type "set", dict := none, data := .set #[] 0 (.fresh 0 0 led) }
section
variable {p : Program} {w : World} {A : Around} {E : Value → Shared → Prop} {s : Shared}

set_option maxHeartbeats 8000000 in
/-- set(x), x a list of unlike texts -/
theorem set_of_list {l : Addr} {its : Array Value} {zs : List Str} {Q : Value → Shared → Prop} (calm : A.handled = none) (at_ : s.heap.IsList l its) (are : StrsAre its.toList zs) (nd : zs.Nodup) (few : zs.length + 1 < scanBound)
    (k : ∀ (g : Heap) (tk : Nat), g.SetOf (strKind p w) s.heap.objs.size (fun y => zs.any (· == y)) its.size → (∀ b o, s.heap.get? b = some o → g.get? b = some o) → Q (.ref s.heap.objs.size) { s with heap := g, toks := tk }) : wpAny (model p w) A (call (.type "set") [.ref l]) Q E s := by
  obtain ⟨c0, c1, eMro⟩ := F.called_set.mro; have eMade := F.called_set.made; have eSub := F.called_set.sub
  refine wpAny_call (codeAny_of_tree ?_); show wpAny _ _ (callAny (.type "set") _) _ _ _
  refine wpAny_pure ⟨Code.quiet_builtin _ (by decide +kernel), codeAny_builtin F.entry_type_call ?_⟩; rw [Around.under_plain (weight_type_call_type "set" [.ref l] []) rfl]
  have e1 := F.called_set.notType; have e2 := F.called_set.canCreate; have e3 := F.typeCall_set_1 (.ref l)
  repeat (any_goals (first | assumption | wp_step))
  refine codeAny_mono (code_set_new_1 (.ref l) (E := E) (Q₁ := fun o s₁ => ∃ led, o = .ref s.heap.objs.size ∧ s₁ = { s with heap := s.heap.push (emptyS led) }) fun led => ⟨led, rfl, rfl⟩) fun r s₁ er => ?_
  match r, er with
  | .error _, er => exact er
  | .ok .next, er => exact er.elim
  | .ok .brk, er => exact er.elim
  | .ok .cont, er => exact er.elim
  | .ok (.ret o), ⟨led, e5, e6⟩ =>
    subst e5 e6
    have eS : (s.heap.push (emptyS led)).get? s.heap.objs.size = some (emptyS led) := Heap.get?_push_size _ rfl
    have eT : Shared.TypeIs { s with heap := s.heap.push (emptyS led) } (.ref s.heap.objs.size) "set" := ⟨_, eS, rfl⟩
    have e7 := F.called_set.init.lookup; have e8 := F.called_set.init.bind (.ref s.heap.objs.size)
    repeat (any_goals (first | assumption | wp_step))
    refine codeAny_mono (codeAny_call_builtin (R := wants (fun r s₂ => r = .none ∧ ∃ g tk, s₂ = { s with heap := g, toks := tk } ∧ g.SetOf (strKind p w) s.heap.objs.size (fun y => zs.any (· == y)) its.size ∧ ∀ b o, s.heap.get? b = some o → g.get? b = some o) E) F.called_set.init.plain F.entry_set_init (check_set_init_1 eT ?_)) fun r₂ s₂ er₂ => ?_
    · obtain ⟨⟨cls, odc, odt, osl⟩, here, ecl, m, edt⟩ := at_
      simp only at ecl edt; subst ecl edt
      have here2 : (s.heap.push (emptyS led)).get? l = some { cls := .type "list", dict := odc, data := .seq its m, slots := osl } := Heap.get?_push_of_some _ here
      have f1 := F.sub_list_set; have f2 := F.sub_list_frozenset; have f3 : (Value.type "list" == Value.type "dict") = false := by decide
      have its1 : (s.heap.push (emptyS led)).IsList l its := ⟨_, here2, rfl, m, rfl⟩
      unfold Builtin.«set.__init__» noKeywords Builtin.Frozenset.updateFrom
      generalize eIter : pyIter = It
      wp_walk
      subst eIter
      refine wpAny_pyIter_list its1 (wpAny_bind (wpAny_runValue ?_))
      have lt : l < s.heap.objs.size := Heap.lt_size here
      have calm3 : A.in1.in1.in1.handled = none := by simp [calm]
      have ps : (s.heap.push (emptyS led)).objs.size = s.heap.objs.size + 1 := Heap.size_push ..
      have n1 : l ≠ (s.heap.push (emptyS led)).objs.size := by rw [ps]; exact Nat.ne_of_lt (Nat.lt_succ_of_lt lt)
      have n2 : s.heap.objs.size ∉ [(s.heap.push (emptyS led)).objs.size, l] := by simp only [List.mem_cons, List.not_mem_nil, or_false, not_or, ps]; exact ⟨Nat.ne_of_lt (Nat.lt_succ_self _), Nat.ne_of_gt lt⟩
      have sz : zs.length = its.size := by rw [← StrsAre.len_eq are, Array.length_toList]
      have eS2 : ((s.heap.push (emptyS led)).push { cls := .type "list_iterator", data := .fields #[.ref l, .int 0 0] }).get? s.heap.objs.size = some (emptyS led) := Heap.get?_push_of_some _ eS
      refine strs_put ((Walks.list calm3 _ l n1 its).toS) s.heap.objs.size n2 zs sz nd (by omega) (fun i v ev => SS.strs_at are i v (by rw [Array.getElem?_toList]; exact ev)) its.size 0 _ rfl (Nat.zero_le _) ⟨⟨_, Heap.get?_push_size _ rfl, rfl, rfl⟩, its1.push _⟩
        (SetOf_congr ((setObjOf_fresh (knd := strKind p w) led).setOf eS2 (by unfold scanBound; omega)) (fun _ => rfl) rfl) fun s3 mv S3 => ?_
      obtain ⟨g3, gs3, dr3, tk3, os3⟩ := s3
      obtain rfl : gs3 = s.gens := mv.gens; obtain rfl : dr3 = s.drawn := mv.drawn; obtain rfl : os3 = s.os := mv.os
      show wpAny _ _ _ _ _ _; refine wpAny_pure ?_
      show wpAny _ _ (ret Value.none) _ _ _; refine wpAny_pure ⟨rfl, g3, tk3, rfl, S3, fun b o e => ?_⟩
      have lb : b < s.heap.objs.size := Heap.lt_size e
      exact mv.heap b o (by simp only [List.mem_cons, List.not_mem_nil, or_false, not_or, ps]; exact ⟨Nat.ne_of_lt lb, Nat.ne_of_lt (Nat.lt_succ_of_lt lb)⟩) (Heap.get?_push_of_some _ (Heap.get?_push_of_some _ e))
    · match r₂, er₂ with
      | .error _, er₂ => exact er₂
      | .ok .next, er₂ => exact er₂.elim
      | .ok .brk, er₂ => exact er₂.elim
      | .ok .cont, er₂ => exact er₂.elim
      | .ok (.ret _), ⟨e9, g, tk, e10, S9, k9⟩ =>
        subst e9 e10
        repeat (any_goals (first | assumption | wp_step))
        exact k _ _ S9 k9

set_option maxHeartbeats 8000000 in
/-- set(x), x a tuple of unlike texts -/
theorem set_of_tuple {l : Addr} {its : Array Value} {zs : List Str} {Q : Value → Shared → Prop} (calm : A.handled = none) (at_ : s.heap.IsTuple l its) (are : StrsAre its.toList zs) (nd : zs.Nodup) (few : zs.length + 1 < scanBound)
    (k : ∀ (g : Heap) (tk : Nat), g.SetOf (strKind p w) s.heap.objs.size (fun y => zs.any (· == y)) its.size → (∀ b o, s.heap.get? b = some o → g.get? b = some o) → Q (.ref s.heap.objs.size) { s with heap := g, toks := tk }) : wpAny (model p w) A (call (.type "set") [.ref l]) Q E s := by
  obtain ⟨c0, c1, eMro⟩ := F.called_set.mro; have eMade := F.called_set.made; have eSub := F.called_set.sub
  refine wpAny_call (codeAny_of_tree ?_); show wpAny _ _ (callAny (.type "set") _) _ _ _
  refine wpAny_pure ⟨Code.quiet_builtin _ (by decide +kernel), codeAny_builtin F.entry_type_call ?_⟩; rw [Around.under_plain (weight_type_call_type "set" [.ref l] []) rfl]
  have e1 := F.called_set.notType; have e2 := F.called_set.canCreate; have e3 := F.typeCall_set_1 (.ref l)
  repeat (any_goals (first | assumption | wp_step))
  refine codeAny_mono (code_set_new_1 (.ref l) (E := E) (Q₁ := fun o s₁ => ∃ led, o = .ref s.heap.objs.size ∧ s₁ = { s with heap := s.heap.push (emptyS led) }) fun led => ⟨led, rfl, rfl⟩) fun r s₁ er => ?_
  match r, er with
  | .error _, er => exact er
  | .ok .next, er => exact er.elim
  | .ok .brk, er => exact er.elim
  | .ok .cont, er => exact er.elim
  | .ok (.ret o), ⟨led, e5, e6⟩ =>
    subst e5 e6
    have eS : (s.heap.push (emptyS led)).get? s.heap.objs.size = some (emptyS led) := Heap.get?_push_size _ rfl
    have eT : Shared.TypeIs { s with heap := s.heap.push (emptyS led) } (.ref s.heap.objs.size) "set" := ⟨_, eS, rfl⟩
    have e7 := F.called_set.init.lookup; have e8 := F.called_set.init.bind (.ref s.heap.objs.size)
    repeat (any_goals (first | assumption | wp_step))
    refine codeAny_mono (codeAny_call_builtin (R := wants (fun r s₂ => r = .none ∧ ∃ g tk, s₂ = { s with heap := g, toks := tk } ∧ g.SetOf (strKind p w) s.heap.objs.size (fun y => zs.any (· == y)) its.size ∧ ∀ b o, s.heap.get? b = some o → g.get? b = some o) E) F.called_set.init.plain F.entry_set_init (check_set_init_1 eT ?_)) fun r₂ s₂ er₂ => ?_
    · obtain ⟨⟨cls, odc, odt, osl⟩, here, ecl, m, edt⟩ := at_
      simp only at ecl edt; subst ecl edt
      have here2 : (s.heap.push (emptyS led)).get? l = some { cls := .type "tuple", dict := odc, data := .seq its m, slots := osl } := Heap.get?_push_of_some _ here
      have f1 := F.sub_tuple_set; have f2 := F.sub_tuple_frozenset; have f3 : (Value.type "tuple" == Value.type "dict") = false := by decide
      have its1 : (s.heap.push (emptyS led)).IsTuple l its := ⟨_, here2, rfl, m, rfl⟩
      unfold Builtin.«set.__init__» noKeywords Builtin.Frozenset.updateFrom
      generalize eIter : pyIter = It
      wp_walk
      subst eIter
      refine wpAny_pyIter_tuple its1 (wpAny_bind (wpAny_runValue ?_))
      have lt : l < s.heap.objs.size := Heap.lt_size here
      have calm3 : A.in1.in1.in1.handled = none := by simp [calm]
      have ps : (s.heap.push (emptyS led)).objs.size = s.heap.objs.size + 1 := Heap.size_push ..
      have n1 : l ≠ (s.heap.push (emptyS led)).objs.size := by rw [ps]; exact Nat.ne_of_lt (Nat.lt_succ_of_lt lt)
      have n2 : s.heap.objs.size ∉ [(s.heap.push (emptyS led)).objs.size, l] := by simp only [List.mem_cons, List.not_mem_nil, or_false, not_or, ps]; exact ⟨Nat.ne_of_lt (Nat.lt_succ_self _), Nat.ne_of_gt lt⟩
      have sz : zs.length = its.size := by rw [← StrsAre.len_eq are, Array.length_toList]
      have eS2 : ((s.heap.push (emptyS led)).push { cls := .type "tuple_iterator", data := .fields #[.ref l, .int 0 0] }).get? s.heap.objs.size = some (emptyS led) := Heap.get?_push_of_some _ eS
      refine strs_put ((Walks.tuple calm3 _ l n1 its).toS) s.heap.objs.size n2 zs sz nd (by omega) (fun i v ev => SS.strs_at are i v (by rw [Array.getElem?_toList]; exact ev)) its.size 0 _ rfl (Nat.zero_le _) ⟨⟨_, Heap.get?_push_size _ rfl, rfl, rfl⟩, its1.push _⟩
        (SetOf_congr ((setObjOf_fresh (knd := strKind p w) led).setOf eS2 (by unfold scanBound; omega)) (fun _ => rfl) rfl) fun s3 mv S3 => ?_
      obtain ⟨g3, gs3, dr3, tk3, os3⟩ := s3
      obtain rfl : gs3 = s.gens := mv.gens; obtain rfl : dr3 = s.drawn := mv.drawn; obtain rfl : os3 = s.os := mv.os
      show wpAny _ _ _ _ _ _; refine wpAny_pure ?_
      show wpAny _ _ (ret Value.none) _ _ _; refine wpAny_pure ⟨rfl, g3, tk3, rfl, S3, fun b o e => ?_⟩
      have lb : b < s.heap.objs.size := Heap.lt_size e
      exact mv.heap b o (by simp only [List.mem_cons, List.not_mem_nil, or_false, not_or, ps]; exact ⟨Nat.ne_of_lt lb, Nat.ne_of_lt (Nat.lt_succ_of_lt lb)⟩) (Heap.get?_push_of_some _ (Heap.get?_push_of_some _ e))
    · match r₂, er₂ with
      | .error _, er₂ => exact er₂
      | .ok .next, er₂ => exact er₂.elim
      | .ok .brk, er₂ => exact er₂.elim
      | .ok .cont, er₂ => exact er₂.elim
      | .ok (.ret _), ⟨e9, g, tk, e10, S9, k9⟩ =>
        subst e9 e10
        repeat (any_goals (first | assumption | wp_step))
        exact k _ _ S9 k9
end
end LkS
namespace Lk
open PySem PySem.Spec PyProof.Rows L2
/-- len(set(x)), x a list or a tuple of unlike texts -/
def tLenSetD (K : PySem.W.Frag) (ta : TE) : TE := fun σ H Q => ta σ H fun x H1 => ∃ l, ∃ zs : List Str, x = .ref l ∧ Sq K H1 l (zs.map V.str) ∧ zs.Nodup ∧ zs.length ≤ 1000 ∧ Q (.int zs.length) H1
theorem pe_lenSetD {X : Cx} {a : Expr} {ta : TE} {u1 u2 u3 pos : Pos} (hc : X.calm = true) (hg : Gl X "len") (hm : X.mg "len" = none) (hg2 : Gl X "set") (hm2 : X.mg "set" = none) (ha : PE X a ta)
    (na : starEach [a] X.env = (false, eval a X.env) :: starEach [] X.env := by rfl) : PE X (.Call (.Name "len" u1) [.Call (.Name "set" u2) [a] [] u3] [] pos) (tLenSetD X.K ta) := by
  refine ⟨fun pins s σ H Q I h => Call_ (ld_blt I hg hm boot_len (callWith_builtin1 (args_cons ?_ rfl) rfl rfl))⟩
  refine Call_ (ld_blt I hg2 hm2 boot_set (callWith_type1 (args_cons (thn (ha.run pins s σ H _ I h) fun v s1 ⟨x, H1, I1, r1, q1⟩ => args_nil ?_) na) na rfl))
  obtain ⟨l, zs, rfl, sq, nd, few, q1⟩ := q1
  cases r1
  have lb : zs.length + 1 < scanBound := by unfold scanBound; omega
  have go : ∀ (its : List Value), Vals (zs.map V.str) its → ∀ (g : Heap) (tk : Nat), g.SetOf (strKind X.prog X.w) s1.heap.objs.size (fun y => zs.any (· == y)) its.toArray.size → (∀ b o, s1.heap.get? b = some o → g.get? b = some o) →
      wpAny (model X.prog X.w) X.A (spliced (backTo pos (starEach [] X.env))) (fun vs s₂ => wpAny (model X.prog X.w) X.A (call (.builtin "len") (Value.ref s1.heap.objs.size :: vs)) (EP X pins σ Q) X.xe s₂) X.xe { s1 with heap := g, toks := tk } := fun its r g tk has keep => by
    refine args_nil ?_
    have sz : its.toArray.size = zs.length := by rw [List.size_toArray, ← r.length, List.length_map]
    rw [sz] at has
    obtain ⟨o, es, ep, t, ho, hex, hd, _, _, _, hf, hn⟩ := has
    have I2 : Inv X pins σ H1 { s1 with heap := g, toks := tk } := I1.kept fun b o e => keep b o e
    exact call_len_set ho hex hd hf (by rw [hn] <;> unfold scanBound at lb <;> omega) ⟨.int zs.length, H1, I2.tok _, ⟨_, by rw [hn]⟩, q1⟩
  rcases sq with sq | sq
  · obtain ⟨its, r, pl, _⟩ := I1.list sq
    exact LkS.set_of_list (I1.ok.hd hc) pl.isList (by simpa using strsAre_of r) nd lb fun g tk has keep => go its r g tk has keep
  · obtain ⟨its, r, pl, _⟩ := I1.tuple sq
    exact LkS.set_of_tuple (I1.ok.hd hc) pl (by simpa using strsAre_of r) nd lb fun g tk has keep => go its r g tk has keep
end Lk
set_option Elab.async false
set_option linter.all false
set_option maxRecDepth 100000
set_option maxHeartbeats 4000000
set_option pp.maxSteps 1200
set_option pp.deepTerms false
namespace K6
open PySem PySem.Spec PyProof.Rows L2 Lk
abbrev sIsName : Stmt := top 18
abbrev sAreNames : Stmt := top 19
def LETTERS : Str := "abcdefghijklmnopqrstuvwxyz"
/-- more names that the text leaves alone, and its constants -/
structure Cn (mg : Str → Option Value) : Prop where
  str : mg "str" = none
  tuple : mg "tuple" = none
  set : mg "set" = none
  sum : mg "sum" = none
  sorted : mg "sorted" = none
  zip : mg "zip" = none
  dict : mg "dict" = none
  letters : ∃ t, mg "LETTERS" = some (.str LETTERS t)
  parts : ∃ t, mg "MOST_PARTS" = some (.int 4 t)
  least : ∃ t, mg "LEAST_KEEPERS" = some (.int 2 t)
  most : ∃ t, mg "MOST_KEEPERS" = some (.int 6 t)
  pieces : ∃ t, mg "MOST_PIECES" = some (.int 2 t)
def LowOk (z : Str) : Prop := 1 ≤ z.length ∧ z.length ≤ 8 ∧ ∀ c ∈ z.cps.toList, c ∈ LETTERS.cps.toList
instance (z : Str) : Decidable (LowOk z) := by unfold LowOk; infer_instance
theorem low_parts : ∀ p ∈ partPool, LowOk p := by decide +kernel
theorem low_names : ∀ p ∈ namePool, LowOk p := by decide +kernel
theorem str_lc {z : Str} {g : TG} {tt : TT} {te : TE} {vs : List Nat} {σ : L2.St} {H1 : Hp} {Q : VK} (f : Nat → Option V) (few : z.cps.toList.length ≤ 100000)
    (hs : ∀ (i : Nat) c H (R : VK) (Rn : Hp → Prop), z.cps.toList[i]? = some c → Same H1 H → (∀ H4 y, f c = some y → Same H H4 → R y H4) → (∀ H4, f c = none → Same H H4 → Rn H4) →
      g (.str ⟨#[c]⟩) (wipe σ vs) H fun σ2 H2 => wipe σ2 vs = wipe σ vs ∧ tt σ2 H2 fun c H3 => if c = true then te σ2 H3 R else Rn H3)
    (hd : ∀ D H, H1 D = none → Same H1 H → H D = some (.lst (z.cps.toList.filterMap f)) → Q (.ref D) H) : LcR (Its z) g tt te vs σ H1 Q := by
  intro D nD
  refine lc_fm walk_str z.cps.toList f (by simp) (by simpa using few) nD (fun _ _ => trivial) ?_ (fun H s e => hd D H nD s e)
  rintro i x b H H' R Rn hb s ⟨rfl, c, hc, rfl⟩ k1 k2
  have : b = c := by
    rw [Array.getElem?_toList, hc] at hb
    exact (Option.some.inj hb).symm
  subst this
  exact hs i b _ R Rn hb s k1 k2
theorem fm_bl {α : Type} (q : α → Bool) (xs : List α) : (xs.filterMap fun x => some (V.bl (q x))) = (xs.map q).map V.bl := by
  induction xs with
  | nil => rfl
  | cons x xs ih => simp [List.filterMap_cons, ih]
/-- all([q(x) for x in xs]) -/
theorem seq_all {α : Type} {K : PySem.W.Frag} {a : Addr} {g : TG} {te : TE} {vs : List Nat} {σ : L2.St} {H1 : Hp} {R : VK} (xs : List α) (e : α → V) (q : α → Bool) (hq : Sq K H1 a (xs.map e)) (few : xs.length ≤ 100000)
    (hs : ∀ (i : Nat) b H (R' : VK), xs[i]? = some b → Same H1 H → (∀ H4, Same H H4 → R' (.bl (q b)) H4) → g (e b) (wipe σ vs) H fun σ2 H2 => wipe σ2 vs = wipe σ vs ∧ te σ2 H2 R')
    (hd : ∀ H, Same H1 H → R (.bl (xs.all q)) H) :
    ((∃ zs, SqL K H1 a zs) ∧ LcR (Itl K a) g tYes te vs σ H1 fun x H2 => tNil σ H2 fun xs H3 => rAll K (x :: xs) H3 R) ∨ ((∃ zs, SqT K H1 a zs) ∧ LcR (Itt K a) g tYes te vs σ H1 fun x H2 => tNil σ H2 fun xs H3 => rAll K (x :: xs) H3 R) := by
  refine seq_lc (Q := fun x H2 => rAll K [x] H2 R) xs e (fun x => some (.bl (q x))) hq few (fun i b H R' Rn hb s k1 k2 => ?_) fun D H nD s ed => ?_
  · have z := hs i b H R' hb s fun H4 s4 => k1 H4 _ rfl s4
    have ty : (fun σ2 H2 => wipe σ2 vs = wipe σ vs ∧ te σ2 H2 R') = (fun (σ2 : L2.St) H2 => wipe σ2 vs = wipe σ vs ∧ tYes σ2 H2 fun c H3 => if c = true then te σ2 H3 R' else Rn H3) := by
      funext σ2 H2
      show _ = (_ ∧ (if true = true then te σ2 H2 R' else Rn H2))
      rw [if_pos rfl]
    rw [ty] at z
    exact z
  · rw [fm_bl] at ed
    refine ⟨D, _, rfl, SqL.of ed, ?_⟩
    have : (xs.map q).all id = xs.all q := by simp [List.all_map]
    rw [this]
    exact hd H s
section
variable {P : Program} {w : World} {K : PySem.W.Frag} {mg : Str → Option Value} {base : Heap} {f : Addr} {fd : FuncData}
theorem isi_str {K : PySem.W.Frag} {H : Hp} {z : Str} {Q : VK} (q : Q (.bl true) H) : rIsi K [.str z, .ty "str"] H Q := ⟨_, _, _, _, true, rfl, .ty _, .base (.str _), by rfl, q⟩
def spIsName : Sp := fun vs H Q _ => ∃ z : Str, vs = [.str z] ∧ LowOk z ∧ ∀ H', Same H H' → Q (.bl true) H'
theorem scIsName : FnScope ["value", "sign"] ["value"] (defScope sIsName) := ⟨rfl, rfl, rfl, by decide +kernel, rfl, by decide +kernel, by decide +kernel⟩
theorem ok_isName (F : Fun K "is_name" "is_name" sIsName f fd) (T : Bl mg) (C : Cn mg) : FnOk P w K mg base CX0 1 f fd ["value"] spIsName := by
  refine F.ok scIsName (fun vs H Q E h => ?_) (fun cdv A outer s H vs Q E hr h => ?_)
  · obtain ⟨z, rfl, _⟩ := h
    rfl
  · obtain ⟨z, rfl, ⟨z1, z8, zl⟩, k⟩ := h
    have nd := scIsName.nd
    obtain ⟨t, ht⟩ := C.letters
    refine ⟨_, pss_cons (ps_if (PW.pt (pw_or (pt_not (pt_val (pe_callB call_isi (by rfl) T.isin boot_isinstance (pa_cons (pv 0) (pa_cons (pe_bltn (v := .ty "str") (by rfl) C.str rfl rfl) pa_nil)))))
        (pw_or1 (pt_not (pt_chain op_le op_le pe_int (pe_callB call_len_str (by rfl) T.len PySem.boot_len (pa_cons (pv 0) pa_nil)) pe_int))))) (pss_no) pss_nil)
      (pss_one (ps_ret (pe_callB (cr_all rfl) (by rfl) T.all boot_all (pa_cons (pe_lc (own := [("sign", 1)]) (g := gName 1) (tt := tYes) (te := tOp (fun x y H Q => ∃ (c : Nat) (z : Str), x = .str ⟨#[c]⟩ ∧ y = .str z ∧ Q (.bl (decide (c ∈ z.cps.toList))) H) (tVar 1) (tC (.str LETTERS))) rfl nd (pi_str (pv 0)) (blkOk_by (N := ["value", "sign"]) (sc := defScope sIsName) (by decide +kernel))
          (fun _ _ _ _ _ => pg_name (i := 1) nd rfl (Or.inl rfl)) (fun _ _ _ _ _ => pts_nil) (fun _ _ _ _ _ => pe_cmpR op_in_sign (pv 1) (pe_glob (v := .str LETTERS) (by rfl) ht ⟨_, rfl⟩) rfl)) pa_nil)))), ?_⟩
    refine ⟨_, rfl, _, _, _, _, true, rfl, .ty _, .base (.str _), by rfl, _, rfl, iteB rfl ?_⟩
    refine ⟨_, rfl, z, rfl, by rw [sizeLine_eq]; omega, _, _, rfl, rfl, _, rfl, iteA (decide_eq_true (by show (1 : Int) ≤ z.length; omega)) ?_⟩
    refine ⟨_, _, rfl, rfl, _, rfl, iteB ?_ ?_⟩
    · show (!decide ((z.length : Int) ≤ 8)) = false
      rw [decide_eq_true (by omega)]
      rfl
    have zz : z.cps.toList.length ≤ 8 := by simpa [Str.length] using z8
    refine ⟨_, rfl, z, rfl, str_lc (Q := fun x H1 => rAll K [x] H1 Q) (fun c => some (.bl (decide (c ∈ LETTERS.cps.toList)))) (by omega) ?_ ?_⟩
    · intro i c H1 R Rn hc s1 k1 k2
      exact ⟨rfl, _, rfl, c, LETTERS, rfl, rfl, k1 _ _ rfl (Same.refl _)⟩
    · intro D H1 nD s1 e
      rw [fm_bl] at e
      refine ⟨D, _, rfl, SqL.of e, ?_⟩
      have : (z.cps.toList.map fun c => decide (c ∈ LETTERS.cps.toList)).all id = true := by
        rw [List.all_eq_true]
        intro b hb
        obtain ⟨c, hc, rfl⟩ := List.mem_map.mp hb
        exact decide_eq_true (zl c hc)
      rw [this]
      exact k _ s1
/-! ### are_names -/
def spAreNames (K : PySem.W.Frag) : Sp := fun vs H Q _ => ∃ (l : Addr) (zs : List Str), vs = [.ref l] ∧ Sq K H l (zs.map V.str) ∧ zs.length ≤ 1000 ∧ (∀ z ∈ zs, LowOk z) ∧ zs.Nodup ∧ ∀ H', Same H H' → Q (.bl true) H'
theorem scAreNames : FnScope ["some", "name"] ["some"] (defScope sAreNames) := ⟨rfl, rfl, rfl, by decide +kernel, rfl, by decide +kernel, by decide +kernel⟩
theorem ok_areNames {f1 : Addr} {fd1 : FuncData} (F : Fun K "are_names" "are_names" sAreNames f fd) (T : Bl mg) (C : Cn mg) (F1 : Fun K "is_name" "is_name" sIsName f1 fd1) (b1 : Binds K fd1 ["value"] []) (m1 : mg "is_name" = some (.ref f1)) :
    FnOk P w K mg base CX0 2 f fd ["some"] (spAreNames K) := by
  have G1 : FnOk P w K mg base CX0 1 f1 fd1 ["value"] spIsName := ok_isName F1 T C
  refine F.ok scAreNames (fun vs H Q E h => ?_) (fun cdv A outer s H vs Q E hr h => ?_)
  · obtain ⟨l, zs, rfl, _⟩ := h
    rfl
  · obtain ⟨l, zs, rfl, hl, few, low, ndz, k⟩ := h
    have nd := scAreNames.nd
    refine ⟨_, pss_one (ps_ret (pe_and (pe_callB (cr_all rfl) (by rfl) T.all boot_all (pa_cons (pe_lc (own := [("name", 1)]) (g := gName 1) (tt := tYes) (te := tCall spIsName [] E0 (tCons (tVar 1) tNil)) rfl nd (pi_seq (pi_list (pv 0)) (pi_tup (pv 0))) (blkOk_by (N := ["some", "name"]) (sc := defScope sAreNames) (by decide +kernel))
          (fun _ _ _ _ _ => pg_name (i := 1) nd rfl (Or.inl rfl)) (fun _ _ _ _ _ => pts_nil) (fun _ _ _ _ _ => pe_call G1 hr (by rfl) m1 F1.kp b1 .nil pass0 (pa_cons (pv 1) pa_nil))) pa_nil))
        (pe_one (pe_cmpR op_eq (pe_lenSetD rfl (by rfl) T.len (by rfl) C.set (pv 0)) (pe_callB call_len_seq (by rfl) T.len PySem.boot_len (pa_cons (pv 0) pa_nil)) (nomark _))))), ?_⟩
    refine ⟨l, rfl, seq_all zs V.str (fun _ => true) hl (by omega) (fun i z H1 R hz s1 k1 => ⟨rfl, _, rfl, z, rfl, low z (List.mem_of_getElem? hz), fun H2 s2 => k1 _ s2⟩) fun H1 s1 => ?_⟩
    have : (zs.all fun _ => true) = true := by simp
    rw [this]
    refine ⟨_, rfl, iteT ⟨_, rfl, l, zs, rfl, hl.same s1, ndz, few, _, rfl, l, _, rfl, hl.same s1, rfl, ?_⟩⟩
    rw [List.length_map, decide_eq_true rfl]
    exact k _ s1
end
end K6
set_option Elab.async false
set_option linter.all false
set_option maxRecDepth 100000
set_option maxHeartbeats 4000000
set_option pp.maxSteps 1200
set_option pp.deepTerms false
/-! what is written is read again -/
namespace K6
open PySem PySem.Spec PyProof.Rows L2 Lk
open TL
theorem mem_joinL {c : Nat} {S : List Nat} : ∀ {ps : List (List Nat)}, c ∈ joinL S ps → c ∈ S ∨ ∃ p ∈ ps, c ∈ p
  | [], h => by simp [joinL] at h
  | [p], h => .inr ⟨p, List.mem_cons_self, h⟩
  | p :: q :: r, h => by
    have h2 : c ∈ p ++ (S ++ joinL S (q :: r)) := h
    rcases List.mem_append.mp h2 with h | h
    · exact .inr ⟨p, List.mem_cons_self, h⟩
    rcases List.mem_append.mp h with h | h
    · exact .inl h
    rcases mem_joinL h with h | ⟨x, hx, h⟩
    · exact .inl h
    · exact .inr ⟨x, List.mem_cons_of_mem _ hx, h⟩
theorem mem_join {c : Nat} {s : Str} {xs : List Str} (h : c ∈ tl (Txt.join s xs)) : c ∈ tl s ∨ ∃ x ∈ xs, c ∈ tl x := by
  rw [join_eq, tl_join] at h
  rcases mem_joinL h with h | ⟨p, hp, h⟩
  · exact .inl h
  · obtain ⟨x, hx, rfl⟩ := List.mem_map.mp hp
    exact .inr ⟨x, hx, h⟩
theorem part_signs : ∀ p ∈ partPool, 43 ∉ tl p ∧ 32 ∉ tl p ∧ 10 ∉ tl p := by decide +kernel
theorem name_signs : ∀ p ∈ namePool, 32 ∉ tl p ∧ 10 ∉ tl p := by decide +kernel
theorem split_piece {L : Lore} (ok : LoreOk L) {p : List Str} (h : PieceOk L.parts p) : Txt.split (pieceW p) "+" = p :=
  split_join (s := 43) (S := []) rfl (by decide +kernel) h.1 fun x hx => (part_signs x (ok.pp x (h.sub x hx))).1
theorem split_lineP {L : Lore} (ok : LoreOk L) : Txt.split (lineP L) " " = ("parts" : Str) :: L.parts :=
  split_join (s := 32) (S := []) rfl (by decide +kernel) (by simp) fun x hx => by
    rcases List.mem_cons.mp hx with rfl | hx
    · decide +kernel
    · exact (part_signs x (ok.pp x hx)).2.1
theorem words_signs {L : Lore} (ok : LoreOk L) {k : KP} (km : k ∈ L.kps) : ∀ x ∈ wordsK k, 32 ∉ tl x ∧ 10 ∉ tl x := fun x hx => by
  rcases List.mem_cons.mp hx with rfl | hx
  · decide +kernel
  rcases List.mem_cons.mp hx with rfl | hx
  · exact name_signs _ (ok.kp k km)
  obtain ⟨p, hp, rfl⟩ := List.mem_map.mp hx
  have e : ∀ c : Nat, c ∉ tl ("+" : Str) → (∀ q ∈ partPool, c ∉ tl q) → c ∉ tl (pieceW p) := fun c h1 h2 h3 => by
    rcases mem_join h3 with h | ⟨y, hy, h⟩
    · exact h1 h
    · exact h2 y (ok.pp y ((((ok.q k km).2.2 p hp)).sub y hy)) h
  exact ⟨e 32 (by decide +kernel) fun q hq => (part_signs q hq).2.1, e 10 (by decide +kernel) fun q hq => (part_signs q hq).2.2⟩
theorem split_lineK {L : Lore} (ok : LoreOk L) {k : KP} (km : k ∈ L.kps) : Txt.split (lineK k) " " = wordsK k :=
  split_join (s := 32) (S := []) rfl (by decide +kernel) (by unfold wordsK; simp) fun x hx => (words_signs ok km x hx).1
theorem split_text {L : Lore} (ok : LoreOk L) : Txt.split (textL L) "\n" = rowsL L :=
  split_join (s := 10) (S := []) rfl (by decide +kernel) (by unfold rowsL; simp) fun x hx => by
    rcases List.mem_cons.mp hx with rfl | hx
    · intro h
      rcases mem_join h with h | ⟨y, hy, h⟩
      · exact absurd h (by decide +kernel)
      rcases List.mem_cons.mp hy with rfl | hy
      · exact absurd h (by decide +kernel)
      · exact (part_signs y (ok.pp y hy)).2.2 h
    · obtain ⟨k, hk, rfl⟩ := List.mem_map.mp hx
      intro h
      rcases mem_join h with h | ⟨y, hy, h⟩
      · exact absurd h (by decide +kernel)
      · exact (words_signs ok hk y hy).2 h
end K6
set_option Elab.async false
set_option linter.all false
set_option maxRecDepth 100000
set_option maxHeartbeats 4000000
set_option pp.maxSteps 1200
set_option pp.deepTerms false
namespace K6
open PySem PySem.Spec PyProof.Rows L2 Lk
abbrev sPartsLine : Stmt := top 43
abbrev sPieceWord : Stmt := top 44
abbrev sWhole : Stmt := top 45
theorem cut1 (xs : List V) (h : 1 ≤ xs.length) : cutV xs (some 1) none = xs.drop 1 := by
  show (xs.drop (min 1 xs.length)).take (xs.length - min 1 xs.length) = _
  rw [Nat.min_eq_left h]
  exact List.take_of_length_le (by rw [List.length_drop]; omega)
theorem at0 {xs : List V} {v : V} (h : xs[0]? = some v) : atI xs 0 = some v := atI_nat h
theorem at1 {xs : List V} {v : V} (h : xs[1]? = some v) : atI xs 1 = some v := atI_nat h
section
variable {P : Program} {w : World} {K : PySem.W.Frag} {mg : Str → Option Value} {base : Heap} {f : Addr} {fd : FuncData}
/-! ### is_parts_line -/
def spPartsLine : Sp := fun vs H Q _ => ∃ L : Lore, vs = [.str (lineP L)] ∧ LoreOk L ∧ ∀ H', Same H H' → Q (.bl true) H'
theorem scPartsLine : FnScope ["line", "words"] ["line"] (defScope sPartsLine) := ⟨rfl, rfl, rfl, by decide +kernel, rfl, by decide +kernel, by decide +kernel⟩
theorem ok_partsLine {f1 f2 : Addr} {fd1 fd2 : FuncData} (F : Fun K "is_parts_line" "is_parts_line" sPartsLine f fd) (T : Bl mg) (C : Cn mg) (F1 : Fun K "is_name" "is_name" sIsName f1 fd1) (b1 : Binds K fd1 ["value"] []) (m1 : mg "is_name" = some (.ref f1))
    (F2 : Fun K "are_names" "are_names" sAreNames f2 fd2) (b2 : Binds K fd2 ["some"] []) (m2 : mg "are_names" = some (.ref f2)) :
    FnOk P w K mg base CX0 3 f fd ["line"] spPartsLine := by
  have G2 : FnOk P w K mg base CX0 2 f2 fd2 ["some"] (spAreNames K) := ok_areNames F2 T C F1 b1 m1
  refine F.ok scPartsLine (fun vs H Q E h => ?_) (fun cdv A outer s H vs Q E hr h => ?_)
  · obtain ⟨L, rfl, _⟩ := h
    rfl
  · obtain ⟨L, rfl, ok, k⟩ := h
    have nd := scPartsLine.nd
    obtain ⟨t4, h4⟩ := C.parts
    refine ⟨_, pss_cons (ps_set (i := 1) nd rfl (.inl rfl) (pe_split (pv 0) pe_str))
      (pss_one (ps_ret (pe_and (pe_cmpR op_eq (pe_ix ix_list (pv 1) pe_int (fun _ _ => rfl)) pe_str (nomark _))
        (pe_and (pe_chain op_le op_le pe_int (pe_callB call_len_seq (by rfl) T.len PySem.boot_len (pa_cons (pv 1) pa_nil)) (pe_op op_add pe_int (pe_glob (v := .int 4) (by rfl) h4 ⟨_, rfl⟩)))
          (pe_one (pe_call G2 hr (by rfl) m2 F2.kp b2 .nil pass0 (pa_cons (pe_slice sl_list (pv 1) (po_some pe_int) po_none) pa_nil))))))), ?_⟩
    have ll : (lineP L).length ≤ 120 := rows_len ok _ List.mem_cons_self
    refine ⟨_, rfl, ⟨_, rfl⟩, _, _, rfl, rfl, rfl, by rw [sizeLine_eq]; omega, fun l nl => ?_⟩
    rw [split_lineP ok]
    have s1 : Same H (upd H l (.lst ((("parts" : Str) :: L.parts).map V.str))) := same_new nl
    have el : upd H l (.lst ((("parts" : Str) :: L.parts).map V.str)) l = some (.lst ((("parts" : Str) :: L.parts).map V.str)) := upd_same
    generalize upd H l (.lst ((("parts" : Str) :: L.parts).map V.str)) = H1 at s1 el
    have p0 := ok.p0
    have p4 := ok.p4
    have len : (List.map V.str (("parts" : Str) :: L.parts)).length = L.parts.length + 1 := by rw [List.length_map]; rfl
    refine ⟨_, rfl, l, _, _, .str "parts", rfl, rfl, SqL.of el, at0 rfl, rfl, _, rfl, iteA (decide_eq_true rfl) ?_⟩
    refine ⟨_, rfl, l, _, rfl, .inl (SqL.of el), _, _, rfl, rfl, _, rfl, iteA (decide_eq_true (by rw [len]; omega)) ?_⟩
    refine ⟨_, _, rfl, rfl, _, _, rfl, rfl, _, rfl, iteA (decide_eq_true (by rw [len]; show ((L.parts.length + 1 : Nat) : Int) ≤ 1 + 4; omega)) ?_⟩
    refine ⟨_, rfl, _, rfl, l, _, rfl, SqL.of el, fun q nq => ?_⟩
    rw [cut1 _ (by rw [len]; omega)]
    refine ⟨q, L.parts, rfl, .inl (SqL.of upd_same), by omega, fun z hz => low_parts z (ok.pp z hz), ok.pn, fun H' s' => k _ ((s1.trans (same_new nq)).trans s')⟩
/-! ### is_piece_word -/
theorem prs_self {zs : List Str} {H : Hp} : Prs DFlat (zs.map V.str) (zs.map V.str) H := ⟨rfl, fun i x y hx hy => by
  rw [hx] at hy
  cases hy
  obtain ⟨z, _, rfl⟩ := List.mem_map.mp (List.mem_of_getElem? hx)
  exact ⟨rfl, rfl, by simp [eqV]⟩⟩
def spPieceWord (K : PySem.W.Frag) : Sp := fun vs H Q _ => ∃ (l : Addr) (L : Lore) (p : List Str), vs = [.ref l, .str (pieceW p)] ∧ LoreOk L ∧ SqL K H l (L.parts.map V.str) ∧ PieceOk L.parts p ∧ ∀ H', Same H H' → Q (.bl true) H'
theorem scPieceWord : FnScope ["parts", "word", "some", "part"] ["parts", "word"] (defScope sPieceWord) := ⟨rfl, rfl, rfl, by decide +kernel, rfl, by decide +kernel, by decide +kernel⟩
theorem ok_pieceWord (F : Fun K "is_piece_word" "is_piece_word" sPieceWord f fd) (T : Bl mg) : FnOk P w K mg base CX0 2 f fd ["parts", "word"] (spPieceWord K) := by
  refine F.ok scPieceWord (fun vs H Q E h => ?_) (fun cdv A outer s H vs Q E hr h => ?_)
  · obtain ⟨l, L, p, rfl, _⟩ := h
    rfl
  · obtain ⟨l, L, p, rfl, ok, hl, po, k⟩ := h
    have nd := scPieceWord.nd
    refine ⟨_, pss_cons (ps_set (i := 2) nd rfl (.inr rfl) (pe_split (pv 1) pe_str))
      (pss_one (ps_ret (pe_cmpR (op_eqG (rcG_list mon_flat eqG_flat) hr) (pv 2) (pe_lc (own := [("part", 3)]) (g := gName 3) (tt := tTest (tOp (rIn K false) (tVar 3) (tVar 2))) rfl nd (pi_list (pv 0)) (blkOk_by (N := ["parts", "word", "some", "part"]) (sc := defScope sPieceWord) (by decide +kernel))
        (fun _ _ _ _ _ => pg_name (i := 3) nd rfl (Or.inl rfl)) (fun _ _ _ _ _ => pts_one (pt_cmpR op_in_seq (pv 3) (pv 2) rfl)) (fun _ _ _ _ _ => pv 3)) (nomark _)))), ?_⟩
    have p4 := ok.p4
    have pl := po.len
    have wl := (join_le (s := ("+" : Str)) (n := 4) (c := 6) (xs := p) (by omega) fun x hx => part_len x (ok.pp x (po.sub x hx))).2
    have wl2 : (pieceW p).length ≤ 120 := Nat.le_trans wl (by decide)
    refine ⟨_, rfl, ⟨_, rfl⟩, _, _, rfl, rfl, rfl, by rw [sizeLine_eq]; omega, fun q nq => ?_⟩
    rw [split_piece ok po]
    have s1 : Same H (upd H q (.lst (p.map V.str))) := same_new nq
    have eq1 : upd H q (.lst (p.map V.str)) q = some (.lst (p.map V.str)) := upd_same
    generalize upd H q (.lst (p.map V.str)) = H1 at s1 eq1
    have hl1 : SqL K H1 l (L.parts.map V.str) := s1.seq hl
    refine ⟨_, rfl, _, rfl, l, rfl, ⟨_, hl1⟩, lc_over (Q := fun x H1 => rEqG (DList DFlat) (.ref q) x H1 Q) walk_list L.parts V.str (fun x => if x ∈ p then some (V.str x) else none) rfl (by omega) (fun H s => s.seq hl1) ?_ ?_⟩
    · intro j b H' R Rn hb s' k1 k2
      refine ⟨rfl, _, rfl, _, rfl, q, _, rfl, .inl (SqL.of (s' _ _ eq1)), rfl, flat_strs _, _, rfl, ?_⟩
      rw [inV_str]
      by_cases hz : b ∈ p
      · refine iteA (by simp [hz]) ?_
        exact ⟨_, rfl, k1 _ _ (by simp [hz]) (Same.refl _)⟩
      · refine iteB (by simp [hz]) ?_
        exact k2 _ (by simp [hz]) (Same.refl _)
    · intro D H' nD s' e
      rw [fm_if, ← po.2] at e
      exact ⟨⟨q, D, _, _, rfl, rfl, s' _ _ eq1, e, prs_self⟩, fun H2 x2 => k H2 ((s1.trans s').trans x2)⟩
/-! ### is_whole_shelf -/
def spWhole (K : PySem.W.Frag) : Sp := fun vs H Q _ => ∃ (l : Addr) (xs : List V), vs = [.ref l] ∧ SqL K H l xs ∧ 3 ≤ xs.length ∧ Q (.bl true) H
theorem scWhole : FnScope ["lines"] ["lines"] (defScope sWhole) := ⟨rfl, rfl, rfl, by decide +kernel, rfl, by decide +kernel, by decide +kernel⟩
theorem ok_whole (F : Fun K "is_whole_shelf" "is_whole_shelf" sWhole f fd) (T : Bl mg) (C : Cn mg) : FnOk P w K mg base CX0 1 f fd ["lines"] (spWhole K) := by
  refine F.ok scWhole (fun vs H Q E h => ?_) (fun cdv A outer s H vs Q E hr h => ?_)
  · obtain ⟨l, xs, rfl, _⟩ := h
    rfl
  · obtain ⟨l, xs, rfl, hl, h3, k⟩ := h
    obtain ⟨t2, h2⟩ := C.least
    refine ⟨_, pss_one (ps_ret (pe_cmpR op_gt (pe_callB call_len_seq (by rfl) T.len PySem.boot_len (pa_cons (pv 0) pa_nil)) (pe_glob (v := .int 2) (by rfl) h2 ⟨_, rfl⟩) (nomark _))), ?_⟩
    refine ⟨_, rfl, l, _, rfl, .inl hl, _, _, rfl, rfl, ?_⟩
    show Q (.bl (decide ((2 : Int) < (xs.length : Int)))) H
    rw [decide_eq_true (by omega)]
    exact k
end
end K6
set_option Elab.async false
set_option linter.all false
set_option maxRecDepth 100000
set_option maxHeartbeats 4000000
set_option pp.maxSteps 1200
set_option pp.deepTerms false
namespace K6
open PySem PySem.Spec PyProof.Rows L2 Lk
abbrev sReadPieces : Stmt := top 46
abbrev sStands : Stmt := top 42
abbrev sWrong : Stmt := top 22
def rSplit : V → List V → Hp → VK → Prop := fun x xs H Q => ∃ a b, x = .str a ∧ xs = [.str b] ∧ (b.length == 0) = false ∧ a.length + 2 ≤ sizeLine ∧ rNewStrs (Txt.split a b) H Q
/-- all([q(x) for x in xs]), over what is walked -/
theorem all_over {α : Type} {K : PySem.W.Frag} {J : It} {G : Hp → Prop} {vs0 : List V} (w : Walk J vs0.length G (YAt vs0)) {g : TG} {te : TE} {vs : List Nat} {σ : L2.St} {H1 : Hp} {R : VK} (xs : List α) (e : α → V) (q : α → Bool)
    (hv : vs0 = xs.map e) (few : xs.length ≤ 100000) (hG : ∀ H, Same H1 H → G H)
    (hs : ∀ (i : Nat) b H (R' : VK), xs[i]? = some b → Same H1 H → (∀ H4, Same H H4 → R' (.bl (q b)) H4) → g (e b) (wipe σ vs) H fun σ2 H2 => wipe σ2 vs = wipe σ vs ∧ te σ2 H2 R')
    (hd : ∀ H, Same H1 H → R (.bl (xs.all q)) H) : LcR J g tYes te vs σ H1 fun x H2 => tNil σ H2 fun xs H3 => rAll K (x :: xs) H3 R := by
  refine lc_over (Q := fun x H2 => rAll K [x] H2 R) w xs e (fun x => some (.bl (q x))) hv few hG (fun i b H R' Rn hb s k1 k2 => ?_) fun D H nD s ed => ?_
  · have z := hs i b H R' hb s fun H4 s4 => k1 H4 _ rfl s4
    have ty : (fun (σ2 : L2.St) H2 => wipe σ2 vs = wipe σ vs ∧ tYes σ2 H2 fun c H3 => if c = true then te σ2 H3 R' else Rn H3) = (fun σ2 H2 => wipe σ2 vs = wipe σ vs ∧ te σ2 H2 R') := by
      funext σ2 H2
      exact congrArg (And _) (tYes_if σ2 H2 (fun H3 => te σ2 H3 _) _)
    rw [ty]
    exact z
  · rw [fm_bl] at ed
    refine ⟨D, _, rfl, SqL.of ed, ?_⟩
    have : (xs.map q).all id = xs.all q := by simp [List.all_map]
    rw [this]
    exact hd H s
section
variable {P : Program} {w : World} {K : PySem.W.Frag} {mg : Str → Option Value} {base : Heap} {f : Addr} {fd : FuncData}
/-! ### read_pieces -/
def RelP (H : Hp) (v : V) (p : List Str) : Prop := ∃ t, v = V.ref t ∧ H t = some (.tup (p.map V.str))
theorem RelP.keep (H H' : Hp) (v : V) (p : List Str) (k : Keep H H') (h : RelP H v p) : RelP H' v p := by
  obtain ⟨t, e, h⟩ := h
  exact ⟨t, e, k _ _ h fun xs z => by cases z⟩
def spReadPieces (K : PySem.W.Frag) : Sp := fun vs H Q _ => ∃ (l : Addr) (L : Lore) (ps : List (List Str)), vs = [.ref l] ∧ LoreOk L ∧ SqL K H l ((ps.map pieceW).map V.str) ∧ ps.length ≤ 1000 ∧ (∀ p ∈ ps, PieceOk L.parts p) ∧
  ∀ q ts H', Same H H' → H' q = some (.tup ts) → Pieces H' ts ps → Q (.ref q) H'
theorem scReadPieces : FnScope ["words", "word"] ["words"] (defScope sReadPieces) := ⟨rfl, rfl, rfl, by decide +kernel, rfl, by decide +kernel, by decide +kernel⟩
theorem ok_readPieces (F : Fun K "read_pieces" "read_pieces" sReadPieces f fd) (T : Bl mg) (C : Cn mg) : FnOk P w K mg base CX0 1 f fd ["words"] (spReadPieces K) := by
  refine F.ok scReadPieces (fun vs H Q E h => ?_) (fun cdv A outer s H vs Q E hr h => ?_)
  · obtain ⟨l, L, p, rfl, _⟩ := h
    rfl
  · obtain ⟨l, L, ps, rfl, ok, hl, few, po, k⟩ := h
    have nd := scReadPieces.nd
    refine ⟨_, pss_one (ps_ret (pe_tupleOf (by rfl) C.tuple (pe_lc (own := [("word", 1)]) (g := gName 1) (tt := tYes) (te := tThen (tM1 rSplit (tVar 1) (tC (.str "+"))) (kTup K)) rfl nd (pi_list (pv 0)) (blkOk_by (N := ["words", "word"]) (sc := defScope sReadPieces) (by decide +kernel))
        (fun _ _ _ _ _ => pg_name (i := 1) nd rfl (Or.inl rfl)) (fun _ _ _ _ _ => pts_nil) (fun _ _ _ _ _ => pe_tupleOf (by rfl) C.tuple (pe_split (pv 1) pe_str))))), ?_⟩
    refine ⟨_, rfl, l, rfl, ⟨_, hl⟩, lc_rel (Q := fun x H1 => kTup K x H1 Q) walk_list ps (fun p => V.str (pieceW p)) id RelP RelP.keep (by rw [List.map_map]; rfl) (by omega) (fun H s => s.seq hl) ?_ ?_⟩
    · intro i p H1 R hp s1 kk
      have pm := List.mem_of_getElem? hp
      have p4 := ok.p4
      have pl := (po p pm).len
      have wl := (join_le (s := ("+" : Str)) (n := 4) (c := 6) (xs := p) (by omega) fun x hx => part_len x (ok.pp x ((po p pm).sub x hx))).2
      have wl2 : (pieceW p).length ≤ 120 := Nat.le_trans wl (by decide)
      refine ⟨rfl, _, rfl, ⟨_, rfl⟩, _, _, rfl, rfl, rfl, by rw [sizeLine_eq]; omega, fun q nq => ?_⟩
      rw [split_piece ok (po p pm)]
      refine .inl ⟨q, _, rfl, SqL.of upd_same, fun t nt => ?_⟩
      exact kk _ _ ((same_new nq).trans (same_new nt)) ⟨t, rfl, upd_same⟩
    · intro D H1 ts nD s1 eD pr
      rw [List.map_id] at pr
      refine .inl ⟨D, _, rfl, SqL.of eD, fun q nq => k q ts _ (s1.trans (same_new nq)) upd_same (Pieces.tups pr (.of (same_new nq)))⟩
end
end K6
set_option Elab.async false
set_option linter.all false
set_option maxRecDepth 100000
set_option maxHeartbeats 4000000
set_option pp.maxSteps 1200
set_option pp.deepTerms false
namespace K6
open PySem PySem.Spec PyProof.Rows L2 Lk
theorem cut2 (xs : List V) (h : 2 ≤ xs.length) : cutV xs (some 2) none = xs.drop 2 := by
  show (xs.drop (min 2 xs.length)).take (xs.length - min 2 xs.length) = _
  rw [Nat.min_eq_left h]
  exact List.take_of_length_le (by rw [List.length_drop]; omega)
section
variable {P : Program} {w : World} {K : PySem.W.Frag} {mg : Str → Option Value} {base : Heap} {f : Addr} {fd : FuncData}
/-! ### stands_in_shelf -/
def spStands (K : PySem.W.Frag) : Sp := fun vs H Q _ => ∃ (l : Addr) (L : Lore) (i : Nat) (line : Str), vs = [.ref l, .str line] ∧ LoreOk L ∧ SqL K H l (((rowsL L).take i).map V.str) ∧ (rowsL L)[i]? = some line ∧ ∀ H', Same H H' → Q (.bl true) H'
theorem scStands : FnScope ["ahead", "line", "words", "taken", "parts", "row", "word"] ["ahead", "line"] (defScope sStands) := ⟨rfl, rfl, rfl, by decide +kernel, rfl, by decide +kernel, by decide +kernel⟩
theorem ok_stands {f1 f2 f3 f4 : Addr} {fd1 fd2 fd3 fd4 : FuncData} (F : Fun K "stands_in_shelf" "stands_in_shelf" sStands f fd) (T : Bl mg) (C : Cn mg) (F1 : Fun K "is_name" "is_name" sIsName f1 fd1) (b1 : Binds K fd1 ["value"] []) (m1 : mg "is_name" = some (.ref f1))
    (F2 : Fun K "are_names" "are_names" sAreNames f2 fd2) (b2 : Binds K fd2 ["some"] []) (m2 : mg "are_names" = some (.ref f2)) (F3 : Fun K "is_parts_line" "is_parts_line" sPartsLine f3 fd3) (b3 : Binds K fd3 ["line"] []) (m3 : mg "is_parts_line" = some (.ref f3))
    (F4 : Fun K "is_piece_word" "is_piece_word" sPieceWord f4 fd4) (b4 : Binds K fd4 ["parts", "word"] []) (m4 : mg "is_piece_word" = some (.ref f4)) : FnOk P w K mg base CX0 4 f fd ["ahead", "line"] (spStands K) := by
  have G1 : FnOk P w K mg base CX0 1 f1 fd1 ["value"] spIsName := ok_isName F1 T C
  have G3 : FnOk P w K mg base CX0 3 f3 fd3 ["line"] spPartsLine := ok_partsLine F3 T C F1 b1 m1 F2 b2 m2
  have G4 : FnOk P w K mg base CX0 2 f4 fd4 ["parts", "word"] (spPieceWord K) := ok_pieceWord F4 T
  refine F.ok scStands (fun vs H Q E h => ?_) (fun cdv A outer s H vs Q E hr h => ?_)
  · obtain ⟨l, L, i, line, rfl, _⟩ := h
    rfl
  · obtain ⟨l, L, i, line, rfl, ok, hl, hi, k⟩ := h
    have nd := scStands.nd
    obtain ⟨t1, h1⟩ := C.pieces
    obtain ⟨t2, h2⟩ := C.most
    have hr1 : Room 1 _ := hr.mono (by decide)
    have hr2 : Room 2 _ := hr.mono (by decide)
    refine ⟨_, pss_cons (ps_if (pt_cmpR op_eq (pe_callB call_len_seq (by rfl) T.len PySem.boot_len (pa_cons (pv 0) pa_nil)) pe_int (nomark _)) (pss_one (ps_ret (pe_call G3 hr (by rfl) m3 F3.kp b3 .nil pass0 (pa_cons (pv 1) pa_nil)))) pss_nil)
      (pss_cons (ps_set (i := 2) nd rfl (.inl rfl) (pe_split (pv 1) pe_str))
      (pss_cons (ps_if (PW.pt (pw_or (pt_cmpR op_ne (pe_ix ix_list (pv 2) pe_int (fun _ _ => rfl)) pe_str (nomark _)) (pw_or (pt_not (pt_chain op_le op_le pe_int (pe_callB call_len_seq (by rfl) T.len PySem.boot_len (pa_cons (pv 2) pa_nil)) (pe_op op_add pe_int (pe_glob (v := .int 2) (by rfl) h1 ⟨_, rfl⟩))))
          (pw_or1 (pt_cmpR op_gt (pe_callB call_len_seq (by rfl) T.len PySem.boot_len (pa_cons (pv 0) pa_nil)) (pe_glob (v := .int 6) (by rfl) h2 ⟨_, rfl⟩) (nomark _)))))) pss_no pss_nil)
      (pss_cons (ps_setLc (i := 3) (own := [("row", 5)]) (g := gName 5) (tt := tYes) (te := tOp (rIxL K) (tM1 rSplit (tVar 5) (tC (.str " "))) (tC (.int 1))) rfl nd rfl rfl (sw_true rfl rfl rfl (by decide +kernel)) (pi_list (pe_slice sl_list (pv 0) (po_some pe_int) po_none))
          (blkOk_by (N := ["ahead", "line", "words", "taken", "parts", "row", "word"]) (sc := defScope sStands) (by decide +kernel)) (fun _ _ _ _ _ => pg_name (i := 5) nd rfl (Or.inl rfl)) (fun _ _ _ _ _ => pts_nil) (fun _ _ _ _ _ => pe_ix ix_list (pe_split (pv 5) pe_str) pe_int (fun _ _ => rfl)))
      (pss_cons (ps_set (i := 4) nd rfl (.inr rfl) (pe_slice sl_list (pe_split (pe_ix ix_list (pv 0) pe_int (fun _ _ => rfl)) pe_str) (po_some pe_int) po_none))
        (pss_one (ps_ret (pe_and (pe_call G1 hr1 (by rfl) m1 F1.kp b1 .nil pass0 (pa_cons (pe_ix ix_list (pv 2) pe_int (fun _ _ => rfl)) pa_nil)) (pe_and (pe_cmpR op_notIn_seq (pe_ix ix_list (pv 2) pe_int (fun _ _ => rfl)) (pv 3) rfl)
          (pe_one (pe_callB (cr_all rfl) (by rfl) T.all boot_all (pa_cons (pe_lc (own := [("word", 6)]) (g := gName 6) (tt := tYes) (te := tCall (spPieceWord K) [] E0 (tCons (tVar 4) (tCons (tVar 6) tNil))) rfl nd (pi_list (pe_slice sl_list (pv 2) (po_some pe_int) po_none))
            (blkOk_by (N := ["ahead", "line", "words", "taken", "parts", "row", "word"]) (sc := defScope sStands) (by decide +kernel)) (fun _ _ _ _ _ => pg_name (i := 6) nd rfl (Or.inl rfl)) (fun _ _ _ _ _ => pts_nil)
            (fun _ _ _ _ _ => pe_call G4 hr2 (by rfl) m4 F4.kp b4 .nil pass0 (pa_cons (pv 4) (pa_cons (pv 6) pa_nil)))) pa_nil))))))))))), ?_⟩
    have rl : (rowsL L).length = L.kps.length + 1 := by show (L.kps.map lineK).length + 1 = _; rw [List.length_map]
    have il : i < (rowsL L).length := (List.getElem?_eq_some_iff.mp hi).1
    have xl : (List.map V.str ((rowsL L).take i)).length = i := by rw [List.length_map, List.length_take]; omega
    have k6 := ok.k6
    refine ⟨_, rfl, l, _, rfl, .inl hl, rfl, _, rfl, ?_⟩
    match i, hi, hl, il, xl with
    | 0, hi, hl, il, xl =>
      obtain rfl : lineP L = line := Option.some.inj hi
      exact iteA (decide_eq_true rfl) ⟨_, rfl, L, rfl, ok, k⟩
    | j + 1, hi, hl, il, xl =>
      refine iteB (decide_eq_false (by rw [xl]; intro z; injection z with z; omega)) ?_
      obtain ⟨kq, hk, rfl⟩ : ∃ kq, L.kps[j]? = some kq ∧ lineK kq = line := by
        have : (L.kps.map lineK)[j]? = some line := hi
        rw [List.getElem?_map] at this
        cases e : L.kps[j]? with
        | none => rw [e] at this; cases this
        | some kq => rw [e] at this; exact ⟨kq, rfl, Option.some.inj this⟩
      have km := List.mem_of_getElem? hk
      have lk : (lineK kq).length ≤ 120 := rows_len ok _ (List.mem_cons_of_mem _ (List.mem_map.mpr ⟨kq, km, rfl⟩))
      obtain ⟨q1, q2, q3⟩ := ok.q kq km
      refine ⟨_, rfl, ⟨_, rfl⟩, _, _, rfl, rfl, rfl, by rw [sizeLine_eq]; omega, fun q nq => ?_⟩
      rw [split_lineK ok km]
      have s1 : Same H (upd H q (.lst ((wordsK kq).map V.str))) := same_new nq
      have eq1 : upd H q (.lst ((wordsK kq).map V.str)) q = some (.lst ((wordsK kq).map V.str)) := upd_same
      generalize upd H q (.lst ((wordsK kq).map V.str)) = H1 at s1 eq1
      have wl : ((wordsK kq).map V.str).length = kq.2.length + 2 := by
        rw [List.length_map]
        show (kq.2.map pieceW).length + 1 + 1 = _
        rw [List.length_map]
      refine ⟨_, rfl, q, _, _, .str "keeper", rfl, rfl, SqL.of eq1, at0 rfl, rfl, _, rfl, iteB (by rw [decide_eq_true rfl]; rfl) ?_⟩
      refine ⟨_, rfl, q, _, rfl, .inl (SqL.of eq1), _, _, rfl, rfl, _, rfl, iteA (decide_eq_true (by rw [wl]; omega)) ?_⟩
      refine ⟨_, _, rfl, rfl, _, _, rfl, rfl, _, rfl, iteB (by rw [decide_eq_true (by rw [wl]; show ((kq.2.length + 2 : Nat) : Int) ≤ 2 + 2; omega)]; rfl) ?_⟩
      refine ⟨_, rfl, l, _, rfl, .inl (s1.seq hl), _, _, rfl, rfl, _, rfl, iteB (decide_eq_false (by rw [xl]; omega)) ?_⟩
      have hl1 := s1.seq hl
      have drop1 : cutV (List.map V.str ((rowsL L).take (j + 1))) (some 1) none = ((L.kps.take j).map fun k => V.str (lineK k)) := by
        rw [cut1 _ (by rw [xl]; omega)]
        show List.map V.str ((L.kps.map lineK).take j) = _
        rw [← List.map_take, List.map_map]
        rfl
      have tl6 : (L.kps.take j).length ≤ 6 := by rw [List.length_take]; omega
      refine ⟨_, rfl, _, rfl, l, _, rfl, hl1, fun p np => ?_⟩
      rw [drop1]
      have s2 : Same H1 (upd H1 p (.lst ((L.kps.take j).map fun k => V.str (lineK k)))) := same_new np
      have ep2 : SqL K (upd H1 p (.lst ((L.kps.take j).map fun k => V.str (lineK k)))) p ((L.kps.take j).map fun k => V.str (lineK k)) := SqL.of upd_same
      generalize upd H1 p (.lst ((L.kps.take j).map fun k => V.str (lineK k))) = H2 at s2 ep2
      refine ⟨p, rfl, ⟨_, ep2⟩, fun D nD => lc_fm (walk_list (a := p) (xs := (L.kps.take j).map fun k => V.str (lineK k))) (L.kps.take j) (fun k => some (V.str k.1)) (by rw [List.length_map]) (by rw [List.length_map]; omega) nD (fun H s => s.seq ep2) ?_ ?_⟩
      · rintro i' x k' H3 H3' R Rn hk' s3 ⟨rfl, hx⟩ k1 k2
        have km' : k' ∈ L.kps := List.mem_of_mem_take (List.mem_of_getElem? hk')
        obtain rfl : V.str (lineK k') = x := by
          rw [List.getElem?_map, hk'] at hx
          exact Option.some.inj hx
        have lk' : (lineK k').length ≤ 120 := rows_len ok _ (List.mem_cons_of_mem _ (List.mem_map.mpr ⟨k', km', rfl⟩))
        refine ⟨rfl, _, rfl, ⟨_, rfl⟩, _, _, rfl, rfl, rfl, by rw [sizeLine_eq]; omega, fun u nu => ?_⟩
        rw [split_lineK ok km']
        exact ⟨u, _, _, .str k'.1, rfl, rfl, SqL.of upd_same, at1 rfl, k1 _ _ rfl (same_new nu)⟩
      · intro H3 s3 eD
        have fe : ((L.kps.take j).filterMap fun k => some (V.str k.1)) = ((L.kps.take j).map (·.1)).map V.str := by simp [Function.comp_def]
        rw [fe] at eD
        have hl3 : SqL K H3 l _ := s3.seq (s2.seq hl1)
        have eq3 := s3 _ _ (s2 _ _ eq1)
        have lp : (lineP L).length ≤ 120 := rows_len ok _ List.mem_cons_self
        refine ⟨_, rfl, l, _, _, .str (lineP L), rfl, rfl, hl3, at0 rfl, ⟨_, rfl⟩, _, _, rfl, rfl, rfl, by rw [sizeLine_eq]; omega, fun u nu => ?_⟩
        rw [split_lineP ok]
        refine ⟨_, rfl, u, _, rfl, SqL.of upd_same, fun pa npa => ?_⟩
        rw [cut1 _ (by rw [List.length_map, List.length_cons]; omega)]
        have s4 : Same H3 (upd (upd H3 u (.lst ((("parts" : Str) :: L.parts).map V.str))) pa (.lst (List.drop 1 (List.map V.str (("parts" : Str) :: L.parts))))) := (same_new nu).trans (same_new npa)
        have epa : upd (upd H3 u (.lst ((("parts" : Str) :: L.parts).map V.str))) pa (.lst (List.drop 1 (List.map V.str (("parts" : Str) :: L.parts)))) pa = some (.lst (L.parts.map V.str)) := upd_same
        generalize upd (upd H3 u (.lst ((("parts" : Str) :: L.parts).map V.str))) pa (.lst (List.drop 1 (List.map V.str (("parts" : Str) :: L.parts)))) = H4 at s4 epa
        have eq4 := s4 _ _ eq3
        refine ⟨_, rfl, q, _, _, .str kq.1, rfl, rfl, SqL.of eq4, at1 rfl, kq.1, rfl, low_names _ (ok.kp kq km), fun H5 s5 => ⟨_, rfl, iteT ?_⟩⟩
        refine ⟨_, rfl, q, _, _, .str kq.1, rfl, rfl, SqL.of (s5 _ _ eq4), at1 rfl, _, rfl, D, _, rfl, .inl (SqL.of (s5 _ _ (s4 _ _ eD))), rfl, flat_strs _, _, rfl, iteA ?_ ?_⟩
        · rw [inV_str]
          have : kq.1 ∉ (L.kps.take j).map (·.1) := by
            intro m
            have nn := ok.kn
            rw [← List.take_append_drop j L.kps, List.map_append, List.nodup_append] at nn
            refine nn.2.2 _ m _ (List.mem_map.mpr ⟨kq, ?_, rfl⟩) rfl
            refine List.mem_of_getElem? (i := 0) ?_
            rw [List.getElem?_drop]
            exact hk
          simp only [if_true, Bool.not_eq_true', decide_eq_false_iff_not]
          exact this
        refine ⟨_, rfl, _, rfl, q, _, rfl, SqL.of (s5 _ _ eq4), fun v nv => ?_⟩
        rw [cut2 _ (by rw [wl]; omega)]
        refine ⟨v, rfl, ⟨_, SqL.of upd_same⟩, all_over walk_list kq.2 (fun p => V.str (pieceW p)) (fun _ => true) (by show List.map V.str (kq.2.map pieceW) = _; rw [List.map_map]; rfl) (by omega) (fun H s => s.seq (SqL.of upd_same)) ?_ ?_⟩
        · intro i' p' H6 R hp' s6 kk
          refine ⟨rfl, _, rfl, _, rfl, pa, L, p', rfl, ok, s6.seq ((same_new nv).seq (s5.seq (SqL.of epa))), q3 p' (List.mem_of_getElem? hp'), fun H7 s7 => kk H7 s7⟩
        · intro H6 s6
          have : (kq.2.all fun _ => true) = true := by simp
          rw [this]
          exact k _ (((((s1.trans s2).trans s3).trans s4).trans s5).trans ((same_new nv).trans s6))
end
end K6
set_option Elab.async false
set_option linter.all false
set_option maxRecDepth 100000
set_option maxHeartbeats 4000000
set_option pp.maxSteps 1200
set_option pp.deepTerms false
namespace K6
open PySem PySem.Spec PyProof.Rows L2 Lk
theorem cutT (xs : List V) (i : Nat) (h : i ≤ xs.length) : cutV xs none (some (i : Int)) = xs.take i := by
  show (xs.drop 0).take (HT.sIx xs.length xs.length (some (i : Int)) - 0) = _
  rw [HT.sIx_nat, Nat.min_eq_left h]
  rfl
section
variable {P : Program} {w : World} {K : PySem.W.Frag} {mg : Str → Option Value} {base : Heap} {f : Addr} {fd : FuncData}
/-! ### wrong_line, of a text that stands -/
def spWrong (fS fW : Addr) : Sp := fun vs H Q _ => ∃ L : Lore, vs = [.str (textL L), .ref fS, .ref fW] ∧ LoreOk L ∧ ∀ H', Same H H' → Q .non H'
theorem scWrong : FnScope ["text", "can_stand", "is_whole", "lines", "number", "line"] ["text", "can_stand", "is_whole"] (defScope sWrong) := ⟨rfl, rfl, rfl, by decide +kernel, rfl, by decide +kernel, by decide +kernel⟩
theorem text_len {L : Lore} (ok : LoreOk L) : (textL L).length ≤ 1000 := by
  have k6 := ok.k6
  exact Nat.le_trans (join_le (s := ("\n" : Str)) (n := 7) (c := 120) (by show (L.kps.map lineK).length + 1 ≤ 7; rw [List.length_map]; omega) (rows_len ok)).2 (by decide)
theorem ok_wrong {fS fW : Addr} {fdS fdW : FuncData} (F : Fun K "wrong_line" "wrong_line" sWrong f fd) (T : Bl mg) (C : Cn mg)
    (GS : FnOk P w K mg base CX0 4 fS fdS ["ahead", "line"] (spStands K)) (kS : PySem.W.keepIn K (.ref fS) = true) (bS : Binds K fdS ["ahead", "line"] [])
    (GW : FnOk P w K mg base CX0 1 fW fdW ["lines"] (spWhole K)) (kW : PySem.W.keepIn K (.ref fW) = true) (bW : Binds K fdW ["lines"] []) : FnOk P w K mg base CX0 5 f fd ["text", "can_stand", "is_whole"] (spWrong fS fW) := by
  refine F.ok scWrong (fun vs H Q E h => ?_) (fun cdv A outer s H vs Q E hr h => ?_)
  · obtain ⟨L, rfl, _⟩ := h
    rfl
  · obtain ⟨L, rfl, ok, k⟩ := h
    have nd := scWrong.nd
    have hr1 : Room 1 _ := hr.mono (by decide)
    refine ⟨_, pss_cons (ps_if (pt_not (pt_val (pe_callB call_isi (by rfl) T.isin boot_isinstance (pa_cons (pv 0) (pa_cons (pe_bltn (v := .ty "str") (by rfl) C.str rfl rfl) pa_nil))))) pss_no pss_nil)
      (pss_cons (ps_set (i := 3) nd rfl (.inl rfl) (pe_split (pv 0) pe_str))
      (pss_cons (ps_for PassesOwn.never rfl (pi_enum (by rfl) T.enum (pa_cons (pv 3) pa_nil)) (pg_tup rfl (pgs_cons (pg_name (i := 4) nd rfl (.inl rfl)) (pgs_cons (pg_name (i := 5) nd rfl (.inl rfl)) pgs_nil)))
          (pss_one (ps_if (pt_not (pt_val (pe_callL GS hr (i := 1) rfl (.inl rfl) kS bS .nil pass0 (pa_cons (pe_slice sl_list (pv 3) po_none (po_some (pv 4))) (pa_cons (pv 5) pa_nil))))) pss_no pss_nil)))
        (pss_one (ps_ret (pe_ifExp (pt_val (pe_callL GW hr1 (i := 2) rfl (.inl rfl) kW bW .nil pass0 (pa_cons (pv 3) pa_nil))) pe_non pe_no))))), ?_⟩
    have tl := text_len ok
    have rl : (rowsL L).length = L.kps.length + 1 := by show (L.kps.map lineK).length + 1 = _; rw [List.length_map]
    refine ⟨_, rfl, _, _, _, _, true, rfl, .ty _, .base (.str _), by rfl, _, rfl, iteB rfl ?_⟩
    refine ⟨_, rfl, ⟨_, rfl⟩, _, _, rfl, rfl, rfl, by rw [sizeLine_eq]; omega, fun l nl => ?_⟩
    rw [split_text ok]
    have s1 : Same H (upd H l (.lst ((rowsL L).map V.str))) := same_new nl
    have el : upd H l (.lst ((rowsL L).map V.str)) l = some (.lst ((rowsL L).map V.str)) := upd_same
    generalize upd H l (.lst ((rowsL L).map V.str)) = H1 at s1 el
    have vl : ((rowsL L).map V.str).length = (rowsL L).length := List.length_map ..
    refine ⟨_, rfl, l, _, rfl, SqL.of el, for_it (walk_enum (xs := (rowsL L).map V.str)) (fun i σ H' => ∃ u v, σ = [some (.str (textL L)), some (.ref fS), some (.ref fW), some (.ref l), u, v] ∧ Same H1 H') ⟨none, none, rfl, Same.refl _⟩ (fun i σ H' _ ⟨_, _, _, s'⟩ => SqL.of (s' _ _ el)) ?_ ?_⟩
    · rintro i x σ H2 H3 hi ⟨u, v, rfl, s2⟩ ⟨t, a1, a2, rfl, nt, rfl, e1, e2⟩
      obtain rfl := Option.some.inj e1
      obtain ⟨line, hline, rfl⟩ : ∃ z, (rowsL L)[i]? = some z ∧ a2 = .str z := by
        have e2 : (List.map V.str (rowsL L))[i]? = some a2 := e2
        rw [List.getElem?_map] at e2
        cases e : (rowsL L)[i]? with
        | none => rw [e] at e2; cases e2
        | some z => rw [e] at e2; exact ⟨z, rfl, (Option.some.inj e2).symm⟩
      have s3 : Same H1 (upd H2 t (.tup [.int (i : Nat), .str line])) := s2.trans (same_new nt)
      refine ⟨t, _, rfl, SqT.of upd_same, rfl, _, _, rfl, _, _, rfl, rfl, ?_⟩
      refine ⟨rfl, _, rfl, _, rfl, _, rfl, l, _, rfl, SqL.of (s3 _ _ el), fun p np => ?_⟩
      rw [cutT _ i (by omega)]
      refine ⟨_, rfl, p, L, i, line, rfl, ok, by rw [List.map_take]; exact SqL.of upd_same, hline, fun H5 s5 => ⟨_, rfl, iteB rfl ?_⟩⟩
      exact ⟨_, _, rfl, (s3.trans (same_new np)).trans s5⟩
    · rintro σ H2 ⟨u, v, rfl, s2⟩
      refine ⟨rfl, _, rfl, l, _, rfl, SqL.of (s2 _ _ el), by rw [vl, rl]; have := ok.k2; omega, _, rfl, iteT ?_⟩
      exact k _ (s1.trans s2)
end
end K6
set_option Elab.async false
set_option linter.all false
set_option maxRecDepth 100000
set_option maxHeartbeats 4000000
set_option pp.maxSteps 1200
set_option pp.deepTerms false
namespace K6
open PySem PySem.Spec PyProof.Rows L2 Lk
abbrev sCircInit : Stmt := inClass (top 24) 0
/-- what is asked of the class Circle -/
structure CircC (K : PySem.W.Frag) (C fI : Addr) : Prop where
  cls : Cls K C
  nm : NoAttr K C "names"
  mkr : Mk K C fI
/-- a circle of these names -/
def CircAt (H : Hp) (C c : Addr) (zs : List Str) : Prop := ∃ dx nm, H c = some (.ins C dx [("names", .ref nm)]) ∧ TupX H nm (zs.map V.str)
section
variable {P : Program} {w : World} {K : PySem.W.Frag} {mg : Str → Option Value} {base : Heap} {f : Addr} {fd : FuncData}
theorem isi_tup {xs : List V} {H : Hp} {a : Addr} (h : TupX H a xs) : TyX K H (.ref a) (.type "tuple") := by
  obtain ⟨ob, e, _⟩ := h
  exact .fTuple e
def spCircI (K : PySem.W.Frag) (C : Addr) : Sp := fun vs H Q _ => ∃ (x nm dx : Addr) (zs : List Str), vs = [.ref x, .ref nm] ∧ H x = some (.ins C dx []) ∧ TupX H nm (zs.map V.str) ∧ 2 ≤ zs.length ∧ zs.length ≤ 6 ∧ (∀ z ∈ zs, LowOk z) ∧ zs.Nodup ∧
  ∀ H', (∀ b o, b ≠ x → H b = some o → H' b = some o) → H' x = some (.ins C dx [("names", .ref nm)]) → Q .non H'
theorem scCircI : FnScope ["self", "names"] ["self", "names"] (defScope sCircInit) := ⟨rfl, rfl, rfl, by decide +kernel, rfl, by decide +kernel, by decide +kernel⟩
theorem ok_circI {C fC : Addr} {f1 f2 : Addr} {fd1 fd2 : FuncData} (F : Fun K "__init__" "Circle.__init__" sCircInit f fd) (T : Bl mg) (Cc : Cn mg) (CC : CircC K C fC) (F1 : Fun K "is_name" "is_name" sIsName f1 fd1) (b1 : Binds K fd1 ["value"] []) (m1 : mg "is_name" = some (.ref f1))
    (F2 : Fun K "are_names" "are_names" sAreNames f2 fd2) (b2 : Binds K fd2 ["some"] []) (m2 : mg "are_names" = some (.ref f2)) : FnOk P w K mg base CX0 3 f fd ["self", "names"] (spCircI K C) := by
  have G2 : FnOk P w K mg base CX0 2 f2 fd2 ["some"] (spAreNames K) := ok_areNames F2 T Cc F1 b1 m1
  refine F.ok scCircI (fun vs H Q E h => ?_) (fun cdv A outer s H vs Q E hr h => ?_)
  · obtain ⟨x, nm, dx, zs, rfl, _⟩ := h
    rfl
  · obtain ⟨x, nm, dx, zs, rfl, hx, hn, z2, z6, low, ndz, k⟩ := h
    have nd := scCircI.nd
    refine ⟨_, pss_cons (ps_if (PW.pt (pw_or (pt_not (pt_val (pe_callB call_isi (by rfl) T.isin boot_isinstance (pa_cons (pv 1) (pa_cons (pe_bltn (v := .ty "tuple") (by rfl) Cc.tuple rfl rfl) pa_nil)))))
        (pw_or (pt_not (pt_chain op_le op_le pe_int (pe_callB call_len_seq (by rfl) T.len PySem.boot_len (pa_cons (pv 1) pa_nil)) pe_int))
        (pw_or1 (pt_not (pt_val (pe_call G2 hr (by rfl) m2 F2.kp b2 .nil pass0 (pa_cons (pv 1) pa_nil)))))))) pss_no pss_nil)
      (pss_one (ps_fld (pv 0) (pv 1) rfl)), ?_⟩
    have zl : ((zs.map V.str).length : Int) = zs.length := by rw [List.length_map]
    refine ⟨_, rfl, _, _, _, _, true, rfl, .ty _, isi_tup hn, by rfl, _, rfl, iteB rfl ?_⟩
    refine ⟨_, rfl, nm, _, rfl, .inr hn.sq, _, _, rfl, rfl, _, rfl, iteA (decide_eq_true (by rw [zl]; omega)) ?_⟩
    refine ⟨_, _, rfl, rfl, _, rfl, iteB (by rw [decide_eq_true (by rw [zl]; omega)]; rfl) ?_⟩
    refine ⟨_, rfl, nm, zs, rfl, .inr hn.sq, by omega, low, ndz, fun H1 s1 => ⟨_, rfl, iteB rfl ?_⟩⟩
    refine ⟨_, rfl, _, rfl, x, C, dx, [], rfl, s1 _ _ hx, CC.cls, CC.nm, by decide, ?_⟩
    exact k _ (fun b o nb e => by rw [upd_ne nb]; exact s1 _ _ e) upd_same
end
end K6
set_option Elab.async false
set_option linter.all false
set_option maxRecDepth 100000
set_option maxHeartbeats 4000000
set_option pp.maxSteps 1200
set_option pp.deepTerms false
namespace K6
open PySem PySem.Spec PyProof.Rows L2 Lk
abbrev sAllSpots : Stmt := top 47
theorem walk_zipT {K : PySem.W.Frag} {a b : Addr} {xs ys : List V} {n : Nat} (hn : n = min xs.length ys.length) : Walk (RZ.ItzT K a b) n (fun H => SqT K H a xs ∧ SqT K H b ys) (YPair (fun i => xs[i]?) (fun i => ys[i]?)) := by
  subst hn
  refine ⟨fun i H hi q => ⟨xs, ys, xs[i]'(by omega), ys[i]'(by omega), q.1, q.2, List.getElem?_eq_getElem (by omega), List.getElem?_eq_getElem (by omega)⟩, fun H q => ⟨xs, ys, q.1, q.2, by omega⟩, fun i H v H' _ q y => ?_⟩
  obtain ⟨T, x, z, h1, h2, h3, h4, h5⟩ := y
  exact ⟨T, x, z, h1, h2, h3, h4 xs q.1, h5 ys q.2⟩
/-! ### the spots -/
abbrev Spot := Str × Nat
def spotsOf (ks : List KP) : List Spot := ks.flatMap fun k => (List.range k.2.length).map fun i => (k.1, i)
def RelS (H : Hp) (v : V) (s : Spot) : Prop := ∃ t, v = V.ref t ∧ H t = some (.tup [.str s.1, .int (s.2 : Int)])
theorem RelS.keep (H H' : Hp) (v : V) (s : Spot) (k : Keep H H') (h : RelS H v s) : RelS H' v s := by
  obtain ⟨t, e, h⟩ := h
  exact ⟨t, e, k _ _ h fun xs z => by cases z⟩
/-- the tuple of the tuples of pieces, as a shelf holds it -/
def PcsAt (H : Hp) (q : Addr) (ks : List KP) : Prop := ∃ rows, H q = some (.tup rows) ∧ Paired (fun v (k : KP) => ∃ r ts, v = V.ref r ∧ H r = some (.tup ts) ∧ Pieces H ts k.2) rows ks
def rLenS (K : PySem.W.Frag) : List V → Hp → VK → Prop := fun xs H Q => ∃ p ys, xs = [.ref p] ∧ (SqL K H p ys ∨ SqT K H p ys) ∧ Q (.int ys.length) H
section
variable {P : Program} {w : World} {K : PySem.W.Frag} {mg : Str → Option Value} {base : Heap} {f : Addr} {fd : FuncData}
def spAllSpots (C : Addr) : Sp := fun vs H Q _ => ∃ (c q : Addr) (ks : List KP), vs = [.ref c, .ref q] ∧ CircAt H C c (ks.map (·.1)) ∧ PcsAt H q ks ∧ ks.length ≤ 6 ∧ (∀ k ∈ ks, k.2.length ≤ 2) ∧
  ∀ p ts H', Same H H' → H' p = some (.tup ts) → Paired (RelS H') ts (spotsOf ks) → Q (.ref p) H'
theorem scAllSpots : FnScope ["circle", "pieces", "keeper", "row", "number"] ["circle", "pieces"] (defScope sAllSpots) := ⟨rfl, rfl, rfl, by decide +kernel, rfl, by decide +kernel, by decide +kernel⟩
theorem ok_allSpots {C fC : Addr} (F : Fun K "all_spots" "all_spots" sAllSpots f fd) (T : Bl mg) (Cc : Cn mg) (CC : CircC K C fC) : FnOk P w K mg base CX0 1 f fd ["circle", "pieces"] (spAllSpots C) := by
  refine F.ok scAllSpots (fun vs H Q E h => ?_) (fun cdv A outer s H vs Q E hr h => ?_)
  · obtain ⟨c, q, ks, rfl, _⟩ := h
    rfl
  · obtain ⟨c, q, ks, rfl, ⟨dx, nm, ec, en⟩, ⟨rows, eq, pr⟩, k6, k2, k⟩ := h
    have nd := scAllSpots.nd
    refine ⟨_, pss_one (ps_ret (pe_tupleOf (by rfl) Cc.tuple (pe_lc2 (own := [("keeper", 2), ("row", 3), ("number", 4)]) (vs1 := [4]) (g := gTup K 2 (gCons (gName 2) (gCons (gName 3) gNil))) (tt := tYes)
        (wi1 := iRng1 (tCons (tCB (rLenS K) (tCons (tVar 3) tNil)) tNil)) (g1 := gName 4) (tt1 := tYes) (te := tTup (tCons (tVar 2) (tCons (tVar 4) tNil))) rfl nd
        (RZ.pi_zipA (by rfl) Cc.zip (pa_cons (pe_fld (pv 0) rfl) (pa_cons (pv 1) pa_nil))) (blkOk_by (N := ["circle", "pieces", "keeper", "row", "number"]) (sc := defScope sAllSpots) (by decide +kernel)) (by decide)
        (fun _ _ _ _ _ => pg_tup rfl (pgs_cons (pg_name (i := 2) nd rfl (.inl rfl)) (pgs_cons (pg_name (i := 3) nd rfl (.inl rfl)) pgs_nil))) (fun _ _ _ _ _ => pts_nil)
        (fun _ _ _ _ _ => pi_range1 (by rfl) T.range (pa_cons (pe_callB call_len_seq (by rfl) T.len PySem.boot_len (pa_cons (pv 3) pa_nil)) pa_nil))
        (fun _ _ _ _ _ => pg_name (i := 4) nd rfl (.inl rfl)) (fun _ _ _ _ _ => pts_nil) (fun _ _ _ _ _ => pe_tup (pa_cons (pv 2) (pa_cons (pv 4) pa_nil)))))), ?_⟩
    obtain ⟨zr, z1, z2, z3⟩ := paired_zip pr
    have rl : rows.length = ks.length := by rw [← z1, ← z2, List.length_map, List.length_map]
    refine ⟨_, rfl, c, C, dx, _, .ref nm, rfl, ec, CC.cls, CC.nm, rfl, _, rfl, nm, q, _, _, rfl, .inr ⟨en.sq, SqT.of eq, fun D nD => ?_⟩⟩
    refine in_it (walk_zipT (n := ks.length) (by rw [List.length_map, List.length_map, rl, Nat.min_self])) (fun i H' => ∃ ts, H' D = some (.lst ts) ∧ Paired (RelS H') ts (spotsOf (ks.take i)) ∧ ts.length ≤ 2 * i ∧ Same H H') ⟨[], upd_same, .nil, by simp, same_new nD⟩
      (fun i H' _ ⟨_, _, _, _, s'⟩ => ⟨(en.same s').sq, SqT.of (s' _ _ eq)⟩) ?_ ?_
    · rintro i x H2 H3 hi ⟨ts, eD, pt, tl, s2⟩ ⟨t, a1, a2, rfl, nt, rfl, e1, e2⟩
      obtain ⟨kq, hk⟩ : ∃ kq, ks[i]? = some kq := ⟨_, List.getElem?_eq_getElem hi⟩
      obtain rfl : V.str kq.1 = a1 := by
        have e1 : (List.map V.str (ks.map (·.1)))[i]? = some a1 := e1
        rw [List.getElem?_map, List.getElem?_map, hk] at e1
        exact Option.some.inj e1
      obtain ⟨r, us, rfl, er, ep⟩ : ∃ r us, a2 = V.ref r ∧ H r = some (.tup us) ∧ Pieces H us kq.2 := by
        obtain ⟨y, hy⟩ : ∃ y, zr[i]? = some y := ⟨_, List.getElem?_eq_getElem (by rw [← z2, List.length_map] at hi; exact hi)⟩
        have y1 : y.1 = a2 := by
          have e2 : rows[i]? = some a2 := e2
          rw [← z1, List.getElem?_map, hy] at e2
          exact Option.some.inj e2
        have y2 : y.2 = kq := by
          rw [← z2, List.getElem?_map, hy] at hk
          exact Option.some.inj hk
        obtain ⟨r, us, h1, h2, h3⟩ := z3 y (List.mem_of_getElem? hy)
        rw [y1] at h1
        rw [y2] at h3
        exact ⟨r, us, h1, h2, h3⟩
      have ul : us.length = kq.2.length := ep.length
      have km := List.mem_of_getElem? hk
      have kl := k2 kq km
      have s3 : Same H2 (upd H2 t (.tup [.str kq.1, .ref r])) := same_new nt
      have k3 : Keep H2 (upd H2 t (.tup [.str kq.1, .ref r])) := .of s3
      refine ⟨t, _, rfl, SqT.of upd_same, rfl, _, _, rfl, _, _, rfl, rfl, rfl, _, rfl, r, us, rfl, .inr (SqT.of (s3 _ _ (s2 _ _ er))), _, rfl, by omega, by omega, ?_⟩
      refine in_it (walk_range (n := ((us.length : Nat) : Int).toNat)) (fun j H' => ∃ ts, H' D = some (.lst ts) ∧ Paired (RelS H') ts (spotsOf (ks.take i) ++ (List.range j).map fun m => (kq.1, m)) ∧ ts.length ≤ 2 * i + j ∧ Same H H')
        ⟨ts, s3 _ _ eD, by rw [List.range_zero, List.map_nil, List.append_nil]; exact Paired.mapP pt fun v s r => RelS.keep _ _ _ _ k3 r, by omega, s2.trans s3⟩ (fun _ _ _ _ => trivial) ?_ ?_
      · rintro j x H4 H4' hj ⟨ts, eD, pt, tl, s4⟩ ⟨rfl, rfl⟩
        refine ⟨rfl, _, rfl, _, rfl, few_ok rfl, fun p np => ?_⟩
        have eD2 := (same_new (o := .tup [.str kq.1, .int (0 + (j : Nat))]) np) _ _ eD
        refine ⟨ts, eD2, by rw [sizeLine_eq]; omega, ts ++ [.ref p], upd_same, ?_, by rw [List.length_append]; show ts.length + 1 ≤ _; omega, fun b o e => ?_⟩
        · have kp : Keep H4' (upd (upd H4' p (.tup [.str kq.1, .int (0 + (j : Nat))])) D (.lst (ts ++ [.ref p]))) := (Keep.of (same_new np)).trans (.upd eD2)
          rw [List.range_succ, List.map_append, ← List.append_assoc]
          refine Paired.add (Paired.mapP pt fun v s r => RelS.keep _ _ _ _ kp r) ⟨p, rfl, ?_⟩
          have pD : p ≠ D := fun z => by rw [z, eD] at np; cases np
          rw [upd_ne pD, upd_same]
          show some (HO.tup [V.str kq.1, V.int (0 + (j : Int))]) = _
          rw [Int.zero_add]
        · rw [upd_ne (ne_of_none e nD)]
          exact (same_new np) _ _ (s4 _ _ e)
      · rintro H4 ⟨ts, eD, pt, tl, s4⟩
        have un : ((us.length : Nat) : Int).toNat = kq.2.length := by omega
        rw [un] at pt tl
        refine ⟨ts, eD, ?_, by omega, s4⟩
        have : spotsOf (ks.take (i + 1)) = spotsOf (ks.take i) ++ (List.range kq.2.length).map fun m => (kq.1, m) := by
          unfold spotsOf
          rw [List.take_add_one, hk, List.flatMap_append]
          simp
        rw [this]
        exact pt
    · rintro H2 ⟨ts, eD, pt, tl, s2⟩
      rw [List.take_length] at pt
      refine .inl ⟨D, _, rfl, SqL.of eD, fun p np => k p ts _ (s2.trans (same_new np)) upd_same (Paired.mapP pt fun v s r => RelS.keep _ _ _ _ (.of (same_new np)) r)⟩
end
end K6
set_option Elab.async false
set_option linter.all false
set_option maxHeartbeats 4000000
/-! Part F: vectors over two values; spans and what is orthogonal to them. -/
namespace Lk
abbrev Vec := List Bool
def vx : Vec → Vec → Vec
  | a :: as, b :: bs => xor a b :: vx as bs
  | _, _ => []
def dot : Vec → Vec → Bool
  | a :: as, b :: bs => xor (a && b) (dot as bs)
  | _, _ => false
def zv (n : Nat) : Vec := List.replicate n false
theorem vx_len : ∀ {a b : Vec} {n : Nat}, a.length = n → b.length = n → (vx a b).length = n
  | [], [], _, h, _ => h
  | _ :: as, _ :: bs, 0, h, _ => by simp at h
  | _ :: as, _ :: bs, n + 1, h, g => by
    show (vx as bs).length + 1 = n + 1
    rw [vx_len (Nat.succ.inj h) (Nat.succ.inj g)]
  | [], _ :: _, 0, _, g => by simp at g
  | [], _ :: _, _ + 1, h, _ => by simp at h
  | _ :: _, [], 0, h, _ => by simp at h
  | _ :: _, [], _ + 1, _, g => by simp at g
theorem vx_comm : ∀ a b : Vec, vx a b = vx b a
  | [], [] => rfl
  | [], _ :: _ => rfl
  | _ :: _, [] => rfl
  | a :: as, b :: bs => by
    show xor a b :: vx as bs = xor b a :: vx bs as
    rw [vx_comm as bs, Bool.xor_comm]
theorem vx_assoc : ∀ {a b c : Vec} {n : Nat}, a.length = n → b.length = n → c.length = n → vx (vx a b) c = vx a (vx b c)
  | [], [], [], _, _, _, _ => rfl
  | a :: as, b :: bs, c :: cs, 0, h, _, _ => by simp at h
  | a :: as, b :: bs, c :: cs, n + 1, h, g, k => by
    show xor (xor a b) c :: vx (vx as bs) cs = xor a (xor b c) :: vx as (vx bs cs)
    rw [vx_assoc (Nat.succ.inj h) (Nat.succ.inj g) (Nat.succ.inj k), Bool.xor_assoc]
  | [], [], _ :: _, _, h, _, k => by rw [← h] at k; simp at k
  | [], _ :: _, _, _, h, g, _ => by rw [← h] at g; simp at g
  | _ :: _, [], _, _, h, g, _ => by rw [← g] at h; simp at h
  | _ :: _, _ :: _, [], _, h, _, k => by rw [← k] at h; simp at h
theorem vx_self : ∀ a : Vec, vx a a = zv a.length
  | [] => rfl
  | a :: as => by
    show xor a a :: vx as as = false :: zv as.length
    rw [vx_self as, Bool.xor_self]
theorem vx_zero : ∀ {a : Vec} {n : Nat}, a.length = n → vx a (zv n) = a
  | [], 0, _ => rfl
  | [], _ + 1, h => by simp at h
  | _ :: _, 0, h => by simp at h
  | a :: as, n + 1, h => by
    show xor a false :: vx as (zv n) = a :: as
    rw [vx_zero (Nat.succ.inj h), Bool.xor_false]
theorem zv_len (n : Nat) : (zv n).length = n := List.length_replicate ..
/-- adding the same twice -/
theorem vx_back {a b : Vec} {n : Nat} (ha : a.length = n) (hb : b.length = n) : vx (vx a b) b = a := by
  rw [vx_assoc ha hb hb, vx_self, hb, vx_zero ha]
theorem dot_vx : ∀ {a b r : Vec}, a.length = b.length → dot (vx a b) r = xor (dot a r) (dot b r)
  | [], [], _, _ => by simp [vx, dot]
  | a :: as, b :: bs, [], _ => by simp [vx, dot]
  | a :: as, b :: bs, r :: rs, h => by
    show xor (xor a b && r) (dot (vx as bs) rs) = xor (xor (a && r) (dot as rs)) (xor (b && r) (dot bs rs))
    rw [dot_vx (Nat.succ.inj h)]
    cases a <;> cases b <;> cases r <;> cases dot as rs <;> cases dot bs rs <;> rfl
theorem dot_comm : ∀ a b : Vec, dot a b = dot b a
  | [], [] => rfl
  | [], _ :: _ => rfl
  | _ :: _, [] => rfl
  | a :: as, b :: bs => by
    show xor (a && b) (dot as bs) = xor (b && a) (dot bs as)
    rw [dot_comm as bs, Bool.and_comm]
theorem dot_zero : ∀ (n : Nat) (r : Vec), dot (zv n) r = false
  | 0, [] => rfl
  | 0, _ :: _ => rfl
  | _ + 1, [] => rfl
  | n + 1, r :: rs => by
    show xor (false && r) (dot (zv n) rs) = false
    rw [dot_zero n rs]
    rfl
theorem dot_zero' (n : Nat) (r : Vec) : dot r (zv n) = false := by rw [dot_comm, dot_zero]
/-- what is not in a space can be told from it -/
theorem dual : ∀ (n : Nat) (S : Vec → Prop), S (zv n) → (∀ a b, S a → S b → S (vx a b)) → (∀ a, S a → a.length = n) → ∀ c : Vec, c.length = n → ¬ S c → ∃ r : Vec, r.length = n ∧ (∀ a, S a → dot a r = false) ∧ dot c r = true
  | 0, S, h0, _, _, c, hc, nc => by
    have : c = [] := List.eq_nil_of_length_eq_zero hc
    exact absurd (by rw [this]; exact h0) nc
  | n + 1, S, h0, hx, hl, c, hc, nc => by
    match c, hc, nc with
    | c0 :: c', hc, nc =>
    have hc' : c'.length = n := Nat.succ.inj hc
    have S0 : (fun a => S (false :: a)) (zv n) := h0
    have Sx : ∀ a b, (fun a => S (false :: a)) a → (fun a => S (false :: a)) b → (fun a => S (false :: a)) (vx a b) := fun a b ha hb => hx _ _ ha hb
    have Sl : ∀ a, (fun a => S (false :: a)) a → a.length = n := fun a ha => Nat.succ.inj (hl _ ha)
    by_cases hT : ∃ t, S (true :: t)
    · obtain ⟨t, ht⟩ := hT
      have tl : t.length = n := Nat.succ.inj (hl _ ht)
      have key : ∃ d : Vec, d.length = n ∧ ¬ S (false :: d) ∧ (∀ r', dot d r' = true → xor (c0 && dot t r') (dot c' r') = true) := by
        cases c0 with
        | false => exact ⟨c', hc', nc, fun r' h => by simpa using h⟩
        | true =>
          refine ⟨vx c' t, vx_len hc' tl, fun h => nc ?_, fun r' h => ?_⟩
          · have := hx _ _ h ht
            have e : vx (false :: vx c' t) (true :: t) = true :: c' := by
              show xor false true :: vx (vx c' t) t = _
              rw [vx_back hc' tl]
              rfl
            rwa [e] at this
          · rw [dot_vx (by rw [hc', tl])] at h
            revert h
            cases dot t r' <;> cases dot c' r' <;> simp
      obtain ⟨d, dl, dn, dk⟩ := key
      obtain ⟨r', rl, r0, r1⟩ := dual n _ S0 Sx Sl d dl dn
      refine ⟨dot t r' :: r', by simp [rl], fun a ha => ?_, ?_⟩
      · match a, ha with
        | [], ha => rfl
        | false :: a', ha =>
          show xor (false && dot t r') (dot a' r') = false
          rw [r0 a' ha]
          rfl
        | true :: a', ha =>
          have al : a'.length = n := Nat.succ.inj (hl _ ha)
          have h2 := r0 (vx a' t) (by
            have := hx _ _ ha ht
            exact this)
          rw [dot_vx (by rw [al, tl])] at h2
          show xor (true && dot t r') (dot a' r') = false
          revert h2
          cases dot t r' <;> cases dot a' r' <;> simp
      · exact dk r' r1
    · have no : ∀ a', ¬ S (true :: a') := fun a' h => hT ⟨a', h⟩
      cases c0 with
      | true =>
        refine ⟨true :: zv n, by simp [zv_len], fun a ha => ?_, ?_⟩
        · match a, ha with
          | [], ha => rfl
          | false :: a', ha =>
            show xor (false && true) (dot a' (zv n)) = false
            rw [dot_zero']
            rfl
          | true :: a', ha => exact absurd ha (no a')
        · show xor (true && true) (dot c' (zv n)) = true
          rw [dot_zero']
          rfl
      | false =>
        obtain ⟨r', rl, r0, r1⟩ := dual n _ S0 Sx Sl c' hc' nc
        refine ⟨false :: r', by simp [rl], fun a ha => ?_, ?_⟩
        · match a, ha with
          | [], ha => rfl
          | false :: a', ha =>
            show xor (false && false) (dot a' r') = false
            rw [r0 a' ha]
            rfl
          | true :: a', ha => exact absurd ha (no a')
        · show xor (false && false) (dot c' r') = true
          rw [r1]
          rfl
/-! ### all vectors -/
def allV : Nat → List Vec
  | 0 => [[]]
  | n + 1 => (allV n).map (false :: ·) ++ (allV n).map (true :: ·)
theorem allV_len : ∀ n, (allV n).length = 2 ^ n
  | 0 => rfl
  | n + 1 => by
    show ((allV n).map (false :: ·) ++ (allV n).map (true :: ·)).length = _
    rw [List.length_append, List.length_map, List.length_map, allV_len n, Nat.pow_succ]
    omega
theorem mem_allV : ∀ {n : Nat} {v : Vec}, v ∈ allV n ↔ v.length = n
  | 0, v => by simp [allV]
  | n + 1, [] => by simp [allV]
  | n + 1, b :: v => by
    have ih := mem_allV (n := n) (v := v)
    cases b <;> simp [allV, ih]
theorem nodup_allV : ∀ n, (allV n).Nodup
  | 0 => by simp [allV]
  | n + 1 => by
    have ih := nodup_allV n
    show ((allV n).map (false :: ·) ++ (allV n).map (true :: ·)).Nodup
    rw [List.nodup_append]
    refine ⟨?_, ?_, ?_⟩
    · rw [List.nodup_iff_pairwise_ne, List.pairwise_map]
      exact (List.nodup_iff_pairwise_ne.mp ih).imp fun h e => h (List.cons.inj e).2
    · rw [List.nodup_iff_pairwise_ne, List.pairwise_map]
      exact (List.nodup_iff_pairwise_ne.mp ih).imp fun h e => h (List.cons.inj e).2
    · intro a ha b hb e
      obtain ⟨x, _, rfl⟩ := List.mem_map.mp ha
      obtain ⟨y, _, rfl⟩ := List.mem_map.mp hb
      exact Bool.noConfusion (List.cons.inj e).1
theorem shift_perm {n : Nat} {r : Vec} (hr : r.length = n) : ((allV n).map fun v => vx v r).Perm (allV n) := by
  have nd : ((allV n).map fun v => vx v r).Nodup := by
    rw [List.nodup_iff_pairwise_ne, List.pairwise_map]
    have h := List.nodup_iff_pairwise_ne.mp (nodup_allV n)
    refine (List.Pairwise.and_mem.mp h).imp ?_
    rintro a b ⟨ha, hb, ne⟩ e
    refine ne ?_
    have := congrArg (fun v => vx v r) e
    rwa [vx_back (mem_allV.mp ha) hr, vx_back (mem_allV.mp hb) hr] at this
  refine (List.perm_ext_iff_of_nodup nd (nodup_allV n)).mpr fun a => ?_
  rw [List.mem_map]
  constructor
  · rintro ⟨b, hb, rfl⟩
    exact mem_allV.mpr (vx_len (mem_allV.mp hb) hr)
  · intro ha
    have al := mem_allV.mp ha
    exact ⟨vx a r, mem_allV.mpr (vx_len al hr), vx_back al hr⟩
theorem count_shift {n : Nat} {r : Vec} (hr : r.length = n) (P : Vec → Bool) : ((allV n).filter fun v => P (vx v r)).length = ((allV n).filter P).length := by
  have := ((shift_perm hr).filter P).length_eq
  rw [List.filter_map, List.length_map] at this
  exact this
end Lk
set_option Elab.async false
set_option linter.all false
set_option maxHeartbeats 4000000
/-! Part F2: the table of all sums of rows. -/
namespace Lk
def sumV (n : Nat) (vs : List Vec) : Vec := vs.foldl vx (zv n)
theorem sumV_snoc (n : Nat) (vs : List Vec) (v : Vec) : sumV n (vs ++ [v]) = vx (sumV n vs) v := by
  unfold sumV
  rw [List.foldl_append]
  rfl
abbrev RowV (σ : Type) := σ × Vec
abbrev Tab (σ : Type) := List (Vec × List (RowV σ))
def stepT {σ : Type} (tb : Tab σ) (r : RowV σ) : Tab σ := if r.2 ∈ tb.map (·.1) then tb else tb ++ tb.map fun e => (vx e.1 r.2, e.2 ++ [r])
def tableT {σ : Type} (n : Nat) (rows : List (RowV σ)) : Tab σ := rows.foldl stepT [(zv n, [])]
def kerL {σ : Type} (n : Nat) (rows : List (RowV σ)) : List Vec := (allV n).filter fun v => rows.all fun r => !dot r.2 v
structure TbOk {σ : Type} (n : Nat) (rows : List (RowV σ)) (tb : Tab σ) : Prop where
  len : ∀ e ∈ tb, e.1.length = n
  nd : (tb.map (·.1)).Nodup
  zero : zv n ∈ tb.map (·.1)
  closed : ∀ a b, a ∈ tb.map (·.1) → b ∈ tb.map (·.1) → vx a b ∈ tb.map (·.1)
  rows_in : ∀ r ∈ rows, r.2 ∈ tb.map (·.1)
  sums : ∀ e ∈ tb, e.2.Sublist rows ∧ e.1 = sumV n (e.2.map (·.2))
  orth : ∀ v, (∀ r ∈ rows, dot r.2 v = false) → ∀ a ∈ tb.map (·.1), dot a v = false
  rank : tb.length * (kerL n rows).length = 2 ^ n
theorem filter_split {α : Type} (P Q : α → Bool) : ∀ xs : List α, (xs.filter P).length = (xs.filter fun x => P x && Q x).length + (xs.filter fun x => P x && !Q x).length
  | [] => rfl
  | x :: xs => by
    have ih := filter_split P Q xs
    cases hp : P x <;> cases hq : Q x <;> simp [List.filter_cons, hp, hq, ih] <;> omega
theorem dot_vx_r {a v r : Vec} (h : v.length = r.length) : dot a (vx v r) = xor (dot a v) (dot a r) := by
  rw [dot_comm a (vx v r), dot_vx h, dot_comm v a, dot_comm r a]
section
variable {σ : Type}
theorem tb_nil (n : Nat) : TbOk (σ := σ) n [] [(zv n, [])] := by
  refine ⟨fun e he => ?_, by simp, by simp, fun a b ha hb => ?_, by simp, fun e he => ?_, fun v _ a ha => ?_, ?_⟩
  · rw [List.mem_singleton.mp he]
    exact zv_len n
  · simp only [List.map_cons, List.map_nil, List.mem_singleton] at ha hb ⊢
    rw [ha, hb]
    exact vx_zero (zv_len n)
  · rw [List.mem_singleton.mp he]
    exact ⟨List.Sublist.refl _, rfl⟩
  · simp only [List.map_cons, List.map_nil, List.mem_singleton] at ha
    rw [ha]
    exact dot_zero n v
  · have : kerL (σ := σ) n [] = allV n := by
      unfold kerL
      simp
    rw [this, allV_len]
    simp
theorem tb_step {n : Nat} {rows : List (RowV σ)} {tb : Tab σ} (h : TbOk n rows tb) {r : RowV σ} (hr : r.2.length = n) : TbOk n (rows ++ [r]) (stepT tb r) := by
  have kl : ∀ a ∈ tb.map (·.1), a.length = n := fun a ha => by
    obtain ⟨e, he, rfl⟩ := List.mem_map.mp ha
    exact h.len e he
  unfold stepT
  by_cases hc : r.2 ∈ tb.map (·.1)
  · rw [if_pos hc]
    refine ⟨h.len, h.nd, h.zero, h.closed, fun q hq => ?_, fun e he => ?_, fun v hv => ?_, ?_⟩
    · rcases List.mem_append.mp hq with hq | hq
      · exact h.rows_in q hq
      · rw [List.mem_singleton.mp hq]
        exact hc
    · exact ⟨List.sublist_append_of_sublist_left (h.sums e he).1, (h.sums e he).2⟩
    · exact h.orth v fun q hq => hv q (List.mem_append_left _ hq)
    · have : kerL n (rows ++ [r]) = kerL n rows := by
        unfold kerL
        refine List.filter_congr fun v _ => ?_
        rw [List.all_append]
        cases e : rows.all fun r => !dot r.2 v with
        | false => rfl
        | true =>
          have := h.orth v (fun q hq => by
            have := List.all_eq_true.mp e q hq
            simpa using this) _ hc
          simp [this]
      rw [this]
      exact h.rank
  · rw [if_neg hc]
    have keys : (tb ++ tb.map fun e => (vx e.1 r.2, e.2 ++ [r])).map (·.1) = tb.map (·.1) ++ (tb.map (·.1)).map fun a => vx a r.2 := by
      rw [List.map_append, List.map_map, List.map_map]
      rfl
    have shift : ∀ a b, a ∈ tb.map (·.1) → b ∈ tb.map (·.1) → vx a r.2 = b → False := fun a b ha hb e => by
      refine hc ?_
      have e2 : vx b a = r.2 := by
        rw [← e, vx_comm (vx a r.2) a, ← vx_assoc (kl a ha) (kl a ha) hr, vx_self, kl a ha, vx_comm, vx_zero hr]
      rw [← e2]
      exact h.closed _ _ hb ha
    refine ⟨fun e he => ?_, ?_, ?_, ?_, ?_, ?_, ?_, ?_⟩
    · rcases List.mem_append.mp he with he | he
      · exact h.len e he
      · obtain ⟨q, hq, rfl⟩ := List.mem_map.mp he
        exact vx_len (h.len q hq) hr
    · rw [keys, List.nodup_append]
      refine ⟨h.nd, ?_, fun a ha b hb e => ?_⟩
      · rw [List.nodup_iff_pairwise_ne, List.pairwise_map]
        refine (List.Pairwise.and_mem.mp (List.nodup_iff_pairwise_ne.mp h.nd)).imp ?_
        rintro a b ⟨ha, hb, ne⟩ e
        refine ne ?_
        have := congrArg (fun v => vx v r.2) e
        rwa [vx_back (kl a ha) hr, vx_back (kl b hb) hr] at this
      · obtain ⟨x, hx, rfl⟩ := List.mem_map.mp hb
        exact shift x a hx ha e.symm
    · rw [keys]
      exact List.mem_append_left _ h.zero
    · intro a b ha hb
      rw [keys] at ha hb ⊢
      rcases List.mem_append.mp ha with ha | ha
      · rcases List.mem_append.mp hb with hb | hb
        · exact List.mem_append_left _ (h.closed _ _ ha hb)
        · obtain ⟨y, hy, rfl⟩ := List.mem_map.mp hb
          refine List.mem_append_right _ (List.mem_map.mpr ⟨vx a y, h.closed _ _ ha hy, ?_⟩)
          rw [vx_assoc (kl a ha) (kl y hy) hr]
      · obtain ⟨x, hx, rfl⟩ := List.mem_map.mp ha
        rcases List.mem_append.mp hb with hb | hb
        · refine List.mem_append_right _ (List.mem_map.mpr ⟨vx x b, h.closed _ _ hx hb, ?_⟩)
          rw [vx_assoc (kl x hx) (kl b hb) hr, vx_assoc (kl x hx) hr (kl b hb), vx_comm r.2 b]
        · obtain ⟨y, hy, rfl⟩ := List.mem_map.mp hb
          refine List.mem_append_left _ ?_
          have : vx (vx x r.2) (vx y r.2) = vx x y := by
            rw [vx_assoc (kl x hx) hr (vx_len (kl y hy) hr), vx_comm r.2 (vx y r.2), vx_back (kl y hy) hr]
          rw [this]
          exact h.closed _ _ hx hy
    · intro q hq
      rw [keys]
      rcases List.mem_append.mp hq with hq | hq
      · exact List.mem_append_left _ (h.rows_in q hq)
      · rw [List.mem_singleton.mp hq]
        refine List.mem_append_right _ (List.mem_map.mpr ⟨zv n, h.zero, ?_⟩)
        rw [vx_comm, vx_zero hr]
    · intro e he
      rcases List.mem_append.mp he with he | he
      · exact ⟨List.sublist_append_of_sublist_left (h.sums e he).1, (h.sums e he).2⟩
      · obtain ⟨q, hq, rfl⟩ := List.mem_map.mp he
        refine ⟨(h.sums q hq).1.append (List.Sublist.refl _), ?_⟩
        show vx q.1 r.2 = sumV n ((q.2 ++ [r]).map (·.2))
        rw [List.map_append, (h.sums q hq).2]
        exact (sumV_snoc n _ _).symm
    · intro v hv a ha
      have hv1 := h.orth v fun q hq => hv q (List.mem_append_left _ hq)
      rw [keys] at ha
      rcases List.mem_append.mp ha with ha | ha
      · exact hv1 a ha
      · obtain ⟨x, hx, rfl⟩ := List.mem_map.mp ha
        rw [dot_vx (by rw [kl x hx, hr]), hv1 x hx, hv r (List.mem_append_right _ (List.mem_singleton.mpr rfl))]
        rfl
    · obtain ⟨r0, rl, ro, r1⟩ := dual n (fun a => a ∈ tb.map (·.1)) h.zero (fun a b ha hb => h.closed a b ha hb) kl r.2 hr hc
      have rowK : ∀ v : Vec, v.length = n → (rows.all fun q => !dot q.2 (vx v r0)) = rows.all fun q => !dot q.2 v := fun v hv => by
        have : ∀ q ∈ rows, (!dot q.2 (vx v r0)) = !dot q.2 v := fun q hq => by
          rw [dot_vx_r (by rw [hv, rl]), ro _ (h.rows_in q hq), Bool.xor_false]
        rw [Bool.eq_iff_iff, List.all_eq_true, List.all_eq_true]
        exact ⟨fun g q hq => by rw [← this q hq]; exact g q hq, fun g q hq => by rw [this q hq]; exact g q hq⟩
      have half : (kerL n (rows ++ [r])).length = ((allV n).filter fun v => (rows.all fun q => !dot q.2 v) && dot r.2 v).length := by
        have e1 : kerL n (rows ++ [r]) = (allV n).filter fun v => (rows.all fun q => !dot q.2 v) && !dot r.2 v := by
          unfold kerL
          refine List.filter_congr fun v _ => ?_
          rw [List.all_append]
          simp
        rw [e1, ← count_shift rl]
        congr 1
        refine List.filter_congr fun v hv => ?_
        have vl := mem_allV.mp hv
        rw [rowK v vl, dot_vx_r (by rw [vl, rl]), r1]
        cases dot r.2 v <;> simp
      have split := filter_split (fun v => rows.all fun q => !dot q.2 v) (fun v => dot r.2 v) (allV n)
      have e2 : ((allV n).filter fun v => (rows.all fun q => !dot q.2 v) && !dot r.2 v).length = (kerL n (rows ++ [r])).length := by
        unfold kerL
        congr 1
        refine List.filter_congr fun v _ => ?_
        rw [List.all_append]
        simp
      rw [e2, ← half] at split
      have hk : (kerL n rows).length = (kerL n (rows ++ [r])).length + (kerL n (rows ++ [r])).length := split
      have hrk := h.rank
      rw [hk] at hrk
      rw [List.length_append, List.length_map, ← hrk, Nat.add_mul, Nat.mul_add]
theorem tb_all {n : Nat} : ∀ (more rows : List (RowV σ)) (tb : Tab σ), TbOk n rows tb → (∀ r ∈ more, r.2.length = n) → TbOk n (rows ++ more) (more.foldl stepT tb)
  | [], rows, tb, h, _ => by
    rw [List.append_nil]
    exact h
  | r :: more, rows, tb, h, hl => by
    have h1 := tb_step h (hl r List.mem_cons_self)
    have := tb_all more (rows ++ [r]) _ h1 fun q hq => hl q (List.mem_cons_of_mem _ hq)
    rw [List.append_assoc] at this
    exact this
theorem table_ok {n : Nat} {rows : List (RowV σ)} (hl : ∀ r ∈ rows, r.2.length = n) : TbOk n rows (tableT n rows) := by
  have := tb_all rows [] _ (tb_nil n) hl
  exact this
/-! ### what fits -/
def fitL (n : Nat) (rows : List (RowV σ × Bool)) : List Vec := (allV n).filter fun v => rows.all fun r => dot r.1.2 v == r.2
/-- the value as one place more -/
def augR (r : RowV σ × Bool) : RowV σ := (r.1.1, r.1.2 ++ [r.2])
theorem dot_snoc : ∀ {a v : Vec} {b c : Bool}, a.length = v.length → dot (a ++ [b]) (v ++ [c]) = xor (dot a v) (b && c)
  | [], [], b, c, _ => by simp [dot]
  | x :: xs, y :: ys, b, c, h => by
    show xor (x && y) (dot (xs ++ [b]) (ys ++ [c])) = xor (xor (x && y) (dot xs ys)) (b && c)
    rw [dot_snoc (Nat.succ.inj h), Bool.xor_assoc]
theorem fit_ker {n : Nat} {rows : List (RowV σ × Bool)} (h : fitL n rows ≠ []) : (fitL n rows).length = (kerL n (rows.map (·.1))).length := by
  obtain ⟨r0, hr0⟩ : ∃ r0, r0 ∈ fitL n rows := by
    cases e : fitL n rows with
    | nil => exact absurd e h
    | cons a l => exact ⟨a, by simp⟩
  obtain ⟨m0, f0⟩ := List.mem_filter.mp hr0
  have rl := mem_allV.mp m0
  unfold fitL kerL
  rw [← count_shift rl]
  congr 1
  refine List.filter_congr fun v hv => ?_
  have vl := mem_allV.mp hv
  rw [List.all_map, Bool.eq_iff_iff, List.all_eq_true, List.all_eq_true]
  have one : ∀ q ∈ rows, (dot q.1.2 (vx v r0) == q.2) = !dot q.1.2 v := fun q hq => by
    have := List.all_eq_true.mp f0 q hq
    have e : dot q.1.2 r0 = q.2 := by simpa using this
    rw [dot_vx_r (by rw [vl, rl]), e]
    cases dot q.1.2 v <;> cases q.2 <;> rfl
  exact ⟨fun g q hq => by show (!dot q.1.2 v) = true; rw [← one q hq]; exact g q hq, fun g q hq => by rw [one q hq]; exact g q hq⟩
/-- if none fits, some sum of rows comes to nothing while its values come to one -/
theorem torn_in {n : Nat} {rows : List (RowV σ × Bool)} {tb : Tab σ} (hl : ∀ r ∈ rows, r.1.2.length = n) (h : TbOk (n + 1) (rows.map augR) tb) (no : fitL n rows = []) : zv n ++ [true] ∈ tb.map (·.1) := by
  refine Classical.byContradiction fun hc => ?_
  obtain ⟨r, rl, ro, r1⟩ := dual (n + 1) (fun a => a ∈ tb.map (·.1)) h.zero (fun a b ha hb => h.closed a b ha hb) (fun a ha => by
    obtain ⟨e, he, rfl⟩ := List.mem_map.mp ha
    exact h.len e he) (zv n ++ [true]) (by simp [zv_len]) hc
  obtain ⟨v, c, rfl⟩ : ∃ v c, r = v ++ [c] := by
    rcases List.eq_nil_or_concat r with e | ⟨v, c, e⟩
    · rw [e] at rl
      simp at rl
    · exact ⟨v, c, by rw [e, List.concat_eq_append]⟩
  have vl : v.length = n := by simpa using rl
  rw [dot_snoc (by rw [zv_len, vl]), dot_zero] at r1
  have hc1 : c = true := by simpa using r1
  have : v ∈ fitL n rows := by
    refine List.mem_filter.mpr ⟨mem_allV.mpr vl, List.all_eq_true.mpr fun q hq => ?_⟩
    have z := ro (augR q).2 (h.rows_in _ (List.mem_map.mpr ⟨q, hq, rfl⟩))
    rw [show (augR q).2 = q.1.2 ++ [q.2] from rfl, dot_snoc (by rw [hl q hq, vl]), hc1] at z
    revert z
    cases dot q.1.2 v <;> cases q.2 <;> simp
  rw [no] at this
  cases this
/-! ### units -/
def unitV : Nat → Nat → Vec
  | 0, _ => []
  | n + 1, 0 => true :: zv n
  | n + 1, i + 1 => false :: unitV n i
theorem unit_len : ∀ (n i : Nat), (unitV n i).length = n
  | 0, _ => rfl
  | n + 1, 0 => by simp [unitV, zv_len]
  | n + 1, i + 1 => by simp [unitV, unit_len n i]
theorem dot_unit : ∀ {n i : Nat} {v : Vec}, v.length = n → dot (unitV n i) v = (v[i]?).getD false
  | 0, _, [], _ => by simp [unitV, dot]
  | 0, _, _ :: _, h => by simp at h
  | n + 1, _, [], h => by simp at h
  | n + 1, 0, b :: v, _ => by
    show xor (true && b) (dot (zv n) v) = _
    rw [dot_zero]
    simp
  | n + 1, i + 1, b :: v, h => by
    show xor (false && b) (dot (unitV n i) v) = _
    rw [dot_unit (Nat.succ.inj h)]
    simp
theorem units_ker {n : Nat} {rows : List (RowV σ)} {tb : Tab σ} (h : TbOk n rows tb) (hu : ∀ i, i < n → unitV n i ∈ tb.map (·.1)) : (kerL n rows).length ≤ 1 := by
  have one : ∀ v ∈ kerL n rows, v = zv n := fun v hv => by
    obtain ⟨m, f⟩ := List.mem_filter.mp hv
    have vl := mem_allV.mp m
    have o := h.orth v fun r hr => by
      have := List.all_eq_true.mp f r hr
      simpa using this
    apply List.ext_getElem?
    intro i
    by_cases hi : i < n
    · have := o _ (hu i hi)
      rw [dot_unit vl, List.getElem?_eq_getElem (by omega)] at this
      rw [List.getElem?_eq_getElem (by omega), List.getElem?_eq_getElem (by rw [zv_len]; omega)]
      have e : v[i]'(by omega) = false := by simpa using this
      rw [e]
      simp [zv]
    · rw [List.getElem?_eq_none (by omega), List.getElem?_eq_none (by rw [zv_len]; omega)]
  have nd : (kerL n rows).Nodup := (nodup_allV n).sublist List.filter_sublist
  match e : kerL n rows, one, nd with
  | [], _, _ => exact Nat.zero_le _
  | [_], _, _ => exact Nat.le_refl _
  | a :: b :: l, one, nd => 
    have h1 := one a (by simp)
    have h2 := one b (by simp)
    rw [h1, h2] at nd
    simp at nd
/-- a place that is lost: a vector that is 1 there, on which all rows are 0 -/
theorem unit_lost {n : Nat} {rows : List (RowV σ)} {tb : Tab σ} (h : TbOk n rows tb) {i : Nat} (hu : unitV n i ∉ tb.map (·.1)) : ∃ v : Vec, v.length = n ∧ (v[i]?).getD false = true ∧ ∀ r ∈ rows, dot r.2 v = false := by
  obtain ⟨v, vl, vo, v1⟩ := dual n (fun a => a ∈ tb.map (·.1)) h.zero (fun a b ha hb => h.closed a b ha hb) (fun a ha => by
    obtain ⟨e, he, rfl⟩ := List.mem_map.mp ha
    exact h.len e he) (unitV n i) (unit_len n i) hu
  rw [dot_unit vl] at v1
  exact ⟨v, vl, v1, fun r hr => vo _ (h.rows_in r hr)⟩
end
end Lk
set_option Elab.async false
set_option linter.all false
set_option maxHeartbeats 4000000
/-! Part W: vectors as ints. -/
namespace Lk
open PySem
def bN (b : Bool) : Nat := if b then 1 else 0
def toN : Vec → Nat
  | [] => 0
  | b :: bs => bN b + 2 * toN bs
theorem toN_zero : ∀ n, toN (zv n) = 0
  | 0 => rfl
  | n + 1 => by
    show bN false + 2 * toN (zv n) = 0
    rw [toN_zero n]
    rfl
theorem toN_lt : ∀ v : Vec, toN v < 2 ^ v.length
  | [] => by decide
  | b :: bs => by
    have := toN_lt bs
    show bN b + 2 * toN bs < 2 ^ (bs.length + 1)
    rw [Nat.pow_succ]
    cases b <;> simp only [bN] <;> simp <;> omega
theorem toN_inj : ∀ {a b : Vec}, a.length = b.length → toN a = toN b → a = b
  | [], [], _, _ => rfl
  | a :: as, b :: bs, h, e => by
    have e : bN a + 2 * toN as = bN b + 2 * toN bs := e
    have : a = b ∧ toN as = toN bs := by
      cases a <;> cases b <;> simp only [bN] at e <;> simp at e ⊢ <;> omega
    rw [this.1, toN_inj (Nat.succ.inj h) this.2]
theorem nat_xor_cons (a b : Bool) (x y : Nat) : (bN a + 2 * x) ^^^ (bN b + 2 * y) = bN (xor a b) + 2 * (x ^^^ y) := by
  apply Nat.eq_of_testBit_eq
  intro i
  cases i with
  | zero =>
    rw [Nat.testBit_xor]
    cases a <;> cases b <;> simp [bN, Nat.testBit_zero] <;> omega
  | succ i =>
    rw [Nat.testBit_xor, Nat.testBit_succ, Nat.testBit_succ, Nat.testBit_succ]
    have h1 : ∀ (c : Bool) (z : Nat), (bN c + 2 * z) / 2 = z := fun c z => by cases c <;> simp only [bN] <;> simp <;> omega
    rw [h1, h1, h1, Nat.testBit_xor]
theorem toN_vx : ∀ {a b : Vec}, a.length = b.length → toN (vx a b) = toN a ^^^ toN b
  | [], [], _ => by simp [vx, toN]
  | a :: as, b :: bs, h => by
    show bN (xor a b) + 2 * toN (vx as bs) = (bN a + 2 * toN as) ^^^ (bN b + 2 * toN bs)
    rw [nat_xor_cons, toN_vx (Nat.succ.inj h)]
theorem toN_snoc : ∀ (v : Vec) (b : Bool), toN (v ++ [b]) = toN v + bN b * 2 ^ v.length
  | [], b => by simp [toN]
  | a :: as, b => by
    show bN a + 2 * toN (as ++ [b]) = bN a + 2 * toN as + bN b * 2 ^ (as.length + 1)
    rw [toN_snoc as b, Nat.pow_succ, Nat.mul_add, Nat.mul_left_comm, Nat.mul_comm 2 (2 ^ as.length)]
    omega
theorem toN_unit : ∀ {n i : Nat}, i < n → toN (unitV n i) = 2 ^ i
  | 0, _, h => by omega
  | n + 1, 0, _ => by
    show bN true + 2 * toN (zv n) = 1
    rw [toN_zero]
    rfl
  | n + 1, i + 1, h => by
    show bN false + 2 * toN (unitV n i) = 2 ^ (i + 1)
    rw [toN_unit (by omega), Nat.pow_succ]
    simp [bN]
    omega
theorem xor_codes {a b : Vec} (h : a.length = b.length) : Builtin.bitXor (toN a : Int) (toN b : Int) = (toN (vx a b) : Int) := by
  rw [Bits.bitXor_pp (by omega) (by omega), toN_vx h]
  rfl
/-! ### the code of a piece -/
def idxS : List Str → Str → Nat
  | [], _ => 0
  | y :: ys, b => if b = y then 0 else idxS ys b + 1
theorem idxS_at : ∀ {ps : List Str} {b : Str}, b ∈ ps → ps[idxS ps b]? = some b
  | y :: ys, b, h => by
    unfold idxS
    by_cases e : b = y
    · rw [if_pos e, e]
      rfl
    · rw [if_neg e]
      rcases List.mem_cons.mp h with h | h
      · exact absurd h e
      · rw [List.getElem?_cons_succ]
        exact idxS_at h
def vecP (ps p : List Str) : Vec := ps.map fun x => decide (x ∈ p)
theorem vecP_len (ps p : List Str) : (vecP ps p).length = ps.length := List.length_map ..
theorem sum_dbl : ∀ xs : List Int, (xs.map fun x => 2 * x).sum = 2 * xs.sum
  | [] => rfl
  | x :: xs => by
    rw [List.map_cons, List.sum_cons, List.sum_cons, sum_dbl xs, Int.mul_add]
theorem code_sum : ∀ {ps : List Str} (Q : Str → Bool), ps.Nodup → ((ps.filter Q).map fun b => ((2 ^ idxS ps b : Nat) : Int)).sum = (toN (ps.map Q) : Int)
  | [], _, _ => rfl
  | y :: ys, Q, nd => by
    have n2 := List.nodup_cons.mp nd
    have ih := code_sum (ps := ys) Q n2.2
    have e : ((ys.filter Q).map fun b => ((2 ^ idxS (y :: ys) b : Nat) : Int)) = (((ys.filter Q).map fun b => ((2 ^ idxS ys b : Nat) : Int)).map fun x => 2 * x) := by
      rw [List.map_map]
      refine List.map_congr_left fun b hb => ?_
      have : b ≠ y := fun q => n2.1 (q ▸ (List.mem_filter.mp hb).1)
      show ((2 ^ idxS (y :: ys) b : Nat) : Int) = 2 * ((2 ^ idxS ys b : Nat) : Int)
      have h : idxS (y :: ys) b = idxS ys b + 1 := if_neg this
      rw [h, Nat.pow_succ]
      omega
    have t : toN ((y :: ys).map Q) = bN (Q y) + 2 * toN (ys.map Q) := rfl
    cases hq : Q y with
    | true =>
      rw [List.filter_cons_of_pos hq, List.map_cons, List.sum_cons, e, sum_dbl, ih, t, hq]
      have : idxS (y :: ys) y = 0 := if_pos rfl
      rw [this]
      show (1 : Int) + 2 * (toN (ys.map Q) : Int) = ((bN true + 2 * toN (ys.map Q) : Nat) : Int)
      simp [bN]
    | false =>
      rw [List.filter_cons_of_neg (by simp [hq]), e, sum_dbl, ih, t, hq]
      simp [bN]
end Lk
set_option Elab.async false
set_option linter.all false
set_option maxRecDepth 100000
set_option maxHeartbeats 4000000
set_option pp.maxSteps 1200
set_option pp.deepTerms false
namespace K6
open PySem PySem.Spec PyProof.Rows L2 Lk
abbrev sPieceAt : Stmt := top 48
abbrev sPieceCode : Stmt := top 49
/-- what is asked of the class Shelf -/
structure ShC (K : PySem.W.Frag) (CS fI : Addr) : Prop where
  cls : Cls K CS
  text : NoAttr K CS "text"
  parts : NoAttr K CS "parts"
  circle : NoAttr K CS "circle"
  pieces : NoAttr K CS "pieces"
  spots : NoAttr K CS "spots"
  codes : NoAttr K CS "codes"
  mkr : Mk K CS fI
/-- what the attributes of a shelf tell, once they are there -/
structure ShF (H : Hp) (C : Addr) (L : Lore) (fs : List (Str × V)) : Prop where
  parts : ∃ pa, fs.lookup ("parts" : Str) = some (V.ref pa) ∧ TupX H pa (L.parts.map V.str)
  circle : ∃ c, fs.lookup ("circle" : Str) = some (V.ref c) ∧ CircAt H C c (L.kps.map (·.1))
  pieces : ∃ q, fs.lookup ("pieces" : Str) = some (V.ref q) ∧ PcsAt H q L.kps
theorem CircAt.same {H H' : Hp} {C c : Addr} {zs : List Str} (h : CircAt H C c zs) (s : Same H H') : CircAt H' C c zs := by
  obtain ⟨dx, nm, e, t⟩ := h
  exact ⟨dx, nm, s _ _ e, t.same s⟩
theorem PcsAt.same {H H' : Hp} {q : Addr} {ks : List KP} (h : PcsAt H q ks) (s : Same H H') : PcsAt H' q ks := by
  obtain ⟨rows, e, p⟩ := h
  exact ⟨rows, s _ _ e, Paired.mapP p fun v k ⟨r, ts, e1, e2, e3⟩ => ⟨r, ts, e1, s _ _ e2, e3.tups (.of s)⟩⟩
theorem ShF.same {H H' : Hp} {C : Addr} {L : Lore} {fs : List (Str × V)} (h : ShF H C L fs) (s : Same H H') : ShF H' C L fs := by
  obtain ⟨⟨pa, a1, a2⟩, ⟨c, b1, b2⟩, ⟨q, c1, c2⟩⟩ := h
  exact ⟨⟨pa, a1, a2.same s⟩, ⟨c, b1, b2.same s⟩, ⟨q, c1, c2.same s⟩⟩
def rTI (K : PySem.W.Frag) : V → List V → Hp → VK → Prop := fun x xs H Q => ∃ p, ∃ ys : List Str, ∃ z j, x = .ref p ∧ xs = [.str z] ∧ SqT K H p (ys.map V.str) ∧ ys[j]? = some z ∧ (∀ m, m < j → ys[m]? ≠ some z) ∧ Q (.int (j : Nat)) H
theorem first_at {zs : List Str} (nd : zs.Nodup) {z : Str} {j : Nat} (h : zs[j]? = some z) : ∀ m, m < j → zs[m]? ≠ some z := fun m hm e => by
  obtain ⟨h1, e1⟩ := List.getElem?_eq_some_iff.mp h
  obtain ⟨h2, e2⟩ := List.getElem?_eq_some_iff.mp e
  exact (List.pairwise_iff_getElem.mp nd) m j h2 h1 hm (e2.trans e1.symm)
theorem paired_get {α β : Type} {R : α → β → Prop} : ∀ {xs : List α} {ys : List β} {i : Nat} {y : β}, Paired R xs ys → ys[i]? = some y → ∃ x, xs[i]? = some x ∧ R x y
  | _, _, _, _, .nil, h => by simp at h
  | _, _, 0, y, .cons (a := a) r t, h => by
    simp at h
    subst h
    exact ⟨a, rfl, r⟩
  | _, _, i + 1, y, .cons r t, h => by
    obtain ⟨x, h1, h2⟩ := paired_get t (by simpa using h)
    exact ⟨x, by simpa using h1, h2⟩
theorem atN {xs : List V} {i : Nat} {v : V} (h : xs[i]? = some v) : atI xs (i : Int) = some v := atI_nat h
section
variable {P : Program} {w : World} {K : PySem.W.Frag} {mg : Str → Option Value} {base : Heap} {f : Addr} {fd : FuncData}
/-! ### piece_at -/
def spPieceAt (C CS : Addr) : Sp := fun vs H Q _ => ∃ (x t dx : Addr) (fs : List (Str × V)) (L : Lore) (j i : Nat) (kq : KP) (p : List Str), vs = [.ref x, .ref t] ∧ H x = some (.ins CS dx fs) ∧ ShF H C L fs ∧ LoreOk L ∧ H t = some (.tup [.str kq.1, .int (i : Int)]) ∧
  L.kps[j]? = some kq ∧ kq.2[i]? = some p ∧ ∀ u, H u = some (.tup (p.map V.str)) → Q (.ref u) H
theorem scPieceAt : FnScope ["shelf", "spot"] ["shelf", "spot"] (defScope sPieceAt) := ⟨rfl, rfl, rfl, by decide +kernel, rfl, by decide +kernel, by decide +kernel⟩
theorem ok_pieceAt {C CS fC fS : Addr} (F : Fun K "piece_at" "piece_at" sPieceAt f fd) (CC : CircC K C fC) (SC : ShC K CS fS) : FnOk P w K mg base CX0 1 f fd ["shelf", "spot"] (spPieceAt C CS) := by
  refine F.ok scPieceAt (fun vs H Q E h => ?_) (fun cdv A outer s H vs Q E hr h => ?_)
  · obtain ⟨x, t, dx, fs, L, j, i, kq, p, rfl, _⟩ := h
    rfl
  · obtain ⟨x, t, dx, fs, L, j, i, kq, p, rfl, hx, sf, ok, ht, hj, hi, k⟩ := h
    obtain ⟨c, lc, cdx, nm, ec, en⟩ := sf.circle
    obtain ⟨q, lq, rows, eq, pr⟩ := sf.pieces
    obtain ⟨v, hv, r, ts, rfl, er, ep⟩ := paired_get pr hj
    obtain ⟨v2, hv2, u, rfl, eu⟩ := paired_get ep hi
    refine ⟨_, pss_one (ps_ret (pe_ix ix_tup (pe_ix ix_tup (pe_fld (pv 0) rfl) (pe_bmX PySem.F.slot_tuple_index PySem.F.type_tuple_index mt_tup_index (pe_fld (pe_fld (pv 0) rfl) rfl) (pa_cons (pe_ix ix_tup (pv 1) pe_int (fun _ _ => rfl)) pa_nil)) (fun _ _ => rfl))
      (pe_ix ix_tup (pv 1) pe_int (fun _ _ => rfl)) (fun _ _ => rfl))), ?_⟩
    have kn : (L.kps.map (·.1))[j]? = some kq.1 := by rw [List.getElem?_map, hj]; rfl
    refine ⟨_, rfl, x, CS, dx, fs, .ref q, rfl, hx, SC.cls, SC.pieces, lq, ?_⟩
    refine ⟨_, rfl, x, CS, dx, fs, .ref c, rfl, hx, SC.cls, SC.circle, lc, c, C, cdx, _, .ref nm, rfl, ec, CC.cls, CC.nm, rfl, ⟨nm, _, rfl, en⟩, ?_⟩
    refine ⟨_, rfl, t, _, _, .str kq.1, rfl, rfl, SqT.of ht, at0 rfl, nm, L.kps.map (·.1), kq.1, j, rfl, rfl, en.sq, kn, first_at ok.kn kn, ?_⟩
    refine ⟨q, rows, _, .ref r, rfl, rfl, SqT.of eq, atN hv, ?_⟩
    refine ⟨_, rfl, t, _, _, .int (i : Int), rfl, rfl, SqT.of ht, at1 rfl, r, ts, _, .ref u, rfl, rfl, SqT.of er, atN hv2, k u eu⟩
/-! ### piece_code -/
def spPieceCode : Sp := fun vs H Q _ => ∃ (pa t : Addr) (ps p : List Str), vs = [.ref pa, .ref t] ∧ TupX H pa (ps.map V.str) ∧ H t = some (.tup (p.map V.str)) ∧ (∀ x ∈ p, x ∈ ps) ∧ ps.length ≤ 4 ∧ p.length ≤ 4 ∧ ps.Nodup ∧ p = ps.filter (fun x => decide (x ∈ p)) ∧ ∀ H', Same H H' → Q (.int ((toN (vecP ps p) : Nat) : Int)) H'
theorem scPieceCode : FnScope ["parts", "piece", "part"] ["parts", "piece"] (defScope sPieceCode) := ⟨rfl, rfl, rfl, by decide +kernel, rfl, by decide +kernel, by decide +kernel⟩
theorem ok_pieceCode (F : Fun K "piece_code" "piece_code" sPieceCode f fd) (Cc : Cn mg) : FnOk P w K mg base CX0 1 f fd ["parts", "piece"] spPieceCode := by
  refine F.ok scPieceCode (fun vs H Q E h => ?_) (fun cdv A outer s H vs Q E hr h => ?_)
  · obtain ⟨pa, t, ps, p, rfl, _⟩ := h
    rfl
  · obtain ⟨pa, t, ps, p, rfl, hpa, ht, sub, l4, p4, ndp, pf, k⟩ := h
    have nd := scPieceCode.nd
    refine ⟨_, pss_one (ps_ret (pe_callB (cr_sum rfl) (by rfl) Cc.sum boot_sum (pa_cons (pe_lc (own := [("part", 2)]) (g := gName 2) (tt := tYes) (te := tOp (rI CPow fun i j => .int (i * 2 ^ j.toNat)) (tC (.int 1)) (tBMX (rTI K) (tVar 0) (tCons (tVar 2) tNil))) rfl nd (pi_tup (pv 1)) (blkOk_by (N := ["parts", "piece", "part"]) (sc := defScope sPieceCode) (by decide +kernel))
        (fun _ _ _ _ _ => pg_name (i := 2) nd rfl (Or.inl rfl)) (fun _ _ _ _ _ => pts_nil) (fun _ _ _ _ _ => pe_op op_shl pe_int (pe_bmX PySem.F.slot_tuple_index PySem.F.type_tuple_index mt_tup_index (pv 0) (pa_cons (pv 2) pa_nil)))) pa_nil))), ?_⟩
    refine ⟨_, rfl, t, rfl, ⟨_, SqT.of ht⟩, lc_rel (Q := fun x H1 => rSum K [x] H1 Q) walk_tup p V.str (fun b => b) (fun _ v b => v = .int ((2 ^ idxS ps b : Nat) : Int)) (fun _ _ _ _ _ h => h) rfl (by omega) (fun H s => sqT_same s (SqT.of ht)) ?_ ?_⟩
    · intro i b H1 R hb s1 kk
      have mb := sub b (List.mem_of_getElem? hb)
      have hj := idxS_at mb
      have jl := (List.getElem?_eq_some_iff.mp hj).1
      refine ⟨rfl, _, rfl, ⟨pa, _, rfl, hpa.same s1⟩, _, rfl, pa, ps, b, idxS ps b, rfl, rfl, (hpa.same s1).sq, hj, first_at ndp hj, ?_⟩
      refine ⟨_, _, rfl, rfl, ⟨by omega, by omega, by decide⟩, kk _ _ (Same.refl _) ?_⟩
      show V.int (1 * 2 ^ ((idxS ps b : Nat) : Int).toNat) = _
      rw [Int.toNat_natCast, Int.one_mul]
      norm_cast
    · intro D H1 ts nD s1 eD pr
      obtain rfl : ts = (p.map fun b => ((2 ^ idxS ps b : Nat) : Int)).map V.int := by
        clear eD
        rw [List.map_id'] at pr
        rw [List.map_map]
        clear sub pf p4 ht k
        induction pr with
        | nil => rfl
        | cons h _ ih =>
          rw [h, ih]
          rfl
      refine ⟨D, _, rfl, SqL.of eD, ?_⟩
      have e : (p.map fun b => ((2 ^ idxS ps b : Nat) : Int)).sum = ((toN (vecP ps p) : Nat) : Int) := by
        have c := code_sum (fun x => decide (x ∈ p)) ndp
        rw [← pf] at c
        exact c
      rw [e]
      exact k _ s1
end
end K6
set_option Elab.async false
set_option linter.all false
set_option maxRecDepth 100000
set_option maxHeartbeats 8000000
/-! Part M: dict comprehensions whose keys are tuples of ints and texts. -/
namespace Lk
open PySem PySem.Spec PyProof.Rows L2
/-- what such a comprehension asks, over what is walked -/
def tDcT (wi : TI) (g : TG) (tt : TT) (tk tv : TE) (vs : List Nat) : TE := fun σ H Q => wi σ H fun J H1 => ∀ D, H1 D = none → ∃ W : Nat → Nat → Hp → Prop, (∃ m, W 0 m (upd H1 D (.dT []))) ∧ ∀ i m H, W i m H → (J.stop i H ∧ Q (.ref D) H) ∨
  (J.go i H ∧ ∃ N : Hp → Prop, (∀ H', N H' → ∃ m', m' < m ∧ W (i + 1) m' H') ∧ ∀ x H', J.yld i H x H' → g x (wipe σ vs) H' fun σ2 H2 => wipe σ2 vs = wipe σ vs ∧ tt σ2 H2 fun b H3 => if b = true then tk σ2 H3 fun y H4 => tv σ2 H4 fun z H5 =>
    ∃ kvs k c, y = .ref c ∧ H5 D = some (.dT kvs) ∧ H5 c = some (.tup (k.map kV)) ∧ kvs.length < sizeLine ∧ N (upd H5 D (.dT (putK kvs k z))) else N H3)
/-- one pair put in -/
theorem put_dT {X : Cx} {pins : List (Addr × Obj)} {σ : L2.St} {H : Hp} {s : Shared} {E : Value → Shared → Prop} {D c : Addr} {kvs : List (List Key × V)} {k : List Key} {v : V} {r : Value} {Q : Unit → Shared → Prop} (room : X.A.units < cLine) (I : Inv X pins σ H s) (eD : H D = some (.dT kvs))
    (ec : H c = some (.tup (k.map kV))) (few : kvs.length < sizeLine) (rv : RelV v r) (go : ∀ s', Inv X pins σ (upd H D (.dT (putK kvs k v))) s' → Q () s') : wpAny (model X.prog X.w) X.A (dictSet D (.ref c) r) Q E s := by
  obtain ⟨z, nsys, xs, rel, dd⟩ := dt_of I.hok eD
  have few2 : xs.length ≤ sizeLine := by rw [← Paired.length rel] <;> exact z
  have few3 : (putK kvs k v).length ≤ sizeLine := by have := length_putK kvs k v; omega
  refine wpAny_dictSet_heap (hsz := few2) room (key_of I.hok ec) dd fun h' dd' but => go _ ?_
  obtain ⟨o, es, ep, at_, q2, q3, q4, _, q5⟩ := dd'
  refine d_write I (by rw [eD]; exact True.intro) but ⟨o, at_⟩ ⟨few3, nsys, _, (rel.put k ec rv).keeps fun b ys eb => ?_, o, es, ep, at_, q2, q3, q4, q5⟩
  rw [upd_ne (ne_of eb eD (fun z => nomatch z))] <;> exact eb
/-- the comprehension's block, run -/
theorem core_dT {X : Cx} {pins : List (Addr × Obj)} {s : Shared} {σ : L2.St} {H : Hp} {Q : VK} {ek ev tg it : Expr} {ifs : List Expr} {sc : Scope} {own : List (Str × Nat)} {pos pos2 : Pos} {wi : TI} {g : TG} {tt : TT} {tk tv : TE} {use : Option (Value → Sem Unit)} {Qf : Value → Shared → Prop}
    (calm : X.calm = true) (nd : X.N.Nodup) (room : X.A.units < cLine) (I : Inv X pins σ H s) (pi : PI X tg it wi) (bo : BlkOk X.N X.env.scope sc own)
    (pg : ∀ s H C cl fp, PG (X.blk s H sc (compEnvC sc cl C X.env) fp) tg g) (pt : ∀ s H C cl fp, PTs (X.blk s H sc (compEnvC sc cl C X.env) fp) ifs tt) (pk : ∀ s H C cl fp, PE (X.blk s H sc (compEnvC sc cl C X.env) fp) ek tk) (pe : ∀ s H C cl fp, PE (X.blk s H sc (compEnvC sc cl C X.env) fp) ev tv)
    (fold : ∀ x, foldedSetIterable it X.env x = pure x) (want : tDcT wi g tt tk tv (own.map (·.2)) σ H Q) (leave : ∀ D C s' m H', Inv X pins σ H' s' → Q (.ref D) H' → s'.heap.Ns C m → FpOk X pins H' C → compPost (model X.prog X.w) X.A X.xe use Qf (.ref D) C (.ok .next) s') :
    wpAny (model X.prog X.w) X.A (comprehension (.DictComp ek ev [⟨tg, it, ifs, 0⟩] sc pos) sc X.env pos2 newDict false (eval it X.env) use) Qf X.xe s := by
  have clo : ∀ y ∈ sc.names, y.2 = .free → ∃ c, X.env.cells.lookup y.1 = some c := fun y hy e => (bo.free y hy e).elim (fun q => I.ok.has _ (.inl q)) fun q => I.ok.has _ (.inr q)
  refine wpAny_comprehension_free (use := use) rfl fold (closure_ok clo) bo.kind (fun y hy e => by rw [bo.uniq y hy, e]) (thn (pi.run pins s σ H _ I want) fun _ s1 go1 => thn go1 fun _ s2 go2 => ?_)
  obtain ⟨itr, fp, tn, J, H2, rfl, I2, T, at2, free2, q⟩ := go2
  refine wpAny_newObj_type (newEnv_comp ?_)
  have nD : H2 s2.heap.objs.size = none := I2.hok.fresh (Nat.le_refl _)
  obtain ⟨W, ⟨m0, w0⟩, turn⟩ := q _ nD
  have big2 : sysModules < s2.heap.objs.size := I2.big
  generalize eD : s2.heap.objs.size = D at nD w0 turn ⊢
  have I3 : Inv X pins σ (upd H2 D (.dT [])) { s2 with heap := s2.heap.push { cls := .type "dict", data := .dict #[] } } :=
    I2.laid (t' := s2.toks) (fun b o e => Heap.get?_push_of_some _ e) (Nat.le_of_eq eD) (by rw [← eD]; exact dt_empty s2.heap big2)
  have old : ∀ b ∈ fp, b < s2.heap.objs.size := fun b hb => by
    obtain ⟨o, e, _⟩ := T.obj _ _ at2 b hb
    exact Heap.lt_size e
  have at3 : tn 0 (s2.heap.push { cls := .type "dict", data := .dict #[] }) := T.keep _ _ _ at2 fun b _ o e => Heap.get?_push_of_some _ e
  have sz3 : (s2.heap.push { cls := .type "dict", data := .dict #[] }).objs.size = s2.heap.objs.size + 1 := Heap.size_push ..
  generalize e3 : ({ s2 with heap := s2.heap.push { cls := .type "dict", data := .dict #[] } } : Shared) = s3 at I3 ⊢
  have h3 : s3.heap = s2.heap.push { cls := .type "dict", data := .dict #[] } := by rw [← e3]
  rw [← h3] at at3 sz3
  have free3 : ∀ b ∈ fp, FpOk X pins (upd H2 D (.dT [])) b ∧ b < s3.heap.objs.size := fun b hb =>
    ⟨⟨by rw [upd_ne (by rw [← eD]; exact Nat.ne_of_lt (old b hb))]; exact (free2 b hb).1, (free2 b hb).2⟩, by rw [sz3]; exact Nat.lt_succ_of_lt (old b hb)⟩
  have I4 := block_start I3 bo nd free3
  generalize eC : cellsFrom (s3.heap.objs.size + 1) sc.names (cloFrom X.env.cells sc.names []) = cl at I4 ⊢
  have g3 := pg s3 (upd H2 D (.dT [])) s3.heap.objs.size cl fp; have t3 := pt s3 (upd H2 D (.dT [])) s3.heap.objs.size cl fp
  have k3 := pk s3 (upd H2 D (.dT [])) s3.heap.objs.size cl fp; have v3 := pe s3 (upd H2 D (.dT [])) s3.heap.objs.size cl fp
  have out3 : ∀ b ∈ fp, upd H2 D (.dT []) b = none := fun b hb => (free3 b hb).1.1
  show codeAny _ _ (.compStart (.DictComp ek ev [⟨tg, it, ifs, 0⟩] sc pos) 0 (.ref itr) (.ref D) (compEnvC sc cl s3.heap.objs.size X.env)) (compPost (model X.prog X.w) X.A X.xe use Qf (.ref D) s3.heap.objs.size) { s3 with heap := pushCells (s3.heap.push { cls := .type "dict", data := .dict #[] }) sc.names }
  generalize eE : compEnvC sc cl s3.heap.objs.size X.env = ce at I4 g3 t3 k3 v3 ⊢
  have loc : ce.locals = s3.heap.objs.size := by rw [← eE] <;> rfl
  generalize eH : upd H2 D (.dT []) = H3 at I3 I4 g3 t3 k3 v3 w0 out3 free3
  generalize e4 : ({ s3 with heap := pushCells (s3.heap.push { cls := .type "dict", data := .dict #[] }) sc.names } : Shared) = s4 at I4 ⊢
  have at4 : tn 0 s4.heap := T.keep _ _ _ at3 fun b _ o e => by rw [← e4]; exact pushCells_keeps _ _ _ _ (Heap.get?_push_of_some _ e)
  have still : ∀ {σ' : L2.St} {H' : Hp} {s' : Shared}, Inv (X.blk s3 H3 sc ce fp) [] σ' H' s' → (∀ b ∈ fp, H' b = none) → ∀ b ∈ fp, FpOk (X.blk s3 H3 sc ce fp) [] H' b := fun {σ' H' s'} J' n b hb =>
    ⟨n b hb, (J'.ok.exf b hb).1, J'.ok.exfs b hb, .inl hb, fun x c e => (J'.ok.exf b hb).2 x c e, fun p hp => absurd (show p ∈ ([] : List (Addr × Obj)) ++ [] from hp) (by simp)⟩
  suffices loop : codeAny (model X.prog X.w) X.A (.compLoop (.DictComp ek ev [⟨tg, it, ifs, 0⟩] sc pos) 0 (.ref itr) (.ref D) ce) (compPost (model X.prog X.w) X.A X.xe use Qf (.ref D) s3.heap.objs.size) s4 from codeAny_compStart_dict loop (T.self X.A 0 _ _ _ at4 loop)
  refine compLoop_anyD (fun n s' => ∃ i H', Inv (X.blk s3 H3 sc ce fp) [] (wipe σ (own.map (·.2))) H' s' ∧ tn i s'.heap ∧ (∀ b ∈ fp, H' b = none) ∧ W i n H') (fun n s5 hI => ?_) m0 ⟨0, H3, I4, at4, out3, w0⟩
  obtain ⟨i, H5, I5, at5, out5, w5⟩ := hI
  rcases turn i n H5 w5 with ⟨stop, fin⟩ | ⟨go, N, less, step⟩
  · refine thnF (T.done (X.blk s3 H3 sc ce fp) rfl rfl rfl calm i [] s5 _ H5 (fun _ _ => False) I5 (still I5 out5) at5 stop) fun r s6 ⟨er, I6⟩ => ?_
    subst er
    have I7 : Inv X pins σ H5 s6 := I3.call' (ch := fp) I6.os I6.base I6.hok I6.bare fun b hb => let z := (free3 b hb).1.2; ⟨z.2.2.1, z.1, z.2.2.2.1, z.2.2.2.2⟩
    obtain ⟨m, ns, _⟩ := I6.loc
    have ns2 : s6.heap.Ns ce.locals m := ns
    have nL : H5 ce.locals = none := I6.free
    rw [loc] at ns2 nL
    exact leave D s3.heap.objs.size s6 m H5 I7 fin ns2 (I3.fpOk (Nat.le_refl _) nL)
  · refine thnF (T.item (X.blk s3 H3 sc ce fp) rfl rfl rfl calm i [] s5 _ H5 (fun _ _ => False) I5 (still I5 out5) at5 go) fun r s6 ⟨u, er, go6⟩ => ?_
    subst er
    refine thnF go6 fun _ s7 ⟨x, H7, I7, r7, y7, at7, out7⟩ => ?_
    refine thnF (g3.run _ s7 _ H7 x u _ (I7.pinned (still I7 out7) (T.obj _ _ at7)) r7 (step x H7 y7)) fun _ s8 ⟨σ8, H8, I8, wi8, q8⟩ => thnF (t3.run _ s8 σ8 H8 _ I8 q8) fun b s9 ⟨H9, I9, q9⟩ => ?_
    have next : ∀ {s' : Shared} {H' : Hp}, Inv (X.blk s3 H3 sc ce fp) ([] ++ pinsAt fp s7.heap) σ8 H' s' → N H' → ∃ m, m < n ∧ ∃ i H', Inv (X.blk s3 H3 sc ce fp) [] (wipe σ (own.map (·.2))) H' s' ∧ tn i s'.heap ∧ (∀ b ∈ fp, H' b = none) ∧ W i m H' := fun {s' H'} J' nx => by
      obtain ⟨m', lt, w'⟩ := less H' nx
      have pinned : ∀ b ∈ fp, ∀ o, s7.heap.get? b = some o → s'.heap.get? b = some o ∧ H' b = none := fun b hb o e => let z := J'.pin (b, o) (List.mem_append_right _ (List.mem_append_right _ (mem_pinsAt hb e))); ⟨z.1, z.2.1⟩
      refine ⟨m', lt, i + 1, H', (J'.unpinned (pins := [])).weak (by rw [← wi8, wipe_length]) (fun j v e => ?_), T.keep _ _ _ at7 fun b hb o e => (pinned b hb o e).1, fun b hb => ?_, w'⟩
      · rw [← wi8] at e; exact (wipe_some e).1
      · obtain ⟨o, e, _⟩ := T.obj _ _ at7 b hb; exact (pinned b hb o e).2
    cases b with
    | false => simp only [Bool.false_eq_true, if_false] at q9 ⊢; exact next I9 q9
    | true =>
      simp only [if_true] at q9 ⊢
      refine thnF (k3.run _ s9 σ8 H9 _ I9 q9) fun z1 sA ⟨y, HA, IA, rA, qA⟩ => thnF (v3.run _ sA σ8 HA _ IA qA) fun z2 sB ⟨z, HB, IB, rB, kvs, k, c, ey, eD', ec, few, nx⟩ => ?_
      subst ey
      cases (show z1 = Value.ref c from rA)
      exact put_dT (X := X.blk s3 H3 sc ce fp) room IB eD' ec few rB fun sC IC => next IC nx
/-- the comprehension as a value -/
theorem pe_dcT {X : Cx} {ek ev tg it : Expr} {ifs : List Expr} {sc : Scope} {own : List (Str × Nat)} {pos : Pos} {wi : TI} {g : TG} {tt : TT} {tk tv : TE} (calm : X.calm = true) (nd : X.N.Nodup) (room : X.A.units < cLine) (pi : PI X tg it wi) (bo : BlkOk X.N X.env.scope sc own)
    (pg : ∀ s H C cl fp, PG (X.blk s H sc (compEnvC sc cl C X.env) fp) tg g) (pt : ∀ s H C cl fp, PTs (X.blk s H sc (compEnvC sc cl C X.env) fp) ifs tt) (pk : ∀ s H C cl fp, PE (X.blk s H sc (compEnvC sc cl C X.env) fp) ek tk) (pe : ∀ s H C cl fp, PE (X.blk s H sc (compEnvC sc cl C X.env) fp) ev tv)
    (fold : ∀ x, foldedSetIterable it X.env x = pure x := by intro _; rfl) : PE X (.DictComp ek ev [⟨tg, it, ifs, 0⟩] sc pos) (tDcT wi g tt tk tv (own.map (·.2))) := by
  refine ⟨fun pins s σ H Q I want => ?_⟩
  rw [arm_eval_DictComp] <;> refine core_dT calm nd room I pi bo pg pt pk pe fold want fun D C s' m H' I' q ns ⟨f0, f1, f2, f3, f4, f5⟩ => ⟨m, ns, fun h'' but => ?_⟩
  exact ⟨.ref D, H', I'.turned (t' := s'.toks) (fun b o nb e => (but.2 b nb).trans e) f0 f1 f3 f4 f5, rfl, q⟩
end Lk
set_option Elab.async false
set_option linter.all false
set_option maxRecDepth 100000
set_option maxHeartbeats 4000000
set_option pp.maxSteps 1200
set_option pp.deepTerms false
namespace K6
open PySem PySem.Spec PyProof.Rows L2 Lk
abbrev sShelfInit : Stmt := inClass (top 39) 0
theorem _root_.Lk.KeepB.of {D : Addr} {H H' : Hp} (s : Same H H') : KeepB D H H' := fun b o _ e => s b o e
theorem _root_.Lk.KeepB.trans {D : Addr} {H H1 H2 : Hp} (x : KeepB D H H1) (y : KeepB D H1 H2) : KeepB D H H2 := fun b o n e => y b o n (x b o n e)
theorem _root_.Lk.KeepB.upd {D : Addr} {H : Hp} {o : HO} : KeepB D H (upd H D o) := fun b u n e => by rw [upd_ne n]; exact e
theorem _root_.Lk.TupX.keepB {x a : Addr} {H H' : Hp} {xs : List V} (h : TupX H a xs) (k : KeepB x H H') (n : a ≠ x) : TupX H' a xs := by
  obtain ⟨ob, e, r⟩ := h
  exact ⟨ob, k _ _ n e, r⟩
theorem _root_.Lk.TupX.ne {x a C dx : Addr} {H : Hp} {xs : List V} {fs : List (Str × V)} (h : TupX H a xs) (e : H x = some (.ins C dx fs)) : a ≠ x := fun z => by
  obtain ⟨ob, e2, _⟩ := h
  rw [z, e] at e2
  cases e2
def RelK (H : Hp) (v : V) (k : KP) : Prop := ∃ r ts, v = V.ref r ∧ H r = some (.tup ts) ∧ Pieces H ts k.2
theorem RelK.keep (H H' : Hp) (v : V) (k : KP) (kp : Keep H H') (h : RelK H v k) : RelK H' v k := by
  obtain ⟨r, ts, e, h, p⟩ := h
  exact ⟨r, ts, e, kp _ _ h (fun xs z => by cases z), Paired.mapP p fun v p ⟨t, e, h⟩ => ⟨t, e, kp _ _ h fun xs z => by cases z⟩⟩
theorem tups_kb {x C dx : Addr} {fs : List (Str × V)} {H H' : Hp} (k : KeepB x H H') (e : H x = some (.ins C dx fs)) : Tups H H' := fun b xs h => k b _ (fun z => by rw [z, e] at h; cases h) h
theorem CircAt.keepB {x CS dx C c : Addr} {fs : List (Str × V)} {H H' : Hp} {zs : List Str} (h : CircAt H C c zs) (k : KeepB x H H') (e : H x = some (.ins CS dx fs)) (n : c ≠ x) : CircAt H' C c zs := by
  obtain ⟨cd, nm, e1, t⟩ := h
  exact ⟨cd, nm, k _ _ n e1, t.keepB k (t.ne e)⟩
theorem PcsAt.tups {q : Addr} {ks : List KP} {H H' : Hp} (h : PcsAt H q ks) (t : Tups H H') : PcsAt H' q ks := by
  obtain ⟨rows, e, p⟩ := h
  exact ⟨rows, t _ _ e, Paired.mapP p fun v k ⟨r, ts, e1, e2, e3⟩ => ⟨r, ts, e1, t _ _ e2, e3.tups t⟩⟩
theorem spots_len : ∀ ks : List KP, (∀ k ∈ ks, k.2.length ≤ 2) → (spotsOf ks).length ≤ 2 * ks.length
  | [], _ => Nat.zero_le _
  | k :: ks, h => by
    have ih := spots_len ks fun y hy => h y (List.mem_cons_of_mem _ hy)
    have h1 := h k List.mem_cons_self
    unfold spotsOf at ih ⊢
    rw [List.flatMap_cons, List.length_append, List.length_map, List.length_range, List.length_cons]
    omega
theorem paired_put {α β : Type} {R : α → β → Prop} : ∀ {xs : List α} {ys : List β} {i : Nat} {x : α}, Paired R xs ys → xs[i]? = some x → ∃ y, ys[i]? = some y ∧ R x y
  | _, _, _, _, .nil, h => by simp at h
  | _, _, 0, x, .cons (b := b) r t, h => by
    simp at h
    subst h
    exact ⟨b, rfl, r⟩
  | _, _, i + 1, x, .cons r t, h => by
    obtain ⟨y, h1, h2⟩ := paired_put t (by simpa using h)
    exact ⟨y, by simpa using h1, h2⟩
theorem paired_mapR {α β γ : Type} {R : α → β → Prop} {f : γ → β} : ∀ {xs : List α} {ys : List γ}, Paired R xs (ys.map f) → Paired (fun x y => R x (f y)) xs ys
  | [], [], _ => .nil
  | _ :: _, _ :: _, .cons h t => .cons h (paired_mapR t)
def RelW (D : Addr) (H : Hp) (v : V) (ws : List Str) : Prop := ∃ t, v = V.ref t ∧ H t = some (.lst (ws.map V.str)) ∧ t ≠ D
theorem RelW.keep {D : Addr} (H H' : Hp) (v : V) (ws : List Str) (k : KeepB D H H') (h : RelW D H v ws) : RelW D H' v ws := by
  obtain ⟨t, e, h, n⟩ := h
  exact ⟨t, e, k _ _ n h, n⟩
def pieceOf (L : Lore) (s : Spot) : List Str := (((L.kps.find? fun k => decide (k.1 = s.1)).map (·.2)).getD []).getD s.2 []
theorem find_at {ks : List KP} (nd : (ks.map (·.1)).Nodup) : ∀ {k : KP}, k ∈ ks → (ks.find? fun q => decide (q.1 = k.1)) = some k := by
  induction ks with
  | nil => intro k h; cases h
  | cons q ks ih =>
    intro k h
    have n2 := List.nodup_cons.mp nd
    rcases List.mem_cons.mp h with rfl | h
    · rw [List.find?_cons_of_pos (by simp)]
    · have : q.1 ≠ k.1 := fun e => n2.1 (List.mem_map.mpr ⟨k, h, e.symm⟩)
      rw [List.find?_cons_of_neg (by simpa using this)]
      exact ih n2.2 h
theorem piece_of {L : Lore} (ok : LoreOk L) {s : Spot} (h : s ∈ spotsOf L.kps) : ∃ (j : Nat) (kq : KP), L.kps[j]? = some kq ∧ kq.1 = s.1 ∧ kq.2[s.2]? = some (pieceOf L s) := by
  obtain ⟨kq, hk, hs⟩ := List.mem_flatMap.mp h
  obtain ⟨i, hi, rfl⟩ := List.mem_map.mp hs
  obtain ⟨j, hj⟩ := List.mem_iff_getElem?.mp hk
  refine ⟨j, kq, hj, rfl, ?_⟩
  unfold pieceOf
  have := find_at ok.kn hk
  dsimp only
  rw [this]
  have il := List.mem_range.mp hi
  simp [il]
/-- the codes of a shelf's pieces, by their spots -/
def keyS (s : Spot) : List L2.Key := [.inr s.1, .inl (s.2 : Int)]
theorem keyS_inj {s t : Spot} (h : keyS s = keyS t) : s = t := by
  obtain ⟨s1, s2⟩ := s
  obtain ⟨t1, t2⟩ := t
  simp only [keyS, List.cons.injEq, Sum.inr.injEq, Sum.inl.injEq, and_true] at h
  obtain ⟨rfl, h⟩ := h
  rw [Int.ofNat_inj.mp h]
def codeS (L : Lore) (s : Spot) : Vec := vecP L.parts (pieceOf L s)
theorem nodup_fst {ks : List KP} (nd : (ks.map (·.1)).Nodup) {a b : KP} (ha : a ∈ ks) (hb : b ∈ ks) (e : a.1 = b.1) : a = b := by
  have h1 := find_at nd ha
  have h2 := find_at nd hb
  rw [e] at h1
  rw [h1] at h2
  exact Option.some.inj h2
def CodesAt (H : Hp) (L : Lore) (fs : List (Str × V)) : Prop := ∃ D kvs, fs.lookup ("codes" : Str) = some (V.ref D) ∧ H D = some (.dT kvs) ∧ ∀ s ∈ spotsOf L.kps, valV kvs (keyS s) = some (.int ((toN (codeS L s) : Nat) : Int))
section
variable {P : Program} {w : World} {K : PySem.W.Frag} {mg : Str → Option Value} {base : Heap} {f : Addr} {fd : FuncData}
/-- the spots of a shelf -/
def ShS (H : Hp) (L : Lore) (fs : List (Str × V)) : Prop := ∃ p ts, fs.lookup ("spots" : Str) = some (V.ref p) ∧ H p = some (.tup ts) ∧ Paired (RelS H) ts (spotsOf L.kps) ∧ CodesAt H L fs
/-- Shelf.__init__, of a text that stands -/
def spShelfI (C CS : Addr) : Sp := fun vs H Q _ => ∃ (x dx : Addr) (L : Lore), vs = [.ref x, .str (textL L)] ∧ LoreOk L ∧ H x = some (.ins CS dx []) ∧
  ∀ H' fs, (∀ b o, b ≠ x → H b = some o → H' b = some o) → H' x = some (.ins CS dx fs) → ShF H' C L fs → fs.lookup ("text" : Str) = some (V.str (textL L)) → ShS H' L fs → Q .non H'
theorem scShelfI : FnScope ["self", "text", "wrong", "rows", "line", "row", "spot"] ["self", "text"] (defScope sShelfInit) := ⟨rfl, rfl, rfl, by decide +kernel, rfl, by decide +kernel, by decide +kernel⟩
theorem ok_shelfI {C CS fC fSh fS fH fW fN fA fR fP fO : Addr} {fdC fdW fdA fdR fdP fdO : FuncData} (F : Fun K "__init__" "Shelf.__init__" sShelfInit f fd) (T : Bl mg) (Cc : Cn mg) (CC : CircC K C fC) (SC : ShC K CS fSh)
    (GW : FnOk P w K mg base CX0 5 fW fdW ["text", "can_stand", "is_whole"] (spWrong fS fH)) (kW : PySem.W.keepIn K (.ref fW) = true) (bW : Binds K fdW ["text", "can_stand", "is_whole"] []) (mW : mg "wrong_line" = some (.ref fW)) (mS : mg "stands_in_shelf" = some (.ref fS)) (mH : mg "is_whole_shelf" = some (.ref fH))
    (GC : FnOk P w K mg base CX0 3 fC fdC ["self", "names"] (spCircI K C)) (bC : Binds K fdC ["self", "names"] []) (mC : mg "Circle" = some (.ref C))
    (GR : FnOk P w K mg base CX0 1 fR fdR ["words"] (spReadPieces K)) (kR : PySem.W.keepIn K (.ref fR) = true) (bR : Binds K fdR ["words"] []) (mR : mg "read_pieces" = some (.ref fR))
    (GA : FnOk P w K mg base CX0 1 fA fdA ["circle", "pieces"] (spAllSpots C)) (kA : PySem.W.keepIn K (.ref fA) = true) (bA : Binds K fdA ["circle", "pieces"] []) (mA : mg "all_spots" = some (.ref fA))
    (GP : FnOk P w K mg base CX0 1 fP fdP ["shelf", "spot"] (spPieceAt C CS)) (kP : PySem.W.keepIn K (.ref fP) = true) (bP : Binds K fdP ["shelf", "spot"] []) (mP : mg "piece_at" = some (.ref fP))
    (GO : FnOk P w K mg base CX0 1 fO fdO ["parts", "piece"] spPieceCode) (kO : PySem.W.keepIn K (.ref fO) = true) (bO : Binds K fdO ["parts", "piece"] []) (mO : mg "piece_code" = some (.ref fO)) :
    FnOk P w K mg base CX0 6 f fd ["self", "text"] (spShelfI C CS) := by
  refine F.ok scShelfI (fun vs H Q E h => ?_) (fun cdv A outer s H vs Q E hr h => ?_)
  · obtain ⟨x, dx, L, rfl, _⟩ := h
    rfl
  · obtain ⟨x, dx, L, rfl, ok, hx, k⟩ := h
    have nd := scShelfI.nd
    have hr1 : Room 1 _ := hr.mono (by decide)
    have hr4 : Room 4 _ := hr.mono (by decide)
    refine ⟨_, pss_cons (ps_set (i := 2) nd rfl (.inl rfl) (pe_call GW hr (by rfl) mW kW bW .nil pass0 (pa_cons (pv 1) (pa_cons (pe_glob (v := .ref fS) (by rfl) mS rfl) (pa_cons (pe_glob (v := .ref fH) (by rfl) mH rfl) pa_nil)))))
      (pss_cons (ps_if (pt_cmp (pc_notN (pv 2))) pss_no pss_nil)
      (pss_cons (ps_setLc (i := 3) (own := [("line", 4)]) (g := gName 4) (tt := tYes) (te := tM1 rSplit (tVar 4) (tC (.str " "))) rfl nd rfl rfl (sw_true rfl rfl rfl (by decide +kernel)) (pi_list (pe_split (pv 1) pe_str))
          (blkOk_by (N := ["self", "text", "wrong", "rows", "line", "row", "spot"]) (sc := defScope sShelfInit) (by decide +kernel)) (fun _ _ _ _ _ => pg_name (i := 4) nd rfl (.inl rfl)) (fun _ _ _ _ _ => pts_nil) (fun _ _ _ _ _ => pe_split (pv 4) pe_str))
      (pss_cons (ps_fld (pv 0) (pv 1) rfl)
      (pss_cons (ps_fld (pv 0) (pe_tupleX (by rfl) Cc.tuple (pe_slice sl_list (pe_ix ix_list (pv 3) pe_int (fun _ _ => rfl)) (po_some pe_int) po_none)) rfl)
      (pss_cons (ps_fld (pv 0) (pe_make CC.mkr GC hr4 (by rfl) mC bC .nil pass0 (pa_cons (pe_tupleX (by rfl) Cc.tuple (pe_lc (own := [("row", 5)]) (g := gName 5) (tt := tYes) (te := tOp (rIxL K) (tVar 5) (tC (.int 1))) rfl nd (pi_list (pe_slice sl_list (pv 3) (po_some pe_int) po_none))
          (blkOk_by (N := ["self", "text", "wrong", "rows", "line", "row", "spot"]) (sc := defScope sShelfInit) (by decide +kernel)) (fun _ _ _ _ _ => pg_name (i := 5) nd rfl (.inl rfl)) (fun _ _ _ _ _ => pts_nil) (fun _ _ _ _ _ => pe_ix ix_list (pv 5) pe_int (fun _ _ => rfl)))) pa_nil)) rfl)
      (pss_cons (ps_fld (pv 0) (pe_tupleOf (by rfl) Cc.tuple (pe_lc (own := [("row", 5)]) (g := gName 5) (tt := tYes) (te := tCall (spReadPieces K) [] E0 (tCons (tSl (rSlL K) (tVar 5) (tPart (tC (.int 2))) tNoPart) tNil)) rfl nd (pi_list (pe_slice sl_list (pv 3) (po_some pe_int) po_none))
          (blkOk_by (N := ["self", "text", "wrong", "rows", "line", "row", "spot"]) (sc := defScope sShelfInit) (by decide +kernel)) (fun _ _ _ _ _ => pg_name (i := 5) nd rfl (.inl rfl)) (fun _ _ _ _ _ => pts_nil)
          (fun _ _ _ _ _ => pe_call GR hr1 (by rfl) mR kR bR .nil pass0 (pa_cons (pe_slice sl_list (pv 5) (po_some pe_int) po_none) pa_nil)))) rfl)
      (pss_cons (ps_fld (pv 0) (pe_call GA hr1 (by rfl) mA kA bA .nil pass0 (pa_cons (pe_fld (pv 0) rfl) (pa_cons (pe_fld (pv 0) rfl) pa_nil))) rfl)
        (pss_one (ps_fld (pv 0) (pe_dcT (own := [("spot", 6)]) (g := gName 6) (tt := tYes) (tk := tVar 6) (tv := tCall spPieceCode [] E0 (tCons (tFld K (tVar 0) "parts") (tCons (tCall (spPieceAt C CS) [] E0 (tCons (tVar 0) (tCons (tVar 6) tNil))) tNil))) rfl nd (Nat.lt_of_succ_lt (hu_of hr)) (pi_tup (pe_fld (pv 0) rfl))
          (blkOk_by (N := ["self", "text", "wrong", "rows", "line", "row", "spot"]) (sc := defScope sShelfInit) (by decide +kernel)) (fun _ _ _ _ _ => pg_name (i := 6) nd rfl (.inl rfl)) (fun _ _ _ _ _ => pts_nil) (fun _ _ _ _ _ => pv 6)
          (fun _ _ _ _ _ => pe_call GO hr1 (by rfl) mO kO bO .nil pass0 (pa_cons (pe_fld (pv 0) rfl) (pa_cons (pe_call GP hr1 (by rfl) mP kP bP .nil pass0 (pa_cons (pv 0) (pa_cons (pv 6) pa_nil))) pa_nil)))) rfl))))))))), ?_⟩
    have tl := text_len ok
    have rl : (rowsL L).length = L.kps.length + 1 := by show (L.kps.map lineK).length + 1 = _; rw [List.length_map]
    have k6 := ok.k6
    have p4 := ok.p4
    have words : (rowsL L).map (fun z => Txt.split z " ") = (("parts" : Str) :: L.parts) :: L.kps.map wordsK := by
      show Txt.split (lineP L) " " :: (L.kps.map lineK).map _ = _
      rw [split_lineP ok, List.map_map]
      congr 1
      exact List.map_congr_left fun k hk => split_lineK ok hk
    refine ⟨_, rfl, L, rfl, ok, fun H1 s1 => ?_⟩
    refine ⟨_, rfl, _, rfl, iteB rfl ?_⟩
    -- rows
    refine ⟨_, rfl, ⟨_, rfl⟩, _, _, rfl, rfl, rfl, by rw [sizeLine_eq]; omega, fun l nl => ?_⟩
    rw [split_text ok]
    have el : SqL K (upd H1 l (.lst ((rowsL L).map V.str))) l ((rowsL L).map V.str) := SqL.of upd_same
    have s2 : Same H (upd H1 l (.lst ((rowsL L).map V.str))) := s1.trans (same_new nl)
    generalize upd H1 l (.lst ((rowsL L).map V.str)) = H2 at el s2
    refine ⟨l, rfl, ⟨_, el⟩, fun D nD => lc_relD (walk_list (a := l) (xs := (rowsL L).map V.str)) (rowsL L) V.str (fun z => Txt.split z " ") (RelW D) nD RelW.keep rfl (by rw [rl]; omega) (fun H s => s.seq el) ?_ ?_⟩
    · intro i line H3 R hb s3 hD kk
      have ll := rows_len ok line (List.mem_of_getElem? hb)
      refine ⟨rfl, _, rfl, ⟨_, rfl⟩, _, _, rfl, rfl, rfl, by rw [sizeLine_eq]; omega, fun t nt => kk _ _ (same_new nt) ⟨t, rfl, upd_same, fun z => hD (by rw [← z]; exact nt)⟩⟩
    intro H3 ts s3 eD pr
    rw [words] at pr
    obtain ⟨v0, vs, rfl, ⟨t0, rfl, et0, n0⟩, pr2⟩ : ∃ v0 vs, ts = v0 :: vs ∧ RelW D H3 v0 (("parts" : Str) :: L.parts) ∧ Paired (RelW D H3) vs (L.kps.map wordsK) := by
      cases pr with
      | cons h t => exact ⟨_, _, rfl, h, t⟩
    have pr3 := paired_mapR pr2
    clear pr2 pr
    have sH : Same H H3 := s2.trans s3
    have ex3 := sH _ _ hx
    -- self.text
    refine ⟨_, rfl, _, rfl, x, CS, dx, [], rfl, ex3, SC.cls, SC.text, by decide, ?_⟩
    have kb4 : KeepB x H3 (upd H3 x (.ins CS dx (putF "text" (.str (textL L)) []))) := KeepB.upd
    have ex4 : upd H3 x (.ins CS dx (putF "text" (.str (textL L)) [])) x = some (.ins CS dx [("text", .str (textL L))]) := upd_same
    generalize upd H3 x (.ins CS dx (putF "text" (.str (textL L)) [])) = H4 at kb4 ex4 ⊢
    have lx : ∀ {b : Addr} {xs : List V}, H3 b = some (.lst xs) → b ≠ x := fun {b xs} e z => by rw [z, ex3] at e; cases e
    have eD4 := kb4 _ _ (lx eD) eD
    have et4 := kb4 _ _ (lx et0) et0
    -- self.parts
    refine ⟨_, rfl, D, _, _, .ref t0, rfl, rfl, SqL.of eD4, at0 rfl, _, rfl, t0, _, rfl, SqL.of et4, fun q nq => ?_⟩
    rw [cut1 _ (by rw [List.length_map, List.length_cons]; omega)]
    refine ⟨q, _, rfl, SqL.of upd_same, fun pa H5 npa s5 tpa => ?_⟩
    have sq : Same H4 H5 := (same_new nq).trans s5
    have ex5 := sq _ _ ex4
    have tpa : TupX H5 pa (L.parts.map V.str) := tpa
    refine ⟨_, rfl, x, CS, dx, _, rfl, ex5, SC.cls, SC.parts, by show 1 < 1000; decide, ?_⟩
    have kb6 : KeepB x H5 (upd H5 x (.ins CS dx (putF "parts" (.ref pa) [("text", .str (textL L))]))) := KeepB.upd
    have ex6 : upd H5 x (.ins CS dx (putF "parts" (.ref pa) [("text", .str (textL L))])) x = some (.ins CS dx [("text", .str (textL L)), ("parts", .ref pa)]) := upd_same
    generalize upd H5 x (.ins CS dx (putF "parts" (.ref pa) [("text", .str (textL L))])) = H6 at kb6 ex6 ⊢
    have tpa6 : TupX H6 pa (L.parts.map V.str) := tpa.keepB kb6 (tpa.ne ex5)
    have k36 : KeepB x H3 H6 := kb4.trans ((KeepB.of sq).trans kb6)
    have eD6 := k36 _ _ (lx eD) eD
    have pr6 : Paired (fun v k => RelW D H6 v (wordsK k)) vs L.kps := Paired.mapP pr3 fun v k ⟨t, e, h, n⟩ => ⟨t, e, k36 _ _ (lx h) h, n⟩
    obtain ⟨zs, z1, z2, z3⟩ := paired_zip pr6
    have zl : zs.length = L.kps.length := by rw [← z2, List.length_map]
    have vl : vs.length = L.kps.length := by rw [← z1, List.length_map, zl]
    -- self.circle
    refine ⟨_, rfl, _, rfl, D, _, rfl, SqL.of eD6, fun r nr => ?_⟩
    rw [cut1 _ (by rw [List.length_cons]; omega)]
    have sr : Same H6 (upd H6 r (.lst (List.drop 1 (V.ref t0 :: vs)))) := same_new nr
    have er : SqL K (upd H6 r (.lst (List.drop 1 (V.ref t0 :: vs)))) r vs := SqL.of upd_same
    generalize upd H6 r (.lst (List.drop 1 (V.ref t0 :: vs))) = H7 at sr er
    refine ⟨r, rfl, ⟨_, er⟩, fun D2 nD2 => lc_fm (walk_list (a := r) (xs := vs)) zs (fun z => some (V.str z.2.1)) (by rw [zl, vl]) (by rw [vl]; omega) nD2 (fun H s => s.seq er) ?_ ?_⟩
    · rintro i v z H8 H8' R Rn hz s8 ⟨rfl, hv⟩ k1 k2
      obtain ⟨t, et, h, n⟩ := z3 z (List.mem_of_getElem? hz)
      obtain rfl : z.1 = v := by
        rw [← z1, List.getElem?_map, hz] at hv
        exact Option.some.inj hv
      exact ⟨rfl, _, rfl, t, _, _, .str z.2.1, et, rfl, SqL.of (s8 _ _ (sr _ _ h)), at1 rfl, k1 _ _ rfl (Same.refl _)⟩
    intro H8 s8 eD2
    have fe : (zs.filterMap fun z => some (V.str z.2.1)) = (L.kps.map (·.1)).map V.str := by
      rw [← z2]
      simp [Function.comp_def]
    rw [fe] at eD2
    refine ⟨D2, _, rfl, SqL.of eD2, fun nm H9 nnm s9 tnm => ?_⟩
    have k69 : Same H6 H9 := (sr.trans s8).trans s9
    intro c cdx nc ncd ncc
    have sM : Same H9 (upd (upd H9 cdx (.own c)) c (.ins C cdx [])) := fun b o e => by rw [upd_ne (ne_of_none e nc), upd_ne (ne_of_none e ncd)]; exact e
    have kl : (L.kps.map (·.1)).length = L.kps.length := List.length_map ..
    refine ⟨c, nm, cdx, L.kps.map (·.1), rfl, upd_same, tnm.same sM, by rw [kl]; exact ok.k2, by rw [kl]; exact k6, fun z hz => ?_, ok.kn, fun HA kbA ecA => ⟨rfl, ?_⟩⟩
    · obtain ⟨kq, hk, rfl⟩ := List.mem_map.mp hz
      exact low_names _ (ok.kp kq hk)
    have sA : Same H9 HA := fun b o e => kbA b o (ne_of_none e nc) (sM b o e)
    have ex9 := k69 _ _ ex6
    have ncx : c ≠ x := fun z => by rw [z, ex9] at nc; cases nc
    have exA := sA _ _ ex9
    refine ⟨_, rfl, x, CS, dx, _, rfl, exA, SC.cls, SC.circle, by show 2 < 1000; decide, ?_⟩
    have kbB : KeepB x HA (upd HA x (.ins CS dx (putF "circle" (.ref c) [("text", .str (textL L)), ("parts", .ref pa)]))) := KeepB.upd
    have exB : upd HA x (.ins CS dx (putF "circle" (.ref c) [("text", .str (textL L)), ("parts", .ref pa)])) x = some (.ins CS dx [("text", .str (textL L)), ("parts", .ref pa), ("circle", .ref c)]) := upd_same
    generalize upd HA x (.ins CS dx (putF "circle" (.ref c) [("text", .str (textL L)), ("parts", .ref pa)])) = HB at kbB exB ⊢
    have tnA := tnm.same sA
    have caB : CircAt HB C c (L.kps.map (·.1)) := ⟨cdx, nm, kbB _ _ ncx ecA, tnA.keepB kbB (tnA.ne exA)⟩
    have k6B : KeepB x H6 HB := (KeepB.of (k69.trans sA)).trans kbB
    have tpaB : TupX HB pa (L.parts.map V.str) := tpa6.keepB k6B (tpa6.ne ex6)
    have eDB := k6B _ _ (lx eD) eD6
    -- self.pieces
    refine ⟨_, rfl, _, rfl, D, _, rfl, SqL.of eDB, fun r2 nr2 => ?_⟩
    rw [cut1 _ (by rw [List.length_cons]; omega)]
    have sr2 : Same HB (upd HB r2 (.lst (List.drop 1 (V.ref t0 :: vs)))) := same_new nr2
    have er2 : SqL K (upd HB r2 (.lst (List.drop 1 (V.ref t0 :: vs)))) r2 vs := SqL.of upd_same
    generalize upd HB r2 (.lst (List.drop 1 (V.ref t0 :: vs))) = HC at sr2 er2
    refine ⟨r2, rfl, ⟨_, er2⟩, fun D3 nD3 => lc_relQ (walk_list (a := r2) (xs := vs)) nD3 zs (·.1) (·.2) RelK RelK.keep z1.symm (by omega) (fun H s => s.seq er2) ?_ ?_⟩
    · intro i z HE R hz sE kk
      obtain ⟨t, et, h, n⟩ := z3 z (List.mem_of_getElem? hz)
      have tx : t ≠ x := fun e => by rw [e, ex6] at h; cases h
      have km : z.2 ∈ L.kps := by rw [← z2]; exact List.mem_map.mpr ⟨z, List.mem_of_getElem? hz, rfl⟩
      obtain ⟨q1, q2, q3⟩ := ok.q z.2 km
      refine ⟨rfl, _, rfl, _, rfl, t, _, et, SqL.of (sE _ _ (sr2 _ _ (k6B _ _ tx h))), fun q nq => ?_⟩
      rw [cut2 _ (by rw [List.length_map]; show 2 ≤ (z.2.2.map pieceW).length + 1 + 1; omega)]
      exact ⟨q, L, z.2.2, rfl, ok, SqL.of upd_same, by omega, q3, fun u us H' s' eu pu => kk H' _ ((same_new nq).trans s') ⟨u, us, rfl, eu, pu⟩⟩
    intro HE rws sE eD3 prE
    rw [z2] at prE
    refine .inl ⟨D3, _, rfl, SqL.of eD3, fun q nq => ?_⟩
    have sq2 : Same HB (upd HE q (.tup rws)) := (sr2.trans sE).trans (same_new nq)
    have pcF : PcsAt (upd HE q (.tup rws)) q L.kps := ⟨rws, upd_same, Paired.mapP prE fun v k r => RelK.keep _ _ _ _ (.of (same_new nq)) r⟩
    generalize upd HE q (.tup rws) = HF at sq2 pcF
    have exF := sq2 _ _ exB
    refine ⟨_, rfl, x, CS, dx, _, rfl, exF, SC.cls, SC.pieces, by show 3 < 1000; decide, ?_⟩
    have kbG : KeepB x HF (upd HF x (.ins CS dx (putF "pieces" (.ref q) [("text", .str (textL L)), ("parts", .ref pa), ("circle", .ref c)]))) := KeepB.upd
    have exG : upd HF x (.ins CS dx (putF "pieces" (.ref q) [("text", .str (textL L)), ("parts", .ref pa), ("circle", .ref c)])) x = some (.ins CS dx [("text", .str (textL L)), ("parts", .ref pa), ("circle", .ref c), ("pieces", .ref q)]) := upd_same
    generalize upd HF x (.ins CS dx (putF "pieces" (.ref q) [("text", .str (textL L)), ("parts", .ref pa), ("circle", .ref c)])) = HG at kbG exG ⊢
    have tG := tups_kb kbG exF
    have tpF := tpaB.same sq2
    have tpG := tpF.keepB kbG (tpF.ne exF)
    have caG := (caB.same sq2).keepB kbG exF ncx
    have pcG := pcF.tups tG
    -- self.spots
    refine ⟨_, rfl, x, CS, dx, _, .ref c, rfl, exG, SC.cls, SC.circle, rfl, _, rfl, x, CS, dx, _, .ref q, rfl, exG, SC.cls, SC.pieces, rfl, c, q, L.kps, rfl, caG, pcG, k6, fun k hk => (ok.q k hk).2.1, fun p ss HI sI ep pp => ?_⟩
    have exI := sI _ _ exG
    refine ⟨_, rfl, x, CS, dx, _, rfl, exI, SC.cls, SC.spots, by show 4 < 1000; decide, ?_⟩
    have kbJ : KeepB x HI (upd HI x (.ins CS dx (putF "spots" (.ref p) [("text", .str (textL L)), ("parts", .ref pa), ("circle", .ref c), ("pieces", .ref q)]))) := KeepB.upd
    have exJ : upd HI x (.ins CS dx (putF "spots" (.ref p) [("text", .str (textL L)), ("parts", .ref pa), ("circle", .ref c), ("pieces", .ref q)])) x = some (.ins CS dx [("text", .str (textL L)), ("parts", .ref pa), ("circle", .ref c), ("pieces", .ref q), ("spots", .ref p)]) := upd_same
    generalize upd HI x (.ins CS dx (putF "spots" (.ref p) [("text", .str (textL L)), ("parts", .ref pa), ("circle", .ref c), ("pieces", .ref q)])) = HJ at kbJ exJ ⊢
    have tJ := tups_kb kbJ exI
    have tpI := tpG.same sI
    have tpJ := tpI.keepB kbJ (tpI.ne exI)
    have caJ := (caG.same sI).keepB kbJ exI ncx
    have pcJ := (pcG.same sI).tups tJ
    have epJ := tJ _ _ ep
    have ppJ : Paired (RelS HJ) ss (spotsOf L.kps) := Paired.mapP pp fun v s ⟨t, e, h⟩ => ⟨t, e, tJ _ _ h⟩
    have shJ : ShF HJ C L [("text", .str (textL L)), ("parts", .ref pa), ("circle", .ref c), ("pieces", .ref q), ("spots", .ref p)] := ⟨⟨pa, rfl, tpJ⟩, ⟨c, rfl, caJ⟩, ⟨q, rfl, pcJ⟩⟩
    have few : ss.length ≤ 12 := by
      have h1 := spots_len L.kps fun k hk => (ok.q k hk).2.1
      have h2 := ppJ.length
      omega
    -- self.codes
    refine ⟨_, rfl, x, CS, dx, _, .ref p, rfl, exJ, SC.cls, SC.spots, rfl, p, rfl, ⟨_, SqT.of epJ⟩, fun D5 nD5 => in_it (walk_tup (a := p) (xs := ss)) (fun i H => ∃ kvs, H D5 = some (.dT kvs) ∧ kvs.length ≤ i ∧ (∀ i' s, i' < i → (spotsOf L.kps)[i']? = some s → valV kvs (keyS s) = some (.int ((toN (codeS L s) : Nat) : Int))) ∧ Same HJ H) ⟨[], upd_same, by simp, fun _ _ h => absurd h (Nat.not_lt_zero _), same_new nD5⟩ (fun i H _ ⟨_, _, _, _, s⟩ => sqT_same s (SqT.of epJ)) ?_ ?_⟩
    · rintro i v HK HK' hi ⟨kvs, eK, kvl, kvv, sK⟩ ⟨rfl, hv⟩
      obtain ⟨sp, hs, t, rfl, ht⟩ := paired_put ppJ hv
      obtain ⟨kq, hk, hmm⟩ := List.mem_flatMap.mp (List.mem_of_getElem? hs)
      obtain ⟨m, hm, rfl⟩ := List.mem_map.mp hmm
      obtain ⟨j, hj⟩ := List.mem_iff_getElem?.mp hk
      have ml : m < kq.2.length := List.mem_range.mp hm
      obtain ⟨q1, q2, q3⟩ := ok.q kq hk
      have hp : kq.2[m]? = some kq.2[m] := List.getElem?_eq_getElem ml
      have po := q3 _ (List.mem_of_getElem? hp)
      have ht2 := sK _ _ ht
      refine ⟨rfl, _, rfl, _, rfl, x, CS, dx, _, .ref pa, rfl, sK _ _ exJ, SC.cls, SC.parts, rfl, _, rfl, _, rfl, x, t, dx, _, L, j, m, kq, kq.2[m], rfl, sK _ _ exJ, shJ.same sK, ok, ht2, hj, hp, fun u eu => ?_⟩
      refine ⟨pa, u, L.parts, kq.2[m], rfl, tpJ.same sK, eu, po.sub, p4, Nat.le_trans po.len p4, ok.pn, po.2, fun HL sL => ?_⟩
      have eL := sL _ _ eK
      refine ⟨kvs, [.inr kq.1, .inl (m : Int)], t, rfl, eL, sL _ _ ht2, by rw [sizeLine_eq]; omega, _, upd_same, ?_, fun i' s hi' hs' => ?_, fun b o e => ?_⟩
      · have := length_putK kvs [.inr kq.1, .inl (m : Int)] (.int ((toN (vecP L.parts kq.2[m]) : Nat) : Int))
        omega
      · have pe : pieceOf L (kq.1, m) = kq.2[m] := by
          obtain ⟨j2, k2, hj2, e2, h2⟩ := piece_of ok (List.mem_of_getElem? hs)
          have k2e : k2 = kq := nodup_fst ok.kn (List.mem_of_getElem? hj2) hk e2
          rw [k2e, hp] at h2
          exact (Option.some.inj h2).symm
        have vp := valV_put kvs (keyS (kq.1, m)) (keyS s) (.int ((toN (vecP L.parts kq.2[m]) : Nat) : Int))
        refine vp.trans ?_
        by_cases q : keyS s = keyS (kq.1, m)
        · rw [if_pos q, keyS_inj q]
          unfold codeS
          rw [pe]
        · rw [if_neg q]
          refine kvv i' s ?_ hs'
          rcases Nat.lt_or_eq_of_le (Nat.le_of_lt_succ hi') with l | l
          · exact l
          · rw [l, hs] at hs'
            exact absurd (congrArg keyS (Option.some.inj hs')).symm q
      · rw [upd_ne (ne_of_none e nD5)]
        exact sL _ _ (sK _ _ e)
    rintro HK ⟨kvs, eK, kvl, kvv, sK⟩
    have exK := sK _ _ exJ
    refine ⟨_, rfl, x, CS, dx, _, rfl, exK, SC.cls, SC.codes, by show 5 < 1000; decide, ?_⟩
    have kbL : KeepB x HK (upd HK x (.ins CS dx (putF "codes" (.ref D5) [("text", .str (textL L)), ("parts", .ref pa), ("circle", .ref c), ("pieces", .ref q), ("spots", .ref p)]))) := KeepB.upd
    have exL : upd HK x (.ins CS dx (putF "codes" (.ref D5) [("text", .str (textL L)), ("parts", .ref pa), ("circle", .ref c), ("pieces", .ref q), ("spots", .ref p)])) x = some (.ins CS dx [("text", .str (textL L)), ("parts", .ref pa), ("circle", .ref c), ("pieces", .ref q), ("spots", .ref p), ("codes", .ref D5)]) := upd_same
    generalize upd HK x (.ins CS dx (putF "codes" (.ref D5) [("text", .str (textL L)), ("parts", .ref pa), ("circle", .ref c), ("pieces", .ref q), ("spots", .ref p)])) = HL at kbL exL ⊢
    have tL := tups_kb kbL exK
    have tpK := tpJ.same sK
    refine k HL _ (fun b o nb e => ?_) exL ⟨⟨pa, rfl, tpK.keepB kbL (tpK.ne exK)⟩, ⟨c, rfl, (caJ.same sK).keepB kbL exK ncx⟩, ⟨q, rfl, (pcJ.same sK).tups tL⟩⟩ rfl ⟨p, ss, rfl, tL _ _ (sK _ _ epJ), Paired.mapP ppJ fun v s ⟨t, e, h⟩ => ⟨t, e, tL _ _ (sK _ _ h)⟩, D5, kvs, rfl, kbL _ _ (fun z => by rw [z, exK] at eK; cases eK) eK, fun s hs => ?_⟩
    rotate_left
    · obtain ⟨i', hi'⟩ := List.mem_iff_getElem?.mp hs
      refine kvv i' s ?_ hi'
      have := (List.getElem?_eq_some_iff.mp hi').1
      have := ppJ.length
      omega
    exact kbL b o nb (sK _ _ (kbJ b o nb (sI _ _ (kbG b o nb (sq2 _ _ (k6B b o nb (k36 b o nb (sH _ _ e))))))))
end
end K6
set_option Elab.async false
set_option linter.all false
set_option maxHeartbeats 4000000
/-! Part Y: vectors as texts of 0 and 1. -/
namespace Lk
open PySem
def bC (b : Bool) : Nat := if b then 49 else 48
def stv (v : Vec) : Str := ⟨(v.map bC).toArray⟩
theorem tl_stv (v : Vec) : TL.tl (stv v) = v.map bC := TL.tl_mk _
theorem bC_inj {a b : Bool} (h : bC a = bC b) : a = b := by
  cases a <;> cases b <;> simp [bC] at h ⊢
theorem map_bC_inj : ∀ {a b : Vec}, a.map bC = b.map bC → a = b
  | [], [], _ => rfl
  | [], _ :: _, h => by cases h
  | _ :: _, [], h => by cases h
  | a :: as, b :: bs, h => by
    obtain ⟨h1, h2⟩ := List.cons.inj (show bC a :: as.map bC = bC b :: bs.map bC from h)
    rw [bC_inj h1, map_bC_inj h2]
theorem stv_inj {a b : Vec} (h : stv a = stv b) : a = b := by
  have := congrArg TL.tl h
  rw [tl_stv, tl_stv] at this
  exact map_bC_inj this
theorem stv_dec (a b : Vec) : decide (stv a = stv b) = decide (a = b) := by
  by_cases h : a = b
  · rw [h]
    simp
  · have : ¬ stv a = stv b := fun e => h (stv_inj e)
    simp [h, this]
theorem stv_len (v : Vec) : (stv v).length = v.length := by
  show (v.map bC).toArray.size = _
  simp
theorem stv_app (a b : Vec) : stv (a ++ b) = stv a ++ stv b := TL.ext_tl (by rw [TL.tl_append, tl_stv, tl_stv, tl_stv, List.map_append])
theorem stv_f : stv [false] = "0" := by decide +kernel
theorem stv_t : stv [true] = "1" := by decide +kernel
theorem stv_nil : stv [] = "" := by decide +kernel
/-- a text of 0 and 1 is one -/
theorem stv_of {z : Str} (h : ∀ c ∈ TL.tl z, c = 48 ∨ c = 49) : ∃ v, z = stv v := by
  refine ⟨(TL.tl z).map fun c => decide (c = 49), TL.ext_tl ?_⟩
  rw [tl_stv, List.map_map]
  symm
  have : ∀ c ∈ TL.tl z, (bC ∘ fun c => decide (c = 49)) c = id c := fun c hc => by
    rcases h c hc with rfl | rfl <;> rfl
  rw [List.map_congr_left this, List.map_id]
theorem stv_bits (v : Vec) : ∀ c ∈ TL.tl (stv v), c = 48 ∨ c = 49 := fun c hc => by
  rw [tl_stv] at hc
  obtain ⟨b, _, rfl⟩ := List.mem_map.mp hc
  cases b <;> simp [bC]
/-! ### all of them, in the program's order -/
def vL : Nat → List Vec
  | 0 => [[]]
  | n + 1 => (vL n).flatMap fun r => [r ++ [false], r ++ [true]]
theorem vL_len : ∀ n, (vL n).length = 2 ^ n
  | 0 => rfl
  | n + 1 => by
    have ih := vL_len n
    have : ∀ xs : List Vec, (xs.flatMap fun r => [r ++ [false], r ++ [true]]).length = 2 * xs.length := fun xs => by
      induction xs with
      | nil => rfl
      | cons x xs h =>
        rw [List.flatMap_cons, List.length_append, h]
        simp only [List.length_cons, List.length_nil]
        omega
    show ((vL n).flatMap fun r => [r ++ [false], r ++ [true]]).length = _
    rw [this, ih, Nat.pow_succ, Nat.mul_comm]
theorem mem_vL : ∀ {n : Nat} {v : Vec}, v ∈ vL n ↔ v.length = n
  | 0, v => by simp [vL]
  | n + 1, v => by
    show v ∈ (vL n).flatMap _ ↔ _
    rw [List.mem_flatMap]
    constructor
    · rintro ⟨r, hr, h⟩
      have rl := mem_vL.mp hr
      simp only [List.mem_cons, List.not_mem_nil, or_false] at h
      rcases h with rfl | rfl <;> simp [rl]
    · intro h
      rcases List.eq_nil_or_concat v with e | ⟨r, b, e⟩
      · rw [e] at h
        cases h
      · rw [List.concat_eq_append] at e
        subst e
        refine ⟨r, mem_vL.mpr (by simpa using h), ?_⟩
        cases b <;> simp
theorem nodup_vL : ∀ n, (vL n).Nodup
  | 0 => by simp [vL]
  | n + 1 => by
    have ih := nodup_vL n
    have : ∀ xs : List Vec, xs.Nodup → (xs.flatMap fun r => [r ++ [false], r ++ [true]]).Nodup := fun xs => by
      induction xs with
      | nil => intro _; simp
      | cons x xs h =>
        intro nd
        have n2 := List.nodup_cons.mp nd
        rw [List.flatMap_cons, List.nodup_append]
        refine ⟨?_, h n2.2, fun a ha b hb e => ?_⟩
        · simp
        · obtain ⟨r, hr, hb⟩ := List.mem_flatMap.mp hb
          have : r ≠ x := fun z => n2.1 (z ▸ hr)
          subst e
          simp only [List.mem_cons, List.not_mem_nil, or_false] at ha hb
          rcases ha with rfl | rfl <;> rcases hb with e | e
          all_goals
            have e2 := List.append_inj' e rfl
            exact this e2.1.symm
    exact this _ ih
theorem vL_perm (n : Nat) : (vL n).Perm (allV n) := (List.perm_ext_iff_of_nodup (nodup_vL n) (nodup_allV n)).mpr fun v => by rw [mem_vL, mem_allV]
/-- the law's way to them -/
theorem vL_step (xs : List Vec) : (xs.map (· ++ [false]) ++ xs.map (· ++ [true])).Perm (xs.flatMap fun r => [r ++ [false], r ++ [true]]) := by
  induction xs with
  | nil => exact List.Perm.refl _
  | cons x xs ih =>
    rw [List.flatMap_cons]
    show ((x ++ [false]) :: (xs.map (· ++ [false]) ++ ((x ++ [true]) :: xs.map (· ++ [true])))).Perm ((x ++ [false]) :: (x ++ [true]) :: _)
    refine List.Perm.cons _ ?_
    exact List.perm_middle.trans (List.Perm.cons _ ih)
theorem flat_perm {xs ys : List Vec} (h : xs.Perm ys) : (xs.flatMap fun r => [r ++ [false], r ++ [true]]).Perm (ys.flatMap fun r => [r ++ [false], r ++ [true]]) := h.flatMap_right _
theorem stvs_step {n : Nat} {zs : List Str} (h : zs.Perm ((vL n).map stv)) : (zs.map (fun z : Str => z ++ ("0" : Str)) ++ zs.map (fun z : Str => z ++ ("1" : Str))).Perm ((vL (n + 1)).map stv) := by
  have e0 : ∀ y : Vec, ∀ t : Str, stv y = t → ((vL n).map stv).map (fun z : Str => z ++ t) = ((vL n).map (· ++ y)).map stv := fun y t e => by
    rw [List.map_map, List.map_map]
    exact List.map_congr_left fun v _ => by
      show stv v ++ t = stv (v ++ y)
      rw [stv_app, e]
  have h0 := h.map (fun z : Str => z ++ ("0" : Str))
  have h1 := h.map (fun z : Str => z ++ ("1" : Str))
  rw [e0 _ _ stv_f] at h0
  rw [e0 _ _ stv_t] at h1
  refine (h0.append h1).trans ?_
  rw [← List.map_append]
  exact (vL_step (vL n)).map stv
/-! ### how many ones -/
theorem dot_ones (ps p : List Str) : ∀ {v : Vec}, ps.length = v.length → dot (vecP ps p) v = decide (((ps.zip (v.map bC)).filter fun pc => decide (pc.2 = 49 ∧ pc.1 ∈ p)).length % 2 = 1) := by
  induction ps with
  | nil =>
    intro v h
    simp [vecP, dot]
  | cons x ps ih =>
    intro v h
    match v, h with
    | b :: v, h =>
      have ih := ih (v := v) (Nat.succ.inj h)
      show xor (decide (x ∈ p) && b) (dot (vecP ps p) v) = _
      rw [ih]
      show _ = decide ((((x, bC b) :: ps.zip (v.map bC)).filter fun pc => decide (pc.2 = 49 ∧ pc.1 ∈ p)).length % 2 = 1)
      by_cases m : x ∈ p
      · cases b
        · rw [List.filter_cons_of_neg (by simp [bC])]
          simp
        · rw [List.filter_cons_of_pos (by simp [bC, m]), List.length_cons]
          generalize ((ps.zip (v.map bC)).filter fun pc => decide (pc.2 = 49 ∧ pc.1 ∈ p)).length = k
          have h2 : k % 2 = 0 ∨ k % 2 = 1 := by omega
          rcases h2 with h2 | h2
          · have : (k + 1) % 2 = 1 := by omega
            simp [m, h2, this]
          · have : (k + 1) % 2 = 0 := by omega
            simp [m, h2, this]
      · rw [List.filter_cons_of_neg (by simp [m])]
        simp [m]
end Lk
set_option Elab.async false
set_option linter.all false
set_option maxRecDepth 100000
set_option maxHeartbeats 4000000
set_option pp.maxSteps 1200
set_option pp.deepTerms false
namespace K6
open PySem PySem.Spec PyProof.Rows L2 Lk
abbrev sRecords : Stmt := top 98
section
variable {P : Program} {w : World} {K : PySem.W.Frag} {mg : Str → Option Value} {base : Heap} {f : Addr} {fd : FuncData}
/-! ### _law_records -/
def Bits (z : Str) : Prop := ∀ c ∈ TL.tl z, c = 48 ∨ c = 49
/-- all records of a lore -/
def recsL (L : Lore) : List Str := (vL L.parts.length).map stv
def rAddStr : R2 := fun x y H Q => ∃ i j, x = .str i ∧ y = .str j ∧ i.length + j.length ≤ sizeLine ∧ Q (.str (i ++ j)) H
def two01 (r : Vec) : List Vec := [r ++ [false], r ++ [true]]
theorem two_len : ∀ xs : List Vec, (xs.flatMap two01).length = 2 * xs.length := fun xs => by
  induction xs with
  | nil => rfl
  | cons x xs ih =>
    rw [List.flatMap_cons, List.length_append, ih, List.length_cons]
    show 2 + _ = _
    omega
def spRecords : Sp := fun vs H Q _ => ∃ (lo : Addr) (L : Lore), vs = [.ref lo] ∧ LoreAt H lo L ∧ L.parts.length ≤ 4 ∧
  ∀ (p : Addr) (H' : Hp), Same H H' → H p = none → H' p = some (.lst ((recsL L).map V.str)) → Q (.ref p) H'
theorem scRecords : FnScope ["lore", "found", "part", "longer", "record", "mark"] ["lore"] (defScope sRecords) := ⟨rfl, rfl, rfl, by decide +kernel, rfl, by decide +kernel, by decide +kernel⟩
theorem ok_records (F : Fun K "_law_records" "_law_records" sRecords f fd) : FnOk P w K mg base CX0 1 f fd ["lore"] spRecords := by
  refine F.ok scRecords (fun vs H Q E h => ?_) (fun cdv A outer s H vs Q E hr h => ?_)
  · obtain ⟨lo, L, rfl, _⟩ := h
    rfl
  · obtain ⟨lo, L, rfl, ⟨pa, nm, pt, rows, e1, e2, e3, e4, e5⟩, p4, k⟩ := h
    have nd := scRecords.nd
    have hu := hu_of hr
    refine ⟨_, pss_cons (ps_set (i := 1) nd rfl (.inl rfl) (pe_lst (pa_cons pe_str pa_nil)))
      (pss_cons (ps_for PassesOwn.never rfl (pi_tup (pe_dget hu (pv 0) pe_str (fun _ _ => rfl))) (pg_name (i := 2) nd rfl (.inl rfl))
          (pss_cons (ps_set (i := 3) nd rfl (.inl rfl) (pe_lst pa_nil))
          (pss_cons (ps_for PassesOwn.never rfl (pi_list (pv 1)) (pg_name (i := 4) nd rfl (.inr rfl))
            (pss_one (ps_expr (pe_bm PySem.F.plainAttrs_list PySem.F.slot_list_extend PySem.F.type_list_extend mt_extend (pv 3) (pa_cons
              (pe_lc (own := [("mark", 5)]) (g := gName 5) (tt := tYes) (te := tOp rAddStr (tVar 4) (tVar 5)) rfl nd (pi_str pe_str) (blkOk_by (N := ["lore", "found", "part", "longer", "record", "mark"]) (sc := defScope sRecords) (by decide +kernel))
                (fun _ _ _ _ _ => pg_name (i := 5) nd rfl (.inl rfl)) (fun _ _ _ _ _ => pts_nil) (fun _ _ _ _ _ => pe_op op_add_str (pv 4) (pv 5))) pa_nil)))))
          (pss_one (ps_set (i := 1) nd rfl (.inl rfl) (pv 3))))))
        (pss_one (ps_ret (pv 1)))), ?_⟩
    refine ⟨few_ok rfl, fun l nl => ?_⟩
    have s1 : Same H (upd H l (.lst [.str ""])) := same_new nl
    have el : upd H l (.lst [.str ""]) l = some (.lst [.str ""]) := upd_same
    generalize upd H l (.lst [.str ""]) = H1 at s1 el
    refine ⟨_, rfl, lo, _, rfl, (dget3 (e1.same s1)).1, pa, rfl, ⟨_, SqT.of (s1 _ _ e2)⟩, for_tup (xs := L.parts.map V.str) (fun i σ H' => ∃ (fl : Addr) (u v x y : Option V), σ = [some (.ref lo), some (.ref fl), u, v, x, y] ∧ H fl = none ∧ H' fl = some (.lst (((vL i).map stv).map V.str)) ∧ Same H H') ?_ ?_ ?_ ?_⟩
    · exact ⟨l, none, none, none, none, rfl, nl, by rw [el, ← stv_nil]; rfl, s1⟩
    · rintro i σ H' _ ⟨_, _, _, _, _, _, _, _, ss⟩
      exact SqT.of (ss _ _ e2)
    · rintro i x σ H' hx ⟨fl, u, v, z, y, rfl, nf, ef, ss⟩
      have il : i < L.parts.length := by
        have := (List.getElem?_eq_some_iff.mp hx).1
        rw [List.length_map] at this
        exact this
      have zl : (vL i).length ≤ 8 := by
        rw [vL_len]
        exact Nat.le_trans (Nat.pow_le_pow_right (by decide) (show i ≤ 3 by omega)) (by decide)
      have vz : ((vL i).map stv).map V.str = (vL i).map fun v => V.str (stv v) := by rw [List.map_map]; rfl
      rw [vz] at ef
      refine ⟨few_ok rfl, fun D nD => ?_⟩
      have s2 : Same H' (upd H' D (.lst [])) := same_new nD
      have eD0 : upd H' D (.lst []) D = some (.lst []) := upd_same
      generalize upd H' D (.lst []) = H2 at s2 eD0
      have ef2 := s2 _ _ ef
      have nDH : H D = none := ss.free nD
      have nfD : fl ≠ D := fun z => by rw [z, nD] at ef; cases ef
      refine ⟨_, rfl, fl, rfl, ⟨_, SqL.of ef2⟩, for_list (xs := (vL i).map fun v => V.str (stv v)) (fun j σ H3 => ∃ (u v y : Option V), σ = [some (.ref lo), some (.ref fl), u, some (.ref D), v, y] ∧ H3 D = some (.lst ((((vL i).take j).flatMap two01).map fun v => V.str (stv v))) ∧ KeepB D H' H3) ?_ ?_ ?_ ?_⟩
      · exact ⟨_, _, _, rfl, eD0, .of s2⟩
      · rintro j σ H3 _ ⟨_, _, _, _, _, kb⟩
        exact SqL.of (kb _ _ nfD ef)
      · rintro j q σ H3 hq ⟨u, v, y, rfl, eD, kb⟩
        obtain ⟨r, hr⟩ : ∃ r, (vL i)[j]? = some r := by
          rw [List.getElem?_map] at hq
          cases e : (vL i)[j]? with
          | none => rw [e] at hq; cases hq
          | some r => exact ⟨r, rfl⟩
        obtain rfl : V.str (stv r) = q := by
          rw [List.getElem?_map, hr] at hq
          exact Option.some.inj hq
        have rl := mem_vL.mp (List.mem_of_getElem? hr)
        refine ⟨_, rfl, .inl ⟨rfl, _, SqL.of eD⟩, "01", rfl, ?_⟩
        intro D2 nD2
        refine lc_fm (walk_str (z := "01")) (("01" : Str).cps.toList) (fun c => some (V.str (stv r ++ ⟨#[c]⟩))) rfl (by decide) nD2 (fun _ _ => trivial) ?_ ?_
        · rintro m q c H4 H4' R Rn hc s4 ⟨rfl, c', hc', rfl⟩ k1 k2
          obtain rfl : c = c' := Option.some.inj (hc.symm.trans (by rw [Array.getElem?_toList]; exact hc'))
          refine ⟨rfl, _, rfl, _, rfl, _, _, rfl, rfl, ?_, k1 _ _ rfl (Same.refl _)⟩
          rw [stv_len, sizeLine_eq]
          show r.length + 1 ≤ _
          omega
        · intro H4 s4 e4'
          have fe : (("01" : Str).cps.toList.filterMap fun c => some (V.str (stv r ++ ⟨#[c]⟩))) = (two01 r).map fun v => V.str (stv v) := by
            show [V.str (stv r ++ stv [false]), V.str (stv r ++ stv [true])] = _
            rw [← stv_app, ← stv_app]
            rfl
          rw [fe] at e4'
          have ll : (((vL i).take j).flatMap two01).length ≤ 100 := by
            rw [two_len, List.length_take]
            omega
          have eD4 := s4 _ _ eD
          refine ⟨D, D2, _, _, rfl, rfl, eD4, e4', ?_, ?_⟩
          · rw [List.length_map, List.length_map, sizeLine_eq]
            show _ + 2 ≤ _
            omega
          · refine ⟨_, _, _, rfl, ?_, fun b o nb e => ?_⟩
            · rw [upd_same, List.take_add_one, hr, List.flatMap_append, List.map_append]
              rfl
            · rw [upd_ne nb]
              exact s4 _ _ (kb _ _ nb e)
      · rintro σ H3 ⟨u, v, y, rfl, eD, kb⟩
        rw [List.length_map, List.take_length] at eD
        refine ⟨_, rfl, D, _, _, _, _, rfl, nDH, ?_, fun b o e => kb _ _ (ne_of_none e nDH) (ss _ _ e)⟩
        rw [eD, List.map_map]
        rfl
    · rintro σ H' ⟨fl, u, v, x, y, rfl, nf, ef, ss⟩
      rw [List.length_map] at ef
      exact ⟨_, rfl, k fl H' ss nf ef⟩
end
end K6
set_option Elab.async false
set_option linter.all false
set_option maxRecDepth 100000
set_option maxHeartbeats 4000000
set_option pp.maxSteps 1200
set_option pp.deepTerms false
namespace K6
open PySem PySem.Spec PyProof.Rows L2 Lk
abbrev sAreBits : Stmt := top 20
abbrev sIsRecord : Stmt := top 53
abbrev sRefRecord : Stmt := top 56
abbrev sRefKeeper : Stmt := top 55
abbrev sCircLen : Stmt := inClass (top 24) 1
abbrev sCircIn : Stmt := inClass (top 24) 2
abbrev sShelfLen : Stmt := inClass (top 39) 1
/-- an own method of that class, found and kept -/
structure MethC (K : PySem.W.Frag) (C : Addr) (m : Str) (f : Addr) : Prop where
  at_ : PySem.W.findIn K (.ref C) m = some (some (.ref f))
  fn : PySem.W.isFn K (.ref f) = true
section
variable {P : Program} {w : World} {K : PySem.W.Frag} {mg : Str → Option Value} {base : Heap} {f : Addr} {fd : FuncData}
/-- a shelf, as it stands -/
def ShAt (H : Hp) (C CS x : Addr) (L : Lore) : Prop := ∃ dx fs, H x = some (.ins CS dx fs) ∧ ShF H C L fs ∧ fs.lookup ("text" : Str) = some (V.str (textL L)) ∧ ShS H L fs
/-! ### are_bits, is_record, refuse_record: a record -/
def RecOk (L : Lore) (z : Str) : Prop := z.length = L.parts.length ∧ Bits z
def spAreBits : Sp := fun vs H Q _ => ∃ z : Str, vs = [.str z, .int z.length] ∧ Bits z ∧ z.length ≤ 100 ∧ ∀ H', Same H H' → Q (.bl true) H'
theorem scAreBits : FnScope ["value", "many", "sign"] ["value", "many"] (defScope sAreBits) := ⟨rfl, rfl, rfl, by decide +kernel, rfl, by decide +kernel, by decide +kernel⟩
theorem ok_areBits (F : Fun K "are_bits" "are_bits" sAreBits f fd) (T : Bl mg) (C : Cn mg) : FnOk P w K mg base CX0 1 f fd ["value", "many"] spAreBits := by
  refine F.ok scAreBits (fun vs H Q E h => ?_) (fun cdv A outer s H vs Q E hr h => ?_)
  · obtain ⟨z, rfl, _⟩ := h
    rfl
  · obtain ⟨z, rfl, zb, zl, k⟩ := h
    have nd := scAreBits.nd
    refine ⟨_, pss_one (ps_ret (pe_and (pe_callB call_isi (by rfl) T.isin boot_isinstance (pa_cons (pv 0) (pa_cons (pe_bltn (v := .ty "str") (by rfl) C.str rfl rfl) pa_nil))) (pe_and (pe_cmpR op_eq (pe_callB call_len_str (by rfl) T.len PySem.boot_len (pa_cons (pv 0) pa_nil)) (pv 1) (nomark _))
      (pe_one (pe_callB (cr_all rfl) (by rfl) T.all boot_all (pa_cons (pe_lc (own := [("sign", 2)]) (g := gName 2) (tt := tYes) (te := tOp (fun x y H Q => ∃ (c : Nat) (z : Str), x = .str ⟨#[c]⟩ ∧ y = .str z ∧ Q (.bl (decide (c ∈ z.cps.toList))) H) (tVar 2) (tC (.str "01"))) rfl nd (pi_str (pv 0)) (blkOk_by (N := ["value", "many", "sign"]) (sc := defScope sAreBits) (by decide +kernel))
          (fun _ _ _ _ _ => pg_name (i := 2) nd rfl (Or.inl rfl)) (fun _ _ _ _ _ => pts_nil) (fun _ _ _ _ _ => pe_cmpR op_in_sign (pv 2) pe_str rfl)) pa_nil)))))), ?_⟩
    refine ⟨_, rfl, _, _, _, _, true, rfl, .ty _, .base (.str _), by rfl, _, rfl, iteT ?_⟩
    refine ⟨_, rfl, z, rfl, by rw [sizeLine_eq]; omega, _, rfl, rfl, _, rfl, iteA (decide_eq_true rfl) ?_⟩
    have zz : z.cps.toList.length ≤ 100 := by simpa [Str.length] using zl
    refine ⟨_, rfl, z, rfl, str_lc (Q := fun x H1 => rAll K [x] H1 Q) (fun c => some (.bl (decide (c ∈ ("01" : Str).cps.toList)))) (by omega) ?_ ?_⟩
    · intro i c H1 R Rn hc s1 k1 k2
      exact ⟨rfl, _, rfl, c, "01", rfl, rfl, k1 _ _ rfl (Same.refl _)⟩
    · intro D H1 nD s1 e
      rw [fm_bl] at e
      refine ⟨D, _, rfl, SqL.of e, ?_⟩
      have : (z.cps.toList.map fun c => decide (c ∈ ("01" : Str).cps.toList)).all id = true := by
        rw [List.all_eq_true]
        intro b hb
        obtain ⟨c, hc, rfl⟩ := List.mem_map.mp hb
        refine decide_eq_true ?_
        rcases zb c hc with rfl | rfl
        · decide +kernel
        · decide +kernel
      rw [this]
      exact k _ s1
def spIsRecord (C CS : Addr) : Sp := fun vs H Q _ => ∃ (x : Addr) (L : Lore) (z : Str), vs = [.ref x, .str z] ∧ ShAt H C CS x L ∧ LoreOk L ∧ RecOk L z ∧ ∀ H', Same H H' → Q (.bl true) H'
theorem scIsRecord : FnScope ["shelf", "value"] ["shelf", "value"] (defScope sIsRecord) := ⟨rfl, rfl, rfl, by decide +kernel, rfl, by decide +kernel, by decide +kernel⟩
theorem ok_isRecord {C CS fS f1 : Addr} {fd1 : FuncData} (F : Fun K "is_record" "is_record" sIsRecord f fd) (T : Bl mg) (Cc : Cn mg) (SC : ShC K CS fS) (F1 : Fun K "are_bits" "are_bits" sAreBits f1 fd1) (b1 : Binds K fd1 ["value", "many"] []) (m1 : mg "are_bits" = some (.ref f1)) :
    FnOk P w K mg base CX0 2 f fd ["shelf", "value"] (spIsRecord C CS) := by
  have G1 : FnOk P w K mg base CX0 1 f1 fd1 ["value", "many"] spAreBits := ok_areBits F1 T Cc
  refine F.ok scIsRecord (fun vs H Q E h => ?_) (fun cdv A outer s H vs Q E hr h => ?_)
  · obtain ⟨x, L, z, rfl, _⟩ := h
    rfl
  · obtain ⟨x, L, z, rfl, ⟨dx, fs, hx, sf, _⟩, ok, ⟨zl, zb⟩, k⟩ := h
    obtain ⟨pa, lp, tpa⟩ := sf.parts
    have p4 := ok.p4
    refine ⟨_, pss_one (ps_ret (pe_call G1 hr (by rfl) m1 F1.kp b1 .nil pass0 (pa_cons (pv 1) (pa_cons (pe_callB call_len_seq (by rfl) T.len PySem.boot_len (pa_cons (pe_fld (pv 0) rfl) pa_nil)) pa_nil)))), ?_⟩
    refine ⟨_, rfl, _, rfl, x, CS, dx, fs, .ref pa, rfl, hx, SC.cls, SC.parts, lp, pa, _, rfl, .inr tpa.sq, z, ?_, zb, by omega, k⟩
    rw [List.length_map, ← zl]
    rfl
def spRefRecord (C CS : Addr) : Sp := fun vs H Q _ => ∃ (x : Addr) (L : Lore) (z : Str), vs = [.ref x, .str z] ∧ ShAt H C CS x L ∧ LoreOk L ∧ RecOk L z ∧ ∀ H', Same H H' → Q .non H'
theorem scRefRecord : FnScope ["shelf", "value"] ["shelf", "value"] (defScope sRefRecord) := ⟨rfl, rfl, rfl, by decide +kernel, rfl, by decide +kernel, by decide +kernel⟩
theorem ok_refRecord {C CS fS f1 f2 : Addr} {fd1 fd2 : FuncData} (F : Fun K "refuse_record" "refuse_record" sRefRecord f fd) (T : Bl mg) (Cc : Cn mg) (SC : ShC K CS fS) (F1 : Fun K "are_bits" "are_bits" sAreBits f1 fd1) (b1 : Binds K fd1 ["value", "many"] []) (m1 : mg "are_bits" = some (.ref f1))
    (F2 : Fun K "is_record" "is_record" sIsRecord f2 fd2) (b2 : Binds K fd2 ["shelf", "value"] []) (m2 : mg "is_record" = some (.ref f2)) : FnOk P w K mg base CX0 3 f fd ["shelf", "value"] (spRefRecord C CS) := by
  have G2 : FnOk P w K mg base CX0 2 f2 fd2 ["shelf", "value"] (spIsRecord C CS) := ok_isRecord F2 T Cc SC F1 b1 m1
  refine F.ok scRefRecord (fun vs H Q E h => ?_) (fun cdv A outer s H vs Q E hr h => ?_)
  · obtain ⟨x, L, z, rfl, _⟩ := h
    rfl
  · obtain ⟨x, L, z, rfl, sh, ok, rc, k⟩ := h
    refine ⟨_, pss_one (ps_if (pt_not (pt_val (pe_call G2 hr (by rfl) m2 F2.kp b2 .nil pass0 (pa_cons (pv 0) (pa_cons (pv 1) pa_nil))))) pss_no pss_nil), ?_⟩
    exact ⟨_, rfl, _, rfl, x, L, z, rfl, sh, ok, rc, fun H' s' => ⟨_, rfl, iteB rfl (k H' s')⟩⟩
/-! ### Circle.__contains__, refuse_keeper -/
def spCircIn (C : Addr) : Sp := fun vs H Q _ => ∃ (c : Addr) (zs : List Str) (z : Str), vs = [.ref c, .str z] ∧ CircAt H C c zs ∧ Q (.bl (decide (z ∈ zs))) H
theorem scCircIn : FnScope ["self", "value"] ["self", "value"] (defScope sCircIn) := ⟨rfl, rfl, rfl, by decide +kernel, rfl, by decide +kernel, by decide +kernel⟩
theorem ok_circIn {C fC : Addr} (F : Fun K "__contains__" "Circle.__contains__" sCircIn f fd) (CC : CircC K C fC) : FnOk P w K mg base CX0 1 f fd ["self", "value"] (spCircIn C) := by
  refine F.ok scCircIn (fun vs H Q E h => ?_) (fun cdv A outer s H vs Q E hr h => ?_)
  · obtain ⟨c, zs, z, rfl, _⟩ := h
    rfl
  · obtain ⟨c, zs, z, rfl, ⟨dx, nm, ec, tn⟩, k⟩ := h
    refine ⟨_, pss_one (ps_ret (pe_cmpR op_in_seq (pv 1) (pe_fld (pv 0) rfl) rfl)), ?_⟩
    refine ⟨_, rfl, _, rfl, c, C, dx, _, .ref nm, rfl, ec, CC.cls, CC.nm, rfl, nm, _, rfl, .inr tn.sq, rfl, flat_strs _, ?_⟩
    simp only [Bool.false_eq_true, if_false]
    rw [inV_str]
    exact k
def spRefKeeper (C CS : Addr) : Sp := fun vs H Q _ => ∃ (x : Addr) (L : Lore) (kq : KP), vs = [.ref x, .str kq.1] ∧ ShAt H C CS x L ∧ kq ∈ L.kps ∧ Q .non H
theorem scRefKeeper : FnScope ["shelf", "value"] ["shelf", "value"] (defScope sRefKeeper) := ⟨rfl, rfl, rfl, by decide +kernel, rfl, by decide +kernel, by decide +kernel⟩
theorem ok_refKeeper {C CS fC fS fI : Addr} {fdI : FuncData} (F : Fun K "refuse_keeper" "refuse_keeper" sRefKeeper f fd) (CC : CircC K C fC) (SC : ShC K CS fS) (M : MethC K C "__contains__" fI) (FI : Fun K "__contains__" "Circle.__contains__" sCircIn fI fdI) (bI : Binds K fdI ["self", "value"] []) :
    FnOk P w K mg base CX0 2 f fd ["shelf", "value"] (spRefKeeper C CS) := by
  have GI : FnOk P w K mg base CX0 1 fI fdI ["self", "value"] (spCircIn C) := ok_circIn FI CC
  refine F.ok scRefKeeper (fun vs H Q E h => ?_) (fun cdv A outer s H vs Q E hr h => ?_)
  · obtain ⟨x, L, kq, rfl, _⟩ := h
    rfl
  · obtain ⟨x, L, kq, rfl, ⟨dx, fs, hx, sf, _⟩, km, k⟩ := h
    obtain ⟨c, lc, ca⟩ := sf.circle
    obtain ⟨cdx, nm, ec, tn⟩ := id ca
    refine ⟨_, pss_one (ps_if (pt_cmpR (op_notInI GI M.at_ M.fn bI hr) (pv 1) (pe_fld (pv 0) rfl) rfl) pss_no pss_nil), ?_⟩
    refine ⟨_, rfl, _, rfl, x, CS, dx, fs, .ref c, rfl, hx, SC.cls, SC.circle, lc, c, cdx, _, rfl, ec, c, _, kq.1, rfl, ca, _, rfl, _, rfl, iteB ?_ k⟩
    have : kq.1 ∈ L.kps.map (·.1) := List.mem_map.mpr ⟨kq, km, rfl⟩
    simpa using this
end
end K6
set_option Elab.async false
set_option linter.all false
set_option maxRecDepth 100000
set_option maxHeartbeats 4000000
set_option pp.maxSteps 1200
set_option pp.deepTerms false
namespace K6
open PySem PySem.Spec PyProof.Rows L2 Lk
abbrev sShelfEq : Stmt := inClass (top 39) 2
section
variable {P : Program} {w : World} {K : PySem.W.Frag} {mg : Str → Option Value} {base : Heap} {f : Addr} {fd : FuncData}
/-- what isinstance is asked of the class -/
structure IsiC (K : PySem.W.Frag) (C : Addr) : Prop where
  ty : ∀ (H : Hp) (a dx : Addr) (fs : List (Str × V)), H a = some (.ins C dx fs) → TyX K H (.ref a) (.ref C)
  own : PySem.W.kitOne K (.ref C) (.ref C) = some true
/-! ### len(shelf), shelf == .. -/
def spShelfLen (C CS : Addr) : Sp := fun vs H Q _ => ∃ (x : Addr) (L : Lore), vs = [.ref x] ∧ ShAt H C CS x L ∧ Q (.int (spotsOf L.kps).length) H
theorem scShelfLen : FnScope ["self"] ["self"] (defScope sShelfLen) := ⟨rfl, rfl, rfl, by decide +kernel, rfl, by decide +kernel, by decide +kernel⟩
theorem ok_shelfLen {C CS fS : Addr} (F : Fun K "__len__" "Shelf.__len__" sShelfLen f fd) (T : Bl mg) (SC : ShC K CS fS) : FnOk P w K mg base CX0 1 f fd ["self"] (spShelfLen C CS) := by
  refine F.ok scShelfLen (fun vs H Q E h => ?_) (fun cdv A outer s H vs Q E hr h => ?_)
  · obtain ⟨x, L, rfl, _⟩ := h
    rfl
  · obtain ⟨x, L, rfl, ⟨dx, fs, hx, sf, _, p, ts, lp, ep, pr, _⟩, k⟩ := h
    refine ⟨_, pss_one (ps_ret (pe_callB call_len_seq (by rfl) T.len PySem.boot_len (pa_cons (pe_fld (pv 0) rfl) pa_nil))), ?_⟩
    refine ⟨_, rfl, x, CS, dx, fs, .ref p, rfl, hx, SC.cls, SC.spots, lp, p, _, rfl, .inr (SqT.of ep), ?_⟩
    rw [pr.length]
    exact k
def spShelfEq (K : PySem.W.Frag) (CS : Addr) : Sp := fun vs H Q _ => ∃ (x dx : Addr) (fs : List (Str × V)) (t : Str) (y : V), vs = [.ref x, y] ∧ H x = some (.ins CS dx fs) ∧ fs.lookup ("text" : Str) = some (V.str t) ∧
  ((∃ x2 dx2 fs2 t2, y = .ref x2 ∧ H x2 = some (.ins CS dx2 fs2) ∧ fs2.lookup ("text" : Str) = some (V.str t2) ∧ Q (.bl (decide (t = t2))) H) ∨ (∃ ty, TyX K H y ty ∧ PySem.W.kitOne K ty (.ref CS) = some false ∧ Q (.bl false) H))
theorem scShelfEq : FnScope ["self", "other"] ["self", "other"] (defScope sShelfEq) := ⟨rfl, rfl, rfl, by decide +kernel, rfl, by decide +kernel, by decide +kernel⟩
theorem ok_shelfEq {CS fS : Addr} (F : Fun K "__eq__" "Shelf.__eq__" sShelfEq f fd) (T : Bl mg) (SC : ShC K CS fS) (IC : IsiC K CS) (mS : mg "Shelf" = some (.ref CS)) : FnOk P w K mg base CX0 1 f fd ["self", "other"] (spShelfEq K CS) := by
  refine F.ok scShelfEq (fun vs H Q E h => ?_) (fun cdv A outer s H vs Q E hr h => ?_)
  · obtain ⟨x, dx, fs, t, y, rfl, _⟩ := h
    rfl
  · obtain ⟨x, dx, fs, t, y, rfl, hx, lt, k⟩ := h
    refine ⟨_, pss_one (ps_ret (pe_and (pe_callB call_isi (by rfl) T.isin boot_isinstance (pa_cons (pv 1) (pa_cons (pe_glob (v := .ref CS) (by rfl) mS rfl) pa_nil))) (pe_one (pe_cmpR op_eq (pe_fld (pv 0) rfl) (pe_fld (pv 1) rfl) (nomark _))))), ?_⟩
    rcases k with ⟨x2, dx2, fs2, t2, rfl, hx2, lt2, k⟩ | ⟨ty, hty, hk, k⟩
    · refine ⟨_, rfl, _, _, _, _, true, rfl, .own _, IC.ty H x2 dx2 fs2 hx2, IC.own, _, rfl, iteT ?_⟩
      refine ⟨_, rfl, x, CS, dx, fs, .str t, rfl, hx, SC.cls, SC.text, lt, _, rfl, x2, CS, dx2, fs2, .str t2, rfl, hx2, SC.cls, SC.text, lt2, rfl, ?_⟩
      have e : decide (V.str t = V.str t2) = decide (t = t2) := by simp
      rw [e]
      exact k
    · exact ⟨_, rfl, _, _, _, _, false, rfl, .own _, hty, hk, _, rfl, iteB rfl k⟩
end
end K6
set_option Elab.async false
set_option linter.all false
set_option maxRecDepth 100000
set_option maxHeartbeats 4000000
set_option pp.maxSteps 1200
set_option pp.deepTerms false
namespace K6
open PySem PySem.Spec PyProof.Rows L2 Lk
section
variable {P : Program} {w : World} {K : PySem.W.Frag} {mg : Str → Option Value} {base : Heap} {f : Addr} {fd : FuncData}
/-! ### _law_shelf -/
def spShelfOf (C CS : Addr) : Sp := fun vs H Q _ => ∃ (lo : Addr) (L : Lore), vs = [.ref lo] ∧ LoreAt H lo L ∧ LoreOk L ∧ ∀ x H', Same H H' → H x = none → ShAt H' C CS x L → Q (.ref x) H'
end
end K6
set_option Elab.async false
set_option linter.all false
set_option maxRecDepth 100000
set_option maxHeartbeats 4000000
/-! Part Z: zip of two things of which each is a list, a tuple or a text. -/
namespace Lk
open PySem PySem.Spec PyProof.Rows L2
/-- what a zip walks -/
inductive Src where
  | tup (a : Addr) | lst (a : Addr) | txt (z : Str)
def Src.v : Src → V
  | .tup a => .ref a
  | .lst a => .ref a
  | .txt z => .str z
def Src.addr : Src → Option Addr
  | .tup a => some a
  | .lst a => some a
  | .txt _ => none
def SrcAt (K : PySem.W.Frag) : Src → Hp → List V → Prop
  | .tup a, H, xs => SqT K H a xs
  | .lst a, H, xs => SqL K H a xs
  | .txt z, _, xs => xs = z.cps.toList.map fun c => V.str ⟨#[c]⟩
/-- its iterator at the i-th item -/
def ItrAt (it : Addr) (t : Tok) : Src → Nat → Heap → Prop
  | .tup a, i, h => h.IsTupleIter it a i
  | .lst a, i, h => h.IsListIter it a i
  | .txt z, i, h => h.IsStrIter it (strIterType z) z t i
theorem ItrAt.obj {it : Addr} {t : Tok} {i : Nat} {h : Heap} : ∀ {sr : Src}, ItrAt it t sr i h → ∃ o, h.get? it = some o ∧ ∀ v, o.data ≠ .cell v
  | .tup _, ⟨o, e, _, d⟩ => ⟨o, e, fun v q => by rw [d] at q; cases q⟩
  | .lst _, ⟨o, e, _, d⟩ => ⟨o, e, fun v q => by rw [d] at q; cases q⟩
  | .txt _, ⟨o, e, _, d⟩ => ⟨o, e, fun v q => by rw [d] at q; cases q⟩
theorem ItrAt.keep {it : Addr} {t : Tok} {i : Nat} {h h' : Heap} (k : ∀ o, h.get? it = some o → h'.get? it = some o) : ∀ {sr : Src}, ItrAt it t sr i h → ItrAt it t sr i h'
  | .tup _, ⟨o, e, r⟩ => ⟨o, k o e, r⟩
  | .lst _, ⟨o, e, r⟩ => ⟨o, k o e, r⟩
  | .txt _, ⟨o, e, r⟩ => ⟨o, k o e, r⟩
theorem SrcAt.one {X : Cx} {pins : List (Addr × Obj)} {σ : L2.St} {H : Hp} {s : Shared} (I : Inv X pins σ H s) : ∀ {sr : Src} {xs ys : List V}, SrcAt X.K sr H xs → SrcAt X.K sr H ys → xs = ys
  | .tup _, _, _, h, g => I.tuple_inj h g
  | .lst _, _, _, h, g => I.list_inj h g
  | .txt _, _, _, h, g => Eq.trans h (Eq.symm g)
theorem vals_back : ∀ {xs : List V} {us : List Value} {i : Nat} {u : Value}, Vals xs us → us[i]? = some u → ∃ x, xs[i]? = some x ∧ RelV x u
  | _, _, _, _, .nil, e => by simp at e
  | _, _, 0, _, .cons r _, e => by simp at e; subst e; exact ⟨_, rfl, r⟩
  | _, _, i + 1, u, .cons _ t, e => by
    obtain ⟨x, h1, h2⟩ := vals_back t (by simpa using e)
    exact ⟨x, by simpa using h1, h2⟩
/-- the items drawn, one after the other -/
theorem src_draws {X : Cx} {pins : List (Addr × Obj)} {σ : L2.St} {H : Hp} {s : Shared} {A : Around} (I : Inv X pins σ H s) (calm : A.handled = none) {it : Addr} {t : Tok} {i : Nat} : ∀ {sr : Src} {xs : List V}, SrcAt X.K sr H xs → ItrAt it t sr i s.heap → (∀ a, sr.addr = some a → a ≠ it) →
    ∃ (fp : List Addr) (Pv : Nat → Value → Prop) (Sv : Nat → Heap → Prop), Draws X.prog X.w A it fp xs.length Pv Sv ∧ Sv i s.heap ∧ (∀ j v, Pv j v → ∃ x, xs[j]? = some x ∧ RelV x v) ∧ (∀ j h, Sv j h → ItrAt it t sr j h) ∧ it ∈ fp ∧ ∀ b ∈ fp, b = it ∨ sr.addr = some b
  | .tup a, xs, at_, st, ne => by
    obtain ⟨its, rv, p, _⟩ := I.tuple at_
    have d := Draws.tuple (prog := X.prog) (w := X.w) calm it a (ne a rfl) its.toArray
    rw [List.size_toArray, ← rv.length] at d
    refine ⟨_, _, _, d, ⟨st, p⟩, fun j v e => ?_, fun j h e => e.1, by simp, fun b hb => ?_⟩
    · exact vals_back rv (by simpa using e)
    · rcases List.mem_cons.mp hb with h | h
      · exact .inl h
      · exact .inr (by rw [List.mem_singleton.mp h]; rfl)
  | .lst a, xs, at_, st, ne => by
    obtain ⟨its, rv, p, _⟩ := I.list at_
    have d := Draws.list (prog := X.prog) (w := X.w) calm it a (ne a rfl) its.toArray
    rw [List.size_toArray, ← rv.length] at d
    refine ⟨_, _, _, d, ⟨st, p.isList⟩, fun j v e => ?_, fun j h e => e.1, by simp, fun b hb => ?_⟩
    · exact vals_back rv (by simpa using e)
    · rcases List.mem_cons.mp hb with h | h
      · exact .inl h
      · exact .inr (by rw [List.mem_singleton.mp h]; rfl)
  | .txt z, xs, at_, st, ne => by
    have e0 : xs = z.cps.toList.map fun c => V.str ⟨#[c]⟩ := at_
    subst e0
    have d := Draws.text (prog := X.prog) (w := X.w) calm it z t
    rw [show z.cps.size = (z.cps.toList.map fun c => V.str ⟨#[c]⟩).length by rw [List.length_map, Array.length_toList]] at d
    refine ⟨_, _, _, d, st, fun j v e => ?_, fun j h e => e, by simp, fun b hb => .inl (List.mem_singleton.mp hb)⟩
    obtain ⟨c, u, e, ev⟩ := e
    subst ev
    exact ⟨.str ⟨#[c]⟩, by rw [List.getElem?_map, Array.getElem?_toList, e]; rfl, ⟨u, rfl⟩⟩
/-- pairs of both, each new -/
def ItzS (K : PySem.W.Frag) (s1 s2 : Src) : It :=
  ⟨fun i H => ∃ xs ys x y, SrcAt K s1 H xs ∧ SrcAt K s2 H ys ∧ xs[i]? = some x ∧ ys[i]? = some y,
    fun i H v H' => ∃ T x y, v = .ref T ∧ H T = none ∧ H' = upd H T (.tup [x, y]) ∧ (∀ xs, SrcAt K s1 H xs → xs[i]? = some x) ∧ ∀ ys, SrcAt K s2 H ys → ys[i]? = some y,
    fun i H => ∃ xs ys, SrcAt K s1 H xs ∧ SrcAt K s2 H ys ∧ i ≤ xs.length ∧ i ≤ ys.length ∧ (i = xs.length ∨ i = ys.length)⟩
/-- the zip's cells lie apart, and apart from what is walked -/
structure ZFar (z TI TO i1 i2 : Addr) (s1 s2 : Src) : Prop where
  a1 : TI ≠ z
  a2 : TO ≠ z
  a3 : TI ≠ TO
  a4 : TI ≠ i1
  a5 : TI ≠ i2
  a6 : TO ≠ i1
  a7 : TO ≠ i2
  a8 : z ≠ i1
  a9 : z ≠ i2
  aA : i1 ≠ i2
  far : ∀ b, s1.addr = some b ∨ s2.addr = some b → b ≠ z ∧ b ≠ TO ∧ b ≠ i1 ∧ b ≠ i2
theorem ZFar.sep {z TI TO i1 i2 : Addr} {s1 s2 : Src} (D : ZFar z TI TO i1 i2 s1 s2) {fp1 fp2 : List Addr} (m1 : i1 ∈ fp1) (m2 : i2 ∈ fp2) (f1 : ∀ b ∈ fp1, b = i1 ∨ s1.addr = some b) (f2 : ∀ b ∈ fp2, b = i2 ∨ s2.addr = some b) : ZipSep2 z TI TO i1 i2 fp1 fp2 where
  TIz := D.a1
  TOz := D.a2
  TITO := D.a3
  TIi1 := D.a4
  mem1 := m1
  zf1 := fun h => (f1 _ h).elim D.a8 fun e => (D.far _ (.inl e)).1 rfl
  Tf1 := fun h => (f1 _ h).elim D.a6 fun e => (D.far _ (.inl e)).2.1 rfl
  TIi2 := D.a5
  mem2 := m2
  zf2 := fun h => (f2 _ h).elim D.a9 fun e => (D.far _ (.inr e)).1 rfl
  Tf2 := fun h => (f2 _ h).elim D.a7 fun e => (D.far _ (.inr e)).2.1 rfl
  sep1_2 := fun h => (f2 _ h).elim D.aA fun e => (D.far _ (.inr e)).2.2.1 rfl
  sep2_1 := fun h => (f1 _ h).elim (fun e => D.aA e.symm) fun e => (D.far _ (.inl e)).2.2.2 rfl
theorem turn_zipS {P : Program} {w : World} {K : PySem.W.Frag} {es : List Expr} {kk : Nat} {tp : Pos} {z TI TO i1 i2 : Addr} {t1 t2 : Tok} {s1 s2 : Src} (D : ZFar z TI TO i1 i2 s1 s2) :
    Turn P w K (.Tuple es kk tp) (ItzS K s1 s2) [z, TI, TO, i1, i2] z (fun i h => IsZip h z TI TO .none ∧ IsTupOf2 h TI (.ref i1) (.ref i2) ∧ (∃ x y, IsTupOf2 h TO x y) ∧ ItrAt i1 t1 s1 i h ∧ ItrAt i2 t2 s2 i h) where
  mem := by simp
  obj := fun i h ⟨hz, hTI, ⟨x, y, hTO⟩, h1, h2⟩ c hc => by
    rcases (show c = z ∨ c = TI ∨ c = TO ∨ c = i1 ∨ c = i2 by simpa using hc) with rfl | rfl | rfl | rfl | rfl
    · exact ⟨_, hz, fun v q => nomatch q⟩
    · exact ⟨_, hTI, fun v q => nomatch q⟩
    · exact ⟨_, hTO, fun v q => nomatch q⟩
    · exact h1.obj
    · exact h2.obj
  keep := fun i h h' ⟨hz, hTI, ⟨x, y, hTO⟩, h1, h2⟩ k => ⟨k z (by simp) _ hz, k TI (by simp) _ hTI, ⟨x, y, k TO (by simp) _ hTO⟩, h1.keep fun o e => k i1 (by simp) o e, h2.keep fun o e => k i2 (by simp) o e⟩
  item := by
    intro X hP hw hK calm i pins s σ H E I hf st hg
    subst hP hw hK
    obtain ⟨hz, hTI, ⟨x0, y0, hTO⟩, h1, h2⟩ := st
    obtain ⟨xs, ys, x, y, qx, qy, hx, hy⟩ := hg
    obtain ⟨fp1, P1, S1, d1, st1, v1, b1, m1, f1⟩ := src_draws (A := X.A.in1) I (I.ok.hd calm) qx h1 fun a e => (D.far a (.inl e)).2.2.1
    obtain ⟨fp2, P2, S2, d2, st2, v2, b2, m2, f2⟩ := src_draws (A := X.A.in1) I (I.ok.hd calm) qy h2 fun a e => (D.far a (.inr e)).2.2.2
    have lz : z < s.heap.objs.size := Heap.lt_size hz
    refine wpAny_pyNext_zipD2_item (D.sep m1 m2 f1 f2) d1 d2 hz hTI hTO st1 st2 (List.getElem?_eq_some_iff.mp hx).1 (List.getElem?_eq_some_iff.mp hy).1 fun u1 u2 h' tk p1 p2 z' TO' r1 r2 hT hsz hk => ?_
    obtain ⟨x', hx', rx⟩ := v1 i u1 p1
    obtain ⟨y', hy', ry⟩ := v2 i u2 p2
    obtain rfl : x = x' := Option.some.inj (hx.symm.trans hx')
    obtain rfl : y = y' := Option.some.inj (hy.symm.trans hy')
    refine ⟨_, rfl, wpAny_letOwnedTupleGo_zip (s := { s with heap := h', toks := tk }) z' fun h2' z2 sb => ?_⟩
    have hT2 : h2'.get? s.heap.objs.size = some { cls := .type "tuple", data := .seq #[u1, u2] } := (sb.2 _ (Nat.ne_of_gt lz)).trans hT
    have far4 : ∀ c o, c ∉ [z, TI, TO, i1, i2] → s.heap.get? c = some o → h2'.get? c = some o := fun c o nc e => by
      have e4 : c ≠ z ∧ c ≠ TI ∧ c ≠ TO ∧ c ≠ i1 ∧ c ≠ i2 := by simpa using nc
      exact (sb.2 c e4.1).trans (hk c o e4.1 e4.2.2.1 e4.2.2.2.1 e4.2.2.2.2 e)
    have I1 : Inv X pins σ (upd H s.heap.objs.size (.tup [x, y])) { s with heap := h2', toks := tk } :=
      I.turnedNew (ch := [z, TI, TO, i1, i2]) far4 hf (Nat.le_refl _) (show ObjOk X.prog X.w _ _ _ (.tup [x, y]) from ⟨by show 2 ≤ sizeLine; decide, [u1, u2], .cons rx (.cons ry .nil), ⟨_, hT2, rfl, _, rfl⟩⟩)
    refine ⟨.ref s.heap.objs.size, _, I1, rfl, ⟨_, x, y, rfl, I.hok.fresh (Nat.le_refl _), rfl, fun l hl => by rw [SrcAt.one I hl qx] <;> exact hx, fun l hl => by rw [SrcAt.one I hl qy] <;> exact hy⟩,
      ⟨z2, (sb.2 _ D.a1).trans (hk _ _ D.a1 D.a3 D.a4 D.a5 hTI), ⟨u1, u2, (sb.2 _ D.a2).trans TO'⟩, (b1 _ _ r1).keep fun o e => (sb.2 _ D.a8.symm).trans e, (b2 _ _ r2).keep fun o e => (sb.2 _ D.a9.symm).trans e⟩, fun c hc => ?_⟩
    have lt : c < s.heap.objs.size := by
      rcases (show c = z ∨ c = TI ∨ c = TO ∨ c = i1 ∨ c = i2 by simpa using hc) with rfl | rfl | rfl | rfl | rfl
      · exact lz
      · exact Heap.lt_size hTI
      · exact Heap.lt_size hTO
      · obtain ⟨_, e, _⟩ := h1.obj; exact Heap.lt_size e
      · obtain ⟨_, e, _⟩ := h2.obj; exact Heap.lt_size e
    rw [upd_ne (Nat.ne_of_lt lt)]
    exact (hf c hc).1
  done := by
    intro X hP hw hK calm i pins s σ H E I hf st hg
    subst hP hw hK
    obtain ⟨hz, hTI, ⟨x0, y0, hTO⟩, h1, h2⟩ := st
    obtain ⟨xs, ys, qx, qy, l1, l2, fin⟩ := hg
    obtain ⟨fp1, P1, S1, d1, st1, v1, b1, m1, f1⟩ := src_draws (A := X.A.in1) I (I.ok.hd calm) qx h1 fun a e => (D.far a (.inl e)).2.2.1
    obtain ⟨fp2, P2, S2, d2, st2, v2, b2, m2, f2⟩ := src_draws (A := X.A.in1) I (I.ok.hd calm) qy h2 fun a e => (D.far a (.inr e)).2.2.2
    exact wpAny_pyNext_zipD2_end (D.sep m1 m2 f1 f2) d1 d2 hz hTI hTO st1 st2 l1 l2 fin fun h' tk hk => ⟨rfl, I.turnedL (ch := [z, TI, TO, i1, i2]) (fun c o nc e => by
      have e4 : c ≠ z ∧ c ≠ TI ∧ c ≠ TO ∧ c ≠ i1 ∧ c ≠ i2 := by simpa using nc
      exact hk c o e4.1 e4.2.2.1 e4.2.2.2.1 e4.2.2.2.2 e) hf⟩
  self := fun A i s Q E st h => wpAny_pyIter_zip st.1 h
theorem src_begins {X : Cx} {pins : List (Addr × Obj)} {σ : L2.St} {H : Hp} {s : Shared} (I : Inv X pins σ H s) : ∀ {sr : Src} {xs : List V} {u : Value}, SrcAt X.K sr H xs → RelV sr.v u →
    ∃ (o : Obj) (Hc : Heap → Prop) (t : Tok), Begins u o Hc ∧ Hc s.heap ∧ (∀ (h : Heap) (it : Addr), h.get? it = some o → ItrAt it t sr 0 h) ∧ ∀ b, sr.addr = some b → Nat.blt b s.heap.objs.size = true
  | .tup a, xs, u, at_, ru => by
    obtain rfl : u = .ref a := ru
    obtain ⟨its, rv, p, _⟩ := I.tuple at_
    obtain ⟨o, ho, _⟩ := id p
    exact ⟨_, _, 0, begins_tuple a its.toArray, p, fun h it e => ⟨_, e, rfl, rfl⟩, fun b e => by
      obtain rfl : a = b := Option.some.inj e
      exact Nat.ble_eq_true_of_le (Heap.lt_size ho)⟩
  | .lst a, xs, u, at_, ru => by
    obtain rfl : u = .ref a := ru
    obtain ⟨its, rv, p, _⟩ := I.list at_
    obtain ⟨o, ho, _⟩ := id p.isList
    exact ⟨_, _, 0, begins_list a its.toArray, p.isList, fun h it e => ⟨_, e, rfl, rfl⟩, fun b e => by
      obtain rfl : a = b := Option.some.inj e
      exact Nat.ble_eq_true_of_le (Heap.lt_size ho)⟩
  | .txt z, xs, u, at_, ru => by
    obtain ⟨t, rfl⟩ := ru
    exact ⟨_, _, t, begins_text z t, trivial, fun h it e => ⟨_, e, rfl, rfl⟩, fun b e => by cases e⟩
theorem zfar {s1 s2 : Src} (n : Nat) (low : ∀ b, s1.addr = some b ∨ s2.addr = some b → Nat.blt b n = true) : ZFar (n + 4) (n + 2) (n + 3) n (n + 1) s1 s2 where
  a1 := fun h => absurd (show n + 2 = n + 4 from h) (by omega)
  a2 := fun h => absurd (show n + 3 = n + 4 from h) (by omega)
  a3 := fun h => absurd (show n + 2 = n + 3 from h) (by omega)
  a4 := fun h => absurd (show n + 2 = n from h) (by omega)
  a5 := fun h => absurd (show n + 2 = n + 1 from h) (by omega)
  a6 := fun h => absurd (show n + 3 = n from h) (by omega)
  a7 := fun h => absurd (show n + 3 = n + 1 from h) (by omega)
  a8 := fun h => absurd (show n + 4 = n from h) (by omega)
  a9 := fun h => absurd (show n + 4 = n + 1 from h) (by omega)
  aA := fun h => absurd (show n = n + 1 from h) (by omega)
  far := fun b hb => by
    have lt : @LT.lt Nat _ b n := Nat.le_of_ble_eq_true (low b hb)
    have ne : ∀ k : Nat, b ≠ n + k := fun k h => absurd (show @Eq Nat b (n + k) from h) (by omega)
    exact ⟨ne 4, ne 3, ne 0, ne 1⟩
/-- for .. in zip(e, e2) -/
def iZipS (K : PySem.W.Frag) (ta : TA) : TI := fun σ H R => ta σ H fun vs H1 => ∃ s1 s2 xs ys, vs = [s1.v, s2.v] ∧ SrcAt K s1 H1 xs ∧ SrcAt K s2 H1 ys ∧ R (ItzS K s1 s2) H1
theorem pi_zipS {X : Cx} {e e2 : Expr} {ta : TA} {p pos tp : Pos} {es : List Expr} {kk : Nat} (hg : Gl X "zip") (hm : X.mg "zip" = none) (ha : PA X [e, e2] ta) (hs : starEach [e, e2] X.env = (false, eval e X.env) :: starEach [e2] X.env := by rfl)
    (hpl : (backTo pos (starEach [e2] X.env)).any (·.1) = false := by rfl) : PI X (.Tuple es kk tp) (.Call (.Name "zip" p) [e, e2] [] pos) (iZipS X.K ta) := by
  refine ⟨fun pins s σ H R I h => Call_ (ld_blt I hg hm boot_zip (callWith_type1 (thn (ha.run pos pins s σ H _ I h) fun us s1 ⟨vs, H1, I1, rel, q1⟩ => ?_) hs hpl))⟩
  obtain ⟨r1, r2, xs, ys, rfl, qx, qy, q⟩ := q1
  obtain ⟨u1, u2, rfl, ru1, ru2⟩ := vals2 rel
  obtain ⟨o1, C1, t1, B1, c1, it1, low1⟩ := src_begins I1 qx ru1
  obtain ⟨o2, C2, t2, B2, c2, it2, low2⟩ := src_begins I1 qy ru2
  refine zip_begins2 B1 B2 c1 c2 fun h' hz hTI hTO g1 g2 hsz hk => wpAny_pyIter_zip hz ?_
  have I2 : Inv X pins σ H1 { s1 with heap := h' } := I1.kept (t' := s1.toks) hk
  have fresh : ∀ c, c ∈ [s1.heap.objs.size + 4, s1.heap.objs.size + 2, s1.heap.objs.size + 3, s1.heap.objs.size, s1.heap.objs.size + 1] → FpOk X pins H1 c := fun c hc => by
    have le : s1.heap.objs.size ≤ c := by
      rcases (show c = s1.heap.objs.size + 4 ∨ c = s1.heap.objs.size + 2 ∨ c = s1.heap.objs.size + 3 ∨ c = s1.heap.objs.size ∨ c = s1.heap.objs.size + 1 by simpa using hc) with z | z | z | z | z
      · rw [z]; exact Nat.le_add_right _ _
      · rw [z]; exact Nat.le_add_right _ _
      · rw [z]; exact Nat.le_add_right _ _
      · rw [z]; exact Nat.le_refl _
      · rw [z]; exact Nat.le_add_right _ _
    exact I1.fpOk le (I1.hok.fresh le)
  exact ⟨_, _, _, _, H1, rfl, I2, turn_zipS (t1 := t1) (t2 := t2) (zfar s1.heap.objs.size fun b hb => hb.elim (low1 b) (low2 b)), ⟨hz, hTI, ⟨_, _, hTO⟩, it1 _ _ g1, it2 _ _ g2⟩, fresh, q⟩
/-- the walk -/
theorem walk_zipS {K : PySem.W.Frag} {s1 s2 : Src} {xs ys : List V} {n : Nat} (hn : n = min xs.length ys.length) : Walk (ItzS K s1 s2) n (fun H => SrcAt K s1 H xs ∧ SrcAt K s2 H ys) (YPair (fun i => xs[i]?) (fun i => ys[i]?)) := by
  subst hn
  refine ⟨fun i H hi q => ⟨xs, ys, xs[i]'(by omega), ys[i]'(by omega), q.1, q.2, List.getElem?_eq_getElem (by omega), List.getElem?_eq_getElem (by omega)⟩, fun H q => ⟨xs, ys, q.1, q.2, by omega, by omega, by omega⟩, fun i H v H' _ q y => ?_⟩
  obtain ⟨T, x, z, h1, h2, h3, h4, h5⟩ := y
  exact ⟨T, x, z, h1, h2, h3, h4 xs q.1, h5 ys q.2⟩
end Lk
set_option Elab.async false
set_option linter.all false
set_option maxRecDepth 100000
set_option maxHeartbeats 4000000
set_option pp.maxSteps 1200
set_option pp.deepTerms false
namespace K6
open PySem PySem.Spec PyProof.Rows L2 Lk
abbrev sWorth : Stmt := top 52
/-- how many parts of the piece are 1 in the record -/
def onesN (L : Lore) (p : List Str) (z : Str) : Nat := ((L.parts.zip (TL.tl z)).filter fun pc => decide (pc.2 = 49 ∧ pc.1 ∈ p)).length
def bitS (n : Nat) : Str := if n % 2 = 1 then "1" else "0"
theorem fm_ones (p : List Str) : ∀ zs : List (Str × Nat), (zs.filterMap fun pc => if pc.2 = 49 ∧ pc.1 ∈ p then some (V.str pc.1) else none) = ((zs.filter fun pc => decide (pc.2 = 49 ∧ pc.1 ∈ p)).map (·.1)).map V.str
  | [] => rfl
  | c :: cs => by
    have ih := fm_ones p cs
    by_cases h : c.2 = 49 ∧ c.1 ∈ p
    · simp only [List.filterMap_cons, if_pos h, List.filter_cons, decide_eq_true h, if_true, List.map_cons, ih]
    · simp only [List.filterMap_cons, if_neg h, List.filter_cons, decide_eq_false h, Bool.false_eq_true, if_false, ih]
section
variable {P : Program} {w : World} {K : PySem.W.Frag} {mg : Str → Option Value} {base : Heap} {f : Addr} {fd : FuncData}
/-! ### worth -/
def spWorth (C CS : Addr) : Sp := fun vs H Q _ => ∃ (x t : Addr) (L : Lore) (p : List Str) (z : Str), vs = [.ref x, .ref t, .str z] ∧ ShAt H C CS x L ∧ LoreOk L ∧ H t = some (.tup (p.map V.str)) ∧ RecOk L z ∧ ∀ H', Same H H' → Q (.str (bitS (onesN L p z))) H'
theorem scWorth : FnScope ["shelf", "piece", "record", "ones", "part", "sign"] ["shelf", "piece", "record"] (defScope sWorth) := ⟨rfl, rfl, rfl, by decide +kernel, rfl, by decide +kernel, by decide +kernel⟩
theorem ok_worth {C CS fS : Addr} (F : Fun K "worth" "worth" sWorth f fd) (T : Bl mg) (Cc : Cn mg) (SC : ShC K CS fS) : FnOk P w K mg base CX0 1 f fd ["shelf", "piece", "record"] (spWorth C CS) := by
  refine F.ok scWorth (fun vs H Q E h => ?_) (fun cdv A outer s H vs Q E hr h => ?_)
  · obtain ⟨x, t, L, p, z, rfl, _⟩ := h
    rfl
  · obtain ⟨x, t, L, p, z, rfl, ⟨dx, fs, hx, sf, _⟩, ok, ht, ⟨zl, zb⟩, k⟩ := h
    obtain ⟨pa, lp, tpa⟩ := sf.parts
    have nd := scWorth.nd
    have p4 := ok.p4
    refine ⟨_, pss_cons (ps_setLc (i := 3) (own := [("part", 4), ("sign", 5)]) (g := gTup K 2 (gCons (gName 4) (gCons (gName 5) gNil))) (tt := tAnd (tTest (tOp rEq (tVar 5) (tC (.str "1")))) (tTest (tOp (rIn K false) (tVar 4) (tVar 1)))) (te := tVar 4) rfl nd rfl rfl (sw_true rfl rfl rfl (by decide +kernel))
        (pi_zipS (by rfl) Cc.zip (pa_cons (pe_fld (pv 0) rfl) (pa_cons (pv 2) pa_nil))) (blkOk_by (N := ["shelf", "piece", "record", "ones", "part", "sign"]) (sc := defScope sWorth) (by decide +kernel))
        (fun _ _ _ _ _ => pg_tup rfl (pgs_cons (pg_name (i := 4) nd rfl (.inl rfl)) (pgs_cons (pg_name (i := 5) nd rfl (.inl rfl)) pgs_nil))) (fun _ _ _ _ _ => pts_one (PW.pt (pw_and (pt_cmpR op_eq (pv 5) pe_str (nomark _)) (pw_and1 (pt_cmpR op_in_seq (pv 4) (pv 1) rfl))))) (fun _ _ _ _ _ => pv 4))
      (pss_one (ps_ret (pe_ix ix_str pe_str (pe_op op_odd (pe_callB call_len_seq (by rfl) T.len PySem.boot_len (pa_cons (pv 3) pa_nil)) pe_int) (fun _ _ => rfl)))), ?_⟩
    have zt : (TL.tl z).length = L.parts.length := by rw [← zl]; exact Array.length_toList
    have al : ((TL.tl z).map fun c => V.str ⟨#[c]⟩).length = L.parts.length := by rw [List.length_map, zt]
    have nl : (L.parts.zip (TL.tl z)).length = L.parts.length := by rw [List.length_zip, zt, Nat.min_self]
    have src : ∀ H', Same H H' → SrcAt K (.tup pa) H' (L.parts.map V.str) ∧ SrcAt K (.txt z) H' ((TL.tl z).map fun c => V.str ⟨#[c]⟩) := fun H' s' => ⟨(tpa.same s').sq, rfl⟩
    refine ⟨_, rfl, x, CS, dx, fs, .ref pa, rfl, hx, SC.cls, SC.parts, lp, _, rfl, .tup pa, .txt z, L.parts.map V.str, (TL.tl z).map fun c => V.str ⟨#[c]⟩, rfl, (src H (Same.refl _)).1, rfl, fun D nD => ?_⟩
    refine lc_fm (walk_zipS (s1 := .tup pa) (s2 := .txt z) (n := L.parts.length) (by rw [List.length_map, al, Nat.min_self])) (L.parts.zip (TL.tl z)) (fun pc => if pc.2 = 49 ∧ pc.1 ∈ p then some (V.str pc.1) else none) nl (by omega) nD (fun H' s' => src H' s') ?_ ?_
    · rintro i v pc H1 H1' R Rn hpc s1 ⟨T1, a1, a2, rfl, nT, rfl, e1, e2⟩ k1 k2
      obtain ⟨g1, g2⟩ := List.getElem?_zip_eq_some.mp hpc
      obtain rfl : V.str pc.1 = a1 := by
        have e1 : (L.parts.map V.str)[i]? = some a1 := e1
        rw [List.getElem?_map, g1] at e1
        exact Option.some.inj e1
      obtain rfl : V.str ⟨#[pc.2]⟩ = a2 := by
        have e2 : ((TL.tl z).map fun c => V.str ⟨#[c]⟩)[i]? = some a2 := e2
        rw [List.getElem?_map, g2] at e2
        exact Option.some.inj e2
      have s2 : Same H1 (upd H1 T1 (.tup [.str pc.1, .str ⟨#[pc.2]⟩])) := same_new nT
      refine ⟨T1, _, rfl, SqT.of upd_same, rfl, _, _, rfl, _, _, rfl, rfl, rfl, _, rfl, rfl, _, rfl, ?_⟩
      by_cases h1 : pc.2 = 49
      · refine iteA (decide_eq_true (by rw [h1]; rfl)) ⟨_, rfl, _, rfl, t, _, rfl, .inr (SqT.of (s2 _ _ (s1 _ _ ht))), rfl, flat_strs _, _, rfl, ?_⟩
        rw [inV_str]
        by_cases h2 : pc.1 ∈ p
        · refine iteA (by simp [h2]) ⟨_, rfl, k1 _ _ (if_pos ⟨h1, h2⟩) s2⟩
        · exact iteB (by simp [h2]) (k2 _ (if_neg fun q => h2 q.2) s2)
      · refine iteB (decide_eq_false fun q => h1 ?_) ?_
        · have q2 : (⟨#[pc.2]⟩ : Str) = "1" := V.str.inj q
          have q3 : #[pc.2] = (#[49] : Array Nat) := congrArg Str.cps q2
          have q4 : [pc.2] = [49] := congrArg Array.toList q3
          exact (List.cons.inj q4).1
        · show (if false = true then _ else _)
          exact iteF (k2 _ (if_neg fun q => h1 q.1) s2)
    · intro H1 s1 eD
      rw [fm_ones] at eD
      refine ⟨_, rfl, D, _, rfl, .inl (SqL.of eD), onesN L p z, ?_, rfl, ?_⟩
      · rw [List.length_map, List.length_map]
        rfl
      have m2 : onesN L p z % 2 = 0 ∨ onesN L p z % 2 = 1 := by omega
      rcases m2 with m | m
      · refine ⟨"01", _, 48, rfl, rfl, by rw [sizeLine_eq]; decide, by rw [m]; rfl, ?_⟩
        have : bitS (onesN L p z) = ⟨#[48]⟩ := by unfold bitS; rw [if_neg (by omega)]; rfl
        rw [← this]
        exact k _ s1
      · refine ⟨"01", _, 49, rfl, rfl, by rw [sizeLine_eq]; decide, by rw [m]; rfl, ?_⟩
        have : bitS (onesN L p z) = ⟨#[49]⟩ := by unfold bitS; rw [if_pos m]; rfl
        rw [← this]
        exact k _ s1
end
end K6
set_option Elab.async false
set_option linter.all false
set_option maxRecDepth 100000
set_option maxHeartbeats 4000000
set_option pp.maxSteps 1200
set_option pp.deepTerms false
namespace K6
open PySem PySem.Spec PyProof.Rows L2 Lk
abbrev sAnswer : Stmt := top 40
def answerS (L : Lore) (k : KP) (z : Str) : Str := Txt.join "" (k.2.map fun p => bitS (onesN L p z))
section
variable {P : Program} {w : World} {K : PySem.W.Frag} {mg : Str → Option Value} {base : Heap} {f : Addr} {fd : FuncData}
theorem ShAt.same {H H' : Hp} {C CS x : Addr} {L : Lore} (h : ShAt H C CS x L) (s : Same H H') : ShAt H' C CS x L := by
  obtain ⟨dx, fs, e, sf, tx, p, ts, lp, ep, pr, D, kvs, lD, eD, vD⟩ := h
  exact ⟨dx, fs, s _ _ e, sf.same s, tx, p, ts, lp, s _ _ ep, Paired.mapP pr fun v q ⟨t, e, h⟩ => ⟨t, e, s _ _ h⟩, D, kvs, lD, s _ _ eD, vD⟩
/-! ### answer -/
def spAnswer (C CS : Addr) : Sp := fun vs H Q _ => ∃ (x : Addr) (L : Lore) (j : Nat) (kq : KP) (z : Str), vs = [.ref x, .str kq.1, .str z] ∧ ShAt H C CS x L ∧ LoreOk L ∧ L.kps[j]? = some kq ∧ RecOk L z ∧ ∀ H', Same H H' → Q (.str (answerS L kq z)) H'
theorem scAnswer : FnScope ["shelf", "keeper", "record", "place", "piece"] ["shelf", "keeper", "record"] (defScope sAnswer) := ⟨rfl, rfl, rfl, by decide +kernel, rfl, by decide +kernel, by decide +kernel⟩
theorem ok_answer {C CS fC fS fK fR fW : Addr} {fdK fdR fdW : FuncData} (F : Fun K "answer" "answer" sAnswer f fd) (CC : CircC K C fC) (SC : ShC K CS fS)
    (GK : FnOk P w K mg base CX0 2 fK fdK ["shelf", "value"] (spRefKeeper C CS)) (kK : PySem.W.keepIn K (.ref fK) = true) (bK : Binds K fdK ["shelf", "value"] []) (mK : mg "refuse_keeper" = some (.ref fK))
    (GR : FnOk P w K mg base CX0 3 fR fdR ["shelf", "value"] (spRefRecord C CS)) (kR : PySem.W.keepIn K (.ref fR) = true) (bR : Binds K fdR ["shelf", "value"] []) (mR : mg "refuse_record" = some (.ref fR))
    (GW : FnOk P w K mg base CX0 1 fW fdW ["shelf", "piece", "record"] (spWorth C CS)) (kW : PySem.W.keepIn K (.ref fW) = true) (bW : Binds K fdW ["shelf", "piece", "record"] []) (mW : mg "worth" = some (.ref fW)) :
    FnOk P w K mg base CX0 4 f fd ["shelf", "keeper", "record"] (spAnswer C CS) := by
  refine F.ok scAnswer (fun vs H Q E h => ?_) (fun cdv A outer s H vs Q E hr h => ?_)
  · obtain ⟨x, L, j, kq, z, rfl, _⟩ := h
    rfl
  · obtain ⟨x, L, j, kq, z, rfl, sh, ok, hj, rc, k⟩ := h
    have nd := scAnswer.nd
    have hr1 : Room 1 _ := hr.mono (by decide)
    have hr2 : Room 2 _ := hr.mono (by decide)
    refine ⟨_, pss_cons (ps_expr (pe_call GK hr2 (by rfl) mK kK bK .nil pass0 (pa_cons (pv 0) (pa_cons (pv 1) pa_nil)))) (pss_cons (ps_expr (pe_call GR hr (by rfl) mR kR bR .nil pass0 (pa_cons (pv 0) (pa_cons (pv 2) pa_nil))))
      (pss_cons (ps_set (i := 3) nd rfl (.inl rfl) (pe_bmX PySem.F.slot_tuple_index PySem.F.type_tuple_index mt_tup_index (pe_fld (pe_fld (pv 0) rfl) rfl) (pa_cons (pv 1) pa_nil)))
      (pss_one (ps_ret (pe_join pe_str (pe_lc (own := [("piece", 4)]) (g := gName 4) (tt := tYes) (te := tCall (spWorth C CS) [] E0 (tCons (tVar 0) (tCons (tVar 4) (tCons (tVar 2) tNil)))) rfl nd (pi_tup (pe_ix ix_tup (pe_fld (pv 0) rfl) (pv 3) (fun _ _ => rfl)))
        (blkOk_by (N := ["shelf", "keeper", "record", "place", "piece"]) (sc := defScope sAnswer) (by decide +kernel)) (fun _ _ _ _ _ => pg_name (i := 4) nd rfl (.inl rfl)) (fun _ _ _ _ _ => pts_nil) (fun _ _ _ _ _ => pe_call GW hr1 (by rfl) mW kW bW .nil pass0 (pa_cons (pv 0) (pa_cons (pv 4) (pa_cons (pv 2) pa_nil)))))))))), ?_⟩
    have km := List.mem_of_getElem? hj
    have kl := (ok.q kq km).2.1
    refine ⟨_, rfl, _, rfl, x, L, kq, rfl, sh, km, ?_⟩
    refine ⟨_, rfl, _, rfl, x, L, z, rfl, sh, ok, rc, fun H1 s1 => ?_⟩
    have sh1 := sh.same s1
    obtain ⟨dx, fs, hx, sf, _⟩ := id sh1
    obtain ⟨c, lc, cdx, nm, ec, en⟩ := sf.circle
    obtain ⟨q, lq, rows, eq, pr⟩ := sf.pieces
    obtain ⟨v, hv, r, ts, rfl, er, ep⟩ := paired_get pr hj
    have kn : (L.kps.map (·.1))[j]? = some kq.1 := by rw [List.getElem?_map, hj]; rfl
    refine ⟨_, rfl, x, CS, dx, fs, .ref c, rfl, hx, SC.cls, SC.circle, lc, c, C, cdx, _, .ref nm, rfl, ec, CC.cls, CC.nm, rfl, ⟨nm, _, rfl, en⟩, _, rfl, nm, L.kps.map (·.1), kq.1, j, rfl, rfl, en.sq, kn, first_at ok.kn kn, ?_⟩
    obtain ⟨zs, z1, z2, z3⟩ := paired_zip ep
    have zl : zs.length = kq.2.length := by rw [← z2, List.length_map]
    refine ⟨⟨_, rfl⟩, _, rfl, x, CS, dx, fs, .ref q, rfl, hx, SC.cls, SC.pieces, lq, _, rfl, q, rows, _, .ref r, rfl, rfl, SqT.of eq, atN hv, r, rfl, ⟨_, SqT.of er⟩, fun D nD => lc_fm (walk_tup (a := r) (xs := ts)) zs (fun y => some (V.str (bitS (onesN L y.2 z)))) (by rw [← z1, List.length_map]) (by rw [← z1, List.length_map]; omega) nD (fun H s => sqT_same s (SqT.of er)) ?_ ?_⟩
    · rintro i u y H2 H2' R Rn hy s2 ⟨rfl, hu⟩ k1 k2
      obtain ⟨t, et, eh⟩ := z3 y (List.mem_of_getElem? hy)
      obtain rfl : V.ref t = u := by
        rw [← z1, List.getElem?_map, hy] at hu
        rw [← et]
        exact Option.some.inj hu
      exact ⟨rfl, _, rfl, _, rfl, _, rfl, x, t, L, y.2, z, rfl, sh1.same s2, ok, s2 _ _ eh, rc, fun H3 s3 => k1 _ _ rfl s3⟩
    · intro H2 s2 eD
      have fe : (zs.filterMap fun y => some (V.str (bitS (onesN L y.2 z)))) = (kq.2.map fun p => bitS (onesN L p z)).map V.str := by
        rw [← z2]
        simp [Function.comp_def]
      rw [fe] at eD
      have one : ∀ n, (bitS n).length ≤ 1 := fun n => by
        unfold bitS
        split <;> decide
      refine ⟨"", D, kq.2.map fun p => bitS (onesN L p z), rfl, rfl, .inl (SqL.of eD), ?_, k _ (s1.trans s2)⟩
      refine Nat.le_trans (join_le (s := ("" : Str)) (n := 2) (c := 1) (by rw [List.length_map]; exact kl) fun y hy => ?_).1 (by decide)
      obtain ⟨p, _, rfl⟩ := List.mem_map.mp hy
      exact one _
end
end K6
set_option Elab.async false
set_option linter.all false
set_option maxRecDepth 100000
set_option maxHeartbeats 4000000
set_option pp.maxSteps 1200
set_option pp.deepTerms false
namespace K6
open PySem PySem.Spec PyProof.Rows L2 Lk
abbrev sValue : Stmt := top 99
theorem sum_ones (p : List Str) : ∀ zs : List (Str × Nat), (∀ pc ∈ zs, pc.2 = 48 ∨ pc.2 = 49) → ((zs.filter fun pc => decide (pc.1 ∈ p)).map fun pc => (pc.2 : Int) - 48).sum = ((zs.filter fun pc => decide (pc.2 = 49 ∧ pc.1 ∈ p)).length : Int)
  | [], _ => rfl
  | c :: cs, h => by
    have ih := sum_ones p cs fun y hy => h y (List.mem_cons_of_mem _ hy)
    have hc := h c List.mem_cons_self
    by_cases m : c.1 ∈ p
    · rcases hc with e | e
      · have n : ¬ (c.2 = 49 ∧ c.1 ∈ p) := fun q => by omega
        simp only [List.filter_cons, decide_eq_true m, decide_eq_false n, if_true, Bool.false_eq_true, if_false, List.map_cons, List.sum_cons, ih]
        omega
      · have n : c.2 = 49 ∧ c.1 ∈ p := ⟨e, m⟩
        simp only [List.filter_cons, decide_eq_true m, decide_eq_true n, if_true, List.map_cons, List.sum_cons, List.length_cons, ih]
        omega
    · have n : ¬ (c.2 = 49 ∧ c.1 ∈ p) := fun q => m q.2
      simp only [List.filter_cons, decide_eq_false m, decide_eq_false n, Bool.false_eq_true, if_false, ih]
theorem fm_in (p : List Str) : ∀ zs : List (Str × Nat), (zs.filterMap fun pc => if pc.1 ∈ p then some (V.int ((pc.2 : Int) - 48)) else none) = ((zs.filter fun pc => decide (pc.1 ∈ p)).map fun pc => (pc.2 : Int) - 48).map V.int
  | [] => rfl
  | c :: cs => by
    have ih := fm_in p cs
    by_cases h : c.1 ∈ p
    · simp only [List.filterMap_cons, if_pos h, List.filter_cons, decide_eq_true h, if_true, List.map_cons, ih]
    · simp only [List.filterMap_cons, if_neg h, List.filter_cons, decide_eq_false h, Bool.false_eq_true, if_false, ih]
theorem int_sign {c : Nat} (h : c = 48 ∨ c = 49) : PySem.intText? ⟨#[c]⟩ = some ((c : Int) - 48) := by
  rcases h with rfl | rfl
  · decide +kernel
  · decide +kernel
def rIntS : List V → Hp → VK → Prop := fun xs H Q => ∃ a n, xs = [.str a] ∧ PySem.intText? a = some n ∧ a.length ≤ 640 ∧ Q (.int n) H
section
variable {P : Program} {w : World} {K : PySem.W.Frag} {mg : Str → Option Value} {base : Heap} {f : Addr} {fd : FuncData}
/-! ### _law_value -/
def spValue : Sp := fun vs H Q _ => ∃ (lo t : Addr) (L : Lore) (p : List Str) (z : Str), vs = [.ref lo, .ref t, .str z] ∧ LoreAt H lo L ∧ L.parts.length ≤ 4 ∧ H t = some (.tup (p.map V.str)) ∧ RecOk L z ∧ ∀ H', Same H H' → Q (.int ((onesN L p z : Int) % 2)) H'
theorem scValue : FnScope ["lore", "piece", "record", "part", "mark"] ["lore", "piece", "record"] (defScope sValue) := ⟨rfl, rfl, rfl, by decide +kernel, rfl, by decide +kernel, by decide +kernel⟩
theorem ok_value (F : Fun K "_law_piece_value" "_law_piece_value" sValue f fd) (T : Bl mg) (Cc : Cn mg) : FnOk P w K mg base CX0 1 f fd ["lore", "piece", "record"] spValue := by
  refine F.ok scValue (fun vs H Q E h => ?_) (fun cdv A outer s H vs Q E hr h => ?_)
  · obtain ⟨lo, t, L, p, z, rfl, _⟩ := h
    rfl
  · obtain ⟨lo, t, L, p, z, rfl, ⟨pa, nm, pt, rows, e1, e2, e3, e4, e5⟩, p4, ht, ⟨zl, zb⟩, k⟩ := h
    have nd := scValue.nd
    have hu := hu_of hr
    refine ⟨_, pss_one (ps_ret (pe_op op_mod (pe_callB (cr_sum rfl) (by rfl) Cc.sum boot_sum (pa_cons (pe_lc (own := [("part", 3), ("mark", 4)]) (g := gTup K 2 (gCons (gName 3) (gCons (gName 4) gNil))) (tt := tTest (tOp (rIn K false) (tVar 3) (tVar 1))) (te := tCB rIntS (tCons (tVar 4) tNil)) rfl nd
        (pi_zipS (by rfl) Cc.zip (pa_cons (pe_dget hu (pv 0) pe_str (fun _ _ => rfl)) (pa_cons (pv 2) pa_nil))) (blkOk_by (N := ["lore", "piece", "record", "part", "mark"]) (sc := defScope sValue) (by decide +kernel))
        (fun _ _ _ _ _ => pg_tup rfl (pgs_cons (pg_name (i := 3) nd rfl (.inl rfl)) (pgs_cons (pg_name (i := 4) nd rfl (.inl rfl)) pgs_nil))) (fun _ _ _ _ _ => pts_one (pt_cmpR op_in_seq (pv 3) (pv 1) rfl)) (fun _ _ _ _ _ => pe_callTy call_int_str (by rfl) T.int boot_int (pa_cons (pv 4) pa_nil))) pa_nil)) pe_int)), ?_⟩
    have zt : (TL.tl z).length = L.parts.length := by rw [← zl]; exact Array.length_toList
    have al : ((TL.tl z).map fun c => V.str ⟨#[c]⟩).length = L.parts.length := by rw [List.length_map, zt]
    have nl : (L.parts.zip (TL.tl z)).length = L.parts.length := by rw [List.length_zip, zt, Nat.min_self]
    have src : ∀ H', Same H H' → SrcAt K (.tup pa) H' (L.parts.map V.str) ∧ SrcAt K (.txt z) H' ((TL.tl z).map fun c => V.str ⟨#[c]⟩) := fun H' s' => ⟨SqT.of (s' _ _ e2), rfl⟩
    refine ⟨_, rfl, lo, _, rfl, (dget3 e1).1, _, rfl, .tup pa, .txt z, L.parts.map V.str, (TL.tl z).map fun c => V.str ⟨#[c]⟩, rfl, (src H (Same.refl _)).1, rfl, fun D nD => ?_⟩
    refine lc_fm (walk_zipS (s1 := .tup pa) (s2 := .txt z) (n := L.parts.length) (by rw [List.length_map, al, Nat.min_self])) (L.parts.zip (TL.tl z)) (fun pc => if pc.1 ∈ p then some (V.int ((pc.2 : Int) - 48)) else none) nl (by omega) nD (fun H' s' => src H' s') ?_ ?_
    · rintro i v pc H1 H1' R Rn hpc s1 ⟨T1, a1, a2, rfl, nT, rfl, f1, f2⟩ k1 k2
      obtain ⟨g1, g2⟩ := List.getElem?_zip_eq_some.mp hpc
      obtain rfl : V.str pc.1 = a1 := by
        have f1 : (L.parts.map V.str)[i]? = some a1 := f1
        rw [List.getElem?_map, g1] at f1
        exact Option.some.inj f1
      obtain rfl : V.str ⟨#[pc.2]⟩ = a2 := by
        have f2 : ((TL.tl z).map fun c => V.str ⟨#[c]⟩)[i]? = some a2 := f2
        rw [List.getElem?_map, g2] at f2
        exact Option.some.inj f2
      have bit := zb pc.2 (List.mem_of_getElem? g2)
      have s2 : Same H1 (upd H1 T1 (.tup [.str pc.1, .str ⟨#[pc.2]⟩])) := same_new nT
      refine ⟨T1, _, rfl, SqT.of upd_same, rfl, _, _, rfl, _, _, rfl, rfl, rfl, _, rfl, _, rfl, t, _, rfl, .inr (SqT.of (s2 _ _ (s1 _ _ ht))), rfl, flat_strs _, _, rfl, ?_⟩
      rw [inV_str]
      by_cases h2 : pc.1 ∈ p
      · refine iteA (by simp [h2]) ⟨_, rfl, ⟨#[pc.2]⟩, _, rfl, int_sign bit, by show 1 ≤ 640; decide, k1 _ _ (if_pos h2) s2⟩
      · exact iteB (by simp [h2]) (k2 _ (if_neg h2) s2)
    · intro H1 s1 eD
      rw [fm_in] at eD
      refine ⟨D, _, rfl, SqL.of eD, _, _, rfl, rfl, (show (0 : Int) < 2 by decide), ?_⟩
      rw [sum_ones p _ fun pc hpc => zb pc.2 (List.of_mem_zip hpc).2]
      exact k _ s1
end
end K6
set_option Elab.async false
set_option linter.all false
set_option maxRecDepth 100000
set_option maxHeartbeats 4000000
set_option pp.maxSteps 1200
set_option pp.deepTerms false
namespace K6
open PySem PySem.Spec PyProof.Rows L2 Lk
abbrev sLAnswer : Stmt := top 100
theorem merge_not {k : Key} : ∀ {more b : List (Key × V)}, k ∉ more.map (·.1) → valV (mergeK b more) k = valV b k
  | [], _, _ => rfl
  | p :: more, b, h => by
    show valV (mergeK (putK b p.1 p.2) more) k = _
    rw [merge_not fun q => h (List.mem_cons_of_mem _ q), valV_put, if_neg fun e => h (by rw [e]; exact List.mem_cons_self)]
theorem merge_at {k : Key} {v : V} : ∀ {more b : List (Key × V)}, (more.map (·.1)).Nodup → (k, v) ∈ more → valV (mergeK b more) k = some v
  | [], _, _, h => by simp at h
  | p :: more, b, nd, h => by
    have nd2 := List.nodup_cons.mp nd
    show valV (mergeK (putK b p.1 p.2) more) k = _
    rcases List.mem_cons.mp h with e | h
    · subst e
      rw [merge_not nd2.1, valV_put, if_pos rfl]
    · exact merge_at nd2.2 h
theorem paired_keys {α β γ : Type} {R : α → β → Prop} {u : α → γ} {v : β → γ} (h : ∀ x y, R x y → u x = v y) : ∀ {xs : List α} {ys : List β}, Paired R xs ys → xs.map u = ys.map v
  | _, _, .nil => rfl
  | _, _, .cons r t => by rw [List.map_cons, List.map_cons, h _ _ r, paired_keys h t]
def rStrI : List V → Hp → VK → Prop := fun xs H Q => ∃ i : Int, xs = [.int i] ∧ i.natAbs.log2 < 1920 ∧ Q (.str (toString i)) H
theorem bit_text (n : Nat) : ((n : Int) % 2).natAbs.log2 < 1920 ∧ (toString ((n : Int) % 2) : Str) = bitS n := by
  have : (n : Int) % 2 = 0 ∧ n % 2 = 0 ∨ (n : Int) % 2 = 1 ∧ n % 2 = 1 := by omega
  unfold bitS
  rcases this with ⟨e, e2⟩ | ⟨e, e2⟩
  · rw [e, if_neg (by omega)]
    exact ⟨by decide +kernel, by decide +kernel⟩
  · rw [e, if_pos e2]
    exact ⟨by decide +kernel, by decide +kernel⟩
section
variable {P : Program} {w : World} {K : PySem.W.Frag} {mg : Str → Option Value} {base : Heap} {f : Addr} {fd : FuncData}
/-! ### _law_answer -/
def spLAnswer : Sp := fun vs H Q _ => ∃ (lo : Addr) (L : Lore) (j : Nat) (kq : KP) (z : Str), vs = [.ref lo, .str kq.1, .str z] ∧ LoreAt H lo L ∧ LoreOk L ∧ L.kps[j]? = some kq ∧ RecOk L z ∧ ∀ H', Same H H' → Q (.str (answerS L kq z)) H'
theorem scLAnswer : FnScope ["lore", "name", "record", "some", "piece"] ["lore", "name", "record"] (defScope sLAnswer) := ⟨rfl, rfl, rfl, by decide +kernel, rfl, by decide +kernel, by decide +kernel⟩
theorem ok_lanswer {fV : Addr} {fdV : FuncData} (F : Fun K "_law_answer" "_law_answer" sLAnswer f fd) (T : Bl mg) (Cc : Cn mg) (FV : Fun K "_law_piece_value" "_law_piece_value" sValue fV fdV) (bV : Binds K fdV ["lore", "piece", "record"] []) (mV : mg "_law_piece_value" = some (.ref fV)) :
    FnOk P w K mg base CX0 2 f fd ["lore", "name", "record"] spLAnswer := by
  have GV : FnOk P w K mg base CX0 1 fV fdV ["lore", "piece", "record"] spValue := ok_value FV T Cc
  refine F.ok scLAnswer (fun vs H Q E h => ?_) (fun cdv A outer s H vs Q E hr h => ?_)
  · obtain ⟨lo, L, j, kq, z, rfl, _⟩ := h
    rfl
  · obtain ⟨lo, L, j, kq, z, rfl, la, ok, hj, rc, k⟩ := h
    obtain ⟨pa, nm, pt, rows, e1, e2, e3, e4, e5⟩ := id la
    have nd := scLAnswer.nd
    have hu := hu_of hr
    refine ⟨_, pss_cons (ps_set (i := 3) nd rfl (.inl rfl) (pe_ix ix_tup (pe_dget hu (pv 0) pe_str (fun _ _ => rfl)) (pe_bmX PySem.F.slot_tuple_index PySem.F.type_tuple_index mt_tup_index (pe_dget hu (pv 0) pe_str (fun _ _ => rfl)) (pa_cons (pv 1) pa_nil)) (fun _ _ => rfl)))
      (pss_one (ps_ret (pe_join pe_str (pe_lc (own := [("piece", 4)]) (g := gName 4) (tt := tYes) (te := tCB rStrI (tCons (tCall spValue [] E0 (tCons (tVar 0) (tCons (tVar 4) (tCons (tVar 2) tNil)))) tNil)) rfl nd (pi_tup (pv 3))
        (blkOk_by (N := ["lore", "name", "record", "some", "piece"]) (sc := defScope sLAnswer) (by decide +kernel)) (fun _ _ _ _ _ => pg_name (i := 4) nd rfl (.inl rfl)) (fun _ _ _ _ _ => pts_nil)
        (fun _ _ _ _ _ => pe_callTy call_str_int (by rfl) Cc.str boot_str (pa_cons (pe_call GV hr (by rfl) mV FV.kp bV .nil pass0 (pa_cons (pv 0) (pa_cons (pv 4) (pa_cons (pv 2) pa_nil)))) pa_nil)))))), ?_⟩
    obtain ⟨v, hv, q, ts, rfl, eq, ep⟩ := paired_get e5 hj
    have kn : (L.kps.map (·.1))[j]? = some kq.1 := by rw [List.getElem?_map, hj]; rfl
    have kl := (ok.q kq (List.mem_of_getElem? hj)).2.1
    refine ⟨_, rfl, lo, _, rfl, (dget3 e1).2.2, _, rfl, lo, _, rfl, (dget3 e1).2.1, ⟨nm, _, rfl, e3⟩, _, rfl, nm, L.kps.map (·.1), kq.1, j, rfl, rfl, e3.sq, kn, first_at ok.kn kn, pt, rows, _, .ref q, rfl, rfl, SqT.of e4, atN hv, ?_⟩
    obtain ⟨zs, z1, z2, z3⟩ := paired_zip ep
    have zl : zs.length = kq.2.length := by rw [← z2, List.length_map]
    refine ⟨⟨_, rfl⟩, _, rfl, q, rfl, ⟨_, SqT.of eq⟩, fun D nD => lc_fm (walk_tup (a := q) (xs := ts)) zs (fun y => some (V.str (bitS (onesN L y.2 z)))) (by rw [← z1, List.length_map]) (by rw [← z1, List.length_map]; omega) nD (fun H s => sqT_same s (SqT.of eq)) ?_ ?_⟩
    · rintro i u y H2 H2' R Rn hy s2 ⟨rfl, hu2⟩ k1 k2
      obtain ⟨t, et, eh⟩ := z3 y (List.mem_of_getElem? hy)
      obtain rfl : V.ref t = u := by
        rw [← z1, List.getElem?_map, hy] at hu2
        rw [← et]
        exact Option.some.inj hu2
      obtain ⟨b1, b2⟩ := bit_text (onesN L y.2 z)
      refine ⟨rfl, _, rfl, _, rfl, _, rfl, lo, t, L, y.2, z, rfl, la.same s2, ok.p4, s2 _ _ eh, rc, fun H3 s3 => ⟨_, rfl, b1, ?_⟩⟩
      rw [b2]
      exact k1 _ _ rfl s3
    · intro H2 s2 eD
      have fe : (zs.filterMap fun y => some (V.str (bitS (onesN L y.2 z)))) = (kq.2.map fun p => bitS (onesN L p z)).map V.str := by
        rw [← z2]
        simp [Function.comp_def]
      rw [fe] at eD
      have one : ∀ n, (bitS n).length ≤ 1 := fun n => by
        unfold bitS
        split <;> decide
      refine ⟨"", D, kq.2.map fun p => bitS (onesN L p z), rfl, rfl, .inl (SqL.of eD), ?_, k _ s2⟩
      refine Nat.le_trans (join_le (s := ("" : Str)) (n := 2) (c := 1) (by rw [List.length_map]; exact kl) fun y hy => ?_).1 (by decide)
      obtain ⟨p, _, rfl⟩ := List.mem_map.mp hy
      exact one _
/-! ### _law_less -/
def spLess (K : PySem.W.Frag) : Sp := fun vs H Q _ => ∃ (n s : Addr) (ns ss : List Str), vs = [.ref n, .ref s] ∧ Sq K H n (ns.map V.str) ∧ Sq K H s (ss.map V.str) ∧ ns.length ≤ 100 ∧
  ∀ p H', Same H H' → H p = none → H' p = some (.tup ((ns.filter fun p => !decide (p ∈ ss)).map V.str)) → Q (.ref p) H'
theorem fm_ifn (ss : List Str) : ∀ ps : List Str, ps.filterMap (fun x => if x ∈ ss then none else some (V.str x)) = (ps.filter fun x => !decide (x ∈ ss)).map V.str
  | [] => rfl
  | p :: ps => by
    have ih := fm_ifn ss ps
    by_cases h : p ∈ ss
    · simp [List.filterMap_cons, List.filter_cons, h, ih]
    · simp [List.filterMap_cons, List.filter_cons, h, ih]
end
end K6
set_option Elab.async false
set_option linter.all false
set_option maxRecDepth 100000
set_option maxHeartbeats 4000000
set_option pp.maxSteps 1200
set_option pp.deepTerms false
namespace K6
open PySem PySem.Spec PyProof.Rows L2 Lk
abbrev sIsInt : Stmt := top 13
abbrev sIsRow : Stmt := top 16
/-! ### spots as data -/
def spD (s : Spot) : PyData := .tuple [.str s.1, .int (s.2 : Int)]
def SpOk (zs : List Spot) : Prop := ∀ s ∈ zs, PyData.strOk s.1 = true
theorem spD_lay {s : Spot} (h : PyData.strOk s.1 = true) : (spD s).canLay0 = true := by simp [spD, PyData.canLay0, PyData.canLayAll0, h]
theorem spD_depth (s : Spot) : (spD s).depth = 1 := by simp [spD, PyData.depth, PyData.depthAll]
theorem spDs_lay : ∀ {zs : List Spot}, SpOk zs → PyData.canLayAll0 (zs.map spD) = true
  | [], _ => by simp [PyData.canLayAll0]
  | z :: zs, h => by simp [PyData.canLayAll0, spD_lay (h z List.mem_cons_self), spDs_lay fun s hs => h s (List.mem_cons_of_mem _ hs)]
theorem spDs_depth : ∀ zs : List Spot, PyData.depthAll (zs.map spD) ≤ 1
  | [] => by simp [PyData.depthAll]
  | z :: zs => by
    have h1 := spDs_depth zs
    have h2 := spD_depth z
    simp only [List.map_cons, PyData.depthAll]
    omega
theorem spD_shaped {z : Spot} (hz : PyData.strOk z.1 = true) : SeqAt.shaped (spD z) = true := by
  have h := spD_depth z
  show ((spD z).canLay0 && decide ((spD z).depth ≤ 64)) = true
  rw [Bool.and_eq_true]
  exact ⟨spD_lay hz, decide_eq_true (by omega)⟩
theorem spDs_shaped {zs : List Spot} (hz : SpOk zs) : SeqAt.shaped (.tuple (zs.map spD)) = true := by
  have h1 := spDs_depth zs
  have h2 : PyData.depth (.tuple (zs.map spD)) ≤ 64 := by
    simp only [PyData.depth]
    omega
  show (PyData.canLay0 (.tuple (zs.map spD)) && decide (PyData.depth (.tuple (zs.map spD)) ≤ 64)) = true
  rw [Bool.and_eq_true]
  exact ⟨by simp only [PyData.canLay0]; exact spDs_lay hz, decide_eq_true h2⟩
theorem spD_eqv (z y : Spot) : PyData.eqv (spD z) (spD y) = decide (z = y) := by
  obtain ⟨a, b⟩ := z
  obtain ⟨c, d⟩ := y
  have e : PyData.eqv (spD (a, b)) (spD (c, d)) = ((a == c) && (((b : Int) == (d : Int)) && true)) := by simp only [spD, PyData.eqv, PyData.eqvAll]
  rw [e]
  by_cases h : ((a, b) : Spot) = (c, d)
  · cases h
    simp
  · rw [decide_eq_false h]
    by_cases h1 : a = c
    · by_cases h2 : b = d
      · exact absurd (by rw [h1, h2]) h
      · have q : ((b : Int) == (d : Int)) = false := beq_eq_false_iff_ne.mpr (by omega)
        rw [q, Bool.false_and, Bool.and_false]
    · have q : (a == c) = false := beq_eq_false_iff_ne.mpr h1
      rw [q, Bool.false_and]
theorem spDs_any (ss : List Spot) (s : Spot) : ((ss.map spD).any fun z => PyData.eqv z (spD s)) = decide (s ∈ ss) := by
  induction ss with
  | nil => simp
  | cons z zs ih =>
    rw [List.map_cons, List.any_cons, ih, spD_eqv]
    by_cases h1 : z = s
    · simp [h1]
    · have h2 : s ≠ z := fun e => h1 e.symm
      simp [h1, h2]
theorem dp_spots {K : PySem.W.Frag} {H : Hp} : ∀ {ts : List V} {ss : List Spot}, Paired (RelS H) ts ss → DpAll K H ts (ss.map spD)
  | _, _, .nil => .nil
  | _, _, .cons h t => by
    obtain ⟨p, rfl, e⟩ := h
    exact .cons (.tup (SqT.of e) (.cons (.str _) (.cons (.int _) .nil))) (dp_spots t)
theorem spots_nodup : ∀ {ks : List KP}, (ks.map (·.1)).Nodup → (spotsOf ks).Nodup
  | [], _ => List.nodup_nil
  | k :: ks, h => by
    have h2 := List.nodup_cons.mp h
    show ((List.range k.2.length).map (fun i => (k.1, i)) ++ spotsOf ks).Nodup
    rw [List.nodup_append]
    refine ⟨?_, spots_nodup h2.2, ?_⟩
    · rw [List.nodup_iff_pairwise_ne, List.pairwise_map]
      exact (List.nodup_iff_pairwise_ne.mp List.nodup_range).imp fun h e => h (Prod.mk.inj e).2
    · intro x hx y hy e
      obtain ⟨i, _, rfl⟩ := List.mem_map.mp hx
      subst e
      obtain ⟨q, hq, hy⟩ := List.mem_flatMap.mp hy
      obtain ⟨j, _, e⟩ := List.mem_map.mp hy
      exact h2.1 (List.mem_map.mpr ⟨q, hq, (Prod.mk.inj e).1⟩)
theorem sub_filter {ss zs : List Spot} (h : ss.Sublist zs) : zs.Nodup → zs.filter (fun z => decide (z ∈ ss)) = ss := by
  induction h with
  | slnil => intro _; rfl
  | cons a h ih =>
    intro nd
    have n2 := List.nodup_cons.mp nd
    have : a ∉ _ := fun q => n2.1 (h.subset q)
    rw [List.filter_cons_of_neg (by simpa using this)]
    exact ih n2.2
  | cons_cons a h ih =>
    rename_i l1 l2
    intro nd
    have n2 := List.nodup_cons.mp nd
    rw [List.filter_cons_of_pos (by simp)]
    have e : l2.filter (fun z => decide (z ∈ a :: l1)) = l2.filter (fun z => decide (z ∈ l1)) := by
      refine List.filter_congr fun z hz => ?_
      have : z ≠ a := fun q => n2.1 (q ▸ hz)
      simp [this]
    rw [e, ih n2.2]
theorem names_strOk : ∀ p ∈ namePool, PyData.strOk p = true := by decide +kernel
theorem spots_ok {L : Lore} (ok : LoreOk L) : SpOk (spotsOf L.kps) := fun s hs => by
  obtain ⟨kq, hk, hs⟩ := List.mem_flatMap.mp hs
  obtain ⟨i, _, rfl⟩ := List.mem_map.mp hs
  exact names_strOk _ (ok.kp kq hk)
theorem paired_fm {H : Hp} (ss : List Spot) : ∀ ys : List (V × Spot), (∀ z ∈ ys, RelS H z.1 z.2) → Paired (RelS H) (ys.filterMap fun y => if y.2 ∈ ss then some y.1 else none) ((ys.map (·.2)).filter fun z => decide (z ∈ ss))
  | [], _ => .nil
  | y :: ys, h => by
    have ih := paired_fm ss ys fun z hz => h z (List.mem_cons_of_mem _ hz)
    by_cases m : y.2 ∈ ss
    · rw [List.filterMap_cons, if_pos m, List.map_cons, List.filter_cons_of_pos (by simpa using m)]
      exact .cons (h y List.mem_cons_self) ih
    · rw [List.filterMap_cons, if_neg m, List.map_cons, List.filter_cons_of_neg (by simpa using m)]
      exact ih
section
variable {P : Program} {w : World} {K : PySem.W.Frag} {mg : Str → Option Value} {base : Heap} {f : Addr} {fd : FuncData}
/-! ### is_integer, is_row, is_sum -/
def spIsInt : Sp := fun vs H Q _ => ∃ i : Int, vs = [.int i] ∧ Q (.bl true) H
theorem scIsInt : FnScope ["value"] ["value"] (defScope sIsInt) := ⟨rfl, rfl, rfl, by decide +kernel, rfl, by decide +kernel, by decide +kernel⟩
theorem ok_isInt (F : Fun K "is_integer" "is_integer" sIsInt f fd) (T : Bl mg) (hB : mg "bool" = none) : FnOk P w K mg base CX0 1 f fd ["value"] spIsInt := by
  refine F.ok scIsInt (fun vs H Q E h => ?_) (fun cdv A outer s H vs Q E hr h => ?_)
  · obtain ⟨i, rfl, _⟩ := h
    rfl
  · obtain ⟨i, rfl, k⟩ := h
    refine ⟨_, pss_one (ps_ret (pe_and (pe_callB call_isi (by rfl) T.isin boot_isinstance (pa_cons (pv 0) (pa_cons (pe_bltn (v := .ty "int") (by rfl) T.int rfl rfl) pa_nil)))
      (pe_one (pe_not (pe_callB call_isi (by rfl) T.isin boot_isinstance (pa_cons (pv 0) (pa_cons (pe_bltn (v := .ty "bool") (by rfl) hB rfl rfl) pa_nil))))))), ?_⟩
    refine ⟨_, rfl, _, _, _, _, true, rfl, .ty _, .base (.int _), by rfl, _, rfl, iteT ?_⟩
    exact ⟨_, rfl, _, _, _, _, false, rfl, .ty _, .base (.int _), by rfl, _, rfl, k⟩
def spIsRow : Sp := fun vs H Q _ => ∃ (t : Addr) (xs : List V) (n : Int), vs = [.ref t, .int n] ∧ H t = some (.tup xs) ∧ Q (.bl (decide (V.int xs.length = V.int n))) H
theorem scIsRow : FnScope ["value", "many"] ["value", "many"] (defScope sIsRow) := ⟨rfl, rfl, rfl, by decide +kernel, rfl, by decide +kernel, by decide +kernel⟩
theorem ok_isRow (F : Fun K "is_row" "is_row" sIsRow f fd) (T : Bl mg) (Cc : Cn mg) : FnOk P w K mg base CX0 1 f fd ["value", "many"] spIsRow := by
  refine F.ok scIsRow (fun vs H Q E h => ?_) (fun cdv A outer s H vs Q E hr h => ?_)
  · obtain ⟨t, xs, n, rfl, _⟩ := h
    rfl
  · obtain ⟨t, xs, n, rfl, ht, k⟩ := h
    refine ⟨_, pss_one (ps_ret (pe_and (pe_callB call_isi (by rfl) T.isin boot_isinstance (pa_cons (pv 0) (pa_cons (pe_bltn (v := .ty "tuple") (by rfl) Cc.tuple rfl rfl) pa_nil)))
      (pe_one (pe_cmpR op_eq (pe_callB call_len_seq (by rfl) T.len PySem.boot_len (pa_cons (pv 0) pa_nil)) (pv 1) (nomark _))))), ?_⟩
    refine ⟨_, rfl, _, _, _, _, true, rfl, .ty _, .base (.tup ht), by rfl, _, rfl, iteT ?_⟩
    exact ⟨_, rfl, t, _, rfl, .inr (SqT.of ht), _, rfl, rfl, k⟩
end
end K6
set_option Elab.async false
set_option linter.all false
set_option maxRecDepth 100000
set_option maxHeartbeats 4000000
set_option pp.maxSteps 1200
set_option pp.deepTerms false
namespace K6
open PySem PySem.Spec PyProof.Rows L2 Lk
/-! ### texts that can be laid -/
theorem strOk_of {x : Str} (h : ∀ c ∈ TL.tl x, c < 0x110000) : PyData.strOk x = true := by
  unfold PyData.strOk
  rw [Array.all_eq_true_iff_forall_mem]
  intro c hc
  exact decide_eq_true (h c (Array.mem_toList_iff.mpr hc))
theorem of_strOk {x : Str} (h : PyData.strOk x = true) : ∀ c ∈ TL.tl x, c < 0x110000 := fun c hc => by
  unfold PyData.strOk at h
  have := (Array.all_eq_true_iff_forall_mem.mp h) c (Array.mem_toList_iff.mp hc)
  exact of_decide_eq_true this
theorem strOk_join {s : Str} {xs : List Str} (hs : PyData.strOk s = true) (hx : ∀ x ∈ xs, PyData.strOk x = true) : PyData.strOk (Txt.join s xs) = true := strOk_of fun c hc => by
  rcases mem_join hc with h | ⟨x, hm, h⟩
  · exact of_strOk hs c h
  · exact of_strOk (hx x hm) c h
theorem parts_strOk : ∀ p ∈ partPool, PyData.strOk p = true := by decide +kernel
theorem text_strOk {L : Lore} (ok : LoreOk L) : PyData.strOk (textL L) = true := by
  refine strOk_join (by decide +kernel) fun x hx => ?_
  rcases List.mem_cons.mp hx with rfl | hx
  · refine strOk_join (by decide +kernel) fun y hy => ?_
    rcases List.mem_cons.mp hy with rfl | hy
    · decide +kernel
    · exact parts_strOk y (ok.pp y hy)
  · obtain ⟨k, hk, rfl⟩ := List.mem_map.mp hx
    refine strOk_join (by decide +kernel) fun y hy => ?_
    rcases List.mem_cons.mp hy with rfl | hy
    · decide +kernel
    rcases List.mem_cons.mp hy with rfl | hy
    · exact names_strOk _ (ok.kp k hk)
    obtain ⟨p, hp, rfl⟩ := List.mem_map.mp hy
    exact strOk_join (by decide +kernel) fun z hz => parts_strOk z (ok.pp z (((ok.q k hk).2.2 p hp).sub z hz))
theorem nice_parts {L : Lore} (ok : LoreOk L) {zs : List Str} (h : ∀ z ∈ zs, z ∈ L.parts) (hl : zs.length ≤ 4) : Nice (4 * (8 + 1)) 1 (.tuple (strsD zs)) :=
  nice_strs (fun z hz => ⟨parts_strOk z (ok.pp z (h z hz)), Nat.le_trans (part_len z (ok.pp z (h z hz))) (by decide)⟩) hl
theorem names_ok {L : Lore} (ok : LoreOk L) : ∀ z ∈ L.kps.map (·.1), PyData.strOk z = true ∧ z.length ≤ 8 := fun z hz => by
  obtain ⟨k, hk, rfl⟩ := List.mem_map.mp hz
  exact ⟨names_strOk _ (ok.kp k hk), name_len _ (ok.kp k hk)⟩
theorem nice_names {L : Lore} (ok : LoreOk L) : Nice (6 * (8 + 1)) 1 (.tuple (strsD (L.kps.map (·.1)))) := nice_strs (names_ok ok) (by rw [List.length_map]; exact ok.k6)
theorem nice_text {L : Lore} (ok : LoreOk L) : Nice 1000 0 (.str (textL L)) := by
  have := ok.k6
  refine .str (text_strOk ok) (Nat.le_trans (join_le (s := ("\n" : Str)) (n := 7) (by show (L.kps.map lineK).length + 1 ≤ 7; rw [List.length_map]; omega) (rows_len ok)).2 (by decide))
/-! ### pieces as data -/
def rowD (ps : List (List Str)) : PyData := .tuple (ps.map fun p => .tuple (strsD p))
def pcsD (ks : List KP) : PyData := .tuple (ks.map fun k => rowD k.2)
theorem dw_pieces {H : Hp} : ∀ {ts : List V} {ps : List (List Str)}, Pieces H ts ps → DWs H ts (ps.map fun p => .tuple (strsD p))
  | _, _, .nil => .nil
  | _, _, .cons h t => by
    obtain ⟨u, rfl, e⟩ := h
    exact .cons (.tup e (dw_strs _)) (dw_pieces t)
theorem dw_rows {H : Hp} : ∀ {rows : List V} {ks : List KP}, Paired (fun v (k : KP) => ∃ r ts, v = V.ref r ∧ H r = some (.tup ts) ∧ Pieces H ts k.2) rows ks → DWs H rows (ks.map fun k => rowD k.2)
  | _, _, .nil => .nil
  | _, _, .cons h t => by
    obtain ⟨r, ts, rfl, e, p⟩ := h
    exact .cons (.tup e (dw_pieces p)) (dw_rows t)
theorem dw_pcs {H : Hp} {q : Addr} {ks : List KP} (h : PcsAt H q ks) : DW H (.ref q) (pcsD ks) := by
  obtain ⟨rows, e, p⟩ := h
  exact .tup e (dw_rows p)
theorem nice_row {L : Lore} (ok : LoreOk L) {k : KP} (hk : k ∈ L.kps) : Nice (2 * (4 * (8 + 1) + 1)) 2 (rowD k.2) := by
  refine Nice.tup (fun d hd => ?_) (by rw [List.length_map]; exact (ok.q k hk).2.1)
  obtain ⟨p, hp, rfl⟩ := List.mem_map.mp hd
  exact nice_parts ok (((ok.q k hk).2.2 p hp).sub) (piece_len ok hk p hp).1
theorem nice_pcs {L : Lore} (ok : LoreOk L) : Nice (6 * (2 * (4 * (8 + 1) + 1) + 1)) 3 (pcsD L.kps) := by
  refine Nice.tup (fun d hd => ?_) (by rw [List.length_map]; exact ok.k6)
  obtain ⟨k, hk, rfl⟩ := List.mem_map.mp hd
  exact nice_row ok hk
/-! ### the sums are the same -/
theorem spots_sum : ∀ ks : List KP, ((ks.map fun k => (k.2.length : Int)).sum) = ((spotsOf ks).length : Int)
  | [] => rfl
  | k :: ks => by
    have ih := spots_sum ks
    show (k.2.length : Int) + (ks.map fun k => (k.2.length : Int)).sum = (((List.range k.2.length).map fun i => (k.1, i)) ++ spotsOf ks).length
    rw [ih, List.length_append, List.length_map, List.length_range]
    omega
theorem pieces_flat {L : Lore} (ok : LoreOk L) : (spotsOf L.kps).map (pieceOf L) = L.kps.flatMap (·.2) := by
  have go : ∀ ks : List KP, (∀ k ∈ ks, k ∈ L.kps) → (spotsOf ks).map (pieceOf L) = ks.flatMap (·.2) := fun ks => by
    induction ks with
    | nil => intro _; rfl
    | cons k ks ih =>
      intro h
      show ((((List.range k.2.length).map fun i => (k.1, i)) ++ spotsOf ks).map (pieceOf L)) = k.2 ++ ks.flatMap (·.2)
      rw [List.map_append, ih fun q hq => h q (List.mem_cons_of_mem _ hq), List.map_map]
      congr 1
      apply List.ext_getElem?
      intro i
      rw [List.getElem?_map]
      by_cases hi : i < k.2.length
      · rw [List.getElem?_range hi, List.getElem?_eq_getElem hi]
        show some (pieceOf L (k.1, i)) = _
        unfold pieceOf
        dsimp only
        rw [find_at ok.kn (h k List.mem_cons_self)]
        simp [hi]
      · rw [List.getElem?_eq_none (by rw [List.length_range]; omega), List.getElem?_eq_none (by omega)]
        rfl
  exact go L.kps fun _ h => h
theorem piece_ok {L : Lore} (ok : LoreOk L) {s : Spot} (h : s ∈ spotsOf L.kps) : PieceOk L.parts (pieceOf L s) := by
  obtain ⟨j, kq, hj, _, e2⟩ := piece_of ok h
  exact (ok.q kq (List.mem_of_getElem? hj)).2.2 _ (List.mem_of_getElem? e2)
/-! ### answers -/
theorem bits_ok (bs : List Str) (h : bs.length ≤ 2) (hb : ∀ b ∈ bs, b = "0" ∨ b = "1") : PyData.strOk (Txt.join "" bs) = true ∧ (Txt.join "" bs).length ≤ 8 := by
  match bs, h, hb with
  | [], _, _ => exact ⟨by decide +kernel, by decide +kernel⟩
  | [a], _, hb =>
    rcases hb a (by simp) with rfl | rfl <;> exact ⟨by decide +kernel, by decide +kernel⟩
  | [a, b], _, hb =>
    rcases hb a (by simp) with rfl | rfl <;> rcases hb b (by simp) with rfl | rfl <;> exact ⟨by decide +kernel, by decide +kernel⟩
  | _ :: _ :: _ :: _, h, _ => exact absurd h (by simp)
theorem nice_answer {L : Lore} (ok : LoreOk L) {k : KP} (hk : k ∈ L.kps) (z : Str) : Nice 8 0 (.str (answerS L k z)) := by
  obtain ⟨h1, h2⟩ := bits_ok (k.2.map fun p => bitS (onesN L p z)) (by rw [List.length_map]; exact (ok.q k hk).2.1) fun b hb => by
    obtain ⟨p, _, rfl⟩ := List.mem_map.mp hb
    unfold bitS
    split
    · exact .inr rfl
    · exact .inl rfl
  exact .str h1 h2
end K6
set_option Elab.async false
set_option linter.all false
set_option maxHeartbeats 4000000
namespace K6
open PySem PySem.Spec PyProof.Rows L2 Lk
/-! ### answers by vectors -/
def ansV (L : Lore) (k : KP) (v : Vec) : Vec := k.2.map fun p => dot (vecP L.parts p) v
theorem bitS_dot {L : Lore} {p : List Str} {v : Vec} (h : v.length = L.parts.length) : bitS (onesN L p (stv v)) = stv [dot (vecP L.parts p) v] := by
  unfold bitS onesN
  rw [tl_stv, dot_ones _ _ h.symm]
  by_cases m : ((L.parts.zip (v.map bC)).filter fun pc => decide (pc.2 = 49 ∧ pc.1 ∈ p)).length % 2 = 1
  · rw [if_pos m, decide_eq_true m, stv_t]
  · rw [if_neg m, decide_eq_false m, stv_f]
theorem joinL_nil : ∀ xs : List (List Nat), TL.joinL [] xs = xs.flatten
  | [] => rfl
  | [p] => by simp [TL.joinL]
  | p :: q :: r => by
    have ih := joinL_nil (q :: r)
    show p ++ ([] ++ TL.joinL [] (q :: r)) = _
    rw [ih]
    rfl
theorem join_nil (xs : List Str) : TL.tl (Txt.join "" xs) = (xs.map TL.tl).flatten := by
  rw [show Txt.join "" xs = Str.join "" xs from StrLaws.glued_eq_join _ _, TL.tl_join]
  exact joinL_nil _
theorem answer_stv {L : Lore} {k : KP} {v : Vec} (h : v.length = L.parts.length) : answerS L k (stv v) = stv (ansV L k v) := by
  refine TL.ext_tl ?_
  unfold answerS ansV
  rw [join_nil, tl_stv, List.map_map, List.map_map]
  have : k.2.map (TL.tl ∘ fun p => bitS (onesN L p (stv v))) = k.2.map fun p => [bC (dot (vecP L.parts p) v)] := List.map_congr_left fun p _ => by
    show TL.tl (bitS (onesN L p (stv v))) = _
    rw [bitS_dot h, tl_stv]
    rfl
  rw [this]
  induction k.2 with
  | nil => rfl
  | cons p ps ih =>
    rw [List.map_cons, List.flatten_cons, ih, List.map_cons]
    rfl
theorem recOk_stv {L : Lore} {v : Vec} (h : v.length = L.parts.length) : RecOk L (stv v) := ⟨by rw [stv_len, h], stv_bits v⟩
theorem recOk_of {L : Lore} {z : Str} (h : RecOk L z) : ∃ v, v.length = L.parts.length ∧ z = stv v := by
  obtain ⟨v, rfl⟩ := stv_of h.2
  exact ⟨v, by rw [← stv_len]; exact h.1, rfl⟩
end K6
set_option Elab.async false
set_option linter.all false
set_option maxRecDepth 100000
set_option maxHeartbeats 4000000
set_option pp.maxSteps 1200
set_option pp.deepTerms false
namespace K6
open PySem PySem.Spec PyProof.Rows L2 Lk
abbrev sAllBits : Stmt := top 21
abbrev sIsLot : Stmt := top 26
abbrev sRefLot : Stmt := top 27
abbrev sRecs : Stmt := top 51
abbrev sSpotsOf : Stmt := top 58
section
variable {P : Program} {w : World} {K : PySem.W.Frag} {mg : Str → Option Value} {base : Heap} {f : Addr} {fd : FuncData}
/-! ### is_told -/
/-! ### all_bits, records -/
def spAllBits : Sp := fun vs H Q _ => ∃ n : Nat, vs = [.int (n : Int)] ∧ n ≤ 4 ∧ ∀ p H', Same H H' → H p = none → H' p = some (.lst (((vL n).map stv).map V.str)) → Q (.ref p) H'
theorem scAllBits : FnScope ["many", "rows", "_", "row", "sign"] ["many"] (defScope sAllBits) := ⟨rfl, rfl, rfl, by decide +kernel, rfl, by decide +kernel, by decide +kernel⟩
theorem ok_allBits (F : Fun K "all_bits" "all_bits" sAllBits f fd) (T : Bl mg) : FnOk P w K mg base CX0 1 f fd ["many"] spAllBits := by
  refine F.ok scAllBits (fun vs H Q E h => ?_) (fun cdv A outer s H vs Q E hr h => ?_)
  · obtain ⟨n, rfl, _⟩ := h
    rfl
  · obtain ⟨n, rfl, n4, k⟩ := h
    have nd := scAllBits.nd
    refine ⟨_, pss_cons (ps_set (i := 1) nd rfl (.inl rfl) (pe_lst (pa_cons pe_str pa_nil)))
      (pss_cons (ps_for PassesOwn.never rfl (pi_range1 rfl T.range (pa_cons (pv 0) pa_nil)) (pg_name (i := 2) nd rfl (.inl rfl))
          (pss_one (ps_setLc2 (i := 1) (own := [("row", 3), ("sign", 4)]) (vs1 := [4]) (g := gName 3) (tt := tYes) (wi1 := iStr (tC (.str "01"))) (g1 := gName 4) (tt1 := tYes) (te := tOp rAddStr (tVar 3) (tVar 4)) rfl nd rfl rfl (sw_true rfl rfl rfl (by decide +kernel))
            (pi_list (pv 1)) (blkOk_by (N := ["many", "rows", "_", "row", "sign"]) (sc := defScope sAllBits) (by decide +kernel)) (by decide)
            (fun _ _ _ _ _ => pg_name (i := 3) nd rfl (.inl rfl)) (fun _ _ _ _ _ => pts_nil) (fun _ _ _ _ _ => pi_str pe_str) (fun _ _ _ _ _ => pg_name (i := 4) nd rfl (.inl rfl)) (fun _ _ _ _ _ => pts_nil) (fun _ _ _ _ _ => pe_op op_add_str (pv 3) (pv 4)))))
        (pss_one (ps_ret (pv 1)))), ?_⟩
    refine ⟨few_ok rfl, fun l nl => ?_⟩
    have s1 : Same H (upd H l (.lst [.str ""])) := same_new nl
    have el : upd H l (.lst [.str ""]) l = some (.lst [.str ""]) := upd_same
    generalize upd H l (.lst [.str ""]) = H1 at s1 el
    refine ⟨_, rfl, _, rfl, by omega, by omega, for_range (lo := 0) (n := ((n : Nat) : Int).toNat) (fun i σ H' => ∃ (fl : Addr) (u v x : Option V), σ = [some (.int (n : Int)), some (.ref fl), u, v, x] ∧ H fl = none ∧ H' fl = some (.lst (((vL i).map stv).map V.str)) ∧ Same H H') ?_ ?_ ?_⟩
    · exact ⟨l, none, none, none, rfl, nl, by rw [el, ← stv_nil]; rfl, s1⟩
    · rintro i σ H' hi ⟨fl, u, v, x, rfl, nf, ef, ss⟩
      have i3 : i ≤ 3 := by omega
      have zl : (vL i).length ≤ 8 := by
        rw [vL_len]
        exact Nat.le_trans (Nat.pow_le_pow_right (by decide) i3) (by decide)
      have vz : ((vL i).map stv).map V.str = (vL i).map fun v => V.str (stv v) := by rw [List.map_map]; rfl
      rw [vz] at ef
      refine ⟨_, rfl, fl, rfl, ⟨_, SqL.of ef⟩, fun D nD => ?_⟩
      refine in_it (walk_list (a := fl) (xs := (vL i).map fun v => V.str (stv v))) (fun j H2 => H2 D = some (.lst ((((vL i).take j).flatMap two01).map fun v => V.str (stv v))) ∧ Same H' H2) ⟨upd_same, same_new nD⟩ (fun j H2 _ ⟨_, s2⟩ => SqL.of (s2 _ _ ef)) ?_ ?_
      · rintro j y H2 H3 hj ⟨eD, s2⟩ ⟨rfl, hy⟩
        rw [List.length_map] at hj
        obtain ⟨r, hr⟩ : ∃ r, (vL i)[j]? = some r := ⟨_, List.getElem?_eq_getElem hj⟩
        obtain rfl : V.str (stv r) = y := by
          rw [List.getElem?_map, hr] at hy
          exact Option.some.inj hy
        have rl := mem_vL.mp (List.mem_of_getElem? hr)
        refine ⟨rfl, "01", rfl, ?_⟩
        refine in_it (walk_str (z := "01")) (fun m H4 => H4 D = some (.lst ((((vL i).take j).flatMap two01 ++ (two01 r).take m).map fun v => V.str (stv v))) ∧ Same H' H4) ⟨by rw [List.take_zero, List.append_nil]; exact eD, s2⟩ (fun _ _ _ _ => trivial) ?_ ?_
        · rintro m y H4 H5 hm ⟨eD, s4⟩ ⟨rfl, c, hc, rfl⟩
          have m2 : m < 2 := hm
          obtain ⟨b, hb, cb⟩ : ∃ b, (two01 r)[m]? = some (r ++ [b]) ∧ c = bC b := by
            match m, m2, hc with
            | 0, _, hc => exact ⟨false, rfl, (Option.some.inj hc).symm⟩
            | 1, _, hc => exact ⟨true, rfl, (Option.some.inj hc).symm⟩
          have ll : (((vL i).take j).flatMap two01 ++ (two01 r).take m).length ≤ 100 := by
            have : ∀ xs : List Vec, (xs.flatMap two01).length = 2 * xs.length := fun xs => by
              induction xs with
              | nil => rfl
              | cons x xs ih =>
                rw [List.flatMap_cons, List.length_append, ih, List.length_cons]
                show 2 + _ = _
                omega
            rw [List.length_append, this, List.length_take, List.length_take]
            omega
          refine ⟨rfl, _, rfl, _, rfl, _, _, rfl, rfl, ?_, ?_⟩
          · rw [stv_len, sizeLine_eq]
            show r.length + 1 ≤ _
            omega
          refine ⟨_, eD, by rw [List.length_map, sizeLine_eq]; omega, ?_, fun b' o e => ?_⟩
          · rw [upd_same, List.take_add_one, hb, Option.toList_some, ← List.append_assoc]
            have : stv r ++ (⟨#[c]⟩ : Str) = stv (r ++ [b]) := by
              rw [stv_app, cb]
              rfl
            rw [this]
            simp
          · rw [upd_ne (ne_of_none e nD)]
            exact s4 _ _ e
        · rintro H4 ⟨eD, s4⟩
          refine ⟨?_, s4⟩
          rw [eD, List.take_add_one, hr, List.flatMap_append]
          rfl
      · rintro H2 ⟨eD, s2⟩
        rw [List.length_map, List.take_length] at eD
        refine ⟨D, _, _, _, rfl, ss.free nD, ?_, ss.trans s2⟩
        rw [eD, List.map_map]
        rfl
    · rintro σ H' ⟨fl, u, v, x, rfl, nf, ef, ss⟩
      rw [Int.toNat_natCast] at ef
      exact ⟨_, rfl, k fl H' ss nf ef⟩
def spRecs (C CS : Addr) : Sp := fun vs H Q _ => ∃ (x : Addr) (L : Lore), vs = [.ref x] ∧ ShAt H C CS x L ∧ LoreOk L ∧ ∀ p H', Same H H' → H p = none → H' p = some (.lst ((recsL L).map V.str)) → Q (.ref p) H'
theorem scRecs : FnScope ["shelf"] ["shelf"] (defScope sRecs) := ⟨rfl, rfl, rfl, by decide +kernel, rfl, by decide +kernel, by decide +kernel⟩
theorem ok_recs {C CS fS fA : Addr} {fdA : FuncData} (F : Fun K "records" "records" sRecs f fd) (T : Bl mg) (SC : ShC K CS fS) (FA : Fun K "all_bits" "all_bits" sAllBits fA fdA) (bA : Binds K fdA ["many"] []) (mA : mg "all_bits" = some (.ref fA)) : FnOk P w K mg base CX0 2 f fd ["shelf"] (spRecs C CS) := by
  have GA : FnOk P w K mg base CX0 1 fA fdA ["many"] spAllBits := ok_allBits FA T
  refine F.ok scRecs (fun vs H Q E h => ?_) (fun cdv A outer s H vs Q E hr h => ?_)
  · obtain ⟨x, L, rfl, _⟩ := h
    rfl
  · obtain ⟨x, L, rfl, ⟨dx, fs, hx, sf, _⟩, ok, k⟩ := h
    obtain ⟨pa, lp, tpa⟩ := sf.parts
    have p4 := ok.p4
    refine ⟨_, pss_one (ps_ret (pe_call GA hr (by rfl) mA FA.kp bA .nil pass0 (pa_cons (pe_callB call_len_seq (by rfl) T.len PySem.boot_len (pa_cons (pe_fld (pv 0) rfl) pa_nil)) pa_nil))), ?_⟩
    refine ⟨_, rfl, x, CS, dx, fs, .ref pa, rfl, hx, SC.cls, SC.parts, lp, pa, _, rfl, .inr tpa.sq, L.parts.length, by rw [List.length_map]; rfl, p4, fun p H' s n e => k p H' s n e⟩
end
end K6
set_option Elab.async false
set_option linter.all false
set_option maxRecDepth 100000
set_option maxHeartbeats 4000000
/-! Part V: t + u of tuples, t empty or not. -/
namespace Lk
open PySem PySem.Spec PyProof.Rows L2
theorem tuple_add0 (l : Addr) (items : Array Value) (n : Nat) (b : Addr) (items2 : Array Value) (n2 : Nat) (dd dd2 : Option Addr) (sl sl2 : Array (Option Value)) (hc0 : items.isEmpty = true) :
    Meets (Builtin.«tuple.__add__» ⟨[.ref l, .ref b], []⟩) (fun _ R s => s.heap.get? l = some { cls := .type "tuple", dict := dd, data := .seq items n, slots := sl } ∧ s.heap.get? b = some { cls := .type "tuple", dict := dd2, data := .seq items2 n2, slots := sl2 } ∧ R (.ok (.ret (Value.ref b))) { s with heap := s.heap, toks := s.toks }) :=
  .of_wp fun prog w A R s h => by
    obtain ⟨hp, g, d, tk, os⟩ := s; obtain ⟨hl, hb, h⟩ := h; have f1 := PySem.AutoSeq1.idx_int; have f2 := PySem.AutoSeq1.sub_tuple_tuple; have f3 := PySem.AutoSeq1.sub_list_list; have f4 := PySem.AutoSeq1.sub_tuple_list; have f5 := PySem.AutoSeq1.sub_list_tuple
    wp_walk using PySem.AutoSeq1.wpAny_loadPart' hl, PySem.AutoSeq1.wpAny_loadPart' hb; exact ⟨_, rfl, h⟩
theorem cat_tup0 {prog : Program} {w : World} {A : Around} {E : Value → Shared → Prop} {s : Shared} {t b : Addr} {ws : List Value} {Q : Value → Shared → Prop} (ht : IsTup s.heap t #[]) (hb : IsTup s.heap b ws.toArray) (h : Q (.ref b) s) : wpAny (model prog w) A (binaryOp .Add (.ref t) (.ref b)) Q E s := by
  obtain ⟨⟨cls, dd, data, sl⟩, ho, hc, n, hd⟩ := id ht
  obtain ⟨⟨cls2, dd2, data2, sl2⟩, ho2, hc2, n2, hd2⟩ := id hb
  simp only at hc hd hc2 hd2
  subst hc hd hc2 hd2
  exact concat_meets ⟨_, ho, rfl⟩ ⟨_, ho2, rfl⟩ noFill_tuple_add seq_tuple_add PySem.F.slot_tuple_add PySem.F.entry_tuple_add (PySem.F.args_tuple_add_2 _ _)
    (tuple_add0 t _ n b ws.toArray n2 dd dd2 sl sl2 (by simp)) ⟨ho, ho2, h⟩
/-- t + u, u not empty -/
def rCatT2 (K : PySem.W.Frag) : R2 := fun x y H Q => ∃ a b xs ys, x = .ref a ∧ y = .ref b ∧ SqT K H a xs ∧ SqT K H b ys ∧ ys ≠ [] ∧ xs.length + ys.length ≤ sizeLine ∧ (xs = [] → Q (.ref b) H) ∧ (xs ≠ [] → ∀ p, H p = none → Q (.ref p) (upd H p (.tup (xs ++ ys))))
theorem op_catT2 {X : Cx} : OpR X (binaryOp .Add) (rCatT2 X.K) := by
  intro pins s σ H x y v u Q I rx ry h
  obtain ⟨a, b, xs, ys, rfl, rfl, ha, hb, hy, hz, q1, q2⟩ := h
  by_cases hx : xs = []
  · subst hx
    cases rx
    cases ry
    obtain ⟨its, r1, p1, _⟩ := I.tuple ha
    obtain ⟨its2, r2, p2, _⟩ := I.tuple hb
    cases r1
    exact cat_tup0 p1 p2 ⟨.ref b, H, I, rfl, q1 rfl⟩
  · exact op_catT pins s σ H _ _ _ _ Q I rx ry ⟨a, b, xs, ys, rfl, rfl, ha, hb, hx, hz, fun e => absurd e hy, fun _ => q2 hx⟩
end Lk
set_option Elab.async false
set_option linter.all false
set_option maxRecDepth 100000
set_option maxHeartbeats 4000000
set_option pp.maxSteps 1200
set_option pp.deepTerms false
namespace K6
open PySem PySem.Spec PyProof.Rows L2 Lk
theorem sub_filterG {α : Type} [DecidableEq α] {ss zs : List α} (h : ss.Sublist zs) : zs.Nodup → zs.filter (fun z => decide (z ∈ ss)) = ss := by
  induction h with
  | slnil => intro _; rfl
  | cons a h ih =>
    intro nd
    have n2 := List.nodup_cons.mp nd
    rw [List.filter_cons_of_neg (by simpa using fun m => n2.1 (h.subset m))]
    exact ih n2.2
  | @cons_cons l1 l2 a h ih =>
    intro nd
    have n2 := List.nodup_cons.mp nd
    rw [List.filter_cons_of_pos (by simp)]
    have e : l2.filter (fun z => decide (z ∈ a :: l1)) = l2.filter (fun z => decide (z ∈ l1)) := List.filter_congr fun z hz => by
      have : z ≠ a := fun e => n2.1 (e ▸ hz)
      simp [this]
    rw [e, ih n2.2]
theorem paired_fmG {α β : Type} {R : α → β → Prop} (q : β → Bool) : ∀ ys : List (α × β), (∀ z ∈ ys, R z.1 z.2) → Paired R (ys.filterMap fun y => if q y.2 = true then some y.1 else none) ((ys.map (·.2)).filter q)
  | [], _ => .nil
  | y :: ys, h => by
    have ih := paired_fmG q ys fun z hz => h z (List.mem_cons_of_mem _ hz)
    by_cases m : q y.2 = true
    · rw [List.filterMap_cons, if_pos m, List.map_cons, List.filter_cons_of_pos m]
      exact .cons (h y List.mem_cons_self) ih
    · rw [List.filterMap_cons, if_neg m, List.map_cons, List.filter_cons_of_neg m]
      exact ih
theorem strs_inV (z : Str) (ys : List Str) : inV (.str z) (ys.map V.str) = decide (z ∈ ys) := by
  rw [inV_str]
theorem fm_strs (q : Str → Bool) : ∀ zs : List Str, (zs.filterMap fun z => if q z = true then some (V.str z) else none) = (zs.filter q).map V.str
  | [] => rfl
  | z :: zs => by
    have ih := fm_strs q zs
    by_cases m : q z = true
    · rw [List.filterMap_cons, if_pos m, List.filter_cons_of_pos m, List.map_cons, ih]
    · rw [List.filterMap_cons, if_neg m, List.filter_cons_of_neg m, ih]
section
variable {P : Program} {w : World} {K : PySem.W.Frag} {mg : Str → Option Value} {base : Heap} {f : Addr} {fd : FuncData}
/-! ### is_lot, refuse_lot -/
/-- names of keepers as they are drawn -/
structure NmOk (ns : List Str) : Prop where
  nd : ns.Nodup
  k6 : ns.length ≤ 6
  ok : ∀ z ∈ ns, PyData.strOk z = true ∧ z.length ≤ 8
def LotAt (H : Hp) (t : Addr) (ys : List Str) : Prop := H t = some (.tup (ys.map V.str))
/-- the same, or a tuple that has methods -/
def LotE (H : Hp) (t : Addr) (ys : List Str) : Prop := H t = some (.tup (ys.map V.str)) ∨ TupX H t (ys.map V.str)
theorem LotE.same {H H' : Hp} {t : Addr} {ys : List Str} (h : LotE H t ys) (s : Same H H') : LotE H' t ys := h.elim (fun h => .inl (s _ _ h)) fun h => .inr (h.same s)
theorem LotE.sq {K : PySem.W.Frag} {H : Hp} {t : Addr} {ys : List Str} (h : LotE H t ys) : SqT K H t (ys.map V.str) := h.elim (fun h => SqT.of h) fun h => h.sq
theorem LotE.ty {K : PySem.W.Frag} {H : Hp} {t : Addr} {ys : List Str} (h : LotE H t ys) : TyX K H (.ref t) (.type "tuple") := h.elim (fun h => .base (.tup h)) fun h => isi_tup h
def spIsLot (C : Addr) : Sp := fun vs H Q _ => ∃ (c t : Addr) (ns ys : List Str), vs = [.ref c, .ref t] ∧ CircAt H C c ns ∧ LotE H t ys ∧ ys.Sublist ns ∧ NmOk ns ∧ ∀ H', Same H H' → Q (.bl true) H'
theorem scIsLot : FnScope ["circle", "value", "name"] ["circle", "value"] (defScope sIsLot) := ⟨rfl, rfl, rfl, by decide +kernel, rfl, by decide +kernel, by decide +kernel⟩
theorem ok_isLot {C fC : Addr} (F : Fun K "is_lot" "is_lot" sIsLot f fd) (T : Bl mg) (Cc : Cn mg) (CC : CircC K C fC) : FnOk P w K mg base CX0 1 f fd ["circle", "value"] (spIsLot C) := by
  refine F.ok scIsLot (fun vs H Q E h => ?_) (fun cdv A outer s H vs Q E hr h => ?_)
  · obtain ⟨c, t, ns, ys, rfl, _⟩ := h
    rfl
  · obtain ⟨c, t, ns, ys, rfl, ⟨cdx, nm, ec, en⟩, ht, sub, nok, k⟩ := h
    have nd := scIsLot.nd
    refine ⟨_, pss_one (ps_ret (pe_and (pe_callB call_isi (by rfl) T.isin boot_isinstance (pa_cons (pv 1) (pa_cons (pe_bltn (v := .ty "tuple") (by rfl) Cc.tuple rfl rfl) pa_nil)))
      (pe_one (pe_cmpR (op_eqD (room64 hr)) (pv 1) (pe_tupleOf (by rfl) Cc.tuple (pe_lc (own := [("name", 2)]) (g := gName 2) (tt := tTest (tOp (rIn K false) (tVar 2) (tVar 1))) (te := tVar 2) rfl nd (pi_tup (pe_fld (pv 0) rfl))
        (blkOk_by (N := ["circle", "value", "name"]) (sc := defScope sIsLot) (by decide +kernel)) (fun _ _ _ _ _ => pg_name (i := 2) nd rfl (.inl rfl)) (fun _ _ _ _ _ => pts_one (pt_cmpR op_in_seq (pv 2) (pv 1) rfl)) (fun _ _ _ _ _ => pv 2))) (nomark _))))), ?_⟩
    refine ⟨_, rfl, _, _, _, _, true, rfl, .ty _, ht.ty, by rfl, _, rfl, iteT ?_⟩
    refine ⟨_, rfl, _, rfl, c, C, cdx, _, .ref nm, rfl, ec, CC.cls, CC.nm, rfl, nm, rfl, ⟨_, en.sq⟩, fun D nD => lc_fm (walk_tup (a := nm) (xs := ns.map V.str)) ns (fun z => if decide (z ∈ ys) = true then some (V.str z) else none) (by rw [List.length_map]) (by rw [List.length_map]; have := nok.k6; omega) nD (fun H s => (en.same s).sq) ?_ ?_⟩
    · rintro i u z H2 H2' R Rn hz s2 ⟨rfl, hu⟩ k1 k2
      obtain rfl : V.str z = u := by
        rw [List.getElem?_map, hz] at hu
        exact Option.some.inj hu
      refine ⟨rfl, _, rfl, _, rfl, t, _, rfl, .inr ((ht.same s2).sq), rfl, flat_strs _, _, rfl, ?_⟩
      rw [if_neg (by decide), strs_inV]
      by_cases h : z ∈ ys
      · exact iteA (decide_eq_true h) ⟨_, rfl, k1 _ _ (if_pos (decide_eq_true h)) (Same.refl _)⟩
      · exact iteB (decide_eq_false h) (k2 _ (if_neg (by simpa using h)) (Same.refl _))
    · intro H2 s2 eD
      rw [fm_strs, sub_filterG sub nok.nd] at eD
      have yo : ∀ z ∈ ys, PyData.strOk z = true ∧ z.length ≤ 8 := fun z hz => nok.ok z (sub.subset hz)
      have sh := (nice_strs (m := 6) yo (Nat.le_trans sub.length_le nok.k6)).shaped (by decide)
      refine .inl ⟨D, _, rfl, SqL.of eD, fun q nq => ?_⟩
      have s3 : Same H2 (upd H2 q (.tup (ys.map V.str))) := same_new nq
      refine ⟨.tuple (strsD ys), .tuple (strsD ys), .tup (((ht.same s2).same s3).sq) (dp_strs ys), .tup (SqT.of upd_same) (dp_strs ys), sh, sh, ?_⟩
      have e : PyData.eqv (.tuple (strsD ys)) (.tuple (strsD ys)) = true := SeqAt.eqv_refl _ (SeqAt.canLay_of_shaped sh)
      rw [e]
      exact k _ (s2.trans s3)
def spRefLot (C : Addr) : Sp := fun vs H Q _ => ∃ (c t : Addr) (ns ys : List Str), vs = [.ref c, .ref t] ∧ CircAt H C c ns ∧ LotE H t ys ∧ ys.Sublist ns ∧ NmOk ns ∧ ∀ H', Same H H' → Q .non H'
theorem scRefLot : FnScope ["circle", "value"] ["circle", "value"] (defScope sRefLot) := ⟨rfl, rfl, rfl, by decide +kernel, rfl, by decide +kernel, by decide +kernel⟩
theorem ok_refLot {C fC f1 : Addr} {fd1 : FuncData} (F : Fun K "refuse_lot" "refuse_lot" sRefLot f fd) (T : Bl mg) (Cc : Cn mg) (CC : CircC K C fC) (F1 : Fun K "is_lot" "is_lot" sIsLot f1 fd1) (b1 : Binds K fd1 ["circle", "value"] []) (m1 : mg "is_lot" = some (.ref f1)) :
    FnOk P w K mg base CX0 2 f fd ["circle", "value"] (spRefLot C) := by
  have G1 : FnOk P w K mg base CX0 1 f1 fd1 ["circle", "value"] (spIsLot C) := ok_isLot F1 T Cc CC
  refine F.ok scRefLot (fun vs H Q E h => ?_) (fun cdv A outer s H vs Q E hr h => ?_)
  · obtain ⟨c, t, ns, ys, rfl, _⟩ := h
    rfl
  · obtain ⟨c, t, ns, ys, rfl, hc, ht, sub, nok, k⟩ := h
    refine ⟨_, pss_one (ps_if (pt_not (pt_val (pe_call G1 hr (by rfl) m1 F1.kp b1 .nil pass0 (pa_cons (pv 0) (pa_cons (pv 1) pa_nil))))) pss_no pss_nil), ?_⟩
    exact ⟨_, rfl, _, rfl, c, t, ns, ys, rfl, hc, ht, sub, nok, fun H1 s1 => ⟨_, rfl, iteB rfl (k H1 s1)⟩⟩
/-! ### spots_of -/
def spSpotsOf (C CS : Addr) : Sp := fun vs H Q _ => ∃ (x t : Addr) (L : Lore) (ys : List Str), vs = [.ref x, .ref t] ∧ ShAt H C CS x L ∧ LoreOk L ∧ LotAt H t ys ∧
  ∀ p ts H', Same H H' → H' p = some (.tup ts) → Paired (RelS H') ts ((spotsOf L.kps).filter fun s => decide (s.1 ∈ ys)) → Q (.ref p) H'
theorem scSpotsOf : FnScope ["shelf", "lot", "spot"] ["shelf", "lot"] (defScope sSpotsOf) := ⟨rfl, rfl, rfl, by decide +kernel, rfl, by decide +kernel, by decide +kernel⟩
theorem ok_spotsOf {C CS fS : Addr} (F : Fun K "spots_of" "spots_of" sSpotsOf f fd) (T : Bl mg) (Cc : Cn mg) (SC : ShC K CS fS) : FnOk P w K mg base CX0 1 f fd ["shelf", "lot"] (spSpotsOf C CS) := by
  refine F.ok scSpotsOf (fun vs H Q E h => ?_) (fun cdv A outer s H vs Q E hr h => ?_)
  · obtain ⟨x, t, L, ys, rfl, _⟩ := h
    rfl
  · obtain ⟨x, t, L, ys, rfl, sh, ok, ht, k⟩ := h
    obtain ⟨dx, fs, hx, sf, _, ⟨pS, us, lS, eS, pS2, _⟩⟩ := id sh
    have nd := scSpotsOf.nd
    have ht : H t = some (.tup (ys.map V.str)) := ht
    obtain ⟨zs, y1, y2, y3⟩ := paired_zip pS2
    have yl : zs.length ≤ 12 := by
      have h2 := spots_len L.kps fun k hk => (ok.q k hk).2.1
      have := ok.k6
      rw [← y2, List.length_map] at h2
      omega
    have ul : us.length = zs.length := by rw [← y1, List.length_map]
    refine ⟨_, pss_one (ps_ret (pe_tupleOf (by rfl) Cc.tuple (pe_lc (own := [("spot", 2)]) (g := gName 2) (tt := tTest (tOp (rIn K false) (tOp (rIxT K) (tVar 2) (tC (.int 0))) (tVar 1))) (te := tVar 2) rfl nd (pi_tup (pe_fld (pv 0) rfl))
        (blkOk_by (N := ["shelf", "lot", "spot"]) (sc := defScope sSpotsOf) (by decide +kernel)) (fun _ _ _ _ _ => pg_name (i := 2) nd rfl (.inl rfl)) (fun _ _ _ _ _ => pts_one (pt_cmpR op_in_seq (pe_ix ix_tup (pv 2) pe_int (fun _ _ => rfl)) (pv 1) rfl)) (fun _ _ _ _ _ => pv 2)))), ?_⟩
    refine ⟨_, rfl, x, CS, dx, fs, .ref pS, rfl, hx, SC.cls, SC.spots, lS, pS, rfl, ⟨_, SqT.of eS⟩, fun D nD => lc_fm (walk_tup (a := pS) (xs := us)) zs (fun y => if decide (y.2.1 ∈ ys) = true then some y.1 else none) ul.symm (by omega) nD (fun H s => sqT_same s (SqT.of eS)) ?_ ?_⟩
    · rintro i u ⟨yv, y⟩ H2 H2' R Rn hy s2 ⟨rfl, hu⟩ k1 k2
      obtain ⟨tt, et, eh⟩ := y3 _ (List.mem_of_getElem? hy)
      dsimp only at et eh
      subst et
      obtain rfl : V.ref tt = u := by
        rw [← y1, List.getElem?_map, hy] at hu
        exact Option.some.inj hu
      refine ⟨rfl, _, rfl, tt, _, _, .str y.1, rfl, rfl, SqT.of (s2 _ _ eh), at0 rfl, _, rfl, t, _, rfl, .inr (SqT.of (s2 _ _ ht)), rfl, flat_strs _, _, rfl, ?_⟩
      rw [if_neg (by decide), strs_inV]
      by_cases h : y.1 ∈ ys
      · exact iteA (decide_eq_true h) ⟨_, rfl, k1 _ _ (if_pos (decide_eq_true h)) (Same.refl _)⟩
      · exact iteB (decide_eq_false h) (k2 _ (if_neg (by simpa using h)) (Same.refl _))
    · intro H2 s2 eD
      have pf := paired_fmG (R := RelS H2) (fun s : Spot => decide (s.1 ∈ ys)) zs fun z hz => RelS.keep _ _ _ _ (.of s2) (y3 z hz)
      rw [y2] at pf
      refine .inl ⟨D, _, rfl, SqL.of eD, fun q nq => ?_⟩
      exact k q _ _ (s2.trans (same_new nq)) upd_same (Paired.mapP pf fun v s r => RelS.keep _ _ _ _ (.of (same_new nq)) r)
end
end K6
set_option Elab.async false
set_option linter.all false
set_option maxRecDepth 100000
set_option maxHeartbeats 4000000
set_option pp.maxSteps 1200
set_option pp.deepTerms false
namespace K6
open PySem PySem.Spec PyProof.Rows L2 Lk
abbrev sSpan : Stmt := top 59
abbrev RowS := RowV Spot
abbrev TabS := Tab Spot
def RelR (H : Hp) (v : V) (r : RowS) : Prop := ∃ t u, v = V.ref t ∧ H t = some (.tup [.ref u, .int ((toN r.2 : Nat) : Int)]) ∧ H u = some (.tup [.str r.1.1, .int (r.1.2 : Int)])
theorem RelR.keep (H H' : Hp) (v : V) (r : RowS) (k : Keep H H') (h : RelR H v r) : RelR H' v r := by
  obtain ⟨t, u, e, h1, h2⟩ := h
  exact ⟨t, u, e, k _ _ h1 (fun xs z => by cases z), k _ _ h2 (fun xs z => by cases z)⟩
def RelE (H : Hp) (kv : L2.Key × V) (e : Vec × List RowS) : Prop := kv.1 = .inl ((toN e.1 : Nat) : Int) ∧ ∃ q us, kv.2 = V.ref q ∧ H q = some (.tup us) ∧ Paired (RelS H) us (e.2.map (·.1))
theorem RelE.tups {H H' : Hp} {kv : L2.Key × V} {e : Vec × List RowS} (k : Tups H H') (h : RelE H kv e) : RelE H' kv e := by
  obtain ⟨h1, q, us, e1, e2, e3⟩ := h
  exact ⟨h1, q, us, e1, k _ _ e2, Paired.mapP e3 fun v s ⟨t, a, b⟩ => ⟨t, a, k _ _ b⟩⟩
theorem tups_keepB {D : Addr} {H H' : Hp} {o : HO} (hD : H D = some o) (no : ∀ xs, o ≠ .tup xs) (k : KeepB D H H') : Tups H H' := fun b xs e => k b _ (fun z => by rw [z, hD] at e; exact no xs (Option.some.inj e)) e
def DictV (H : Hp) (D : Addr) (tb : TabS) : Prop := ∃ kvs, H D = some (.dK kvs) ∧ Paired (RelE H) kvs tb
theorem dk_get {H : Hp} {n : Nat} {kvs : List (L2.Key × V)} {tb : TabS} (pr : Paired (RelE H) kvs tb) (nd : (tb.map (·.1)).Nodup) (ln : ∀ e ∈ tb, e.1.length = n) : ∀ e ∈ tb, ∃ q us, valV kvs (.inl ((toN e.1 : Nat) : Int)) = some (V.ref q) ∧ H q = some (.tup us) ∧ Paired (RelS H) us (e.2.map (·.1)) := by
  induction pr with
  | nil => intro e h; cases h
  | @cons kv e0 kvs tb h pr ih =>
    intro e he
    have n2 := List.nodup_cons.mp nd
    obtain ⟨h1, q, us, e1, e2, e3⟩ := h
    rcases List.mem_cons.mp he with rfl | he
    · exact ⟨q, us, by rw [valV_pos h1, e1], e2, e3⟩
    · have ne : ¬ kv.1 = .inl ((toN e.1 : Nat) : Int) := fun z => by
        rw [h1] at z
        have z2 : toN e0.1 = toN e.1 := Int.ofNat_inj.mp (Sum.inl.inj z)
        have z3 := toN_inj (by rw [ln e0 List.mem_cons_self, ln e (List.mem_cons_of_mem _ he)]) z2
        exact n2.1 (List.mem_map.mpr ⟨e, he, z3.symm⟩)
      obtain ⟨q, us, a, b⟩ := ih n2.2 (fun e h => ln e (List.mem_cons_of_mem _ h)) e he
      exact ⟨q, us, by rw [valV_neg ne]; exact a, b⟩
theorem dk_mem {H : Hp} {n : Nat} {kvs : List (L2.Key × V)} {tb : TabS} (pr : Paired (RelE H) kvs tb) (ln : ∀ e ∈ tb, e.1.length = n) {v : Vec} (hv : v.length = n) : (valV kvs (.inl ((toN v : Nat) : Int))).isSome = decide (v ∈ tb.map (·.1)) := by
  induction pr with
  | nil => rfl
  | @cons kv e0 kvs tb h pr ih =>
    obtain ⟨h1, _⟩ := h
    have ih := ih fun e h => ln e (List.mem_cons_of_mem _ h)
    by_cases z : v = e0.1
    · rw [valV_pos (by rw [h1, z]), z]
      simp
    · have ne : ¬ kv.1 = .inl ((toN v : Nat) : Int) := fun q => by
        rw [h1] at q
        exact z (toN_inj (by rw [ln e0 List.mem_cons_self, hv]) (Int.ofNat_inj.mp (Sum.inl.inj q))).symm
      rw [valV_neg ne, ih]
      have : (v ∈ (e0 :: tb).map (·.1)) ↔ v ∈ tb.map (·.1) := by
        rw [List.map_cons, List.mem_cons]
        exact ⟨fun h => h.resolve_left z, .inr⟩
      simp only [this]
theorem tab_few {n : Nat} {rows : List RowS} {tb : TabS} (h : TbOk n rows tb) : tb.length ≤ 2 ^ n := by
  have := h.rank
  have p : 0 < 2 ^ n := Nat.pow_pos (by decide)
  have k0 : 0 < (kerL n rows).length := by
    rcases Nat.eq_zero_or_pos (kerL n rows).length with z | z
    · rw [z, Nat.mul_zero] at this
      omega
    · exact z
  calc tb.length = tb.length * 1 := (Nat.mul_one _).symm
    _ ≤ tb.length * (kerL n rows).length := Nat.mul_le_mul_left _ k0
    _ = _ := this
section
variable {P : Program} {w : World} {K : PySem.W.Frag} {mg : Str → Option Value} {base : Heap} {f : Addr} {fd : FuncData}
def spSpan : Sp := fun vs H Q _ => ∃ (l : Addr) (ts : List V) (rows : List RowS) (n : Nat), vs = [.ref l] ∧ H l = some (.lst ts) ∧ Paired (RelR H) ts rows ∧ (∀ r ∈ rows, r.2.length = n) ∧ n ≤ 5 ∧ rows.length ≤ 12 ∧
  ∀ D H', Same H H' → H D = none → DictV H' D (tableT n rows) → Q (.ref D) H'
theorem scSpan : FnScope ["rows", "found", "spot", "code", "old"] ["rows"] (defScope sSpan) := ⟨rfl, rfl, rfl, by decide +kernel, rfl, by decide +kernel, by decide +kernel⟩
theorem ok_span (F : Fun K "span" "span" sSpan f fd) (T : Bl mg) (Cc : Cn mg) : FnOk P w K mg base CX0 1 f fd ["rows"] spSpan := by
  refine F.ok scSpan (fun vs H Q E h => ?_) (fun cdv A outer s H vs Q E hr h => ?_)
  · obtain ⟨l, ts, rows, n, rfl, _⟩ := h
    rfl
  · obtain ⟨l, ts, rows, n, rfl, hl, pr, ln, n5, r12, k⟩ := h
    have nd := scSpan.nd
    have hu := hu_of hr
    refine ⟨_, pss_cons (ps_set (i := 1) nd rfl (.inl rfl) (pe_disp (pps_cons pe_int (pe_tup pa_nil) pps_nil) rfl rfl (by simp) (by simp)))
      (pss_cons (ps_for PassesOwn.never rfl (pi_list (pv 0)) (pg_tup rfl (pgs_cons (pg_name (i := 2) nd rfl (.inl rfl)) (pgs_cons (pg_name (i := 3) nd rfl (.inl rfl)) pgs_nil)))
          (pss_one (ps_if (pt_cmp (pc_dnotin hu (pv 3) (pv 1)))
            (pss_one (ps_for PassesOwn.never rfl (pi_list (pe_callTy (call_list_dK rfl) rfl T.list boot_list (pa_cons (pv 1) pa_nil))) (pg_name (i := 4) nd rfl (.inl rfl))
              (pss_one (ps_dput hu (pv 1) (pe_op op_xor (pv 4) (pv 3)) (pe_op op_catT2 (pe_dget hu (pv 1) (pv 4) (fun _ _ => rfl)) (pe_tup (pa_cons (pv 2) pa_nil))) rfl)))) pss_nil)))
        (pss_one (ps_ret (pv 1)))), ?_⟩
    intro D nD
    refine ⟨few_ok rfl, fun e0 ne0 => ?_⟩
    have e0D : e0 ≠ D := fun z => by rw [z, upd_same] at ne0; cases ne0
    have ne0H : H e0 = none := by rw [upd_ne e0D] at ne0; exact ne0
    refine ⟨by rw [upd_ne e0D.symm, upd_same], [(.inl 0, .ref e0)], rfl, by simp, ?_⟩
    have s1 : Same H (upd (upd (upd H D (.dK [])) e0 (.tup [])) D (.dK (mergeK [] [(.inl 0, .ref e0)]))) := fun b o e => by
      rw [upd_ne (ne_of_none e nD), upd_ne (ne_of_none e ne0H), upd_ne (ne_of_none e nD)]
      exact e
    have d1 : DictV (upd (upd (upd H D (.dK [])) e0 (.tup [])) D (.dK (mergeK [] [(.inl 0, .ref e0)]))) D (tableT n (rows.take 0)) :=
      ⟨[(.inl 0, .ref e0)], upd_same, .cons ⟨by rw [toN_zero]; rfl, e0, [], rfl, by rw [upd_ne e0D, upd_same], .nil⟩ .nil⟩
    generalize upd (upd (upd H D (.dK [])) e0 (.tup [])) D (.dK (mergeK [] [(.inl 0, .ref e0)])) = H1 at s1 d1
    refine ⟨_, rfl, l, rfl, ⟨_, SqL.of (s1 _ _ hl)⟩, for_list (xs := ts) (fun i σ H' => ∃ (u v x : Option V), σ = [some (.ref l), some (.ref D), u, v, x] ∧ DictV H' D (tableT n (rows.take i)) ∧ Same H H') ?_ ?_ ?_ ?_⟩
    · exact ⟨none, none, none, rfl, d1, s1⟩
    · rintro i σ H' _ ⟨_, _, _, _, _, ss⟩
      exact SqL.of (ss _ _ hl)
    · rintro i y σ H2 hx ⟨u, v, x, rfl, ⟨kvs, eD, pk⟩, ss⟩
      obtain ⟨r, hr, t, sp, rfl, ht, hs⟩ := paired_put pr hx
      have rl : r.2.length = n := ln r (List.mem_of_getElem? hr)
      have tbo : TbOk n (rows.take i) (tableT n (rows.take i)) := table_ok fun q hq => ln q (List.mem_of_mem_take hq)
      have tbs := tb_step tbo rl
      have nx : tableT n (rows.take (i + 1)) = stepT (tableT n (rows.take i)) r := by
        unfold tableT
        rw [List.take_add_one, hr, Option.toList_some, List.foldl_append]
        rfl
      rw [nx]
      have few := tab_few tbo
      have p5 : 2 ^ n ≤ 32 := Nat.le_trans (Nat.pow_le_pow_right (by decide) n5) (by decide)
      generalize hT : tableT n (rows.take i) = tb at pk tbo tbs few
      refine ⟨t, _, rfl, SqT.of (ss _ _ ht), rfl, _, _, rfl, _, _, rfl, rfl, ?_⟩
      refine ⟨_, rfl, _, rfl, D, _, rfl, DGet.k (k := .inl ((toN r.2 : Nat) : Int)) eD, _, rfl, ?_⟩
      rw [dk_mem pk tbo.len rl]
      by_cases hc : r.2 ∈ tb.map (·.1)
      · refine iteB (by rw [decide_eq_true hc]; rfl) ⟨_, _, _, rfl, ⟨kvs, eD, ?_⟩, ss⟩
        have : stepT tb r = tb := if_pos hc
        rw [this]
        exact pk
      · refine iteA (by rw [decide_eq_false hc]; rfl) ?_
        have st : stepT tb r = tb ++ tb.map fun e => (vx e.1 r.2, e.2 ++ [r]) := if_neg hc
        rw [st] at tbs ⊢
        have kl : kvs.length = tb.length := Paired.length pk
        refine ⟨_, rfl, D, kvs, rfl, eD, fun q nq => ?_⟩
        have qD : q ≠ D := fun z => by rw [z, eD] at nq; cases nq
        have s3 : Same H2 (upd H2 q (.lst (kvs.map fun kv => kV kv.1))) := same_new nq
        have eq3 : upd H2 q (.lst (kvs.map fun kv => kV kv.1)) q = some (.lst (kvs.map fun kv => kV kv.1)) := upd_same
        have eD3 := s3 _ _ eD
        have pk3 : Paired (RelE (upd H2 q (.lst (kvs.map fun kv => kV kv.1)))) kvs tb := Paired.mapP pk fun a b h => h.tups (.of s3)
        have sH3 := ss.trans s3
        generalize upd H2 q (.lst (kvs.map fun kv => kV kv.1)) = H3 at s3 eq3 eD3 pk3 sH3
        refine ⟨q, rfl, ⟨_, SqL.of eq3⟩, for_list (xs := kvs.map fun kv => kV kv.1) (fun j σ H' => ∃ (x : Option V) (kvs' : List (L2.Key × V)), σ = [some (.ref l), some (.ref D), some (.ref sp), some (.int ((toN r.2 : Nat) : Int)), x] ∧ H' q = some (.lst (kvs.map fun kv => kV kv.1)) ∧ H' D = some (.dK kvs') ∧
            Paired (RelE H') kvs' (tb ++ (tb.take j).map fun e => (vx e.1 r.2, e.2 ++ [r])) ∧ Same H H') ?_ ?_ ?_ ?_⟩
        · exact ⟨x, kvs, rfl, eq3, eD3, by rw [List.take_zero, List.map_nil, List.append_nil]; exact pk3, sH3⟩
        · rintro j σ H' _ ⟨_, _, _, h, _⟩
          exact SqL.of h
        · rintro j y σ H4 hy ⟨x, kvs', rfl, eq4, eD4, pk4, s4⟩
          have jl : j < tb.length := by
            have := (List.getElem?_eq_some_iff.mp hy).1
            rw [List.length_map] at this
            omega
          obtain ⟨e, he⟩ : ∃ e, tb[j]? = some e := ⟨_, List.getElem?_eq_getElem jl⟩
          obtain ⟨kv, hkv, hk1, _⟩ := paired_get pk he
          obtain rfl : V.int ((toN e.1 : Nat) : Int) = y := by
            rw [List.getElem?_map, hkv] at hy
            have := Option.some.inj hy
            rw [← this]
            show V.int _ = kV kv.1
            rw [hk1]
            rfl
          have em : e ∈ tb := List.mem_of_getElem? he
          have el : e.1.length = n := tbo.len e em
          -- what is known of the table so far
          have subT : (tb ++ (tb.take (j + 1)).map fun e => (vx e.1 r.2, e.2 ++ [r])).Sublist (tb ++ tb.map fun e => (vx e.1 r.2, e.2 ++ [r])) :=
            List.Sublist.append (List.Sublist.refl _) ((List.take_sublist _ _).map _)
          have nxt : (tb ++ (tb.take (j + 1)).map fun e => (vx e.1 r.2, e.2 ++ [r])) = (tb ++ (tb.take j).map fun e => (vx e.1 r.2, e.2 ++ [r])) ++ [(vx e.1 r.2, e.2 ++ [r])] := by
            rw [List.take_add_one, he, Option.toList_some, List.map_append, List.append_assoc]
            rfl
          have ndn := tbs.nd.sublist (subT.map (·.1))
          rw [nxt, List.map_append, List.nodup_append] at ndn
          have ln4 : ∀ e ∈ tb ++ (tb.take j).map fun e => (vx e.1 r.2, e.2 ++ [r]), e.1.length = n := fun e h => tbs.len e (subT.subset (by rw [nxt]; exact List.mem_append_left _ h))
          obtain ⟨qe, us, ve, he1, he2⟩ := dk_get pk4 ndn.1 ln4 e (List.mem_append_left _ em)
          have vl : (vx e.1 r.2).length = n := vx_len el rl
          have no : valV kvs' (.inl ((toN (vx e.1 r.2) : Nat) : Int)) = none := by
            have := dk_mem pk4 ln4 vl
            rw [decide_eq_false (fun h => ndn.2.2 _ h _ (List.mem_singleton.mpr rfl) rfl)] at this
            cases z : valV kvs' (.inl ((toN (vx e.1 r.2) : Nat) : Int)) with
            | none => rfl
            | some o => rw [z] at this; cases this
          have kl4 : kvs'.length ≤ 64 := by
            have := Paired.length pk4
            rw [List.length_append, List.length_map, List.length_take] at this
            omega
          have ul : us.length ≤ 12 := by
            have h1 := Paired.length he2
            rw [List.length_map] at h1
            have h2 := (tbo.sums e em).1.length_le
            rw [List.length_take] at h2
            omega
          have sp4 := s4 _ _ hs
          -- the new entry
          have fin : ∀ (p : Addr) (H5 : Hp), Same H4 H5 → H5 p = some (.tup (us ++ [.ref sp])) → (∃ a H6, V.ref D = .ref a ∧ DPut H5 a (.int (Builtin.bitXor ((toN e.1 : Nat) : Int) ((toN r.2 : Nat) : Int))) (.ref p) H6 ∧ ∃ (x : Option V) (kvs' : List (L2.Key × V)), [some (V.ref l), some (.ref D), some (.ref sp), some (.int ((toN r.2 : Nat) : Int)), some (.int ((toN e.1 : Nat) : Int))] = [some (.ref l), some (.ref D), some (.ref sp), some (.int ((toN r.2 : Nat) : Int)), x] ∧ H6 q = some (.lst (kvs.map fun kv => kV kv.1)) ∧ H6 D = some (.dK kvs') ∧
              Paired (RelE H6) kvs' (tb ++ (tb.take (j + 1)).map fun e => (vx e.1 r.2, e.2 ++ [r])) ∧ Same H H6) := fun p H5 s5 ep => by
            have eD5 := s5 _ _ eD4
            rw [xor_codes (by rw [el, rl])]
            refine ⟨D, _, rfl, DPut.k (k := .inl ((toN (vx e.1 r.2) : Nat) : Int)) eD5 (by rw [sizeLine_eq]; omega), some _, _, rfl, ?_, upd_same, ?_, fun b o h => ?_⟩
            · rw [upd_ne qD]
              exact s5 _ _ eq4
            · rw [putK_new _ no, nxt]
              have kb : KeepB D H4 (upd H5 D (.dK (kvs' ++ [(.inl ((toN (vx e.1 r.2) : Nat) : Int), .ref p)]))) := fun b o nb h => by
                rw [upd_ne nb]
                exact s5 _ _ h
              have tk := tups_keepB eD4 (fun xs z => by cases z) kb
              have pD : p ≠ D := fun z => by rw [z, eD5] at ep; cases ep
              refine Paired.add (Paired.mapP pk4 fun a b h => h.tups tk) ⟨rfl, p, us ++ [.ref sp], rfl, by rw [upd_ne pD]; exact ep, ?_⟩
              show Paired _ (us ++ [V.ref sp]) ((e.2 ++ [r]).map (·.1))
              rw [List.map_append]
              exact Paired.add (Paired.mapP he2 fun v s ⟨t, a, b⟩ => ⟨t, a, tk _ _ b⟩) ⟨sp, rfl, tk _ _ sp4⟩
            · rw [upd_ne (ne_of_none h nD)]
              exact s5 _ _ (s4 _ _ h)
          refine ⟨_, rfl, _, rfl, D, _, rfl, by rw [← ve]; exact DGet.k (k := .inl ((toN e.1 : Nat) : Int)) eD4, _, rfl, few_ok rfl, fun o no1 => ?_⟩
          have s5 : Same H4 (upd H4 o (.tup [.ref sp])) := same_new no1
          refine ⟨qe, o, us, [.ref sp], rfl, rfl, SqT.of (s5 _ _ he1), SqT.of upd_same, by simp, by rw [sizeLine_eq]; show us.length + 1 ≤ _; omega, fun e0 => ?_, fun _ p np => ?_⟩
          · exact ⟨_, rfl, _, rfl, _, rfl, _, _, rfl, rfl, fin o _ s5 (by rw [e0]; exact upd_same)⟩
          · exact ⟨_, rfl, _, rfl, _, rfl, _, _, rfl, rfl, fin p _ (s5.trans (same_new np)) upd_same⟩
        · rintro σ H4 ⟨x, kvs', rfl, eq4, eD4, pk4, s4⟩
          rw [List.length_map, kl, List.take_length] at pk4
          exact ⟨_, _, _, rfl, ⟨kvs', eD4, pk4⟩, s4⟩
    · rintro σ H2 ⟨u, v, x, rfl, d2, ss⟩
      rw [Paired.length pr, List.take_length] at d2
      exact ⟨_, rfl, k D H2 ss nD d2⟩
end
end K6
set_option Elab.async false
set_option linter.all false
set_option maxRecDepth 100000
set_option maxHeartbeats 4000000
set_option pp.maxSteps 1200
set_option pp.deepTerms false
namespace K6
open PySem PySem.Spec PyProof.Rows L2 Lk
abbrev sReach : Stmt := top 60
/-- spots with the codes of their pieces -/
def rowsC (L : Lore) (ss : List Spot) : List RowS := ss.map fun s => (s, codeS L s)
def tabC (L : Lore) (ss : List Spot) : TabS := tableT L.parts.length (rowsC L ss)
/-- the spots of some keepers -/
def spotsIn (L : Lore) (ys : List Str) : List Spot := (spotsOf L.kps).filter fun s => decide (s.1 ∈ ys)
theorem rowsC_len {L : Lore} {ss : List Spot} : ∀ r ∈ rowsC L ss, r.2.length = L.parts.length := fun r hr => by
  obtain ⟨s, _, rfl⟩ := List.mem_map.mp hr
  exact vecP_len _ _
theorem spots12 {L : Lore} (ok : LoreOk L) : (spotsOf L.kps).length ≤ 12 := by
  have h2 := spots_len L.kps fun k hk => (ok.q k hk).2.1
  have := ok.k6
  omega
theorem nmOk {L : Lore} (ok : LoreOk L) : NmOk (L.kps.map (·.1)) := by
  refine ⟨ok.kn, by rw [List.length_map]; exact ok.k6, fun z hz => ?_⟩
  obtain ⟨k, hk, rfl⟩ := List.mem_map.mp hz
  have h : ∀ p ∈ namePool, PyData.strOk p = true ∧ p.length ≤ 8 := by decide +kernel
  exact h _ (ok.kp k hk)
section
variable {P : Program} {w : World} {K : PySem.W.Frag} {mg : Str → Option Value} {base : Heap} {f : Addr} {fd : FuncData}
/-! ### reach -/
def spReach (C CS : Addr) : Sp := fun vs H Q _ => ∃ (x p : Addr) (L : Lore) (ts : List V) (ss : List Spot), vs = [.ref x, .ref p] ∧ ShAt H C CS x L ∧ LoreOk L ∧ H p = some (.tup ts) ∧ Paired (RelS H) ts ss ∧ ss.Sublist (spotsOf L.kps) ∧
  ∀ D H', Same H H' → DictV H' D (tabC L ss) → Q (.ref D) H'
theorem scReach : FnScope ["shelf", "spots", "spot"] ["shelf", "spots"] (defScope sReach) := ⟨rfl, rfl, rfl, by decide +kernel, rfl, by decide +kernel, by decide +kernel⟩
theorem ok_reach {C CS fS f1 : Addr} {fd1 : FuncData} (F : Fun K "reach" "reach" sReach f fd) (T : Bl mg) (Cc : Cn mg) (SC : ShC K CS fS) (F1 : Fun K "span" "span" sSpan f1 fd1) (b1 : Binds K fd1 ["rows"] []) (m1 : mg "span" = some (.ref f1)) :
    FnOk P w K mg base CX0 2 f fd ["shelf", "spots"] (spReach C CS) := by
  have G1 : FnOk P w K mg base CX0 1 f1 fd1 ["rows"] spSpan := ok_span F1 T Cc
  refine F.ok scReach (fun vs H Q E h => ?_) (fun cdv A outer s H vs Q E hr h => ?_)
  · obtain ⟨x, p, L, ts, ss, rfl, _⟩ := h
    rfl
  · obtain ⟨x, p, L, ts, ss, rfl, sh, ok, hp, pr, sub, k⟩ := h
    obtain ⟨dx, fs, hx, sf, _, _, _, _, _, _, D, kvs, lD, eD, vD⟩ := id sh
    have nd := scReach.nd
    have hu := hu_of hr
    obtain ⟨zs, z1, z2, z3⟩ := paired_zip pr
    have sl : ss.length ≤ 12 := Nat.le_trans sub.length_le (spots12 ok)
    have zl : zs.length = ss.length := by rw [← z2, List.length_map]
    refine ⟨_, pss_one (ps_ret (pe_call G1 hr (by rfl) m1 F1.kp b1 .nil pass0 (pa_cons (pe_lc (own := [("spot", 2)]) (g := gName 2) (tt := tYes) (te := tTup (tCons (tVar 2) (tCons (tDGet (tFld K (tVar 0) "codes") (tVar 2)) tNil))) rfl nd (pi_tup (pv 1))
        (blkOk_by (N := ["shelf", "spots", "spot"]) (sc := defScope sReach) (by decide +kernel)) (fun _ _ _ _ _ => pg_name (i := 2) nd rfl (.inl rfl)) (fun _ _ _ _ _ => pts_nil) (fun _ _ _ _ _ => pe_tup (pa_cons (pv 2) (pa_cons (pe_dget hu (pe_fld (pv 0) rfl) (pv 2) (fun _ _ => rfl)) pa_nil)))) pa_nil))), ?_⟩
    refine ⟨_, rfl, p, rfl, ⟨_, SqT.of hp⟩, fun D1 nD1 => lc_relQ (walk_tup (a := p) (xs := ts)) nD1 zs (·.1) (fun z => ((z.2, codeS L z.2) : RowS)) RelR RelR.keep z1.symm (by omega) (fun H s => sqT_same s (SqT.of hp)) ?_ ?_⟩
    · rintro i ⟨zv, s⟩ H1 R hz s1 kk
      obtain ⟨t, et, eh⟩ := z3 _ (List.mem_of_getElem? hz)
      dsimp only at et eh
      subst et
      have sm : s ∈ ss := by rw [← z2]; exact List.mem_map.mpr ⟨_, List.mem_of_getElem? hz, rfl⟩
      have vs := vD s (sub.subset sm)
      have eh1 := s1 _ _ eh
      refine ⟨rfl, _, rfl, _, rfl, x, CS, dx, fs, .ref D, rfl, s1 _ _ hx, SC.cls, SC.codes, lD, _, rfl, D, _, rfl, by rw [← vs]; exact DGet.t (k := keyS s) (s1 _ _ eD) eh1, few_ok rfl, fun q nq => ?_⟩
      exact kk _ _ (same_new nq) ⟨q, t, rfl, upd_same, same_new nq _ _ eh1⟩
    · intro H1 us s1 eD1 pu
      have pu2 : Paired (RelR H1) us (rowsC L ss) := by
        have e : zs.map (fun z => ((z.2, codeS L z.2) : RowS)) = rowsC L ss := by
          unfold rowsC
          rw [← z2, List.map_map]
          rfl
        rw [← e]
        exact pu
      exact ⟨D1, us, rowsC L ss, L.parts.length, rfl, eD1, pu2, rowsC_len, by have := ok.p4; omega, by unfold rowsC; rw [List.length_map]; exact sl, fun D2 H2 s2 _ d2 => k D2 H2 (s1.trans s2) d2⟩
/-! ### unlike -/
/-! ### is_sum_of -/
end
end K6
set_option Elab.async false
set_option linter.all false
set_option maxRecDepth 100000
set_option maxHeartbeats 4000000
set_option pp.maxSteps 1200
set_option pp.deepTerms false
namespace K6
open PySem PySem.Spec PyProof.Rows L2 Lk
abbrev sIsSilent : Stmt := top 61
theorem one49 : ("1" : Str) = ⟨#[49]⟩ := by decide +kernel
theorem in_stv (v : Vec) : decide (49 ∈ (stv v).cps.toList) = decide (true ∈ v) := by
  have h : (49 ∈ (stv v).cps.toList) ↔ true ∈ v := by
    have : (stv v).cps.toList = v.map bC := tl_stv v
    rw [this, List.mem_map]
    constructor
    · rintro ⟨b, hb, e⟩
      cases b with
      | true => exact hb
      | false => cases e
    · intro h
      exact ⟨true, h, rfl⟩
  simp only [h]
theorem join_stv (vs : List Vec) : Txt.join "" (vs.map stv) = stv vs.flatten := by
  refine TL.ext_tl ?_
  rw [join_nil, tl_stv, List.map_map]
  induction vs with
  | nil => rfl
  | cons v vs ih =>
    rw [List.map_cons, List.flatten_cons, ih, List.flatten_cons, List.map_append]
    rfl
/-- whether a record is 1 somewhere while the answers of the keepers are all 0 -/
def lostB (L : Lore) (ks : List KP) (v : Vec) : Bool := decide (true ∈ v) && !decide (true ∈ ks.flatMap fun k => ansV L k v)
theorem ansV_len (L : Lore) (k : KP) (v : Vec) : (ansV L k v).length = k.2.length := List.length_map ..
section
variable {P : Program} {w : World} {K : PySem.W.Frag} {mg : Str → Option Value} {base : Heap} {f : Addr} {fd : FuncData}
/-! ### is_silent -/
def spIsSilent (C CS : Addr) : Sp := fun vs H Q _ => ∃ (x t : Addr) (L : Lore) (ks : List KP) (v : Vec), vs = [.ref x, .ref t, .str (stv v)] ∧ ShAt H C CS x L ∧ LoreOk L ∧ LotAt H t (ks.map (·.1)) ∧ ks.Sublist L.kps ∧ v.length = L.parts.length ∧ ∀ H', Same H H' → Q (.bl (!decide (true ∈ ks.flatMap fun k => ansV L k v))) H'
theorem scIsSilent : FnScope ["shelf", "lot", "record", "keeper"] ["shelf", "lot", "record"] (defScope sIsSilent) := ⟨rfl, rfl, rfl, by decide +kernel, rfl, by decide +kernel, by decide +kernel⟩
theorem ok_isSilent {C CS f1 : Addr} {fd1 : FuncData} (F : Fun K "is_silent" "is_silent" sIsSilent f fd)
    (G1 : FnOk P w K mg base CX0 4 f1 fd1 ["shelf", "keeper", "record"] (spAnswer C CS)) (k1 : PySem.W.keepIn K (.ref f1) = true) (b1 : Binds K fd1 ["shelf", "keeper", "record"] []) (m1 : mg "answer" = some (.ref f1)) :
    FnOk P w K mg base CX0 5 f fd ["shelf", "lot", "record"] (spIsSilent C CS) := by
  refine F.ok scIsSilent (fun vs H Q E h => ?_) (fun cdv A outer s H vs Q E hr h => ?_)
  · obtain ⟨x, t, L, ks, v, rfl, _⟩ := h
    rfl
  · obtain ⟨x, t, L, ks, v, rfl, sh, ok, ht, sub, vl, k⟩ := h
    have nd := scIsSilent.nd
    have ht : H t = some (.tup ((ks.map (·.1)).map V.str)) := ht
    have kl : ks.length ≤ 6 := Nat.le_trans sub.length_le ok.k6
    refine ⟨_, pss_one (ps_ret (pe_cmpR op_notIn_sign pe_str (pe_join pe_str (pe_lc (own := [("keeper", 3)]) (g := gName 3) (tt := tYes) (te := tCall (spAnswer C CS) [] E0 (tCons (tVar 0) (tCons (tVar 3) (tCons (tVar 2) tNil)))) rfl nd (pi_tup (pv 1))
        (blkOk_by (N := ["shelf", "lot", "record", "keeper"]) (sc := defScope sIsSilent) (by decide +kernel)) (fun _ _ _ _ _ => pg_name (i := 3) nd rfl (.inl rfl)) (fun _ _ _ _ _ => pts_nil) (fun _ _ _ _ _ => pe_call G1 hr (by rfl) m1 k1 b1 .nil pass0 (pa_cons (pv 0) (pa_cons (pv 3) (pa_cons (pv 2) pa_nil)))))) rfl)), ?_⟩
    refine ⟨⟨_, rfl⟩, _, rfl, t, rfl, ⟨_, SqT.of ht⟩, fun D nD => lc_fm (walk_tup (a := t) (xs := (ks.map (·.1)).map V.str)) ks (fun k => some (.str (stv (ansV L k v)))) (by rw [List.length_map, List.length_map]) (by rw [List.length_map, List.length_map]; omega) nD (fun H s => sqT_same s (SqT.of ht)) ?_ ?_⟩
    · rintro i u kq H2 H2' R Rn hk s2 ⟨rfl, hu⟩ k1 k2
      obtain rfl : V.str kq.1 = u := by
        rw [List.getElem?_map, List.getElem?_map, hk] at hu
        exact Option.some.inj hu
      obtain ⟨j, hj⟩ := List.mem_iff_getElem?.mp (sub.subset (List.mem_of_getElem? hk))
      refine ⟨rfl, _, rfl, _, rfl, _, rfl, x, L, j, kq, stv v, rfl, sh.same s2, ok, hj, recOk_stv vl, fun H3 s3 => ?_⟩
      rw [answer_stv vl]
      exact k1 _ _ rfl s3
    · intro H2 s2 eD
      have fe : (ks.filterMap fun k => some (V.str (stv (ansV L k v)))) = ((ks.map fun k => ansV L k v).map stv).map V.str := by
        simp [Function.comp_def]
      rw [fe] at eD
      refine ⟨"", D, (ks.map fun k => ansV L k v).map stv, rfl, rfl, .inl (SqL.of eD), ?_, ?_⟩
      · refine Nat.le_trans (join_le (s := ("" : Str)) (n := 6) (c := 2) (by rw [List.length_map, List.length_map]; exact kl) fun y hy => ?_).1 (by decide)
        obtain ⟨z, hz, rfl⟩ := List.mem_map.mp hy
        obtain ⟨k, hk, rfl⟩ := List.mem_map.mp hz
        rw [stv_len, ansV_len]
        exact (ok.q k (sub.subset hk)).2.1
      · rw [join_stv]
        refine ⟨49, _, by rw [one49], rfl, ?_⟩
        rw [in_stv, ← List.flatMap_def]
        exact k H2 s2
/-! ### is_lost -/
def spIsLost (C CS : Addr) : Sp := fun vs H Q _ => ∃ (x t : Addr) (L : Lore) (ks : List KP) (v : Vec), vs = [.ref x, .ref t, .str (stv v)] ∧ ShAt H C CS x L ∧ LoreOk L ∧ LotAt H t (ks.map (·.1)) ∧ ks.Sublist L.kps ∧ v.length = L.parts.length ∧ ∀ H', Same H H' → Q (.bl (lostB L ks v)) H'
/-! ### lost_record -/
def spLostRec (C CS : Addr) : Sp := fun vs H Q _ => ∃ (x t : Addr) (L : Lore) (ks : List KP), vs = [.ref x, .ref t] ∧ ShAt H C CS x L ∧ LoreOk L ∧ LotAt H t (ks.map (·.1)) ∧ ks.Sublist L.kps ∧ (∃ v : Vec, v.length = L.parts.length ∧ lostB L ks v = true) ∧ ∀ v H', v.length = L.parts.length → lostB L ks v = true → Same H H' → Q (.str (stv v)) H'
theorem recs16 {L : Lore} (ok : LoreOk L) : (vL L.parts.length).length ≤ 16 := by
  rw [vL_len]
  exact Nat.le_trans (Nat.pow_le_pow_right (by decide) ok.p4) (by decide)
/-! ### brings -/
/-- whether the spots of the keepers tell each part -/
def backB (L : Lore) (ks : List KP) : Bool := (List.range L.parts.length).all fun i => decide (unitV L.parts.length i ∈ (tabC L (spotsIn L (ks.map (·.1)))).map (·.1))
end
end K6
set_option Elab.async false
set_option linter.all false
set_option maxRecDepth 100000
set_option maxHeartbeats 4000000
/-! Part U: enumerate of a text. -/
namespace Lk
open PySem PySem.Spec PyProof.Rows L2
/-- the signs of a text, each in a new pair with its place -/
def ItE (z : Str) : It :=
  ⟨fun i _ => i < z.cps.size, fun i H v H' => ∃ T c, v = .ref T ∧ H T = none ∧ z.cps[i]? = some c ∧ H' = upd H T (.tup [.int (i : Nat), .str ⟨#[c]⟩]), fun i _ => z.cps.size ≤ i⟩
theorem turn_enumT {P : Program} {w : World} {K : PySem.W.Frag} {elts : List Expr} {kk : Nat} {tpos : Pos} (e it : Addr) (z : Str) (t : Tok) :
    Turn P w K (.Tuple elts kk tpos) (ItE z) [e, it] e (fun i h => i ≤ z.cps.size ∧ (∃ old, IsEnum h e it ((i : Nat) : Int) old) ∧ h.IsStrIter it (strIterType z) z t i ∧ e ≠ it) where
  mem := by simp
  obj := fun i h st b hb => by
    obtain ⟨_, ⟨old, he⟩, ⟨o, ho, hc, hd⟩, _⟩ := st
    have e' : b = e ∨ b = it := by simpa using hb
    rcases e' with z | z
    · rw [z]; exact ⟨_, he, fun v q => nomatch q⟩
    · rw [z]; exact ⟨o, ho, fun v q => by rw [hd] at q; cases q⟩
  keep := fun i h h' st k => let ⟨le, ⟨old, he⟩, ⟨o, ho, r⟩, hne⟩ := st; ⟨le, ⟨old, k e (by simp) _ he⟩, ⟨o, k it (by simp) _ ho, r⟩, hne⟩
  item := by
    intro X hP hw hK hc i pins s σ H E I hf st hg
    subst hP hw hK
    obtain ⟨le, ⟨old, he⟩, hit, hne⟩ := st
    have hg : i < z.cps.size := hg
    have hel : e < s.heap.objs.size := Heap.lt_size he
    have hil : it < s.heap.objs.size := by obtain ⟨_, q, _⟩ := hit; exact Heap.lt_size q
    refine wpAny_pyNext_enum_itemD (Draws.text (prog := X.prog) (w := X.w) (A := X.A.in1) (I.ok.hd hc) it z t) he hit hg hne (by simpa using hne) fun x h' tk px ho hit' hT hsz hk => ?_
    obtain ⟨c, u, hcx, rfl⟩ := px
    refine ⟨_, rfl, wpAny_letOwnedTupleGo_enum (s := { s with heap := h', toks := tk + 1 }) ho fun h'' he' sb => ?_⟩
    have hT2 := (sb.2 _ (Nat.ne_of_gt hel)).trans hT
    have new : ObjOk X.prog X.w (upd H s.heap.objs.size (.tup [.int (i : Nat), .str ⟨#[c]⟩])) h'' s.heap.objs.size (.tup [.int (i : Nat), .str ⟨#[c]⟩]) :=
      ⟨by show 2 ≤ sizeLine; decide, [.int i tk, .str ⟨#[c]⟩ u], .cons ⟨_, rfl⟩ (.cons ⟨_, rfl⟩ .nil), ⟨_, hT2, rfl, _, rfl⟩⟩
    have I1 : Inv X pins σ (upd H s.heap.objs.size (.tup [.int (i : Nat), .str ⟨#[c]⟩])) { s with heap := h'', toks := tk + 1 } :=
      I.turnedNew (ch := [e, it]) (fun b ob hb q => (sb.2 b (fun z => hb (by simp [z]))).trans (hk b ob (fun z => hb (by simp [z])) (fun z => hb (by simp [z])) q)) hf (Nat.le_refl _) new
    refine ⟨.ref s.heap.objs.size, _, I1, rfl, ⟨_, c, rfl, I.hok.fresh (Nat.le_refl _), hcx, rfl⟩, ⟨hg, ⟨.str ⟨#[c]⟩ u, ?_⟩, ?_, hne⟩, fun b hb => ?_⟩
    · have e1 : ((i + 1 : Nat) : Int) = (i : Int) + 1 := by omega
      rw [e1]; exact he'
    · obtain ⟨o, ho2, r⟩ := hit'
      exact ⟨o, (sb.2 it (Ne.symm hne)).trans ho2, r⟩
    · have hb' : b < s.heap.objs.size := by
        have e' : b = e ∨ b = it := by simpa using hb
        rcases e' with z | z
        · rw [z]; exact hel
        · rw [z]; exact hil
      rw [upd_ne (Nat.ne_of_lt hb')]
      exact (hf b hb).1
  done := by
    intro X hP hw hK hc i pins s σ H E I hf st hg
    subst hP hw hK
    obtain ⟨le, ⟨old, he⟩, hit, hne⟩ := st
    have hg : z.cps.size ≤ i := hg
    obtain rfl : i = z.cps.size := by omega
    obtain ⟨f0, f1, f2, f3, f4, f5⟩ := hf it (by simp)
    exact wpAny_pyNext_enum_endD (Draws.text (prog := X.prog) (w := X.w) (A := X.A.in1) (I.ok.hd hc) it z t) he hit fun h' eb => ⟨rfl, I.turned (t' := s.toks) (fun b o hb q => eb b o hb q) f0 f1 f3 f4 f5⟩
  self := fun A i s Q E st h => let ⟨_, ⟨_, he⟩, _⟩ := st; wpAny_pyIter_enum he h
def iEnumT (ta : TA) : TI := fun σ H R => ta σ H fun vs H1 => ∃ z, vs = [.str z] ∧ R (ItE z) H1
theorem pi_enumT {X : Cx} {e : Expr} {ta : TA} {p pos tpos : Pos} {elts : List Expr} {kk : Nat} (hg : Gl X "enumerate") (hm : X.mg "enumerate" = none) (ha : PA X [e] ta) (hs : starEach [e] X.env = [(false, eval e X.env)] := by rfl) :
    PI X (.Tuple elts kk tpos) (.Call (.Name "enumerate" p) [e] [] pos) (iEnumT ta) := by
  refine ⟨fun pins s σ H R I h => ?_⟩
  refine Call_ (ld_blt I hg hm boot_enumerate (PyProof.Rows.callWith_type1 (thn (ha.run pos pins s σ H _ I h) fun us s1 ⟨vs, H1, I1, r1, q1⟩ => ?_) hs rfl))
  obtain ⟨z, ex, q⟩ := q1
  subst ex
  cases r1 with
  | cons r rr =>
    cases rr
    obtain ⟨t, rfl⟩ := r
    refine call_enumerate_str fun h' he hit hsz hk => wpAny_pyIter_enum he ?_
    have I2 : Inv X pins σ H1 { s1 with heap := h' } := I1.kept (t' := s1.toks) hk
    refine ⟨s1.heap.objs.size + 1, [s1.heap.objs.size + 1, s1.heap.objs.size], _, _, H1, rfl, I2, turn_enumT (s1.heap.objs.size + 1) s1.heap.objs.size z t, ⟨Nat.zero_le _, ⟨.none, he⟩, hit, Nat.succ_ne_self _⟩, fun b hb => ?_, q⟩
    have e' : b = s1.heap.objs.size + 1 ∨ b = s1.heap.objs.size := by simpa using hb
    have hle : s1.heap.objs.size ≤ b := by
      rcases e' with z | z
      · rw [z]; exact Nat.le_add_right _ _
      · rw [z]; exact Nat.le_refl _
    exact I1.fpOk hle (I1.hok.fresh hle)
theorem walk_enumT {z : Str} : Walk (ItE z) z.cps.size (fun _ => True) (fun i H v H' => ∃ T c, v = .ref T ∧ H T = none ∧ z.cps[i]? = some c ∧ H' = upd H T (.tup [.int (i : Nat), .str ⟨#[c]⟩])) :=
  ⟨fun i _ hi _ => hi, fun _ _ => Nat.le_refl _, fun _ _ _ _ _ _ y => y⟩
end Lk
set_option Elab.async false
set_option linter.all false
set_option maxRecDepth 100000
set_option maxHeartbeats 4000000
set_option pp.maxSteps 1200
set_option pp.deepTerms false
namespace K6
open PySem PySem.Spec PyProof.Rows L2 Lk
abbrev Ans := List (KP × Vec)
structure AnsOk (L : Lore) (As : Ans) : Prop where
  sub : (As.map (·.1)).Sublist L.kps
  len : ∀ a ∈ As, a.2.length = a.1.2.length
def RelA (H : Hp) (v : V) (a : KP × Vec) : Prop := ∃ t, v = V.ref t ∧ H t = some (.tup [.str a.1.1, .str (stv a.2)])
theorem RelA.keep (H H' : Hp) (v : V) (a : KP × Vec) (k : Keep H H') (h : RelA H v a) : RelA H' v a := by
  obtain ⟨t, e, h⟩ := h
  exact ⟨t, e, k _ _ h fun xs z => by cases z⟩
/-- a tuple, with a dict of its own or surely without -/
def TupE (H : Hp) (r : Addr) (ts : List V) : Prop := H r = some (.tup ts) ∨ TupX H r ts
theorem TupE.same {H H' : Hp} {r : Addr} {ts : List V} (h : TupE H r ts) (s : Same H H') : TupE H' r ts := h.elim (fun h => .inl (s _ _ h)) fun h => .inr (h.same s)
theorem TupE.sq {K : PySem.W.Frag} {H : Hp} {r : Addr} {ts : List V} (h : TupE H r ts) : SqT K H r ts := h.elim (fun h => SqT.of h) fun h => h.sq
theorem TupE.ty {K : PySem.W.Frag} {H : Hp} {r : Addr} {ts : List V} (h : TupE H r ts) : TyX K H (.ref r) (.type "tuple") := h.elim (fun h => .base (.tup h)) fun h => isi_tup h
def AnsAt (H : Hp) (r : Addr) (As : Ans) : Prop := ∃ ts, TupE H r ts ∧ Paired (RelA H) ts As
theorem AnsAt.same {H H' : Hp} {r : Addr} {As : Ans} (h : AnsAt H r As) (s : Same H H') : AnsAt H' r As := by
  obtain ⟨ts, e, p⟩ := h
  exact ⟨ts, e.same s, Paired.mapP p fun v a r => RelA.keep _ _ _ _ (.of s) r⟩
theorem AnsOk.six {L : Lore} {As : Ans} (ok : LoreOk L) (h : AnsOk L As) : As.length ≤ 6 := by
  have := h.sub.length_le
  rw [List.length_map] at this
  exact Nat.le_trans this ok.k6
theorem AnsOk.mem {L : Lore} {As : Ans} (h : AnsOk L As) {a : KP × Vec} (ha : a ∈ As) : a.1 ∈ L.kps := h.sub.subset (List.mem_map.mpr ⟨a, ha, rfl⟩)
/-- whether a record gives these answers -/
def fitB (L : Lore) (As : Ans) (v : Vec) : Bool := As.all fun a => decide (ansV L a.1 v = a.2)
/-- all records that do -/
def fitV (L : Lore) (As : Ans) : List Vec := (vL L.parts.length).filter (fitB L As)
theorem ansV_two {L : Lore} (ok : LoreOk L) {k : KP} (hk : k ∈ L.kps) (v : Vec) : (ansV L k v).length ≤ 2 := by
  rw [ansV_len]
  exact (ok.q k hk).2.1
section
variable {P : Program} {w : World} {K : PySem.W.Frag} {mg : Str → Option Value} {base : Heap} {f : Addr} {fd : FuncData}
/-! ### answered -/
def spAnswered : Sp := fun vs H Q _ => ∃ (r : Addr) (As : Ans), vs = [.ref r] ∧ AnsAt H r As ∧ As.length ≤ 6 ∧ ∀ t H', Same H H' → LotAt H' t ((As.map (·.1)).map (·.1)) → Q (.ref t) H'
/-! ### is_answer -/
def spIsAns (C CS : Addr) : Sp := fun vs H Q _ => ∃ (x t : Addr) (L : Lore) (a : KP × Vec), vs = [.ref x, .ref t] ∧ ShAt H C CS x L ∧ LoreOk L ∧ a.1 ∈ L.kps ∧ a.2.length = a.1.2.length ∧ H t = some (.tup [.str a.1.1, .str (stv a.2)]) ∧ ∀ H', Same H H' → Q (.bl true) H'
/-! ### are_answers, refuse_answers -/
def spAreAns (C CS : Addr) : Sp := fun vs H Q _ => ∃ (x r : Addr) (L : Lore) (As : Ans), vs = [.ref x, .ref r] ∧ ShAt H C CS x L ∧ LoreOk L ∧ AnsAt H r As ∧ AnsOk L As ∧ ∀ H', Same H H' → Q (.bl true) H'
def spRefAns (C CS : Addr) : Sp := fun vs H Q _ => ∃ (x r : Addr) (L : Lore) (As : Ans), vs = [.ref x, .ref r] ∧ ShAt H C CS x L ∧ LoreOk L ∧ AnsAt H r As ∧ AnsOk L As ∧ ∀ H', Same H H' → Q .non H'
end
end K6
set_option Elab.async false
set_option linter.all false
set_option maxRecDepth 100000
set_option maxHeartbeats 4000000
set_option pp.maxSteps 1200
set_option pp.deepTerms false
namespace K6
open PySem PySem.Spec PyProof.Rows L2 Lk
theorem fitB_snoc (L : Lore) (As : Ans) (a : KP × Vec) (v : Vec) : fitB L (As ++ [a]) v = (fitB L As v && decide (ansV L a.1 v = a.2)) := by
  unfold fitB
  rw [List.all_append]
  simp
theorem fm_filter (q : Vec → Bool) : ∀ vs : List Vec, (vs.filterMap fun v => if q v = true then some (V.str (stv v)) else none) = ((vs.filter q).map stv).map V.str
  | [] => rfl
  | a :: l => by
    have ih := fm_filter q l
    by_cases m : q a = true
    · rw [List.filterMap_cons, if_pos m, List.filter_cons_of_pos m, List.map_cons, List.map_cons, ih]
    · rw [List.filterMap_cons, if_neg m, List.filter_cons_of_neg m, ih]
theorem fm_names (q : KP × Vec → Bool) : ∀ zs : List (V × (KP × Vec)), (zs.filterMap fun z => if q z.2 = true then some (V.str z.2.1.1) else none) = (((zs.map (·.2)).filter q).map (·.1.1)).map V.str
  | [] => rfl
  | z :: zs => by
    have ih := fm_names q zs
    by_cases m : q z.2 = true
    · rw [List.filterMap_cons, if_pos m, List.map_cons, List.filter_cons_of_pos m, List.map_cons, List.map_cons, ih]
    · rw [List.filterMap_cons, if_neg m, List.map_cons, List.filter_cons_of_neg m, ih]
theorem strDec (a b : Vec) : decide (V.str (stv a) = V.str (stv b)) = decide (a = b) := by
  rw [← stv_dec]
  have : (V.str (stv a) = V.str (stv b)) ↔ stv a = stv b := ⟨fun h => V.str.inj h, fun h => by rw [h]⟩
  simp only [this]
/-- the spots of the answers with their values -/
def valuedL (As : Ans) : List (Spot × Bool) := As.flatMap fun a => (List.range a.2.length).map fun i => ((a.1.1, i), a.2.getD i false)
def RelW2 (H : Hp) (v : V) (r : Spot × Bool) : Prop := ∃ t u, v = V.ref t ∧ H t = some (.tup [.ref u, .str (stv [r.2])]) ∧ H u = some (.tup [.str r.1.1, .int (r.1.2 : Int)])
theorem RelW2.keep (H H' : Hp) (v : V) (r : Spot × Bool) (k : Keep H H') (h : RelW2 H v r) : RelW2 H' v r := by
  obtain ⟨t, u, e, h1, h2⟩ := h
  exact ⟨t, u, e, k _ _ h1 (fun xs z => by cases z), k _ _ h2 (fun xs z => by cases z)⟩
theorem valued_len {L : Lore} (ok : LoreOk L) : ∀ {As : Ans}, (∀ a ∈ As, a.1 ∈ L.kps ∧ a.2.length = a.1.2.length) → (valuedL As).length ≤ 2 * As.length
  | [], _ => Nat.zero_le _
  | a :: As, h => by
    have ih := valued_len ok (As := As) fun b hb => h b (List.mem_cons_of_mem _ hb)
    obtain ⟨h1, h2⟩ := h a List.mem_cons_self
    have h3 := (ok.q _ h1).2.1
    unfold valuedL at ih ⊢
    rw [List.flatMap_cons, List.length_append, List.length_map, List.length_range, List.length_cons]
    omega
section
variable {P : Program} {w : World} {K : PySem.W.Frag} {mg : Str → Option Value} {base : Heap} {f : Addr} {fd : FuncData}
/-! ### all_fitting, fitting -/
def spAllFit (C CS : Addr) : Sp := fun vs H Q _ => ∃ (x r : Addr) (L : Lore) (As : Ans), vs = [.ref x, .ref r] ∧ ShAt H C CS x L ∧ LoreOk L ∧ AnsAt H r As ∧ AnsOk L As ∧ ∀ p H', Same H H' → H' p = some (.lst (((fitV L As).map stv).map V.str)) → Q (.ref p) H'
def spFitting (C CS : Addr) : Sp := fun vs H Q _ => ∃ (x r : Addr) (L : Lore) (As : Ans), vs = [.ref x, .ref r] ∧ ShAt H C CS x L ∧ LoreOk L ∧ AnsAt H r As ∧ AnsOk L As ∧ ∀ H', Same H H' → Q (.int ((fitV L As).length : Nat)) H'
/-! ### differ -/
def difL (L : Lore) (As : Ans) (v : Vec) : Ans := As.filter fun a => !decide (ansV L a.1 v = a.2)
def spDiffer (C CS : Addr) : Sp := fun vs H Q _ => ∃ (x r : Addr) (L : Lore) (As : Ans) (v : Vec), vs = [.ref x, .ref r, .str (stv v)] ∧ ShAt H C CS x L ∧ LoreOk L ∧ AnsAt H r As ∧ AnsOk L As ∧ v.length = L.parts.length ∧ ∀ t H', Same H H' → LotAt H' t ((difL L As v).map (·.1.1)) → Q (.ref t) H'
/-! ### valued -/
def spValued : Sp := fun vs H Q _ => ∃ (r : Addr) (As : Ans), vs = [.ref r] ∧ AnsAt H r As ∧ As.length ≤ 6 ∧ (∀ a ∈ As, a.2.length ≤ 2) ∧ ∀ D ts H', Same H H' → H' D = some (.lst ts) → Paired (RelW2 H') ts (valuedL As) → Q (.ref D) H'
theorem valuedL_take (As : Ans) {i : Nat} {a : KP × Vec} (h : As[i]? = some a) : valuedL (As.take (i + 1)) = valuedL (As.take i) ++ (List.range a.2.length).map fun j => ((a.1.1, j), a.2.getD j false) := by
  unfold valuedL
  rw [List.take_add_one, h, List.flatMap_append]
  simp
end
end K6
set_option Elab.async false
set_option linter.all false
set_option maxRecDepth 100000
set_option maxHeartbeats 4000000
namespace K6
open PySem PySem.Spec PyProof.Rows L2 Lk
def cntP (p : Str) (pcs : List (List Str)) : Nat := (pcs.filter fun q => decide (p ∈ q)).length
def oddL (ps : List Str) (pcs : List (List Str)) : List Str := ps.filter fun p => decide (cntP p pcs % 2 = 1)
/-! ### what sums come to -/
theorem vx_map {α : Type} (f g : α → Bool) : ∀ ps : List α, vx (ps.map f) (ps.map g) = ps.map fun p => xor (f p) (g p)
  | [] => rfl
  | p :: ps => by
    show xor (f p) (g p) :: vx (ps.map f) (ps.map g) = _
    rw [vx_map f g ps]
    rfl
theorem odd_xor (k : Nat) (b : Bool) : xor b (decide (k % 2 = 1)) = decide ((k + bN b) % 2 = 1) := by
  have h2 : k % 2 = 0 ∨ k % 2 = 1 := by omega
  cases b with
  | false => simp [bN]
  | true =>
    rcases h2 with h | h
    · have : (k + 1) % 2 = 1 := by omega
      simp [bN, h, this]
    · have : (k + 1) % 2 = 0 := by omega
      simp [bN, h, this]
theorem fold_codes (ps : List Str) : ∀ (pcs : List (List Str)) (f : Str → Bool), (pcs.map (vecP ps)).foldl vx (ps.map f) = ps.map fun p => xor (f p) (decide (cntP p pcs % 2 = 1))
  | [], f => by
    show ps.map f = ps.map fun p => xor (f p) (decide (0 % 2 = 1))
    exact List.map_congr_left fun p _ => by simp
  | q :: pcs, f => by
    rw [List.map_cons, List.foldl_cons]
    have e : vx (ps.map f) (vecP ps q) = ps.map fun p => xor (f p) (decide (p ∈ q)) := vx_map f _ ps
    rw [e, fold_codes ps pcs]
    refine List.map_congr_left fun p _ => ?_
    rw [Bool.xor_assoc]
    congr 1
    rw [odd_xor]
    have : cntP p (q :: pcs) = cntP p pcs + bN (decide (p ∈ q)) := by
      unfold cntP
      by_cases m : p ∈ q
      · rw [List.filter_cons_of_pos (by simpa using m)]
        simp [m, bN]
      · rw [List.filter_cons_of_neg (by simpa using m)]
        simp [m, bN]
    rw [this]
theorem sum_codes (ps : List Str) (pcs : List (List Str)) : sumV ps.length (pcs.map (vecP ps)) = ps.map fun p => decide (cntP p pcs % 2 = 1) := by
  have z : zv ps.length = ps.map fun _ => false := by
    unfold zv
    rw [List.map_const']
  unfold sumV
  rw [z, fold_codes]
  exact List.map_congr_left fun p _ => by simp
theorem odd_none {ps : List Str} {pcs : List (List Str)} (h : sumV ps.length (pcs.map (vecP ps)) = zv ps.length) : oddL ps pcs = [] := by
  rw [sum_codes] at h
  unfold oddL
  rw [List.filter_eq_nil_iff]
  intro p hp
  have : decide (cntP p pcs % 2 = 1) ∈ zv ps.length := by
    rw [← h]
    exact List.mem_map.mpr ⟨p, hp, rfl⟩
  rw [(List.mem_replicate.mp this).2]
  simp
theorem vx_snoc : ∀ {a c : Vec} {b d : Bool}, a.length = c.length → vx (a ++ [b]) (c ++ [d]) = vx a c ++ [xor b d]
  | [], [], b, d, _ => rfl
  | x :: a, y :: c, b, d, h => by
    show xor x y :: vx (a ++ [b]) (c ++ [d]) = xor x y :: (vx a c ++ [xor b d])
    rw [vx_snoc (Nat.succ.inj h)]
theorem fold_snoc {n : Nat} : ∀ (rs : List (Vec × Bool)) (a : Vec) (k : Nat), a.length = n → (∀ r ∈ rs, r.1.length = n) → (rs.map fun r => r.1 ++ [r.2]).foldl vx (a ++ [decide (k % 2 = 1)]) = (rs.map (·.1)).foldl vx a ++ [decide ((k + (rs.filter (·.2)).length) % 2 = 1)]
  | [], a, k, _, _ => rfl
  | r :: rs, a, k, ha, h => by
    have hr := h r List.mem_cons_self
    rw [List.map_cons, List.foldl_cons, List.map_cons, List.foldl_cons, vx_snoc (by rw [ha, hr]), Bool.xor_comm, odd_xor, fold_snoc rs _ _ (vx_len ha hr) fun q hq => h q (List.mem_cons_of_mem _ hq)]
    congr 4
    cases e : r.2 with
    | false =>
      rw [List.filter_cons_of_neg (by simp [e])]
      simp [bN]
    | true =>
      rw [List.filter_cons_of_pos e, List.length_cons]
      show (k + 1 + _) % 2 = (k + (_ + 1)) % 2
      rw [Nat.add_assoc, Nat.add_comm 1]
/-! ### the spots of answers -/
theorem piece_at_of {L : Lore} (ok : LoreOk L) {k : KP} (hk : k ∈ L.kps) {i : Nat} {p : List Str} (h : k.2[i]? = some p) : pieceOf L (k.1, i) = p := by
  unfold pieceOf
  dsimp only
  rw [find_at ok.kn hk]
  simp [h]
theorem flat_filter (q : Str → Bool) : ∀ ks : List KP, (spotsOf ks).filter (fun s => q s.1) = spotsOf (ks.filter fun k => q k.1)
  | [] => rfl
  | k :: ks => by
    have ih := flat_filter q ks
    unfold spotsOf at ih ⊢
    rw [List.flatMap_cons, List.filter_append, ih]
    cases e : q k.1 with
    | true =>
      rw [List.filter_cons_of_pos (p := fun k : KP => q k.1) (a := k) (by exact e), List.flatMap_cons, List.filter_eq_self.mpr]
      intro s hs
      obtain ⟨i, _, rfl⟩ := List.mem_map.mp hs
      exact e
    | false =>
      rw [List.filter_cons_of_neg (p := fun k : KP => q k.1) (a := k) (by simp [e]), List.filter_eq_nil_iff.mpr, List.nil_append]
      intro s hs
      obtain ⟨i, _, rfl⟩ := List.mem_map.mp hs
      simp [e]
theorem sub_key {α β : Type} [DecidableEq β] (f : α → β) {ss zs : List α} (h : ss.Sublist zs) : (zs.map f).Nodup → zs.filter (fun z => decide (f z ∈ ss.map f)) = ss := by
  induction h with
  | slnil => intro _; rfl
  | cons a h ih =>
    intro nd
    have n2 := List.nodup_cons.mp nd
    rw [List.filter_cons_of_neg]
    · exact ih n2.2
    · intro m
      exact n2.1 ((h.map f).subset (by simpa using m))
  | @cons_cons l1 l2 a h ih =>
    intro nd
    have n2 := List.nodup_cons.mp nd
    rw [List.filter_cons_of_pos (by simp)]
    have e : l2.filter (fun z => decide (f z ∈ (a :: l1).map f)) = l2.filter (fun z => decide (f z ∈ l1.map f)) := List.filter_congr fun z hz => by
      have : f z ≠ f a := fun e => n2.1 (e ▸ List.mem_map.mpr ⟨z, hz, rfl⟩)
      simp [this]
    rw [e, ih n2.2]
theorem spotsIn_sub {L : Lore} (ok : LoreOk L) {ks : List KP} (h : ks.Sublist L.kps) : spotsIn L (ks.map (·.1)) = spotsOf ks := by
  unfold spotsIn
  rw [flat_filter fun z => decide (z ∈ ks.map (·.1)), sub_key (·.1) h ok.kn]
theorem valued_spots : ∀ {As : Ans}, (∀ a ∈ As, a.2.length = a.1.2.length) → (valuedL As).map (·.1) = spotsOf (As.map (·.1))
  | [], _ => rfl
  | a :: As, h => by
    have ih := valued_spots (As := As) fun b hb => h b (List.mem_cons_of_mem _ hb)
    unfold valuedL spotsOf at ih ⊢
    rw [List.flatMap_cons, List.map_append, ih, List.map_cons, List.flatMap_cons, List.map_map, h a List.mem_cons_self]
    rfl
/-! ### the table of torn answers -/
abbrev rowsA (L : Lore) (As : Ans) : List (RowS × Bool) := (valuedL As).map fun r => ((r.1, codeS L r.1), r.2)
def augL (L : Lore) (As : Ans) : List RowS := (valuedL As).map fun r => (r.1, codeS L r.1 ++ [r.2])
theorem augL_eq (L : Lore) (As : Ans) : (rowsA L As).map augR = augL L As := by
  unfold augL
  rw [List.map_map]
  rfl
theorem augL_len {L : Lore} {As : Ans} : ∀ r ∈ augL L As, r.2.length = L.parts.length + 1 := fun r hr => by
  obtain ⟨s, _, rfl⟩ := List.mem_map.mp hr
  show (codeS L s.1 ++ [s.2]).length = _
  rw [List.length_append]
  show (vecP _ _).length + 1 = _
  rw [vecP_len]
theorem rows_fit {L : Lore} (ok : LoreOk L) {v : Vec} : ∀ {As : Ans}, (∀ a ∈ As, a.1 ∈ L.kps ∧ a.2.length = a.1.2.length) → ((rowsA L As).all fun r => dot r.1.2 v == r.2) = fitB L As v
  | [], _ => rfl
  | a :: As, h => by
    have ih := rows_fit ok (v := v) (As := As) fun b hb => h b (List.mem_cons_of_mem _ hb)
    obtain ⟨h1, h2⟩ := h a List.mem_cons_self
    have e : rowsA L (a :: As) = ((List.range a.2.length).map fun i => (((a.1.1, i), codeS L (a.1.1, i)), a.2.getD i false)) ++ rowsA L As := by
      unfold rowsA valuedL
      rw [List.flatMap_cons, List.map_append, List.map_map]
      rfl
    rw [e, List.all_append, ih]
    show _ = (decide (ansV L a.1 v = a.2) && fitB L As v)
    congr 1
    rw [List.all_map, Bool.eq_iff_iff, List.all_eq_true, decide_eq_true_iff]
    have one : ∀ i, i < a.2.length → dot (codeS L (a.1.1, i)) v = (ansV L a.1 v).getD i false := fun i hi => by
      have hp : a.1.2[i]? = some (a.1.2[i]'(by omega)) := List.getElem?_eq_getElem (by omega)
      unfold codeS ansV
      rw [piece_at_of ok h1 hp, List.getD_eq_getElem?_getD, List.getElem?_map, hp]
      rfl
    constructor
    · intro g
      apply List.ext_getElem?
      intro i
      by_cases hi : i < a.2.length
      · have := g i (List.mem_range.mpr hi)
        have this : dot (codeS L (a.1.1, i)) v = a.2.getD i false := by simpa using this
        rw [one i hi] at this
        have l1 : i < (ansV L a.1 v).length := by rw [ansV_len]; omega
        rw [List.getD_eq_getElem?_getD, List.getD_eq_getElem?_getD, List.getElem?_eq_getElem l1, List.getElem?_eq_getElem hi] at this
        rw [List.getElem?_eq_getElem l1, List.getElem?_eq_getElem hi]
        exact congrArg some this
      · rw [List.getElem?_eq_none (by rw [ansV_len]; omega), List.getElem?_eq_none (by omega)]
    · intro g i hi
      have hi := List.mem_range.mp hi
      show (dot (codeS L (a.1.1, i)) v == a.2.getD i false) = true
      rw [one i hi, g]
      simp
theorem AnsOk.both {L : Lore} {As : Ans} (h : AnsOk L As) : ∀ a ∈ As, a.1 ∈ L.kps ∧ a.2.length = a.1.2.length := fun a ha => ⟨h.mem ha, h.len a ha⟩
theorem fit_perm {L : Lore} (ok : LoreOk L) {As : Ans} (ao : AnsOk L As) : (fitV L As).Perm (fitL L.parts.length (rowsA L As)) := by
  unfold fitV fitL
  have e : (allV L.parts.length).filter (fun v => (rowsA L As).all fun r => dot r.1.2 v == r.2) = (allV L.parts.length).filter (fitB L As) := List.filter_congr fun v _ => rows_fit ok ao.both
  rw [e]
  exact (vL_perm _).filter _
/-- what a torn sum is -/
structure TornOk (L : Lore) (As : Ans) (ss : List Spot) : Prop where
  sub : ss.Sublist (spotsIn L (As.map (·.1.1)))
  none : oddL L.parts (ss.map (pieceOf L)) = []
  odd : ((valuedL As).filter fun r => r.2 && decide (r.1 ∈ ss)).length % 2 = 1
theorem torn_ok {L : Lore} (ok : LoreOk L) {As : Ans} (ao : AnsOk L As) {e : Vec × List RowS} (he : e ∈ tableT (L.parts.length + 1) (augL L As)) (e1 : e.1 = zv L.parts.length ++ [true]) : TornOk L As (e.2.map (·.1)) := by
  have tbo : TbOk (L.parts.length + 1) (augL L As) (tableT (L.parts.length + 1) (augL L As)) := table_ok augL_len
  obtain ⟨sub, sm⟩ := tbo.sums e he
  obtain ⟨vs, vsub, ev⟩ := List.sublist_map_iff.mp sub
  have ss : e.2.map (·.1) = vs.map (·.1) := by
    rw [ev, List.map_map]
    rfl
  have vd : (valuedL As).map (·.1) = spotsIn L (As.map (·.1.1)) := by
    have : As.map (·.1.1) = (As.map (·.1)).map (·.1) := by rw [List.map_map]; rfl
    rw [valued_spots ao.len, this, spotsIn_sub ok ao.sub]
  have subS : (vs.map (·.1)).Sublist (spotsIn L (As.map (·.1.1))) := by
    rw [← vd]
    exact vsub.map _
  have sums : zv L.parts.length ++ [true] = sumV L.parts.length (vs.map fun r => codeS L r.1) ++ [decide ((vs.filter (·.2)).length % 2 = 1)] := by
    rw [← e1, sm, ev, List.map_map]
    have f := fold_snoc (n := L.parts.length) (vs.map fun r => (codeS L r.1, r.2)) (zv L.parts.length) 0 (zv_len _) fun r hr => by
      obtain ⟨q, _, rfl⟩ := List.mem_map.mp hr
      exact vecP_len _ _
    rw [List.map_map, List.map_map, List.filter_map, List.length_map, Nat.zero_add] at f
    have z : zv (L.parts.length + 1) = zv L.parts.length ++ [decide (0 % 2 = 1)] := by
      unfold zv
      rw [List.replicate_succ']
      rfl
    unfold sumV
    rw [z]
    exact f
  obtain ⟨h1, h2⟩ := List.append_inj' sums rfl
  rw [ss]
  refine ⟨subS, ?_, ?_⟩
  · refine odd_none (Eq.trans ?_ h1.symm)
    rw [List.map_map, List.map_map]
    rfl
  · have nd : ((valuedL As).map (·.1)).Nodup := by
      rw [vd]
      exact (spots_nodup ok.kn).sublist List.filter_sublist
    have e2 : (valuedL As).filter (fun r => r.2 && decide (r.1 ∈ vs.map (·.1))) = vs.filter (·.2) := by
      rw [← List.filter_filter]
      exact congrArg (List.filter fun r => r.2) ((List.filter_congr fun z _ => decide_eq_decide.mpr Iff.rfl).trans (sub_key (fun r : Spot × Bool => r.1) vsub nd))
    rw [e2]
    have := (List.cons.inj h2).1
    simpa using this.symm
theorem torn_has {L : Lore} (ok : LoreOk L) {As : Ans} (ao : AnsOk L As) (no : fitV L As = []) : ∃ e, e ∈ tableT (L.parts.length + 1) (augL L As) ∧ e.1 = zv L.parts.length ++ [true] := by
  have tbo : TbOk (L.parts.length + 1) (augL L As) (tableT (L.parts.length + 1) (augL L As)) := table_ok augL_len
  rw [← augL_eq] at tbo
  have nf : fitL L.parts.length (rowsA L As) = [] := by
    have p := fit_perm ok ao
    rw [no] at p
    exact (List.Perm.eq_nil p.symm)
  have h := torn_in (n := L.parts.length) (rows := rowsA L As) (fun r hr => by
    obtain ⟨s, _, rfl⟩ := List.mem_map.mp hr
    exact vecP_len _ _) tbo nf
  rw [augL_eq] at h
  obtain ⟨e, he, h2⟩ := List.mem_map.mp h
  exact ⟨e, he, h2⟩
end K6
set_option Elab.async false
set_option linter.all false
set_option maxRecDepth 100000
set_option maxHeartbeats 4000000
set_option pp.maxSteps 1200
set_option pp.deepTerms false
namespace K6
open PySem PySem.Spec PyProof.Rows L2 Lk
theorem strOne (b : Bool) : decide (V.str (stv [b]) = V.str "1") = b := by
  have h : stv [true] = ("1" : Str) := stv_t
  rw [← h, strDec]
  cases b <;> simp
theorem answers_two {L : Lore} (ok : LoreOk L) {As : Ans} (ao : AnsOk L As) : ∀ a ∈ As, a.2.length ≤ 2 := fun a ha => by
  rw [ao.len a ha]
  exact (ok.q _ (ao.mem ha)).2.1
theorem valued_mem {L : Lore} (ok : LoreOk L) {As : Ans} (ao : AnsOk L As) {r : Spot × Bool} (hr : r ∈ valuedL As) : r.1 ∈ spotsOf L.kps := by
  have h : r.1 ∈ (valuedL As).map (·.1) := List.mem_map.mpr ⟨r, hr, rfl⟩
  rw [valued_spots ao.len, ← spotsIn_sub ok ao.sub] at h
  exact (List.mem_filter.mp h).1
section
variable {P : Program} {w : World} {K : PySem.W.Frag} {mg : Str → Option Value} {base : Heap} {f : Addr} {fd : FuncData}
/-! ### torn_sum -/
def spTornSum (C CS : Addr) : Sp := fun vs H Q _ => ∃ (x r : Addr) (L : Lore) (As : Ans), vs = [.ref x, .ref r] ∧ ShAt H C CS x L ∧ LoreOk L ∧ AnsAt H r As ∧ AnsOk L As ∧ fitV L As = [] ∧
  ∀ q us ss H', Same H H' → H' q = some (.tup us) → Paired (RelS H') us ss → TornOk L As ss → Q (.ref q) H'
/-! ### is_torn -/
end
end K6
set_option Elab.async false
set_option linter.all false
set_option maxRecDepth 100000
set_option maxHeartbeats 4000000
set_option pp.maxSteps 1200
set_option pp.deepTerms false
namespace K6
open PySem PySem.Spec PyProof.Rows L2 Lk
/-- what is told of answers -/
def ToldAt (H : Hp) (q : Addr) (L : Lore) (As : Ans) : Prop :=
  (fitV L As = [] ∧ ∃ p us ss, H q = some (.tup [.str "torn", .ref p]) ∧ H p = some (.tup us) ∧ Paired (RelS H) us ss ∧ TornOk L As ss) ∨
  (∃ v, fitV L As = [v] ∧ H q = some (.tup [.str "record", .str (stv v)])) ∨
  (∃ v w l, fitV L As = v :: w :: l ∧ H q = some (.tup [.str "open", .str (stv v), .str (stv w)]))
theorem ToldAt.same {H H' : Hp} {q : Addr} {L : Lore} {As : Ans} (h : ToldAt H q L As) (s : Same H H') : ToldAt H' q L As := by
  rcases h with ⟨h1, p, us, ss, h2, h3, h4, h5⟩ | ⟨v, h1, h2⟩ | ⟨v, w, l, h1, h2⟩
  · exact .inl ⟨h1, p, us, ss, s _ _ h2, s _ _ h3, Paired.mapP h4 fun v r h => RelS.keep _ _ _ _ (.of s) h, h5⟩
  · exact .inr (.inl ⟨v, h1, s _ _ h2⟩)
  · exact .inr (.inr ⟨v, w, l, h1, s _ _ h2⟩)
theorem at2 {xs : List V} {v : V} (h : xs[2]? = some v) : atI xs 2 = some v := atI_nat h
theorem toldB {n : Nat} {m : Int} {u w : Str} {b : Bool} {xs : List V} (h : (decide ((n : Int) + 1 = m) && decide (u = w)) = b) (e : xs.length = n) : (decide ((xs.length : Int) + 1 = m) && decide (u = w)) = b := by
  rw [e]
  exact h
theorem fitV_nodup (L : Lore) (As : Ans) : (fitV L As).Nodup := (nodup_vL _).sublist List.filter_sublist
section
variable {P : Program} {w : World} {K : PySem.W.Frag} {mg : Str → Option Value} {base : Heap} {f : Addr} {fd : FuncData}
def spTold (C CS : Addr) : Sp := fun vs H Q _ => ∃ (x r : Addr) (L : Lore) (As : Ans), vs = [.ref x, .ref r] ∧ ShAt H C CS x L ∧ LoreOk L ∧ AnsAt H r As ∧ AnsOk L As ∧ ∀ q H', Same H H' → ToldAt H' q L As → Q (.ref q) H'
/-! ### shows_told -/
end
end K6
set_option Elab.async false
set_option linter.all false
set_option maxRecDepth 100000
set_option maxHeartbeats 4000000
/-! Part K: ranges as values, walked. -/
namespace Lk
open PySem PySem.Spec PyProof.Rows L2
theorem cr_range1 {X : Cx} : CallR X (.type "range") (fun vs H Q => ∃ j, vs = [V.int j] ∧ ∀ p, H p = none → Q (.ref p) (upd H p (.rng 0 j))) := by
  intro pins s σ H vs us Q I r h
  obtain ⟨j, rfl, q⟩ := h
  obtain ⟨u1, rfl, rj⟩ := vals1 r
  obtain ⟨t, rfl⟩ := rj
  refine call_range_1 ⟨.ref s.heap.objs.size, upd H s.heap.objs.size (.rng 0 j), I.laid (fun b o e => Heap.get?_push_of_some _ e) (Nat.le_refl _) ?_, rfl, q _ (I.hok.fresh (Nat.le_refl _))⟩
  exact ⟨_, _, _, Heap.get?_push_size _ rfl⟩
def iRngV (tl : TE) : TI := fun σ H R => tl σ H fun x H1 => ∃ a lo hi, x = .ref a ∧ H1 a = some (.rng lo hi) ∧ (-(2 ^ 62) ≤ lo ∧ lo < 2 ^ 62 ∧ -(2 ^ 62) ≤ hi ∧ hi < 2 ^ 62) ∧ R (Itr lo (hi - lo).toNat) H1
theorem pi_rng {X : Cx} {tg l : Expr} {tl : TE} (hl : PE X l tl) : PI X tg l (iRngV tl) := by
  refine ⟨fun pins s σ H R I h => ?_⟩
  refine thn (hl.run pins s σ H _ I h) fun v s1 ⟨x, H1, I1, r1, q1⟩ => ?_
  obtain ⟨a, lo, hi, e, ha, ⟨b1, b2, b3, b4⟩, q⟩ := q1
  subst e
  cases r1
  obtain ⟨t, u, w', ho⟩ := I1.hok a _ ha
  refine wpAny_pyIter_range (r := a) (a := lo) (b := hi) (c := 1) (t := t) (u := u) (v := w') ho (small_one b1 b2 b3 b4) ?_
  refine ⟨s1.heap.objs.size, [s1.heap.objs.size], _, _, H1, rfl, I1.kept (t' := s1.toks) fun b o e => Heap.get?_push_of_some _ e, turn_range _ lo (hi - lo).toNat, ?_, fun b hb => ?_, q⟩
  · have e1 : lo + ((0 : Nat) : Int) * 1 = lo := by simp
    have e2 : (((hi - lo).toNat : Nat) : Int) - ((0 : Nat) : Int) = Builtin.Range.rangeSize lo hi 1 := by rw [rangeSize_one]; split <;> omega
    show IsRangeIter _ _ (lo + ((0 : Nat) : Int) * 1) ((((hi - lo).toNat : Nat) : Int) - ((0 : Nat) : Int)) 1
    rw [e1, e2]
    exact Heap.get?_push_size _ rfl
  · have e : b = s1.heap.objs.size := by simpa using hb
    subst e
    exact I1.fpOk (Nat.le_refl _) (I1.hok.fresh (Nat.le_refl _))
end Lk
set_option Elab.async false
set_option linter.all false
set_option maxRecDepth 100000
set_option maxHeartbeats 4000000
/-! Part P: dict(t), t a tuple of pairs. -/
namespace Lk
open PySem PySem.Spec PyProof.Rows L2
theorem pairs_list : ∀ {prs : List (L2.Key × Value)} {R : Nat → L2.Key × Value → Value → Prop} , (∀ (j : Nat) (q : L2.Key × Value), prs[j]? = some q → ∃ u, R j q u) → ∃ us : List Value, us.length = prs.length ∧ ∀ (j : Nat) (q : L2.Key × Value), prs[j]? = some q → ∃ u, us[j]? = some u ∧ R j q u
  | [], _, _ => ⟨[], rfl, fun j q e => by simp at e⟩
  | q :: prs, R, h => by
    obtain ⟨u, hu⟩ := h 0 q rfl
    obtain ⟨us, hl, hs⟩ := pairs_list (prs := prs) (R := fun j q u => R (j + 1) q u) fun j p e => h (j + 1) p (by simpa using e)
    refine ⟨u :: us, by simp [hl], fun j p e => ?_⟩
    cases j with
    | zero =>
      have e' : q = p := Option.some.inj e
      subst e'
      exact ⟨u, rfl, hu⟩
    | succ j =>
      obtain ⟨u', h1, h2⟩ := hs j p (by simpa using e)
      exact ⟨u', by simpa using h1, h2⟩
theorem call_dictTX {X : Cx} (hcalm : X.calm = true) : CallR X (.type "dict") (fun xs H Q => ∃ (a : Addr) (ps : List Addr) (kvs : List (L2.Key × V)), xs = [.ref a] ∧ TupX H a (ps.map V.ref) ∧ Paired (fun p kv => SqT X.K H p [kV kv.1, kv.2]) ps kvs ∧
    ∀ p, H p = none → Q (.ref p) (upd H p (.dK (mergeK [] kvs)))) := by
  intro pins s σ H xs us Q I r q
  obtain ⟨a, ps, kvs, ex, hq, hp, q⟩ := q
  subst ex
  obtain ⟨u, eu, rx⟩ := vals1 r
  subst eu
  cases rx
  obtain ⟨ob, ea, ec, ed⟩ := id hq
  obtain ⟨at_, hz, its, rv, tp⟩ := (show ObjOk X.prog X.w H s.heap a (.frz ob (.tup (ps.map V.ref))) from I.hok a _ ea)
  have ei := refs_at rv
  subst ei
  rw [List.length_map] at hz
  obtain ⟨prs, rel, hl, hpr⟩ := pairs_of I hp
  obtain ⟨vs, vl, hv⟩ := pairs_list (R := fun j q u => ∃ b, ps[j]? = some b ∧ IsTup s.heap b #[u, q.2] ∧ keyIs q.1 u = true) fun j q e => by
    obtain ⟨b, u, e1, e2, e3⟩ := hpr j q e
    exact ⟨u, b, e1, e2, e3⟩
  have zl : (vs.zip (prs.map (·.2))).length = ps.length := by rw [List.length_zip, List.length_map, vl, hl, Nat.min_self]
  have zat : ∀ j key v, (vs.zip (prs.map (·.2)))[j]? = some (key, v) → ∃ k b, prs[j]? = some (k, v) ∧ ps[j]? = some b ∧ IsTup s.heap b #[key, v] ∧ keyIs k key = true := fun j key v e => by
    obtain ⟨h1, h2⟩ := List.getElem?_zip_eq_some.mp e
    rw [List.getElem?_map] at h2
    cases z : prs[j]? with
    | none => rw [z] at h2; cases h2
    | some q =>
      rw [z] at h2
      have h9 : q.2 = v := Option.some.inj (show some q.2 = some v from h2)
      clear h2
      obtain ⟨u, a1, b, a2, a3, a4⟩ := hv j q z
      rw [a1] at h1
      obtain rfl : u = key := Option.some.inj h1
      subst h9
      exact ⟨q.1, b, z, a2, a3, a4⟩
  obtain ⟨o2, ho2, hc2, n2, hd2⟩ := id tp
  have oe : o2 = ob := by rw [at_] at ho2; exact (Option.some.inj ho2).symm
  subst oe
  have P := PairArg.tuple (prog := X.prog) (w := X.w) a (ps.map Value.ref).toArray (fun j => ps.getD j 0) (vs.zip (prs.map (·.2)))
  have OK : PlainSeq "tuple" s.heap a (ps.map Value.ref).toArray ∧ PairItems s.heap (ps.map Value.ref).toArray (fun j => ps.getD j 0) (vs.zip (prs.map (·.2))) := by
    refine ⟨⟨_, n2, at_, ec, ed, hd2⟩, by rw [zl]; simp, fun j k v e => ?_⟩
    obtain ⟨k', b, h1, h2, h3, h4⟩ := zat j k v e
    have hg : ps.getD j 0 = b := by rw [List.getD_eq_getElem?_getD, h2]; rfl
    refine ⟨by simp [h2], ?_⟩
    show PairAt s.heap (ps.getD j 0) k v
    rw [hg]
    exact .inl h3
  refine PySem.call_dict_pairs (knd := mixKind X.prog X.w) (kvs := prs) P (I.ok.hd hcalm) OK ⟨by rw [zl, hl], fun i key v e => ?_⟩ (by rw [zl]; exact hz) fun h' tk hd' k => ?_
  · obtain ⟨k', b, h1, _, _, h4⟩ := zat i key v e
    exact ⟨k', h1, h4⟩
  · have hm : (s.heap.objs.size == sysModules) = false := beq_eq_false_iff_ne.mpr (Nat.ne_of_gt I.big)
    have hlen : (mergeK [] kvs).length ≤ sizeLine := by
      refine Nat.le_trans (length_mergeK kvs []) ?_
      rw [List.length_nil, Nat.zero_add, rel.length, hl]
      exact hz
    exact ⟨.ref s.heap.objs.size, upd H s.heap.objs.size (.dK (mergeK [] kvs)), I.laid (t' := tk) (fun b o e => k b o (by simp) e) (Nat.le_refl _) (show ObjOk X.prog X.w _ _ _ (.dK (mergeK [] kvs)) from ⟨hlen, hm, merged [] prs, KV.merge rel .nil, hd'⟩), rfl, q _ (I.hok.fresh (Nat.le_refl _))⟩
end Lk
set_option Elab.async false
set_option linter.all false
set_option maxRecDepth 100000
set_option maxHeartbeats 1000000
/-! Part Q: sorted of pairs of a length and the list, or tuple, of ints that has it. -/
namespace Lk
open PySem PySem.Spec PyProof.Rows L2
/-- a list (or a tuple) of these ints -/
def SeqI (tup : Bool) (h : Heap) (b : Addr) (ns : List Int) : Prop := ∃ items : Array Value, (if tup = true then h.IsTuple b items else h.IsList b items) ∧ IntsAre items.toList ns
/-- the pair of its length and it -/
def IsLen (tup : Bool) (h : Heap) (v : Value) (ns : List Int) : Prop := ∃ a o t b m, v = .ref a ∧ h.get? a = some o ∧ o.cls = .type "tuple" ∧ o.data = .seq #[.int (ns.length : Int) t, .ref b] m ∧ SeqI tup h b ns
theorem SeqI.keeps {tup : Bool} {h h' : Heap} {b : Addr} {ns : List Int} (x : SeqI tup h b ns) (k : ∀ o, h.get? b = some o → h'.get? b = some o) : SeqI tup h' b ns := by
  obtain ⟨items, q, r⟩ := x
  refine ⟨items, ?_, r⟩
  cases tup with
  | true =>
    obtain ⟨o, e, y⟩ := q
    exact ⟨o, k o e, y⟩
  | false =>
    obtain ⟨o, e, y⟩ := q
    exact ⟨o, k o e, y⟩
def ltLen (ns ms : List Int) : Bool := if ns.length = ms.length then HT.lexLt ns ms else decide (ns.length < ms.length)
theorem lexLt_first : ∀ (ns ms : List Int) (h : ns.length = ms.length), SeqAt.firstLt (fun j => ns.getD j 0 == ms.getD j 0) (fun j => decide (ns.getD j 0 < ms.getD j 0)) false (List.range ns.length) = HT.lexLt ns ms := by
  have go : ∀ (ns ms : List Int) (pre1 pre2 : List Int), ns.length = ms.length → pre1.length = pre2.length → SeqAt.firstLt (fun j => (pre1 ++ ns).getD j 0 == (pre2 ++ ms).getD j 0) (fun j => decide ((pre1 ++ ns).getD j 0 < (pre2 ++ ms).getD j 0)) false (List.range' pre1.length ns.length) = HT.lexLt ns ms := by
    intro ns
    induction ns with
    | nil =>
      intro ms p1 p2 h hp
      match ms, h with
      | [], _ => rfl
    | cons x xs ih =>
      intro ms p1 p2 h hp
      match ms, h with
      | y :: ys, h =>
        have hx : (p1 ++ x :: xs).getD p1.length 0 = x := by simp [List.getD_eq_getElem?_getD]
        have hy : (p2 ++ y :: ys).getD p1.length 0 = y := by rw [hp]; simp [List.getD_eq_getElem?_getD]
        have ih := ih ys (p1 ++ [x]) (p2 ++ [y]) (Nat.succ.inj h) (by simp [hp])
        rw [List.append_assoc, List.append_assoc] at ih
        rw [List.length_cons, List.range'_succ]
        by_cases e : x = y
        · rw [SeqAt.firstLt_yes (by rw [hx, hy, e]; simp), HT.lexLt_cons, if_pos e, ← ih, List.length_append]
          rfl
        · rw [SeqAt.firstLt_no (by rw [hx, hy]; simpa using e), HT.lexLt_cons, if_neg e, hx, hy]
  intro ns ms h
  have := go ns ms [] [] h rfl
  rw [List.range_eq_range']
  exact this
theorem all_eq : ∀ (ns ms : List Int), ns.length = ms.length → (List.range ns.length).all (fun j => ns.getD j 0 == ms.getD j 0) = decide (ns = ms) := fun ns ms h => by
  rw [Bool.eq_iff_iff, List.all_eq_true, decide_eq_true_iff]
  constructor
  · intro g
    apply List.ext_getElem?
    intro i
    by_cases hi : i < ns.length
    · have := g i (List.mem_range.mpr hi)
      have this : ns.getD i 0 = ms.getD i 0 := by simpa using this
      rw [List.getD_eq_getElem?_getD, List.getD_eq_getElem?_getD, List.getElem?_eq_getElem hi, List.getElem?_eq_getElem (by omega)] at this
      rw [List.getElem?_eq_getElem hi, List.getElem?_eq_getElem (by omega)]
      exact congrArg some this
    · rw [List.getElem?_eq_none (by omega), List.getElem?_eq_none (by omega)]
  · intro e i _
    rw [e]
    simp
theorem ints_getL : ∀ {l : List Value} {ns : List Int} {j : Nat}, IntsAre l ns → (hj : j < l.length) → ∃ t, l[j] = .int (ns.getD j 0) t
  | _, _, _, .nil, hj => absurd hj (Nat.not_lt_zero _)
  | _, _, 0, .cons n t r, hj => ⟨t, rfl⟩
  | _, _, j + 1, .cons n t r, hj => by
    obtain ⟨t', e⟩ := ints_getL r (Nat.lt_of_succ_lt_succ hj)
    exact ⟨t', by simpa using e⟩
theorem ints_get {its : Array Value} {ns : List Int} (h : IntsAre its.toList ns) {j : Nat} (hj : j < its.size) : ∃ t, its[j] = .int (ns.getD j 0) t := by
  obtain ⟨l⟩ := its
  exact ints_getL (l := l) h hj
theorem ints_len : ∀ {l : List Value} {ns : List Int}, IntsAre l ns → l.length = ns.length
  | _, _, .nil => rfl
  | _, _, .cons n t r => by rw [List.length_cons, List.length_cons, ints_len r]
theorem ints_size {its : Array Value} {ns : List Int} (h : IntsAre its.toList ns) : its.size = ns.length := by
  rw [← ints_len h, Array.length_toList]
theorem ints_one {l : List Value} {ns ms : List Int} (h : IntsAre l ns) (g : IntsAre l ms) : ns = ms := (SrtO.iv_ints h).symm.trans (SrtO.iv_ints g)
section
variable {A : Around} {s : Shared}
theorem seq_eq {tup : Bool} {l b : Addr} {ns ms : List Int} (hl : SeqI tup s.heap l ns) (hb : SeqI tup s.heap b ms) (he : ns.length = ms.length) (hu : A.units < cLine) : SeqAt.EqAt A s (.ref l) (.ref b) (decide (ns = ms)) := by
  obtain ⟨i1, q1, r1⟩ := hl
  obtain ⟨i2, q2, r2⟩ := hb
  have z1 := ints_size r1
  have z2 := ints_size r2
  have sz : i1.size = i2.size := by rw [z1, z2, he]
  have ee : ∀ j (h1 : j < i1.size) (h2 : j < i2.size), SeqAt.EqAt A.in1 s i1[j] i2[j] ((fun j => ns.getD j 0 == ms.getD j 0) j) := fun j h1 h2 => by
    obtain ⟨t, e1⟩ := ints_get r1 h1
    obtain ⟨u, e2⟩ := ints_get r2 h2
    rw [e1, e2]
    exact SeqAt.EqAt.int_int _ _ _ _
  by_cases lb : l = b
  · subst lb
    have : ns = ms := by
      cases tup with
      | true =>
        obtain ⟨o, e, _, n, d⟩ := q1
        obtain ⟨o2, e2, _, n2, d2⟩ := q2
        rw [e] at e2
        cases e2
        rw [d] at d2
        cases d2
        exact ints_one r1 r2
      | false =>
        obtain ⟨o, e, _, n, d⟩ := q1
        obtain ⟨o2, e2, _, n2, d2⟩ := q2
        rw [e] at e2
        cases e2
        rw [d] at d2
        cases d2
        exact ints_one r1 r2
    rw [decide_eq_true this]
    exact SeqAt.EqAt.same _
  · refine SeqAt.EqAt.of_refs lb ?_
    rw [← all_eq ns ms he]
    cases tup with
    | true =>
      have := SeqAt.RcAt.tuples q1 q2 hu ee
      rw [← sz, Nat.min_self, z1] at this
      simpa using this
    | false =>
      have := SeqAt.RcAt.lists q1 q2 sz hu ee
      rw [z1] at this
      exact this
theorem seq_lt {tup : Bool} {l b : Addr} {ns ms : List Int} (hl : SeqI tup s.heap l ns) (hb : SeqI tup s.heap b ms) (he : ns.length = ms.length) (hu : A.units < cLine) : SeqAt.RcLt A s (.ref l) (.ref b) (HT.lexLt ns ms) := by
  obtain ⟨i1, q1, r1⟩ := hl
  obtain ⟨i2, q2, r2⟩ := hb
  have z1 := ints_size r1
  have z2 := ints_size r2
  have sz : i1.size = i2.size := by rw [z1, z2, he]
  have ee : ∀ j (h1 : j < i1.size) (h2 : j < i2.size), SeqAt.EqAt A.in1 s i1[j] i2[j] ((fun j => ns.getD j 0 == ms.getD j 0) j) := fun j h1 h2 => by
    obtain ⟨t, e1⟩ := ints_get r1 h1
    obtain ⟨u, e2⟩ := ints_get r2 h2
    rw [e1, e2]
    exact SeqAt.EqAt.int_int _ _ _ _
  have rr : ∀ j (h1 : j < i1.size) (h2 : j < i2.size), (fun j => ns.getD j 0 == ms.getD j 0) j = false → SeqAt.RcLt A.in1 s i1[j] i2[j] ((fun j => decide (ns.getD j 0 < ms.getD j 0)) j) := fun j h1 h2 _ => by
    obtain ⟨t, e1⟩ := ints_get r1 h1
    obtain ⟨u, e2⟩ := ints_get r2 h2
    rw [e1, e2]
    exact fun prog w E Q q => PyProof.Rows.lt_int q
  have fin : decide (i1.size < i2.size) = false := decide_eq_false (by omega)
  cases tup with
  | true =>
    have := SeqAt.RcLt.tuples q1 q2 hu ee rr
    rw [fin, ← sz, Nat.min_self, z1, lexLt_first ns ms he] at this
    exact this
  | false =>
    have := SeqAt.RcLt.lists q1 q2 hu ee rr
    rw [fin, ← sz, Nat.min_self, z1, lexLt_first ns ms he] at this
    exact this
end
/-! ### the order -/
theorem lexLt_iff : ∀ {ns ms : List Int}, HT.lexLt ns ms = true → HT.lexLt ms ns = false
  | [], [], h => by cases h
  | [], _ :: _, _ => rfl
  | _ :: _, [], h => by cases h
  | x :: xs, y :: ys, h => by
    rw [HT.lexLt_cons] at h ⊢
    by_cases e : x = y
    · rw [if_pos e] at h
      rw [if_pos e.symm]
      exact lexLt_iff h
    · rw [if_neg e] at h
      rw [if_neg (fun z => e z.symm)]
      have := of_decide_eq_true h
      exact decide_eq_false (by omega)
theorem lexLt_tr : ∀ {xs ys zs : List Int}, HT.lexLt ys xs = false → HT.lexLt zs ys = false → HT.lexLt zs xs = false
  | [], _, [], _, _ => rfl
  | [], _, _ :: _, _, _ => rfl
  | _ :: _, [], _, h, _ => by cases h
  | _ :: _, _ :: _, [], _, h => by cases h
  | x :: xs, y :: ys, z :: zs, h1, h2 => by
    rw [HT.lexLt_cons] at h1 h2 ⊢
    by_cases e1 : y = x
    · rw [if_pos e1] at h1
      by_cases e2 : z = y
      · rw [if_pos e2] at h2
        rw [if_pos (e2.trans e1)]
        exact lexLt_tr h1 h2
      · rw [if_neg e2] at h2
        have := of_decide_eq_false h2
        rw [if_neg (fun q => e2 (q.trans e1.symm))]
        exact decide_eq_false (by omega)
    · rw [if_neg e1] at h1
      have g1 := of_decide_eq_false h1
      by_cases e2 : z = y
      · rw [if_neg (fun q => e1 (e2.symm.trans q))]
        exact decide_eq_false (by omega)
      · rw [if_neg e2] at h2
        have g2 := of_decide_eq_false h2
        by_cases e3 : z = x
        · exact absurd (show y = x by omega) e1
        · rw [if_neg e3]
          exact decide_eq_false (by omega)
theorem swo_len (k : Value → List Int) : SrtO.Swo fun v u => ltLen (k v) (k u) := by
  refine ⟨fun x y h => ?_, fun x y z h1 h2 => ?_⟩
  · unfold ltLen at h ⊢
    by_cases e : (k x).length = (k y).length
    · rw [if_pos e] at h
      rw [if_pos e.symm]
      exact lexLt_iff h
    · rw [if_neg e] at h
      rw [if_neg (fun q => e q.symm)]
      have := of_decide_eq_true h
      exact decide_eq_false (by omega)
  · unfold ltLen at h1 h2 ⊢
    by_cases e1 : (k y).length = (k x).length
    · rw [if_pos e1] at h1
      by_cases e2 : (k z).length = (k y).length
      · rw [if_pos e2] at h2
        rw [if_pos (e2.trans e1)]
        exact lexLt_tr h1 h2
      · rw [if_neg e2] at h2
        have := of_decide_eq_false h2
        rw [if_neg (fun q => e2 (q.trans e1.symm))]
        exact decide_eq_false (by omega)
    · rw [if_neg e1] at h1
      have g1 := of_decide_eq_false h1
      by_cases e2 : (k z).length = (k y).length
      · rw [if_neg (fun q => e1 (e2.symm.trans q))]
        exact decide_eq_false (by omega)
      · rw [if_neg e2] at h2
        have g2 := of_decide_eq_false h2
        rw [if_neg (by omega)]
        exact decide_eq_false (by omega)
section
variable {prog : Program} {w : World} {A : Around} {s : Shared}
theorem len_cmp {tup : Bool} {vs : List Value} {k : Value → List Int} (hu : A.units < cLine) (hp : ∀ v ∈ vs, IsLen tup s.heap v (k v)) : SrtO.Cmp prog w A s (tuples' true) (fun p => p.1 ∈ vs) (SrtO.lt2 fun v u => ltLen (k v) (k u)) := by
  intro p q hm hm'
  have h1 := hp _ hm
  have h2 := hp _ hm'
  show wpAny (model prog w) A (keyLt' (tuples' true) p.1 q.1) (fun r s' => s' = s ∧ r = ltLen (k p.1) (k q.1)) (fun _ _ => False) s
  unfold ltLen
  generalize k p.1 = x at h1 ⊢
  generalize k q.1 = y at h2 ⊢
  obtain ⟨a, o, t, b, n, e, ho, hc, hd, hb⟩ := h1
  obtain ⟨a', o', t', b', n', e', ho', hc', hd', hb'⟩ := h2
  rw [e, e']
  refine PySem.W.kat_lt ho hd ho' hd' ?_
  show PySem.W.KatLex prog w A true (decide (2 < 2)) _ [(.int (x.length : Int) t, .int (y.length : Int) t'), (.ref b, .ref b')] 0 s
  refine PySem.W.kat_cons (SeqAt.EqAt.int_int _ t _ t' prog w _ _ ?_)
  refine PySem.W.kat_go (fun e1 => ?_) (fun e1 => ?_)
  · have ex : x.length = y.length := by
      have : (x.length : Int) = (y.length : Int) := by simpa using e1
      omega
    rw [if_pos ex]
    refine PySem.W.kat_yes (PySem.W.kat_cons (seq_eq hb hb' ex hu prog w _ _ ?_))
    refine PySem.W.kat_go (fun e2 => ?_) (fun e2 => ?_)
    · have ey : x = y := of_decide_eq_true e2
      have irr : HT.lexLt x y = false := by
        rw [ey]
        cases h : HT.lexLt y y with
        | false => rfl
        | true => exact h.symm.trans (lexLt_iff h)
      exact PySem.W.kat_yes (PySem.W.kat_nil ⟨rfl, irr.symm⟩)
    · refine PySem.W.kat_no (PySem.W.kat_one _ _ (seq_lt hb hb' ex hu prog w _ _ ?_))
      exact (show s = s ∧ HT.lexLt x y = HT.lexLt x y from ⟨rfl, rfl⟩)
  · have ex : ¬ x.length = y.length := fun z => by
      rw [z] at e1
      simp at e1
    rw [if_neg ex]
    refine PySem.W.kat_no (oneLt_int ⟨rfl, ?_⟩)
    rw [Bool.eq_iff_iff, decide_eq_true_iff, decide_eq_true_iff]
    omega
theorem IsLen.keeps {tup : Bool} {h h' : Heap} {v : Value} {ns : List Int} (p : IsLen tup h v ns) (k : ∀ b o, h.get? b = some o → h'.get? b = some o) : IsLen tup h' v ns := by
  obtain ⟨a, o, t, b, m, e, ho, hc, hd, hb⟩ := p
  exact ⟨a, o, t, b, m, e, k _ _ ho, hc, hd, hb.keeps fun o e => k _ _ e⟩
theorem len_firsts {tup : Bool} {h : Heap} : ∀ {vs : List Value}, (∀ v ∈ vs, ∃ ns, IsLen tup h v ns) → ∃ fs : List Value, PySem.W.KatTups h vs fs ∧ fs.length = vs.length ∧ ∀ f ∈ fs, ∃ x t, f = Value.int x t
  | [], _ => ⟨[], PySem.W.KatTups.nil, rfl, fun _ hm => by simp at hm⟩
  | v :: vs, hp => by
    obtain ⟨fs, h1, h2, h3⟩ := len_firsts (vs := vs) fun v' hm => hp v' (List.mem_cons_of_mem _ hm)
    obtain ⟨ns, a, o, t, b, m, e, ho, hc, hd, hb⟩ := hp v List.mem_cons_self
    refine ⟨.int (ns.length : Int) t :: fs, ⟨⟨a, o, _, m, e, ho, hc, hd, rfl⟩, h1⟩, by rw [List.length_cons, List.length_cons, h2], fun f hf => ?_⟩
    rcases List.mem_cons.mp hf with rfl | hf
    · exact ⟨_, _, rfl⟩
    · exact h3 f hf
/-- sorted(l) of such pairs -/
theorem sorted_lens {tup : Bool} {l : Addr} {vs : List Value} {k : Value → List Int} {E : Value → Shared → Prop} {Q : Value → Shared → Prop} (hu : A.in1.in1.units < cLine) (hl : s.heap.IsList l vs.toArray) (hz : vs.length ≤ sizeLine) (hp : ∀ v ∈ vs, IsLen tup s.heap v (k v))
    (h : ∀ (h' : Heap) (d : Addr) (out : List Value), SrtO.Srtd (fun v u => ltLen (k v) (k u)) out → SrtO.Stb (fun v u => ltLen (k v) (k u)) out vs → (∀ b o, s.heap.get? b = some o → h'.get? b = some o) → s.heap.objs.size ≤ d → (∃ n, h'.get? d = some (seqObj "list" out.toArray n)) → Q (.ref d) { s with heap := h' }) :
    wpAny (model prog w) A (call (.builtin "sorted") [.ref l]) Q E s := by
  refine SrtO.sorted_ord (swo_len k) hl hz (fun h2 h₁ a ha kk => ?_) fun out hs hb => ?_
  · intro h' keep
    have hp' : ∀ v ∈ vs, IsLen tup h' v (k v) := fun v hm => (hp v hm).keeps fun b o e => keep b o (kk b o e).1 (kk b o e).2
    obtain ⟨fs, g1, g2, g3⟩ := len_firsts fun v hm => ⟨_, hp' v hm⟩
    refine ⟨tuples' true, fun Q E hq => ?_, len_cmp hu hp'⟩
    refine PySem.W.kat_kind (T := .type "int") g1 (by omega) (fun f hm => ?_) (by rfl) ?_
    · obtain ⟨x, t, rfl⟩ := g3 f hm
      exact PySem.W.Looks.now
    · have e : (Value.type "int" != Value.type "tuple") = true := by first | decide +kernel | rfl | decide
      rw [e]
      exact hq
  · exact h _ _ out hs hb (fun b o e => sortedAll_old e) (Nat.le_succ _) (sortedAll_at s.heap vs out.toArray)
end
/-- sorted(xs), xs a list of such pairs (k says which): a new list, sorted, equal ones in their order -/
def rSortLen (K : PySem.W.Frag) (tup : Bool) : List V → Hp → VK → Prop := fun vs H Q => ∃ (a : Addr) (xs : List V) (k : V → List Int), vs = [V.ref a] ∧ SqL K H a xs ∧
  (∀ x ∈ xs, ∃ t b, x = V.ref t ∧ H t = some (.tup [.int ((k x).length : Int), .ref b]) ∧ (if tup = true then SqT K H b ((k x).map V.int) else SqL K H b ((k x).map V.int))) ∧
  ∀ ys p, SrtO.Srtd (fun x y => ltLen (k x) (k y)) ys → ys.Perm xs → H p = none → Q (.ref p) (upd H p (.lst ys))
theorem cr_sortedLen {X : Cx} {tup : Bool} (hu : X.A.units + 8 < cLine) : CallR X (.builtin "sorted") (rSortLen X.K tup) := by
  intro pins s σ H vs us Q I r h
  obtain ⟨a, xs, k, rfl, hs, hx, q⟩ := h
  obtain ⟨its, rv, hl, hz⟩ := I.list hs
  obtain ⟨u, rfl, ru⟩ := vals1 r
  obtain rfl : u = Value.ref a := ru
  obtain ⟨e1, e2⟩ := refs_back rv fun x m => by
    obtain ⟨t, b, e, _⟩ := hx x m
    exact ⟨t, e⟩
  refine sorted_lens (tup := tup) (k := fun u => k (backV u)) (by show X.A.units + 1 + 1 < cLine; omega) hl.isList (by rw [← rv.length]; exact hz) (fun v hv => ?_) fun h' d out h1 h2 kp hd hn => ?_
  · obtain ⟨t, rfl⟩ := e2 v hv
    have hm : V.ref t ∈ xs := by rw [e1]; exact List.mem_map.mpr ⟨_, hv, rfl⟩
    obtain ⟨t', b, e, ht, hb⟩ := hx _ hm
    cases e
    obtain ⟨_, its2, r2, o, ho, hc, n, hd⟩ := I.hok _ _ ht
    obtain ⟨u1, u2, rfl, ri, rj⟩ := vals2 r2
    obtain ⟨t1, rfl⟩ := ri
    obtain rfl : u2 = Value.ref b := rj
    refine ⟨t, o, t1, b, n, rfl, ho, hc, hd, ?_⟩
    cases tup with
    | true =>
      obtain ⟨its3, r3, p3, _⟩ := I.tuple hb
      exact ⟨_, p3, r3.ints⟩
    | false =>
      obtain ⟨its3, r3, p3, _⟩ := I.list hb
      exact ⟨_, p3.isList, r3.ints⟩
  · have h3 : ∀ u ∈ out, ∃ a, u = Value.ref a := fun u hu => e2 u (h2.perm.mem_iff.mp hu)
    obtain ⟨n, hn⟩ := hn
    have pm : (out.map backV).Perm xs := by
      rw [e1]
      exact h2.perm.map backV
    refine ⟨.ref d, upd H d (.lst (out.map backV)), I.laid (t' := s.toks) kp hd ⟨?_, out, n, L2.vals_back h3, hn⟩, rfl, q _ d (SrtO.srtd_map (lt := fun x y => ltLen (k x) (k y)) (f := backV) h1) pm (I.hok.fresh hd)⟩
    rw [pm.length_eq]
    exact hz
end Lk
set_option Elab.async false
set_option linter.all false
set_option maxRecDepth 100000
set_option maxHeartbeats 4000000
set_option pp.maxSteps 1200
set_option pp.deepTerms false
namespace K6
open PySem PySem.Spec PyProof.Rows L2 Lk
abbrev sLots : Stmt := top 25
/-! ### pure: the places of a code -/
/-- the places that are in a code -/
def rowC (n c : Nat) : List Nat := (List.range n).filter fun p => decide (c / 2 ^ p % 2 = 1)
def rowI (n c : Nat) : List Int := (rowC n c).map fun p : Nat => (p : Int)
theorem rowC_len (n c : Nat) : (rowC n c).length ≤ n := by
  have := List.length_filter_le (fun p => decide (c / 2 ^ p % 2 = 1)) (List.range n)
  rw [List.length_range] at this
  exact this
theorem rowC_lt {n c p : Nat} (h : p ∈ rowC n c) : p < n := List.mem_range.mp (List.mem_filter.mp h).1
theorem rowC_sub (n c : Nat) : (rowC n c).Sublist (List.range n) := List.filter_sublist
theorem rowC_congr {n c d : Nat} (h : ∀ p, p < n → c / 2 ^ p % 2 = d / 2 ^ p % 2) : rowC n c = rowC n d := by
  refine List.filter_congr fun p hp => ?_
  rw [h p (List.mem_range.mp hp)]
/-- each choice of places has a code -/
theorem rowC_has : ∀ (n : Nat) (q : Nat → Bool), ∃ c, c < 2 ^ n ∧ ∀ p, p < n → (c / 2 ^ p % 2 = 1 ↔ q p = true)
  | 0, _ => ⟨0, by decide, fun p h => absurd h (Nat.not_lt_zero p)⟩
  | n + 1, q => by
    obtain ⟨c, hc, h⟩ := rowC_has n q
    cases hq : q n with
    | false =>
      refine ⟨c, Nat.lt_of_lt_of_le hc (Nat.pow_le_pow_right (by decide) (Nat.le_succ n)), fun p hp => ?_⟩
      rcases Nat.lt_or_ge p n with h1 | h1
      · exact h p h1
      · have : p = n := by omega
        subst this
        rw [Nat.div_eq_of_lt hc, hq]
        decide
    | true =>
      refine ⟨c + 2 ^ n, by rw [Nat.pow_succ]; omega, fun p hp => ?_⟩
      rcases Nat.lt_or_ge p n with h1 | h1
      · have e : 2 ^ n = 2 ^ p * (2 * 2 ^ (n - p - 1)) := by
          rw [← Nat.pow_succ', ← Nat.pow_add]
          congr 1
          omega
        rw [e, Nat.add_mul_div_left _ _ (Nat.pow_pos (by decide)), Nat.add_mul_mod_self_left]
        exact h p h1
      · have : p = n := by omega
        subst this
        rw [Nat.add_div_right _ (Nat.pow_pos (by decide)), Nat.div_eq_of_lt hc, hq]
        decide
/-- the names at these places -/
def namesAt (zs : List Str) (q : List Nat) : List Str := q.map fun p => zs.getD p Str.empty
theorem namesAt_sub (zs : List Str) (n c : Nat) (h : n = zs.length) : (namesAt zs (rowC n c)).Sublist zs := by
  subst h
  have e : (List.range zs.length).map (fun p => zs.getD p Str.empty) = zs := by
    refine List.ext_getElem (by simp) fun i h1 h2 => ?_
    simp [List.getElem?_eq_getElem h2]
  have := (rowC_sub zs.length c).map fun p => zs.getD p Str.empty
  rw [e] at this
  exact this
theorem namesAt_has {zs ys : List Str} (nd : zs.Nodup) (h : ys.Sublist zs) : ∃ c, c < 2 ^ zs.length ∧ namesAt zs (rowC zs.length c) = ys := by
  obtain ⟨c, hc, hp⟩ := rowC_has zs.length fun p => decide (zs.getD p Str.empty ∈ ys)
  refine ⟨c, hc, ?_⟩
  have e : (List.range zs.length).map (fun p => zs.getD p Str.empty) = zs := by
    refine List.ext_getElem (by simp) fun i h1 h2 => ?_
    simp [List.getElem?_eq_getElem h2]
  have f : namesAt zs (rowC zs.length c) = zs.filter fun z => decide (z ∈ ys) := by
    unfold namesAt rowC
    have g : ((List.range zs.length).filter fun p => decide (c / 2 ^ p % 2 = 1)) = (List.range zs.length).filter ((fun z => decide (z ∈ ys)) ∘ fun p => zs.getD p Str.empty) := by
      refine List.filter_congr fun p hp' => ?_
      have := hp p (List.mem_range.mp hp')
      rw [Bool.eq_iff_iff, decide_eq_true_iff, this]
      rfl
    rw [g, ← List.filter_map, e]
  have k := sub_key (fun z : Str => z) h (by rw [List.map_id']; exact nd)
  rw [f]
  rw [List.map_id'] at k
  exact k
/-! ### walks of ranges as values -/
theorem walk_rangeV {lo : Int} {n : Nat} : Walk (Itr lo n) ((List.range n).map fun i => V.int (lo + (i : Nat))).length (fun _ => True) (YAt ((List.range n).map fun i => V.int (lo + (i : Nat)))) := by
  have e : ((List.range n).map fun i => V.int (lo + (i : Nat))).length = n := by rw [List.length_map, List.length_range]
  rw [e]
  refine Walk.mono (walk_range (lo := lo) (n := n)) (fun _ h => h) ?_
  rintro i H x H' hi _ ⟨h1, h2⟩
  refine ⟨h1, ?_⟩
  rw [List.getElem?_map, List.getElem?_range hi, h2]
  rfl
def rShrN : R2 := fun x y H Q => ∃ (i : Int) (k : Nat), x = .int i ∧ y = .int (k : Int) ∧ Q (.int (i / 2 ^ k)) H
def rOdd1 : R2 := fun x y H Q => ∃ n : Nat, x = .int (n : Int) ∧ y = .int 1 ∧ Q (.int ((n % 2 : Nat) : Int)) H
def tBitT (K : PySem.W.Frag) (i j : Nat) : TT := fun σ H Q => tOp rOdd1 (tOp rShrN (tVar i) (tVar j)) (tC (.int 1)) σ H fun x H' => ∃ k, TruV K x H' k ∧ Q k H'
def asgScope (st : Stmt) (i : Nat) : Scope := match (defBody st).getD i (.Pass ⟨0, 0, 0, 0⟩) with
  | .Assign _ (.ListComp _ _ sc _) _ => sc
  | _ => defScope st
def retScope (st : Stmt) (i : Nat) : Scope := match (defBody st).getD i (.Pass ⟨0, 0, 0, 0⟩) with
  | .Return (some (.Call _ [.ListComp _ _ sc _] _ _)) _ => sc
  | _ => defScope st
theorem fm_row (n c : Nat) : ∀ ps : List Nat, (ps.filterMap fun p => if c / 2 ^ p % 2 = 1 then some (V.int ((0 : Int) + (p : Nat))) else none) = ((ps.filter fun p => decide (c / 2 ^ p % 2 = 1)).map fun p : Nat => (p : Int)).map V.int
  | [] => rfl
  | p :: ps => by
    have ih := fm_row n c ps
    by_cases h : c / 2 ^ p % 2 = 1
    · rw [List.filterMap_cons, if_pos h, List.filter_cons_of_pos (by simpa using h), List.map_cons, List.map_cons, ih, Int.zero_add]
    · rw [List.filterMap_cons, if_neg h, List.filter_cons_of_neg (by simpa using h), ih]
theorem fm_at (zs : List Str) : ∀ q : List Nat, ((q.map fun p : Nat => (p : Int)).filterMap fun p => some (V.str (zs.getD p.toNat Str.empty))) = (namesAt zs q).map V.str
  | [] => rfl
  | p :: q => by
    have ih := fm_at zs q
    rw [List.map_cons, List.filterMap_cons]
    show V.str _ :: _ = V.str _ :: _
    rw [ih, Int.toNat_natCast]
    rfl
section
variable {P : Program} {w : World} {K : PySem.W.Frag} {mg : Str → Option Value} {base : Heap} {f : Addr} {fd : FuncData}
/-! ### Circle.__len__ -/
def spCircLen (C : Addr) : Sp := fun vs H Q _ => ∃ (c : Addr) (zs : List Str), vs = [.ref c] ∧ CircAt H C c zs ∧ Q (.int zs.length) H
theorem scCircLen : FnScope ["self"] ["self"] (defScope sCircLen) := ⟨rfl, rfl, rfl, by decide +kernel, rfl, by decide +kernel, by decide +kernel⟩
theorem ok_circLen {C fC : Addr} (F : Fun K "__len__" "Circle.__len__" sCircLen f fd) (T : Bl mg) (CC : CircC K C fC) : FnOk P w K mg base CX0 1 f fd ["self"] (spCircLen C) := by
  refine F.ok scCircLen (fun vs H Q E h => ?_) (fun cdv A outer s H vs Q E hr h => ?_)
  · obtain ⟨c, zs, rfl, _⟩ := h
    rfl
  · obtain ⟨c, zs, rfl, ⟨cdx, nm, ec, en⟩, k⟩ := h
    refine ⟨_, pss_one (ps_ret (pe_callB call_len_seq (by rfl) T.len PySem.boot_len (pa_cons (pe_fld (pv 0) rfl) pa_nil))), ?_⟩
    refine ⟨_, rfl, c, C, cdx, _, .ref nm, rfl, ec, CC.cls, CC.nm, rfl, nm, _, rfl, .inr en.sq, ?_⟩
    rw [List.length_map]
    exact k
/-! ### lots -/
def RelL (D : Addr) (H : Hp) (v : V) (ns : List Int) : Prop := ∃ t, v = V.ref t ∧ H t = some (.lst (ns.map V.int)) ∧ t ≠ D
def RelPr (H : Hp) (v : V) (ns : List Int) : Prop := ∃ t b, v = V.ref t ∧ H t = some (.tup [.int (ns.length : Int), .ref b]) ∧ H b = some (.lst (ns.map V.int))
def RelT (H : Hp) (v : V) (ys : List Str) : Prop := ∃ t, v = V.ref t ∧ H t = some (.tup (ys.map V.str))
theorem RelPr.inj {H : Hp} {v : V} {ns ms : List Int} (h : RelPr H v ns) (g : RelPr H v ms) : ns = ms := by
  obtain ⟨t, b, e1, e2, e3⟩ := h
  obtain ⟨t', b', f1, f2, f3⟩ := g
  rw [e1] at f1
  cases f1
  rw [e2] at f2
  injection f2 with f2
  injection f2 with f2
  injection f2 with f4 f5
  injection f5 with f5 _
  injection f5 with f5
  subst f5
  rw [e3] at f3
  injection f3 with f3
  injection f3 with f3
  exact (List.map_inj_right (fun a b h => V.int.inj h)).mp f3
/-- all choices of the names, by their number, then their places -/
def LotsOk (zs : List Str) (rws : List (List Str)) : Prop := ∃ ord : List (List Nat), rws = ord.map (namesAt zs) ∧ ord.Perm ((List.range (2 ^ zs.length)).map (rowC zs.length)) ∧ SrtO.Srtd (fun x y : List Nat => ltLen (x.map fun p : Nat => (p : Int)) (y.map fun p : Nat => (p : Int))) ord
def spLots (C : Addr) : Sp := fun vs H Q _ => ∃ (c : Addr) (zs : List Str), vs = [.ref c] ∧ CircAt H C c zs ∧ zs.length ≤ 6 ∧
  ∀ (r : Addr) (ts : List V) (rws : List (List Str)) (H' : Hp), Same H H' → H' r = some (.tup ts) → Paired (RelT H') ts rws → LotsOk zs rws → Q (.ref r) H'
theorem scLots : FnScope ["circle", "codes", "rows", "code", "place", "ordered", "row", "_", "places"] ["circle"] (defScope sLots) := ⟨rfl, rfl, rfl, by decide +kernel, rfl, by decide +kernel, by decide +kernel⟩
def tLenC (C : Addr) (i : Nat) : TE := tCB (rLenI C (spCircLen C)) (tCons (tVar i) tNil)
def tPlaces (K : PySem.W.Frag) : TE := fun σ H Q => tLc (iList K (tVar 8)) (gName 4) tYes (tOp (rIxT K) (tFld K (tVar 0) "names") (tVar 4)) [4] σ H fun x H1 => kTup K x H1 Q
theorem ok_lots {C fC fL : Addr} {fdL : FuncData} (F : Fun K "lots" "lots" sLots f fd) (T : Bl mg) (Cc : Cn mg) (CC : CircC K C fC) (ML : MethC K C "__len__" fL) (FL : Fun K "__len__" "Circle.__len__" sCircLen fL fdL) (bL : Binds K fdL ["self"] []) :
    FnOk P w K mg base CX0 3 f fd ["circle"] (spLots C) := by
  have GL : FnOk P w K mg base CX0 1 fL fdL ["self"] (spCircLen C) := ok_circLen FL T CC
  refine F.ok scLots (fun vs H Q E h => ?_) (fun cdv A outer s H vs Q E hr h => ?_)
  · obtain ⟨c, zs, rfl, _⟩ := h
    rfl
  · obtain ⟨c, zs, rfl, hc, z6, k⟩ := h
    have nd := scLots.nd
    have hu := hu_of hr
    have hu8 : _ + 8 < cLine := Nat.lt_of_le_of_lt (Nat.add_le_add_left (by decide) _) (room64 hr)
    refine ⟨_, pss_cons (ps_set (i := 1) nd rfl (.inl rfl) (pe_callTy cr_range1 rfl T.range boot_range (pa_cons (pe_op op_oneShl pe_int (pe_callB (call_lenI GL ML.at_ ML.fn bL hr) (by rfl) T.len PySem.boot_len (pa_cons (pv 0) pa_nil))) pa_nil)))
      (pss_cons (ps_setLc (i := 2) (own := [("code", 3)]) (g := gName 3) (tt := tYes) (te := tLc (iRng1 (tCons (tLenC C 0) tNil)) (gName 4) (tBitT K 3 4) (tVar 4) [4]) rfl nd rfl rfl (sw_true rfl rfl rfl (by decide +kernel)) (pi_rng (pv 1))
          (blkOk_by (N := ["circle", "codes", "rows", "code", "place", "ordered", "row", "_", "places"]) (sc := defScope sLots) (by decide +kernel)) (fun _ _ _ _ _ => pg_name (i := 3) nd rfl (.inr rfl)) (fun _ _ _ _ _ => pts_nil)
          (fun _ _ _ _ _ => pe_lc (own := [("place", 4)]) (g := gName 4) (tt := tBitT K 3 4) (te := tVar 4) rfl nd (pi_range1 (by rfl) T.range (pa_cons (pe_callB (call_lenI GL ML.at_ ML.fn bL hr) (by rfl) T.len PySem.boot_len (pa_cons (pv 0) pa_nil)) pa_nil))
            (blkOk_by (N := ["circle", "codes", "rows", "code", "place", "ordered", "row", "_", "places"]) (sc := relS (asgScope sLots 1) (defScope sLots)) (by decide +kernel)) (fun _ _ _ _ _ => pg_name (i := 4) nd rfl (.inl rfl))
            (fun _ _ _ _ _ => pts_one (pt_truth (pe_op op_odd (pe_op op_shrN (pv 3) (pv 4)) pe_int) (by intro _; rfl))) (fun _ _ _ _ _ => pv 4)))
      (pss_cons (ps_set (i := 5) nd rfl (.inl rfl) (pe_callB (cr_sortedLen (tup := false) hu8) (by rfl) Cc.sorted boot_sorted (pa_cons (pe_lc (own := [("row", 6)]) (g := gName 6) (tt := tYes) (te := tTup (tCons (tCB (rLenS K) (tCons (tVar 6) tNil)) (tCons (tVar 6) tNil))) rfl nd (pi_list (pv 2))
          (blkOk_by (N := ["circle", "codes", "rows", "code", "place", "ordered", "row", "_", "places"]) (sc := defScope sLots) (by decide +kernel)) (fun _ _ _ _ _ => pg_name (i := 6) nd rfl (.inl rfl)) (fun _ _ _ _ _ => pts_nil)
          (fun _ _ _ _ _ => pe_tup (pa_cons (pe_callB call_len_seq (by rfl) T.len PySem.boot_len (pa_cons (pv 6) pa_nil)) (pa_cons (pv 6) pa_nil)))) pa_nil)))
      (pss_one (ps_ret (pe_tupleOf (by rfl) Cc.tuple (pe_lc (own := [("_", 7), ("places", 8)]) (g := gTup K 2 (gCons (gName 7) (gCons (gName 8) gNil))) (tt := tYes)
          (te := tPlaces K) rfl nd (pi_list (pv 5))
          (blkOk_by (N := ["circle", "codes", "rows", "code", "place", "ordered", "row", "_", "places"]) (sc := defScope sLots) (by decide +kernel)) (fun _ _ _ _ _ => pg_tup rfl (pgs_cons (pg_name (i := 7) nd rfl (.inl rfl)) (pgs_cons (pg_name (i := 8) nd rfl (.inl rfl)) pgs_nil))) (fun _ _ _ _ _ => pts_nil)
          (fun _ _ _ _ _ => pe_tupleOf (by rfl) Cc.tuple (pe_lc (own := [("place", 4)]) (g := gName 4) (tt := tYes) (te := tOp (rIxT K) (tFld K (tVar 0) "names") (tVar 4)) rfl nd (pi_list (pv 8))
            (blkOk_by (N := ["circle", "codes", "rows", "code", "place", "ordered", "row", "_", "places"]) (sc := relS (retScope sLots 3) (defScope sLots)) (by decide +kernel)) (fun _ _ _ _ _ => pg_name (i := 4) nd rfl (.inl rfl)) (fun _ _ _ _ _ => pts_nil)
            (fun _ _ _ _ _ => pe_ix ix_tup (pe_fld (pv 0) rfl) (pv 4) (fun _ _ => rfl)))))))))), ?_⟩
    obtain ⟨cdx, nm, ec, en⟩ := id hc
    have hcs : ∀ {H'}, Same H H' → CircAt H' C c zs := fun s => ⟨cdx, nm, s _ _ ec, en.same s⟩
    refine ⟨_, rfl, c, cdx, _, rfl, ec, c, zs, rfl, hc, _, rfl, by omega, by omega, zs.length, rfl, rfl, by omega, _, rfl, fun p np => ?_⟩
    have eI : ((2 : Int) ^ zs.length) = ((2 ^ zs.length : Nat) : Int) := by push_cast; rfl
    rw [eI]
    have N64 : 2 ^ zs.length ≤ 64 := Nat.le_trans (Nat.pow_le_pow_right (by decide) z6) (by decide)
    have s1 : Same H (upd H p (.rng 0 ((2 ^ zs.length : Nat) : Int))) := same_new np
    have ep : upd H p (.rng 0 ((2 ^ zs.length : Nat) : Int)) p = some (.rng 0 ((2 ^ zs.length : Nat) : Int)) := upd_same
    generalize upd H p (.rng 0 ((2 ^ zs.length : Nat) : Int)) = H1 at s1 ep
    obtain ⟨N, hN⟩ : ∃ N, N = 2 ^ zs.length := ⟨_, rfl⟩
    rw [← hN] at ep N64
    refine ⟨_, rfl, p, 0, (N : Int), rfl, ep, ⟨by decide, by decide, by omega, by omega⟩, fun D nD => ?_⟩
    have eT : ((N : Int) - 0).toNat = N := by omega
    rw [eT]
    refine lc_relD (walk_rangeV (lo := 0) (n := N)) (List.range N) (fun i => V.int ((0 : Int) + (i : Nat))) (fun b => rowI zs.length b) (RelL D) nD (fun Ha Hb v b kb r => ?_) rfl (by rw [List.length_range]; omega) (fun _ _ => trivial) ?_ ?_
    · obtain ⟨t, e1, e2, e3⟩ := r
      exact ⟨t, e1, kb _ _ e3 e2, e3⟩
    · intro i b H2 R hb s2 nD2 kR
      have sH2 := s1.trans s2
      refine ⟨rfl, _, rfl, c, cdx, _, rfl, sH2 _ _ ec, c, zs, rfl, hcs sH2, _, rfl, by omega, by omega, _, rfl, by omega, by omega, fun D2 nD2' => ?_⟩
      refine lc_fm (walk_range (lo := 0) (n := ((zs.length : Nat) : Int).toNat)) (List.range zs.length) (fun q => if b / 2 ^ q % 2 = 1 then some (V.int ((0 : Int) + (q : Nat))) else none) (by rw [List.length_range, Int.toNat_natCast]) (by omega) nD2' (fun _ _ => trivial) ?_ ?_
      · rintro j u q H4 H4' R2 Rn2 hq s4 ⟨rfl, rfl⟩ g1 g2
        have hj : j < zs.length := by
          have := (List.getElem?_eq_some_iff.mp hq).1
          rw [List.length_range] at this
          exact this
        obtain rfl : j = q := by
          rw [List.getElem?_range hj] at hq
          exact Option.some.inj hq
        refine ⟨rfl, _, rfl, _, rfl, _, j, rfl, (show V.int ((0 : Int) + (j : Nat)) = V.int (j : Int) by rw [Int.zero_add]), b / 2 ^ j, (show V.int (((0 : Int) + (b : Nat)) / 2 ^ j) = V.int ((b / 2 ^ j : Nat) : Int) by rw [Int.zero_add]; push_cast; rfl), rfl, _, rfl, ?_⟩
        by_cases h : b / 2 ^ j % 2 = 1
        · exact iteA (by rw [h]; rfl) ⟨_, rfl, g1 _ _ (if_pos h) (Same.refl _)⟩
        · have h0 : b / 2 ^ j % 2 = 0 := by omega
          exact iteB (by rw [h0]; rfl) (g2 _ (if_neg h) (Same.refl _))
      · intro H4 s4 eD2
        rw [fm_row zs.length b] at eD2
        exact kR H4 (.ref D2) s4 ⟨D2, rfl, eD2, fun z => nD2 (by rw [← z]; exact nD2')⟩
    · intro H3 ts s3 eD pr
      obtain ⟨ys, y1, y2, y3⟩ := paired_zip pr
      have yl : ys.length = N := by rw [← List.length_map (f := (·.2)), y2, List.length_map, List.length_range]
      refine ⟨_, rfl, D, rfl, ⟨_, SqL.of eD⟩, fun E nE => ?_⟩
      have relE : ∀ Ha Hb v b, KeepB E Ha Hb → (∃ t q, v = V.ref t ∧ Ha t = some (.tup [.int ((b : List Int).length : Int), .ref q]) ∧ Ha q = some (.lst (b.map V.int)) ∧ t ≠ E ∧ q ≠ E) → (∃ t q, v = V.ref t ∧ Hb t = some (.tup [.int (b.length : Int), .ref q]) ∧ Hb q = some (.lst (b.map V.int)) ∧ t ≠ E ∧ q ≠ E) := fun Ha Hb v b kb ⟨t, q, e1, e2, e3, e4, e5⟩ => ⟨t, q, e1, kb _ _ e4 e2, kb _ _ e5 e3, e4, e5⟩
      refine lc_relD (walk_list (a := D) (xs := ts)) ys (·.1) (·.2) (fun H v b => ∃ t q, v = V.ref t ∧ H t = some (.tup [.int ((b : List Int).length : Int), .ref q]) ∧ H q = some (.lst (b.map V.int)) ∧ t ≠ E ∧ q ≠ E) nE relE y1.symm (by omega) (fun H s => s.seq (SqL.of eD)) ?_ ?_
      · rintro i ⟨yv, yn⟩ H4 R hy s4 nE4 kR
        obtain ⟨t, et, eh, _⟩ := y3 _ (List.mem_of_getElem? hy)
        dsimp only at et eh
        subst et
        have eh4 := s4 _ _ eh
        refine ⟨rfl, _, rfl, t, _, rfl, .inl (SqL.of eh4), _, rfl, few_ok rfl, fun q nq => ?_⟩
        rw [List.length_map]
        refine kR _ (.ref q) (same_new nq) ⟨q, t, rfl, upd_same, same_new nq _ _ eh4, fun z => nE4 (by rw [← z]; exact nq), fun z => ?_⟩
        rw [z, nE] at eh
        cases eh
      · intro H5 ts2 s5 eE pr2
        rw [y2] at pr2
        have pP : Paired (RelPr H5) ts2 ((List.range N).map fun b => rowI zs.length b) := Paired.mapP pr2 fun v b ⟨t, q, e1, e2, e3, _⟩ => ⟨t, q, e1, e2, e3⟩
        obtain ⟨ws, w1, w2, w3⟩ := paired_zip pP
        classical
        obtain ⟨kN, hkN⟩ : ∃ kN : V → List Nat, kN = fun x => if h : ∃ q : List Nat, RelPr H5 x (q.map fun p : Nat => (p : Int)) then h.choose else [] := ⟨_, rfl⟩
        have kOk : ∀ z ∈ ws, ∃ b, b < N ∧ z.2 = rowI zs.length b ∧ kN z.1 = rowC zs.length b := fun z hz => by
          have m : z.2 ∈ (List.range N).map fun b => rowI zs.length b := by rw [← w2]; exact List.mem_map.mpr ⟨z, hz, rfl⟩
          obtain ⟨b, hb, e⟩ := List.mem_map.mp m
          refine ⟨b, List.mem_range.mp hb, e.symm, ?_⟩
          have r := w3 z hz
          rw [← e] at r
          have ex : ∃ q : List Nat, RelPr H5 z.1 (q.map fun p : Nat => (p : Int)) := ⟨_, r⟩
          rw [hkN]
          show (if h : _ then _ else _) = _
          rw [dif_pos ex]
          have := RelPr.inj ex.choose_spec r
          exact (List.map_inj_right (fun a b h => Int.ofNat.inj h)).mp this
        have kmap : ts2.map kN = (List.range N).map (rowC zs.length) := by
          have e1 : ws.map (fun z => kN z.1) = ws.map fun z => z.2.map Int.toNat := List.map_congr_left fun z hz => by
            obtain ⟨b, _, e2, e3⟩ := kOk z hz
            rw [e2, e3]
            unfold rowI
            rw [List.map_map]
            simp [Function.comp_def]
          rw [← w1, List.map_map]
          show ws.map (fun z => kN z.1) = _
          rw [e1]
          have : ws.map (fun z => z.2.map Int.toNat) = (ws.map (·.2)).map fun x => x.map Int.toNat := by rw [List.map_map]; rfl
          rw [this, w2, List.map_map]
          refine List.map_congr_left fun b _ => ?_
          show (rowI zs.length b).map Int.toNat = _
          unfold rowI
          rw [List.map_map]
          simp [Function.comp_def]
        have relK : ∀ x ∈ ts2, RelPr H5 x ((kN x).map fun p : Nat => (p : Int)) := fun x hx => by
          rw [← w1] at hx
          obtain ⟨z, hz, rfl⟩ := List.mem_map.mp hx
          obtain ⟨b, _, e2, e3⟩ := kOk z hz
          rw [e3]
          have := w3 z hz
          rw [e2] at this
          exact this
        refine ⟨E, ts2, fun x => (kN x).map fun p : Nat => (p : Int), rfl, SqL.of eE, fun x hx => ?_, fun os p srt perm np => ?_⟩
        · obtain ⟨t, b, e1, e2, e3⟩ := relK x hx
          exact ⟨t, b, e1, e2, by rw [if_neg (by decide)]; exact SqL.of e3⟩
        have s6 : Same H5 (upd H5 p (.lst os)) := same_new np
        have ep6 : upd H5 p (.lst os) p = some (.lst os) := upd_same
        generalize upd H5 p (.lst os) = H6 at s6 ep6
        have relO : ∀ x ∈ os, RelPr H6 x ((kN x).map fun p : Nat => (p : Int)) := fun x hx => by
          obtain ⟨t, b, e1, e2, e3⟩ := relK x (perm.mem_iff.mp hx)
          exact ⟨t, b, e1, s6 _ _ e2, s6 _ _ e3⟩
        have ordP : (os.map kN).Perm ((List.range N).map (rowC zs.length)) := by
          rw [← kmap]
          exact perm.map kN
        have osl : os.length = N := by
          have := ordP.length_eq
          rw [List.length_map, List.length_map, List.length_range] at this
          exact this
        have sA : Same H H6 := ((s1.trans s3).trans s5).trans s6
        refine ⟨_, rfl, p, rfl, ⟨_, SqL.of ep6⟩, fun G nG => lc_relQ (walk_list (a := p) (xs := os)) nG os id (fun y => namesAt zs (kN y)) RelT (fun Ha Hb v b kp r => ?_) (by rw [List.map_id]) (by omega) (fun H s => s.seq (SqL.of ep6)) ?_ ?_⟩
        · obtain ⟨t, e1, e2⟩ := r
          exact ⟨t, e1, kp _ _ e2 fun _ z => by cases z⟩
        · intro i y H7 R hy s7 kR
          obtain ⟨t, b, e1, e2, e3⟩ := relO y (List.mem_of_getElem? hy)
          have small : ∀ q ∈ kN y, q < zs.length := fun q hq => by
            have m := ordP.mem_iff.mp (List.mem_map.mpr ⟨y, List.mem_of_getElem? hy, rfl⟩)
            obtain ⟨b, _, e⟩ := List.mem_map.mp m
            rw [← e] at hq
            exact rowC_lt hq
          have kl : (kN y).length ≤ 6 := by
            have m := ordP.mem_iff.mp (List.mem_map.mpr ⟨y, List.mem_of_getElem? hy, rfl⟩)
            obtain ⟨b, _, e⟩ := List.mem_map.mp m
            rw [← e]
            exact Nat.le_trans (rowC_len _ _) z6
          have e3' := s7 _ _ e3
          refine ⟨t, _, e1, SqT.of (s7 _ _ e2), rfl, _, _, rfl, _, _, rfl, rfl, rfl, _, rfl, b, rfl, ⟨_, SqL.of e3'⟩, fun E2 nE2 => ?_⟩
          refine lc_fm (walk_list (a := b) (xs := ((kN y).map fun p : Nat => (p : Int)).map V.int)) ((kN y).map fun p : Nat => (p : Int)) (fun p => some (V.str (zs.getD p.toNat Str.empty))) (by simp only [List.length_map]) (by simp only [List.length_map]; omega) nE2 (fun H s => s.seq (SqL.of e3')) ?_ ?_
          · rintro j u q H8 H8' R2 Rn2 hq s8 ⟨rfl, hu⟩ g1 g2
            obtain rfl : V.int q = u := by
              rw [List.getElem?_map, hq] at hu
              exact Option.some.inj hu
            obtain ⟨m, hm, rfl⟩ := List.mem_map.mp (List.mem_of_getElem? hq)
            have ml := small m hm
            have sH8 := (sA.trans s7).trans s8
            refine ⟨rfl, _, rfl, c, C, cdx, _, .ref nm, rfl, sH8 _ _ ec, CC.cls, CC.nm, rfl, _, rfl, nm, zs.map V.str, (m : Int), _, rfl, rfl, (en.same sH8).sq, atN (i := m) (v := V.str (zs.getD m Str.empty)) ?_, g1 _ _ (by rw [Int.toNat_natCast]) (Same.refl _)⟩
            rw [List.getElem?_map, List.getD_eq_getElem?_getD, List.getElem?_eq_getElem ml]
            rfl
          · intro H8 s8 e8
            rw [fm_at] at e8
            exact .inl ⟨E2, _, rfl, SqL.of e8, fun T nT => kR _ _ (s8.trans (same_new nT)) ⟨T, rfl, upd_same⟩⟩
        · intro H9 ts9 s9 eG pr9
          refine .inl ⟨G, _, rfl, SqL.of eG, fun r nr => ?_⟩
          have s10 := same_new (o := HO.tup ts9) nr
          refine k r ts9 (os.map fun y => namesAt zs (kN y)) _ ((sA.trans s9).trans s10) upd_same (Paired.mapP pr9 fun v b ⟨t, e1, e2⟩ => ⟨t, e1, s10 _ _ e2⟩) ⟨os.map kN, by rw [List.map_map]; rfl, ?_, SrtO.srtd_map srt⟩
          rw [← hN]
          exact ordP
end
end K6
set_option Elab.async false
set_option linter.all false
set_option maxRecDepth 100000
set_option maxHeartbeats 4000000
set_option pp.maxSteps 1200
set_option pp.deepTerms false
namespace K6
open PySem PySem.Spec PyProof.Rows L2 Lk
abbrev sFromTo : Stmt := top 14
abbrev sWithin : Stmt := top 28
abbrev sPLess : Stmt := top 29
/-- a def that is called: where it stands -/
structure At (K : PySem.W.Frag) (mg : Str → Option Value) (x : Str) (f : Addr) (fd : FuncData) (ps : List Str) : Prop where
  kp : PySem.W.keepIn K (.ref f) = true
  b : Binds K fd ps []
  m : mg x = some (.ref f)
theorem via {X G : Prop} (f : X → G) (x : X) : G := f x
theorem all_in (zs : List Str) : ∀ ys : List Str, (ys.map fun y => decide (y ∈ zs)).all id = ys.all fun y => decide (y ∈ zs)
  | [] => rfl
  | y :: ys => by
    have ih := all_in zs ys
    rw [List.map_cons, List.all_cons, List.all_cons, ih]
    rfl
theorem fm_some {α : Type} (q : α → V) : ∀ xs : List α, (xs.filterMap fun x => some (q x)) = xs.map q
  | [] => rfl
  | x :: xs => by rw [List.filterMap_cons, List.map_cons, fm_some q xs]
section
variable {P : Program} {w : World} {K : PySem.W.Frag} {mg : Str → Option Value} {base : Heap} {f : Addr} {fd : FuncData}
/-! ### is_from_to, refuse_bound -/
def spFromTo : Sp := fun vs H Q _ => ∃ i lo hi : Int, vs = [.int i, .int lo, .int hi] ∧ lo ≤ i ∧ i ≤ hi ∧ Q (.bl true) H
theorem scFromTo : FnScope ["value", "low", "high"] ["value", "low", "high"] (defScope sFromTo) := ⟨rfl, rfl, rfl, by decide +kernel, rfl, by decide +kernel, by decide +kernel⟩
theorem ok_fromTo {f1 : Addr} {fd1 : FuncData} (F : Fun K "is_from_to" "is_from_to" sFromTo f fd) (T : Bl mg) (G1 : FnOk P w K mg base CX0 1 f1 fd1 ["value"] spIsInt) (a1 : At K mg "is_integer" f1 fd1 ["value"]) :
    FnOk P w K mg base CX0 2 f fd ["value", "low", "high"] spFromTo := by
  refine F.ok scFromTo (fun vs H Q E h => ?_) (fun cdv A outer s H vs Q E hr h => ?_)
  · obtain ⟨i, lo, hi, rfl, _⟩ := h
    rfl
  · obtain ⟨i, lo, hi, rfl, h1, h2, k⟩ := h
    refine ⟨_, pss_one (ps_ret (pe_and (pe_call G1 hr (by rfl) a1.m a1.kp a1.b .nil pass0 (pa_cons (pv 0) pa_nil)) (pe_one (pe_chain op_le op_le (pv 1) (pv 0) (pv 2))))), ?_⟩
    refine ⟨_, rfl, i, rfl, _, rfl, iteT ?_⟩
    refine ⟨_, rfl, _, rfl, _, _, rfl, rfl, _, rfl, iteA (decide_eq_true h1) ⟨_, rfl, _, _, rfl, rfl, ?_⟩⟩
    show Q (.bl (decide (i ≤ hi))) H
    rw [decide_eq_true h2]
    exact k
def spRefBound : Sp := fun vs H Q _ => ∃ n : Nat, vs = [.int (n : Int)] ∧ n ≤ 3 ∧ Q .non H
/-! ### is_within, less -/
def spWithin (K : PySem.W.Frag) : Sp := fun vs H Q _ => ∃ (a b : Addr) (ys zs : List Str), vs = [.ref a, .ref b] ∧ Sq K H a (ys.map V.str) ∧ Sq K H b (zs.map V.str) ∧ ys.length ≤ 100 ∧ ∀ H', Same H H' → Q (.bl (ys.all fun y => decide (y ∈ zs))) H'
theorem scWithin : FnScope ["lot", "other", "name"] ["lot", "other"] (defScope sWithin) := ⟨rfl, rfl, rfl, by decide +kernel, rfl, by decide +kernel, by decide +kernel⟩
theorem ok_within (F : Fun K "is_within" "is_within" sWithin f fd) (T : Bl mg) : FnOk P w K mg base CX0 1 f fd ["lot", "other"] (spWithin K) := by
  refine F.ok scWithin (fun vs H Q E h => ?_) (fun cdv A outer s H vs Q E hr h => ?_)
  · obtain ⟨a, b, ys, zs, rfl, _⟩ := h
    rfl
  · obtain ⟨a, b, ys, zs, rfl, ha, hb, y100, k⟩ := h
    have nd := scWithin.nd
    refine ⟨_, pss_one (ps_ret (pe_callB (cr_all rfl) (by rfl) T.all boot_all (pa_cons (pe_lc (own := [("name", 2)]) (g := gName 2) (tt := tYes) (te := tOp (rIn K false) (tVar 2) (tVar 1)) rfl nd (pi_seq (pi_list (pv 0)) (pi_tup (pv 0))) (blkOk_by (N := ["lot", "other", "name"]) (sc := defScope sWithin) (by decide +kernel))
        (fun _ _ _ _ _ => pg_name (i := 2) nd rfl (Or.inl rfl)) (fun _ _ _ _ _ => pts_nil) (fun _ _ _ _ _ => pe_cmpR op_in_seq (pv 2) (pv 1) rfl)) pa_nil))), ?_⟩
    refine ⟨a, rfl, seq_lc (Q := fun x H1 => rAll K [x] H1 Q) ys V.str (fun p => some (V.bl (decide (p ∈ zs)))) ha (by omega) ?_ ?_⟩
    · intro j y H' R Rn hy s' k1 k2
      refine ⟨rfl, _, rfl, _, rfl, b, _, rfl, hb.same s', rfl, flat_strs _, ?_⟩
      rw [inV_str]
      exact k1 _ _ rfl (Same.refl _)
    · intro D H' nD s' e
      rw [fm_some] at e
      refine ⟨D, ys.map fun y => decide (y ∈ zs), rfl, SqL.of (by rw [e, List.map_map]; rfl), ?_⟩
      rw [all_in]
      exact k H' s'
def spPLess (K : PySem.W.Frag) : Sp := fun vs H Q _ => ∃ (n s : Addr) (ns ss : List Str), vs = [.ref n, .ref s] ∧ Sq K H n (ns.map V.str) ∧ Sq K H s (ss.map V.str) ∧ ns.length ≤ 100 ∧
  ∀ p H', Same H H' → H p = none → H' p = some (.tup ((ns.filter fun p => !decide (p ∈ ss)).map V.str)) → Q (.ref p) H'
theorem scPLess : FnScope ["lot", "other", "name"] ["lot", "other"] (defScope sPLess) := ⟨rfl, rfl, rfl, by decide +kernel, rfl, by decide +kernel, by decide +kernel⟩
theorem ok_pless (F : Fun K "less" "less" sPLess f fd) (hT : mg "tuple" = none) : FnOk P w K mg base CX0 1 f fd ["lot", "other"] (spPLess K) := by
  refine F.ok scPLess (fun vs H Q E h => ?_) (fun cdv A outer s H vs Q E hr h => ?_)
  · obtain ⟨n, q, ns, ss, rfl, _⟩ := h
    rfl
  · obtain ⟨n, q, ns, ss, rfl, hn, hs, n100, k⟩ := h
    have nd := scPLess.nd
    refine ⟨_, pss_one (ps_ret (pe_tupleOf (by rfl) hT (pe_lc (own := [("name", 2)]) (g := gName 2) (tt := tTest (tOp (rIn K true) (tVar 2) (tVar 1))) rfl nd (pi_seq (pi_list (pv 0)) (pi_tup (pv 0))) (blkOk_by (N := ["lot", "other", "name"]) (sc := defScope sPLess) (by decide +kernel))
        (fun _ _ _ _ _ => pg_name (i := 2) nd rfl (Or.inl rfl)) (fun _ _ _ _ _ => pts_one (pt_cmpR op_notIn_seq (pv 2) (pv 1) rfl)) (fun _ _ _ _ _ => pv 2)))), ?_⟩
    refine ⟨n, rfl, seq_lc (Q := fun x H1 => kTup K x H1 Q) ns V.str (fun p => if p ∈ ss then none else some (V.str p)) hn (by omega) ?_ ?_⟩
    · intro j b H' R Rn hb s' k1 k2
      refine ⟨rfl, _, rfl, _, rfl, q, _, rfl, hs.same s', rfl, flat_strs _, _, rfl, ?_⟩
      rw [inV_str]
      by_cases hz : b ∈ ss
      · refine iteB (by simp [hz]) ?_
        exact k2 _ (by simp [hz]) (Same.refl _)
      · refine iteA (by simp [hz]) ?_
        exact ⟨_, rfl, k1 _ _ (by simp [hz]) (Same.refl _)⟩
    · intro D H' nD s' e
      rw [fm_ifn] at e
      exact .inl ⟨D, _, rfl, SqL.of e, fun T nT => k T _ (s'.trans (same_new nT)) (s'.free nT) upd_same⟩
/-! ### tells_all, brings_back -/
def backN (L : Lore) (ys : List Str) : Bool := decide ((tabC L (spotsIn L ys)).length = 2 ^ L.parts.length)
def spTellsAll (C CS : Addr) : Sp := fun vs H Q _ => ∃ (x p : Addr) (L : Lore) (ts : List V) (ss : List Spot), vs = [.ref x, .ref p] ∧ ShAt H C CS x L ∧ LoreOk L ∧ H p = some (.tup ts) ∧ Paired (RelS H) ts ss ∧ ss.Sublist (spotsOf L.kps) ∧
  ∀ H', Same H H' → Q (.bl (decide ((tabC L ss).length = 2 ^ L.parts.length))) H'
def spBack (C CS : Addr) : Sp := fun vs H Q _ => ∃ (x t : Addr) (L : Lore) (ys : List Str), vs = [.ref x, .ref t] ∧ ShAt H C CS x L ∧ LoreOk L ∧ LotAt H t ys ∧ ys.Sublist (L.kps.map (·.1)) ∧ ∀ H', Same H H' → Q (.bl (backN L ys)) H'
end
end K6
set_option Elab.async false
set_option linter.all false
set_option maxRecDepth 100000
set_option maxHeartbeats 4000000
namespace K6
open PySem PySem.Spec PyProof.Rows L2 Lk
/-! ### what is asked of the answers -/
theorem names_eq (As : Ans) : As.map (·.1.1) = (As.map (·.1)).map (·.1) := by rw [List.map_map]; rfl
theorem rowsA_fst {L : Lore} (ok : LoreOk L) {As : Ans} (ao : AnsOk L As) : (rowsA L As).map (·.1) = rowsC L (spotsIn L (As.map (·.1.1))) := by
  unfold rowsC
  rw [names_eq, spotsIn_sub ok ao.sub, ← valued_spots ao.len, List.map_map, List.map_map]
  rfl
theorem fit_len {L : Lore} (ok : LoreOk L) {As : Ans} (ao : AnsOk L As) (h : fitV L As ≠ []) : (fitV L As).length = (kerL L.parts.length (rowsC L (spotsIn L (As.map (·.1.1))))).length := by
  have p := fit_perm ok ao
  rw [p.length_eq, ← rowsA_fst ok ao]
  refine fit_ker fun e => h ?_
  rw [e] at p
  exact List.Perm.eq_nil p
theorem tabC_ok (L : Lore) (ss : List Spot) : TbOk L.parts.length (rowsC L ss) (tabC L ss) := table_ok rowsC_len
/-- what brings back leaves at most one record -/
theorem back_one {L : Lore} (ok : LoreOk L) {As : Ans} (ao : AnsOk L As) (h : backB L (As.map (·.1)) = true) : (fitV L As).length ≤ 1 := by
  by_cases e : fitV L As = []
  · rw [e]
    exact Nat.zero_le _
  · rw [fit_len ok ao e]
    refine units_ker (tabC_ok L _) fun i hi => ?_
    have := List.all_eq_true.mp h i (List.mem_range.mpr hi)
    rw [← names_eq] at this
    exact of_decide_eq_true this
/-- how many are told apart -/
theorem unlike_eq {L : Lore} (ok : LoreOk L) {As : Ans} (ao : AnsOk L As) (h : fitV L As ≠ []) : ((2 ^ L.parts.length : Nat) : Int) / ((fitV L As).length : Int) = ((tabC L (spotsIn L (As.map (·.1.1)))).length : Int) := by
  have r := (tabC_ok L (spotsIn L (As.map (·.1.1)))).rank
  rw [← fit_len ok ao h] at r
  have l0 : 0 < (fitV L As).length := List.length_pos_iff.mpr h
  rw [← r]
  have : (((tabC L (spotsIn L (As.map (·.1.1)))).length * (fitV L As).length : Nat) : Int) = ((tabC L (spotsIn L (As.map (·.1.1)))).length : Int) * ((fitV L As).length : Int) := by push_cast; rfl
  rw [this]
  exact Int.mul_ediv_cancel _ (by omega)
/-- if the keepers bring nothing back, a record is lost -/
theorem lost_has {L : Lore} (ok : LoreOk L) {ks : List KP} (sub : ks.Sublist L.kps) (h : backB L ks = false) : ∃ v : Vec, v.length = L.parts.length ∧ lostB L ks v = true := by
  obtain ⟨i, hi, hu⟩ : ∃ i, i < L.parts.length ∧ unitV L.parts.length i ∉ (tabC L (spotsIn L (ks.map (·.1)))).map (·.1) := by
    unfold backB at h
    rw [List.all_eq_false] at h
    obtain ⟨i, hi, hn⟩ := h
    exact ⟨i, List.mem_range.mp hi, by simpa using hn⟩
  obtain ⟨v, vl, v1, v0⟩ := unit_lost (tabC_ok L _) hu
  refine ⟨v, vl, ?_⟩
  unfold lostB
  rw [Bool.and_eq_true]
  refine ⟨decide_eq_true ?_, ?_⟩
  · cases e : v[i]? with
    | none => rw [e] at v1; cases v1
    | some b =>
      rw [e] at v1
      have : b = true := v1
      subst this
      exact List.mem_of_getElem? e
  · rw [Bool.not_eq_true', decide_eq_false_iff_not]
    intro hm
    obtain ⟨k, hk, hb⟩ := List.mem_flatMap.mp hm
    obtain ⟨m, hmm⟩ := List.mem_iff_getElem?.mp hb
    have km := sub.subset hk
    unfold ansV at hmm
    rw [List.getElem?_map] at hmm
    cases e : k.2[m]? with
    | none => rw [e] at hmm; cases hmm
    | some p =>
      rw [e] at hmm
      have d1 : dot (vecP L.parts p) v = true := Option.some.inj hmm
      have ml := (List.getElem?_eq_some_iff.mp e).1
      have sm : ((k.1, m) : Spot) ∈ spotsIn L (ks.map (·.1)) := by
        rw [spotsIn_sub ok sub]
        exact List.mem_flatMap.mpr ⟨k, hk, List.mem_map.mpr ⟨m, List.mem_range.mpr ml, rfl⟩⟩
      have := v0 ((k.1, m), codeS L (k.1, m)) (List.mem_map.mpr ⟨_, sm, rfl⟩)
      have c : codeS L (k.1, m) = vecP L.parts p := by
        unfold codeS
        rw [piece_at_of ok km e]
      rw [show (((k.1, m), codeS L (k.1, m)) : RowS).2 = codeS L (k.1, m) from rfl, c, d1] at this
      cases this
theorem dif_nil (L : Lore) (As : Ans) (v : Vec) : decide (difL L As v = []) = fitB L As v := by
  unfold difL fitB
  rw [Bool.eq_iff_iff, decide_eq_true_iff, List.filter_eq_nil_iff, List.all_eq_true]
  constructor
  · intro h a ha
    have := h a ha
    simpa using this
  · intro h a ha
    have := h a ha
    simp at this
    simp [this]
/-! ### wider answers -/
def getA (Es : Ans) (k : KP) : Option Vec := (Es.find? fun e => decide (e.1.1 = k.1)).map (·.2)
def wideA (L : Lore) (Es : Ans) : Ans := L.kps.filterMap fun k => (getA Es k).map fun w => (k, w)
theorem wide_fst (g : KP → Option Vec) : ∀ ks : List KP, ((ks.filterMap fun k => (g k).map fun w => (k, w)).map (·.1)) = ks.filter fun k => (g k).isSome
  | [] => rfl
  | k :: ks => by
    have ih := wide_fst g ks
    cases e : g k with
    | none => rw [List.filterMap_cons, e, List.filter_cons_of_neg (by simp [e])]; exact ih
    | some w =>
      rw [List.filterMap_cons, e, List.filter_cons_of_pos (by simp [e])]
      show k :: _ = k :: _
      rw [ih]
structure EsOk (L : Lore) (Es : Ans) : Prop where
  mem : ∀ e ∈ Es, e.1 ∈ L.kps ∧ e.2.length = e.1.2.length
  nd : (Es.map (·.1.1)).Nodup
theorem getA_some {L : Lore} (ok : LoreOk L) {Es : Ans} (eo : EsOk L Es) {k : KP} (hk : k ∈ L.kps) {w : Vec} (h : getA Es k = some w) : (k, w) ∈ Es := by
  unfold getA at h
  cases e : Es.find? (fun e => decide (e.1.1 = k.1)) with
  | none => rw [e] at h; cases h
  | some x =>
    rw [e] at h
    have hw : x.2 = w := Option.some.inj h
    have hx := List.mem_of_find?_eq_some e
    have hn : x.1.1 = k.1 := by
      have := List.find?_some e
      simpa using this
    have hk2 : x.1 = k := nodup_fst ok.kn (eo.mem x hx).1 hk hn
    rw [← hw, ← hk2]
    exact hx
theorem wide_ok {L : Lore} (ok : LoreOk L) {Es : Ans} (eo : EsOk L Es) : AnsOk L (wideA L Es) := by
  refine ⟨?_, fun a ha => ?_⟩
  · unfold wideA
    rw [wide_fst]
    exact List.filter_sublist
  · obtain ⟨k, hk, h⟩ := List.mem_filterMap.mp ha
    cases e : getA Es k with
    | none => rw [e] at h; cases h
    | some w =>
      rw [e] at h
      have : (k, w) = a := Option.some.inj h
      rw [← this]
      exact (eo.mem _ (getA_some ok eo hk e)).2
theorem find_nd {Es : Ans} : (Es.map (·.1.1)).Nodup → ∀ e ∈ Es, (Es.find? fun x => decide (x.1.1 = e.1.1)) = some e := by
  induction Es with
  | nil => intro _ e h; cases h
  | cons x Es ih =>
    intro nd e h
    have n2 := List.nodup_cons.mp nd
    rcases List.mem_cons.mp h with rfl | h
    · rw [List.find?_cons_of_pos (by simp)]
    · have : x.1.1 ≠ e.1.1 := fun z => n2.1 (List.mem_map.mpr ⟨e, h, z.symm⟩)
      rw [List.find?_cons_of_neg (by simpa using this)]
      exact ih n2.2 e h
theorem wide_has {L : Lore} {Es : Ans} (eo : EsOk L Es) : ∀ e ∈ Es, e ∈ wideA L Es := fun e he => by
  refine List.mem_filterMap.mpr ⟨e.1, (eo.mem e he).1, ?_⟩
  unfold getA
  rw [find_nd eo.nd e he]
  rfl
theorem wide_fewer {L : Lore} {Es As : Ans} (eo : EsOk L Es) (h : ∀ a ∈ As, a ∈ Es) : (fitV L (wideA L Es)).length ≤ (fitV L As).length := by
  have imp : ∀ v, fitB L (wideA L Es) v = true → fitB L As v = true := fun v hv => by
    unfold fitB at hv ⊢
    rw [List.all_eq_true] at hv ⊢
    exact fun a ha => hv a (wide_has eo a (h a ha))
  unfold fitV
  have : ((vL L.parts.length).filter (fitB L (wideA L Es))) = ((vL L.parts.length).filter (fitB L As)).filter (fitB L (wideA L Es)) := by
    rw [List.filter_filter]
    refine List.filter_congr fun v _ => ?_
    cases e : fitB L (wideA L Es) v with
    | false => simp
    | true => rw [imp v e]; rfl
  rw [this]
  exact List.length_filter_le _ _
/-- the dict of all answers -/
theorem more_val {Es : Ans} (nd : (Es.map (·.1.1)).Nodup) (k : KP) : valV (mergeK [] (Es.map fun a => ((.inr a.1.1 : L2.Key), V.str (stv a.2)))) (.inr k.1) = (getA Es k).map fun w => V.str (stv w) := by
  have nk : ((Es.map fun a => ((.inr a.1.1 : L2.Key), V.str (stv a.2))).map (·.1)).Nodup := by
    rw [List.map_map, List.nodup_iff_pairwise_ne, List.pairwise_map]
    rw [List.nodup_iff_pairwise_ne, List.pairwise_map] at nd
    exact nd.imp fun h e => h (Sum.inr.inj e)
  unfold getA
  cases e : Es.find? (fun e => decide (e.1.1 = k.1)) with
  | none =>
    have no : (.inr k.1 : L2.Key) ∉ (Es.map fun a => ((.inr a.1.1 : L2.Key), V.str (stv a.2))).map (·.1) := fun h => by
      rw [List.map_map] at h
      obtain ⟨x, hx, h2⟩ := List.mem_map.mp h
      have := List.find?_eq_none.mp e x hx
      exact this (by simpa using Sum.inr.inj h2)
    rw [merge_not no]
    rfl
  | some x =>
    have hx := List.mem_of_find?_eq_some e
    have hn : x.1.1 = k.1 := by
      have := List.find?_some e
      simpa using this
    rw [← hn]
    exact merge_at nk (List.mem_map.mpr ⟨x, hx, rfl⟩)
end K6
set_option Elab.async false
set_option linter.all false
set_option maxRecDepth 100000
set_option maxHeartbeats 1500000
namespace K6
open PySem PySem.Spec PyProof.Rows L2 Lk
/-! ### pieces that others make -/
theorem codeS_len (L : Lore) (s : Spot) : (codeS L s).length = L.parts.length := vecP_len _ _
/-- whether the keepers cannot make the piece at the spot -/
def lostS (L : Lore) (ys : List Str) (s : Spot) : Bool := !decide (codeS L s ∈ (tabC L (spotsIn L ys)).map (·.1))
/-- a record on which the pieces of the keepers are all 0 -/
def darkB (L : Lore) (ys : List Str) (v : Vec) : Bool := (spotsIn L ys).all fun s => !dot (codeS L s) v
theorem darkB_iff {L : Lore} {ys : List Str} {v : Vec} : darkB L ys v = true ↔ ∀ s ∈ spotsIn L ys, dot (codeS L s) v = false := by
  unfold darkB
  rw [List.all_eq_true]
  constructor
  · intro h s hs
    have := h s hs
    rwa [Bool.not_eq_true'] at this
  · intro h s hs
    rw [h s hs]
    rfl
theorem dark_rows {L : Lore} {ys : List Str} {v : Vec} : darkB L ys v = true ↔ ∀ r ∈ rowsC L (spotsIn L ys), dot r.2 v = false := by
  rw [darkB_iff]
  unfold rowsC
  constructor
  · rintro h r hr
    obtain ⟨s, hs, rfl⟩ := List.mem_map.mp hr
    exact h s hs
  · intro h s hs
    exact h (s, codeS L s) (List.mem_map.mpr ⟨s, hs, rfl⟩)
theorem lostS_iff {L : Lore} {ys : List Str} {s : Spot} : lostS L ys s = true ↔ ∃ v : Vec, v.length = L.parts.length ∧ darkB L ys v = true ∧ dot (codeS L s) v = true := by
  unfold lostS
  rw [Bool.not_eq_true', decide_eq_false_iff_not]
  have tb := tabC_ok L (spotsIn L ys)
  constructor
  · intro h
    obtain ⟨v, vl, vo, v1⟩ := dual L.parts.length (fun a => a ∈ (tabC L (spotsIn L ys)).map (·.1)) tb.zero (fun a b ha hb => tb.closed a b ha hb) (fun a ha => by
      obtain ⟨e, he, rfl⟩ := List.mem_map.mp ha
      exact tb.len e he) (codeS L s) (codeS_len L s) h
    exact ⟨v, vl, dark_rows.mpr fun r hr => vo _ (tb.rows_in r hr), v1⟩
  · rintro ⟨v, vl, vd, v1⟩ h
    have := tb.orth v (dark_rows.mp vd) _ h
    rw [this] at v1
    cases v1
/-- a sum that is told for a piece comes to it -/
theorem sum_piece {L : Lore} (ok : LoreOk L) {ss : List Spot} {s : Spot} (hs : s ∈ spotsOf L.kps) {e : Vec × List RowS} (he : e ∈ tabC L ss) (e1 : e.1 = codeS L s) : oddL L.parts ((e.2.map (·.1)).map (pieceOf L)) = pieceOf L s := by
  obtain ⟨sub, sm⟩ := (tabC_ok L ss).sums e he
  have ev : e.2.map (·.2) = ((e.2.map (·.1)).map (pieceOf L)).map (vecP L.parts) := by
    rw [List.map_map, List.map_map]
    refine List.map_congr_left fun r hr => ?_
    obtain ⟨z, _, rfl⟩ := List.mem_map.mp (sub.subset hr)
    rfl
  rw [ev, sum_codes] at sm
  obtain ⟨j, kq, hj, _, e2⟩ := piece_of ok hs
  have po := (ok.q kq (List.mem_of_getElem? hj)).2.2 _ (List.mem_of_getElem? e2)
  have cs : codeS L s = L.parts.map fun p => decide (p ∈ pieceOf L s) := rfl
  rw [e1, cs] at sm
  have key : ∀ p ∈ L.parts, decide (p ∈ pieceOf L s) = decide (cntP p ((e.2.map (·.1)).map (pieceOf L)) % 2 = 1) := List.map_inj_left.mp sm
  unfold oddL
  rw [po.2]
  refine List.filter_congr fun p hp => ?_
  have := key p hp
  rw [← this]
/-- the parity of the ones -/
theorem dot_fold {n : Nat} {v : Vec} (vl : v.length = n) : ∀ (cs : List Vec) (a : Vec), a.length = n → (∀ c ∈ cs, c.length = n) → dot (cs.foldl vx a) v = xor (dot a v) (decide ((cs.filter fun c => dot c v).length % 2 = 1))
  | [], a, _, _ => by simp
  | c :: cs, a, ha, h => by
    have hc := h c List.mem_cons_self
    have ih := dot_fold vl cs (vx a c) (vx_len ha hc) fun d hd => h d (List.mem_cons_of_mem _ hd)
    rw [List.foldl_cons, ih, dot_vx (ha.trans hc.symm)]
    cases hd : dot c v with
    | false => rw [List.filter_cons_of_neg (p := fun c => dot c v) (by rw [hd]; decide), Bool.xor_false]
    | true =>
      rw [List.filter_cons_of_pos (p := fun c => dot c v) hd, List.length_cons]
      rcases Nat.mod_two_eq_zero_or_one (cs.filter fun c => dot c v).length with h0 | h0
      · rw [h0, show ((cs.filter fun c => dot c v).length + 1) % 2 = 1 from by omega]
        cases dot a v <;> rfl
      · rw [h0, show ((cs.filter fun c => dot c v).length + 1) % 2 = 0 from by omega]
        cases dot a v <;> rfl
theorem dot_sum {n : Nat} {v : Vec} (vl : v.length = n) (cs : List Vec) (h : ∀ c ∈ cs, c.length = n) : dot (sumV n cs) v = decide ((cs.filter fun c => dot c v).length % 2 = 1) := by
  have := dot_fold vl cs (zv n) (zv_len n) h
  rw [dot_zero, Bool.false_xor] at this
  exact this
end K6
set_option Elab.async false
set_option linter.all false
set_option maxRecDepth 100000
set_option maxHeartbeats 4000000
set_option pp.maxSteps 1200
set_option pp.deepTerms false
namespace K6
open PySem PySem.Spec PyProof.Rows L2 Lk
/-- how many answers are not those of the record -/
def distN (L : Lore) (As : Ans) (v : Vec) : Nat := (difL L As v).length
/-- the records against which at most so many answers stand -/
def withinV (L : Lore) (As : Ans) (n : Nat) : List Vec := (vL L.parts.length).filter fun v => decide (distN L As v ≤ n)
def IsMin (L : Lore) (As : Ans) (m : Nat) : Prop := (∃ v, v.length = L.parts.length ∧ distN L As v = m) ∧ ∀ v, v.length = L.parts.length → m ≤ distN L As v
theorem distN_le (L : Lore) (As : Ans) (v : Vec) : distN L As v ≤ As.length := List.length_filter_le _ _
section
variable {P : Program} {w : World} {K : PySem.W.Frag} {mg : Str → Option Value} {base : Heap} {f : Addr} {fd : FuncData}
def spRecsWithin (C CS : Addr) : Sp := fun vs H Q _ => ∃ (x r : Addr) (L : Lore) (As : Ans) (n : Nat), vs = [.ref x, .ref r, .int (n : Int)] ∧ ShAt H C CS x L ∧ LoreOk L ∧ AnsAt H r As ∧ AnsOk L As ∧
  ∀ p H', Same H H' → H p = none → H' p = some (.tup (((withinV L As n).map stv).map V.str)) → Q (.ref p) H'
def spBelieved (C CS : Addr) : Sp := fun vs H Q _ => ∃ (x r : Addr) (L : Lore) (As : Ans) (n : Nat), vs = [.ref x, .ref r, .int (n : Int)] ∧ ShAt H C CS x L ∧ LoreOk L ∧ AnsAt H r As ∧ AnsOk L As ∧ n ≤ 3 ∧
  ∀ p H', Same H H' → H p = none → H' p = some (.tup (((withinV L As n).map stv).map V.str)) → Q (.ref p) H'
def spNearest (C CS : Addr) : Sp := fun vs H Q _ => ∃ (x r : Addr) (L : Lore) (As : Ans), vs = [.ref x, .ref r] ∧ ShAt H C CS x L ∧ LoreOk L ∧ AnsAt H r As ∧ AnsOk L As ∧
  ∀ q p m H', Same H H' → H' q = some (.tup [.int ((m : Nat) : Int), .ref p]) → H' p = some (.tup (((withinV L As m).map stv).map V.str)) → IsMin L As m → Q (.ref q) H'
end
end K6
set_option Elab.async false
set_option linter.all false
set_option maxRecDepth 100000
set_option maxHeartbeats 4000000
set_option pp.maxSteps 1200
set_option pp.deepTerms false
namespace K6
open PySem PySem.Spec PyProof.Rows L2 Lk
theorem lots_has {zs ys : List Str} {rws : List (List Str)} (h : LotsOk zs rws) (nd : zs.Nodup) (s : ys.Sublist zs) : ys ∈ rws := by
  obtain ⟨ord, rfl, p, _⟩ := h
  obtain ⟨c, hc, e⟩ := namesAt_has nd s
  refine List.mem_map.mpr ⟨rowC zs.length c, p.mem_iff.mpr (List.mem_map.mpr ⟨c, List.mem_range.mpr hc, rfl⟩), e⟩
theorem lots_sub {zs ys : List Str} {rws : List (List Str)} (h : LotsOk zs rws) (m : ys ∈ rws) : ys.Sublist zs := by
  obtain ⟨ord, rfl, p, _⟩ := h
  obtain ⟨q, hq, rfl⟩ := List.mem_map.mp m
  obtain ⟨c, _, rfl⟩ := List.mem_map.mp (p.mem_iff.mp hq)
  exact namesAt_sub _ _ _ rfl
def lessL (ys row : List Str) : List Str := ys.filter fun y => !decide (y ∈ row)
/-- whether a lot of so many keepers leaves what does not bring back -/
def dubB (L : Lore) (ys : List Str) (m : Nat) (row : List Str) : Bool := decide (row.length = m) && ((row.all fun y => decide (y ∈ ys)) && !backN L (lessL ys row))
theorem mul_zero {n : Nat} (h1 : 1 ≤ n) (h4 : n ≤ 4) : MulOk ("0" : Str) (n : Int) ∧ Txt.mul ("0" : Str) (n : Int) = stv (List.replicate n false) := by
  have : n = 1 ∨ n = 2 ∨ n = 3 ∨ n = 4 := by omega
  rcases this with rfl | rfl | rfl | rfl
  · exact ⟨⟨by decide, fun _ h => by revert h; decide, fun _ h => by revert h; decide⟩, by decide +kernel⟩
  · exact ⟨⟨by decide, fun _ _ => by decide +kernel, fun _ _ => by decide +kernel⟩, by decide +kernel⟩
  · exact ⟨⟨by decide, fun _ _ => by decide +kernel, fun _ _ => by decide +kernel⟩, by decide +kernel⟩
  · exact ⟨⟨by decide, fun _ _ => by decide +kernel, fun _ _ => by decide +kernel⟩, by decide +kernel⟩
theorem op_mulS {X : Cx} : OpR X (binaryOp .Mult) (fun x y H Q => ∃ (z : Str) (n : Int), x = .str z ∧ y = .int n ∧ MulOk z n ∧ Q (.str (Txt.mul z n)) H) := by
  intro pins s σ H x y v u Q I rx ry h
  obtain ⟨z, n, rfl, rfl, hz, q⟩ := h
  obtain ⟨t, rfl⟩ := rx
  obtain ⟨t', rfl⟩ := ry
  exact SB.mul hz fun t' tk => ⟨.str (Txt.mul z n), H, I.tok _, ⟨_, rfl⟩, q⟩
section
variable {P : Program} {w : World} {K : PySem.W.Frag} {mg : Str → Option Value} {base : Heap} {f : Addr} {fd : FuncData}
def spDoubted (C CS : Addr) : Sp := fun vs H Q _ => ∃ (x t : Addr) (L : Lore) (ys : List Str) (n : Nat), vs = [.ref x, .ref t, .int (n : Int)] ∧ ShAt H C CS x L ∧ LoreOk L ∧ LotE H t ys ∧ ys.Sublist (L.kps.map (·.1)) ∧ n ≤ 3 ∧
  (∀ H', Same H H' → (∀ row, row.Sublist (L.kps.map (·.1)) → dubB L ys (min (2 * n) ys.length) row = false) → Q .non H') ∧
  (∀ q row H', Same H H' → LotAt H' q row → row.Sublist (L.kps.map (·.1)) → dubB L ys (min (2 * n) ys.length) row = true → Q (.ref q) H')
end
end K6
set_option Elab.async false
set_option linter.all false
set_option maxRecDepth 100000
set_option maxHeartbeats 4000000
set_option pp.maxSteps 1200
set_option pp.deepTerms false
namespace K6
open PySem PySem.Spec PyProof.Rows L2 Lk
theorem backN_of {L : Lore} {ks : List KP} (h : backB L ks = true) : backN L (ks.map (·.1)) = true := by
  have r := (tabC_ok L (spotsIn L (ks.map (·.1)))).rank
  have u : (kerL L.parts.length (rowsC L (spotsIn L (ks.map (·.1))))).length ≤ 1 := units_ker (tabC_ok L _) fun i hi => by
    have := List.all_eq_true.mp h i (List.mem_range.mpr hi)
    exact of_decide_eq_true this
  refine decide_eq_true ?_
  have p : 0 < 2 ^ L.parts.length := Nat.pow_pos (by decide)
  rcases Nat.lt_or_ge 0 (kerL L.parts.length (rowsC L (spotsIn L (ks.map (·.1))))).length with h1 | h1
  · have : (kerL L.parts.length (rowsC L (spotsIn L (ks.map (·.1))))).length = 1 := by omega
    rw [this, Nat.mul_one] at r
    exact r
  · have : (kerL L.parts.length (rowsC L (spotsIn L (ks.map (·.1))))).length = 0 := by omega
    rw [this, Nat.mul_zero] at r
    omega
theorem back_lost {L : Lore} (ok : LoreOk L) {ks : List KP} (sub : ks.Sublist L.kps) (h : backN L (ks.map (·.1)) = false) : ∃ v : Vec, v.length = L.parts.length ∧ lostB L ks v = true := by
  cases e : backB L ks with
  | false => exact lost_has ok sub e
  | true => rw [backN_of e] at h; cases h
/-- what brings back leaves at most one record -/
theorem backN_one {L : Lore} (ok : LoreOk L) {As : Ans} (ao : AnsOk L As) (h : backN L (As.map (·.1.1)) = true) : (fitV L As).length ≤ 1 := by
  by_cases e : fitV L As = []
  · rw [e]
    exact Nat.zero_le _
  · rw [fit_len ok ao e]
    have r := (tabC_ok L (spotsIn L (As.map (·.1.1)))).rank
    have t := of_decide_eq_true h
    rw [t] at r
    have p : 0 < 2 ^ L.parts.length := Nat.pow_pos (by decide)
    have : 2 ^ L.parts.length * (kerL L.parts.length (rowsC L (spotsIn L (As.map (·.1.1))))).length = 2 ^ L.parts.length * 1 := by rw [Nat.mul_one]; exact r
    exact Nat.le_of_eq (Nat.eq_of_mul_eq_mul_left p this)
theorem kps_of {ks0 : List KP} {ys : List Str} (h : ys.Sublist (ks0.map (·.1))) : ∃ ks : List KP, ks.Sublist ks0 ∧ ks.map (·.1) = ys := by
  obtain ⟨ks, h1, h2⟩ := List.sublist_map_iff.mp h
  exact ⟨ks, h1, h2.symm⟩
def OverAt (H : Hp) (q : Addr) (L : Lore) (ys : List Str) (n : Nat) : Prop :=
  (H q = some (.tup [.str "sure"]) ∧ ∀ row, row.Sublist (L.kps.map (·.1)) → dubB L ys (min (2 * n) ys.length) row = false) ∨
  ∃ (v : Vec) (d : Addr) (row : List Str) (ks : List KP), H q = some (.tup [.str "open", .str (stv (zv L.parts.length)), .str (stv v), .ref d]) ∧ H d = some (.tup (row.map V.str)) ∧ v.length = L.parts.length ∧ row.Sublist (L.kps.map (·.1)) ∧ dubB L ys (min (2 * n) ys.length) row = true ∧ ks.Sublist L.kps ∧ ks.map (·.1) = lessL ys row ∧ lostB L ks v = true
section
variable {P : Program} {w : World} {K : PySem.W.Frag} {mg : Str → Option Value} {base : Heap} {f : Addr} {fd : FuncData}
def spOver (C CS : Addr) : Sp := fun vs H Q _ => ∃ (x t : Addr) (L : Lore) (ys : List Str) (n : Nat), vs = [.ref x, .ref t, .int (n : Int)] ∧ ShAt H C CS x L ∧ LoreOk L ∧ LotE H t ys ∧ ys.Sublist (L.kps.map (·.1)) ∧ n ≤ 3 ∧
  ∀ q H', Same H H' → OverAt H' q L ys n → Q (.ref q) H'
end
end K6
set_option Elab.async false
set_option linter.all false
set_option maxRecDepth 100000
set_option maxHeartbeats 1500000
set_option pp.maxSteps 1200
set_option pp.deepTerms false
namespace K6
open PySem PySem.Spec PyProof.Rows L2 Lk
/-- what does not tell each part does not bring back -/
theorem back_same {L : Lore} (ok : LoreOk L) {ks : List KP} (sub : ks.Sublist L.kps) : backN L (ks.map (·.1)) = backB L ks := by
  cases hb : backB L ks with
  | true => exact backN_of hb
  | false =>
    obtain ⟨v, vl, hl⟩ := lost_has ok sub hb
    cases hn : backN L (ks.map (·.1)) with
    | false => rfl
    | true =>
      obtain ⟨As, hAs⟩ : ∃ As : Ans, As = ks.map fun k => (k, ansV L k v) := ⟨_, rfl⟩
      have f1 : As.map (·.1) = ks := by rw [hAs, List.map_map]; simp [Function.comp_def]
      have ao : AnsOk L As := ⟨by rw [f1]; exact sub, fun a ha => by
        rw [hAs] at ha
        obtain ⟨k, _, rfl⟩ := List.mem_map.mp ha
        exact ansV_len L k v⟩
      have nm : As.map (·.1.1) = ks.map (·.1) := by rw [names_eq, f1]
      have one := backN_one ok ao (by rw [nm]; exact hn)
      unfold lostB at hl
      obtain ⟨h1, h2⟩ := Bool.and_eq_true_iff.mp hl
      have h1 := of_decide_eq_true h1
      have h2 : ¬ true ∈ ks.flatMap fun k => ansV L k v := by simpa using h2
      have zl : (zv L.parts.length).length = L.parts.length := zv_len _
      have fv : v ∈ fitV L As := by
        refine List.mem_filter.mpr ⟨mem_vL.mpr vl, ?_⟩
        unfold fitB
        rw [List.all_eq_true, hAs]
        intro a ha
        obtain ⟨k, _, rfl⟩ := List.mem_map.mp ha
        exact decide_eq_true rfl
      have fz : zv L.parts.length ∈ fitV L As := by
        refine List.mem_filter.mpr ⟨mem_vL.mpr zl, ?_⟩
        unfold fitB
        rw [List.all_eq_true, hAs]
        intro a ha
        obtain ⟨k, hk, rfl⟩ := List.mem_map.mp ha
        refine decide_eq_true ?_
        show ansV L k (zv L.parts.length) = ansV L k v
        unfold ansV
        refine List.map_congr_left fun p hp => ?_
        rw [dot_zero']
        cases hd : dot (vecP L.parts p) v with
        | false => rfl
        | true => exact absurd (List.mem_flatMap.mpr ⟨k, hk, List.mem_map.mpr ⟨p, hp, hd⟩⟩) h2
      match h : fitV L As, one, fv, fz with
      | [], _, fv, _ => cases fv
      | [y], _, fv, fz =>
        have e : v = zv L.parts.length := by rw [List.mem_singleton.mp fv, List.mem_singleton.mp fz]
        rw [e] at h1
        have := List.eq_of_mem_replicate h1
        cases this
      | _ :: _ :: _, one, _, _ => simp at one
section
variable {P : Program} {w : World} {K : PySem.W.Frag} {mg : Str → Option Value} {base : Heap} {f : Addr} {fd : FuncData}
def spBrings (C CS : Addr) : Sp := fun vs H Q _ => ∃ (x t : Addr) (L : Lore) (ks : List KP), vs = [.ref x, .ref t] ∧ ShAt H C CS x L ∧ LoreOk L ∧ LotAt H t (ks.map (·.1)) ∧ ks.Sublist L.kps ∧ (backB L ks = false → ∃ v : Vec, v.length = L.parts.length ∧ lostB L ks v = true) ∧
  ∀ q v H', Same H H' → H' q = some (.tup [.str (if backB L ks = true then "back" else "lost"), v]) → Q (.ref q) H'
/-! ### _law_of, of a list or a tuple -/
theorem ix_or {X : Cx} {r1 r2 : R2} (h1 : IxR X r1) (h2 : IxR X r2) : IxR X (fun x y H Q => r1 x y H Q ∨ r2 x y H Q) := by
  intro value slice pins s σ H x y v u Q I rx ry h e
  rcases h with h | h
  · exact h1 value slice pins s σ H x y v u Q I rx ry h e
  · exact h2 value slice pins s σ H x y v u Q I rx ry h e
def spOfA (K : PySem.W.Frag) : Sp := fun vs H Q _ => ∃ (a l : Addr) (N : Nat) (xs : List V), vs = [.ref a, .ref l] ∧ PotAt a N H ∧ N ≤ 1000000 ∧ l ≠ a ∧ (H l = some (.lst xs) ∨ H l = some (.tup xs)) ∧ 0 < xs.length ∧ xs.length ≤ 1000 ∧
  ∀ (i : Nat) (x : V) (H' : Hp), xs[i]? = some x → ExtP a H H' → PotAt a (N + 1) H' → Q x H'
theorem ok_ofA {f1 : Addr} {fd1 : FuncData} (F : Fun K "_law_of" "_law_of" sOf f fd) (T : Bl mg) (F1 : Fun K "_law_take" "_law_take" sTake f1 fd1) (b1 : Binds K fd1 ["pot", "upto"] []) (m1 : mg "_law_take" = some (.ref f1)) :
    FnOk P w K mg base CX0 2 f fd ["pot", "some"] (spOfA K) := by
  have G1 : FnOk P w K mg base CX0 1 f1 fd1 ["pot", "upto"] spTake := ok_take F1 T
  refine F.ok scOf (fun vs H Q E h => ?_) (fun cdv A outer s H vs Q E hr h => ?_)
  · obtain ⟨a, l, N, xs, rfl, _⟩ := h
    rfl
  · obtain ⟨a, l, N, xs, rfl, hp, hN, nla, hl, h0, h1, k⟩ := h
    refine ⟨_, pss_one (ps_ret (pe_ix (ix_or ix_list ix_tup) (pv 1) (pe_call G1 hr rfl m1 F1.kp b1 .nil pass0 (pa_cons (pv 0) (pa_cons (pe_callB call_len_seq (by rfl) T.len PySem.boot_len (pa_cons (pv 1) pa_nil)) pa_nil))) (fun _ _ => rfl))), ?_⟩
    refine ⟨_, rfl, _, rfl, _, rfl, l, xs, rfl, hl.elim (fun h => .inl (SqL.of h)) (fun h => .inr (SqT.of h)), a, _, N, rfl, hp, hN, by omega, by omega, fun i H' i0 i1 ex hp' => ?_⟩
    obtain ⟨x, hx⟩ : ∃ x, xs[i.toNat]? = some x := ⟨_, List.getElem?_eq_getElem (by omega)⟩
    have e : atI xs i = some x := by
      have e : i = ((i.toNat : Nat) : Int) := by omega
      rw [e]
      exact atI_nat hx
    rcases hl with hl | hl
    · exact .inl ⟨l, xs, i, x, rfl, rfl, SqL.of (ex l _ nla hl), e, k i.toNat x H' hx ex hp'⟩
    · exact .inr ⟨l, xs, i, x, rfl, rfl, SqT.of (ex l _ nla hl), e, k i.toNat x H' hx ex hp'⟩
end
end K6
set_option Elab.async false
set_option linter.all false
set_option maxRecDepth 100000
set_option maxHeartbeats 1500000
namespace K6
open PySem PySem.Spec PyProof.Rows L2 Lk
/-! ### one order of all lots -/
theorem lexLt_anti : ∀ {ns ms : List Int}, ns.length = ms.length → HT.lexLt ns ms = false → HT.lexLt ms ns = false → ns = ms
  | [], [], _, _, _ => rfl
  | [], _ :: _, h, _, _ => by cases h
  | _ :: _, [], h, _, _ => by cases h
  | x :: xs, y :: ys, h, h1, h2 => by
    simp only [HT.lexLt] at h1 h2
    by_cases e : x = y
    · subst e
      rw [if_pos rfl] at h1 h2
      rw [lexLt_anti (by simpa using h) h1 h2]
    · rw [if_neg e] at h1
      rw [if_neg (fun z => e z.symm)] at h2
      have g1 := of_decide_eq_false h1
      have g2 := of_decide_eq_false h2
      exact absurd (show x = y by omega) e
theorem ltLen_anti {ns ms : List Int} (h1 : ltLen ns ms = false) (h2 : ltLen ms ns = false) : ns = ms := by
  unfold ltLen at h1 h2
  by_cases e : ns.length = ms.length
  · rw [if_pos e] at h1
    rw [if_pos e.symm] at h2
    exact lexLt_anti e h1 h2
  · rw [if_neg e] at h1
    rw [if_neg (fun z => e z.symm)] at h2
    have g1 := of_decide_eq_false h1
    have g2 := of_decide_eq_false h2
    omega
theorem pw_uniqR {α : Type} {R : α → α → Prop} (anti : ∀ a b, R a b → R b a → a = b) : ∀ {l m : List α}, l.Pairwise R → m.Pairwise R → l.Perm m → l = m
  | [], m, _, _, p => (List.Perm.eq_nil p.symm).symm
  | x :: l, [], _, _, p => absurd p.length_eq (by simp)
  | x :: l, y :: m, hl, hm, p => by
    have e : x = y := by
      rcases List.mem_cons.mp (p.mem_iff.mp (List.mem_cons_self (a := x) (l := l))) with e | hx
      · exact e
      rcases List.mem_cons.mp (p.mem_iff.mpr (List.mem_cons_self (a := y) (l := m))) with e | hy
      · exact e.symm
      exact anti _ _ ((List.pairwise_cons.mp hl).1 y hy) ((List.pairwise_cons.mp hm).1 x hx)
    subst e
    rw [pw_uniqR anti (List.pairwise_cons.mp hl).2 (List.pairwise_cons.mp hm).2 p.cons_inv]
theorem lots_uniq {zs : List Str} {r1 r2 : List (List Str)} (h1 : LotsOk zs r1) (h2 : LotsOk zs r2) : r1 = r2 := by
  obtain ⟨o1, rfl, p1, s1⟩ := h1
  obtain ⟨o2, rfl, p2, s2⟩ := h2
  have : o1 = o2 := pw_uniqR (R := fun x y : List Nat => ltLen (y.map fun p : Nat => (p : Int)) (x.map fun p : Nat => (p : Int)) = false) (fun a b h g => by
    have := ltLen_anti g h
    exact (List.map_inj_right (fun _ _ e => Int.ofNat.inj e)).mp this) s1 s2 (p1.trans p2.symm)
  rw [this]
/-! ### what a lot tells apart -/
theorem back_tells {L : Lore} (ok : LoreOk L) {ks : List KP} (sub : ks.Sublist L.kps) (h : backN L (ks.map (·.1)) = true) {v w : Vec} (vl : v.length = L.parts.length) (wl : w.length = L.parts.length) (same : ∀ k ∈ ks, ansV L k v = ansV L k w) : v = w := by
  obtain ⟨As, hAs⟩ : ∃ As : Ans, As = ks.map fun k => (k, ansV L k v) := ⟨_, rfl⟩
  have f1 : As.map (·.1) = ks := by rw [hAs, List.map_map]; simp [Function.comp_def]
  have ao : AnsOk L As := ⟨by rw [f1]; exact sub, fun a ha => by
    rw [hAs] at ha
    obtain ⟨k, _, rfl⟩ := List.mem_map.mp ha
    exact ansV_len L k v⟩
  have nm : As.map (·.1.1) = ks.map (·.1) := by rw [names_eq, f1]
  have one := backN_one ok ao (by rw [nm]; exact h)
  have fit : ∀ u : Vec, u.length = L.parts.length → (∀ k ∈ ks, ansV L k u = ansV L k v) → u ∈ fitV L As := fun u ul hu => by
    refine List.mem_filter.mpr ⟨mem_vL.mpr ul, ?_⟩
    unfold fitB
    rw [List.all_eq_true, hAs]
    intro a ha
    obtain ⟨k, hk, rfl⟩ := List.mem_map.mp ha
    exact decide_eq_true (hu k hk)
  have fv := fit v vl fun _ _ => rfl
  have fw := fit w wl fun k hk => (same k hk).symm
  match h : fitV L As, one, fv, fw with
  | [], _, fv, _ => cases fv
  | [y], _, fv, fw => rw [List.mem_singleton.mp fv, List.mem_singleton.mp fw]
  | _ :: _ :: _, one, _, _ => simp at one
theorem lost_zero {L : Lore} {ks : List KP} {v : Vec} (h : lostB L ks v = true) : v ≠ zv L.parts.length ∧ ∀ k ∈ ks, ansV L k v = ansV L k (zv L.parts.length) := by
  unfold lostB at h
  obtain ⟨h1, h2⟩ := Bool.and_eq_true_iff.mp h
  have h1 := of_decide_eq_true h1
  have h2 : ¬ true ∈ ks.flatMap fun k => ansV L k v := by simpa using h2
  refine ⟨fun e => ?_, fun k hk => ?_⟩
  · rw [e] at h1
    cases List.eq_of_mem_replicate h1
  · unfold ansV
    refine List.map_congr_left fun p hp => ?_
    rw [dot_zero']
    cases hd : dot (vecP L.parts p) v with
    | false => rfl
    | true => exact absurd (List.mem_flatMap.mpr ⟨k, hk, List.mem_map.mpr ⟨p, hp, hd⟩⟩) h2
/-- the keepers of a lot that answer two records unlike -/
def apartK (L : Lore) (ys : List Str) (v w : Vec) : List KP := L.kps.filter fun k => !decide (ansV L k v = ansV L k w) && decide (k.1 ∈ ys)
def apartL (L : Lore) (ys : List Str) (v w : Vec) : List Str := (apartK L ys v w).map (·.1)
theorem apart_sub (L : Lore) (ys : List Str) (v w : Vec) : (apartL L ys v w).Sublist (L.kps.map (·.1)) := List.filter_sublist.map _
theorem apart_symm (L : Lore) (ys : List Str) (v w : Vec) : apartL L ys v w = apartL L ys w v := by
  unfold apartL apartK
  congr 1
  refine List.filter_congr fun k _ => ?_
  congr 2
  exact decide_eq_decide.mpr ⟨fun h => h.symm, fun h => h.symm⟩
theorem kp_one {L : Lore} (ok : LoreOk L) {a b : KP} (ha : a ∈ L.kps) (hb : b ∈ L.kps) (e : a.1 = b.1) : a = b := by
  obtain ⟨i1, hi1, e1⟩ := List.getElem_of_mem ha
  obtain ⟨i2, hi2, e2⟩ := List.getElem_of_mem hb
  have e3 : (L.kps.map (·.1))[i1]'(by rw [List.length_map]; exact hi1) = (L.kps.map (·.1))[i2]'(by rw [List.length_map]; exact hi2) := by
    rw [List.getElem_map, List.getElem_map, e1, e2]
    exact e
  have := (List.getElem_inj ok.kn).mp e3
  subst this
  rw [← e1, ← e2]
theorem in_apart {L : Lore} (ok : LoreOk L) {ys : List Str} {v w : Vec} {k : KP} (hk : k ∈ L.kps) : k.1 ∈ apartL L ys v w ↔ ansV L k v ≠ ansV L k w ∧ k.1 ∈ ys := by
  constructor
  · intro h
    obtain ⟨b, hb, e⟩ := List.mem_map.mp h
    obtain ⟨h1, h2⟩ := List.mem_filter.mp hb
    have := kp_one ok h1 hk e
    subst this
    simpa using h2
  · intro h
    exact List.mem_map.mpr ⟨k, List.mem_filter.mpr ⟨hk, by simpa using h⟩, rfl⟩
theorem sub_self {ys zs : List Str} (h : ys.Sublist zs) (nd : zs.Nodup) : zs.filter (fun z => decide (z ∈ ys)) = ys := by
  have := sub_key (fun z : Str => z) h (by simpa using nd)
  simpa using this
theorem apart_filter {L : Lore} (ok : LoreOk L) {ys : List Str} (sub : ys.Sublist (L.kps.map (·.1))) (v w : Vec) : ys.filter (fun z => decide (z ∈ apartL L ys v w)) = apartL L ys v w := by
  have e : ys.filter (fun z => decide (z ∈ apartL L ys v w)) = ((L.kps.map (·.1)).filter fun z => decide (z ∈ ys)).filter (fun z => decide (z ∈ apartL L ys v w)) := by rw [sub_self sub ok.kn]
  rw [e, List.filter_filter, List.filter_map]
  unfold apartL apartK
  congr 1
  refine List.filter_congr fun k hk => ?_
  show (decide (k.1 ∈ apartL L ys v w) && decide (k.1 ∈ ys)) = _
  have := in_apart ok (ys := ys) (v := v) (w := w) hk
  by_cases h1 : ansV L k v = ansV L k w
  · rw [decide_eq_false (fun z => (this.mp z).1 h1), decide_eq_true h1]
    rfl
  · by_cases h2 : k.1 ∈ ys
    · rw [decide_eq_true (this.mpr ⟨h1, h2⟩), decide_eq_true h2, decide_eq_false h1]
      rfl
    · rw [decide_eq_false h2, Bool.and_false, Bool.and_false]
/-- whether each two records are told apart by more than twice so many keepers -/
def sureL (L : Lore) (ys : List Str) (n : Nat) : Bool := (vL L.parts.length).all fun v => (vL L.parts.length).all fun w => decide (v = w) || decide (2 * n < (apartL L ys v w).length)
theorem sureL_iff {L : Lore} {ys : List Str} {n : Nat} : sureL L ys n = true ↔ ∀ v w : Vec, v.length = L.parts.length → w.length = L.parts.length → v ≠ w → 2 * n < (apartL L ys v w).length := by
  unfold sureL
  rw [List.all_eq_true]
  constructor
  · intro h v w vl wl ne
    have := List.all_eq_true.mp (h v (mem_vL.mpr vl)) w (mem_vL.mpr wl)
    rw [decide_eq_false ne, Bool.false_or] at this
    exact of_decide_eq_true this
  · intro h v hv
    rw [List.all_eq_true]
    intro w hw
    by_cases e : v = w
    · rw [decide_eq_true e]; rfl
    · rw [decide_eq_true (h v w (mem_vL.mp hv) (mem_vL.mp hw) e), Bool.or_true]
theorem ext_sub (q : Str → Bool) : ∀ (ys : List Str) (M : Nat), (ys.filter q).length ≤ M → M ≤ ys.length → ∃ row : List Str, row.Sublist ys ∧ row.length = M ∧ ∀ z ∈ ys, q z = true → z ∈ row
  | [], M, _, h => ⟨[], List.nil_sublist _, by have : M = 0 := Nat.le_zero.mp h; rw [this]; rfl, fun z hz => by cases hz⟩
  | y :: ys, M, h1, h2 => by
    by_cases hq : q y = true
    · rw [List.filter_cons_of_pos hq, List.length_cons] at h1
      rw [List.length_cons] at h2
      obtain ⟨row, s, l, m⟩ := ext_sub q ys (M - 1) (by omega) (by omega)
      refine ⟨y :: row, s.cons₂ y, by rw [List.length_cons, l]; omega, fun z hz hz2 => ?_⟩
      rcases List.mem_cons.mp hz with rfl | hz
      · exact List.mem_cons_self
      · exact List.mem_cons_of_mem _ (m z hz hz2)
    · rw [List.filter_cons_of_neg hq] at h1
      by_cases hM : M ≤ ys.length
      · obtain ⟨row, s, l, m⟩ := ext_sub q ys M h1 hM
        refine ⟨row, s.cons y, l, fun z hz hz2 => ?_⟩
        rcases List.mem_cons.mp hz with rfl | hz
        · exact absurd hz2 hq
        · exact m z hz hz2
      · rw [List.length_cons] at h2
        exact ⟨y :: ys, List.Sublist.refl _, by rw [List.length_cons]; omega, fun z hz _ => hz⟩
theorem dub_sure {L : Lore} (ok : LoreOk L) {ys : List Str} (sub : ys.Sublist (L.kps.map (·.1))) {n : Nat} (h : ∀ row, row.Sublist (L.kps.map (·.1)) → dubB L ys (min (2 * n) ys.length) row = false) : sureL L ys n = true := by
  refine sureL_iff.mpr fun v w vl wl ne => Nat.lt_of_not_le fun le => ne ?_
  obtain ⟨row, rs, rl, rm⟩ := ext_sub (fun z => decide (z ∈ apartL L ys v w)) ys (min (2 * n) ys.length)
    (Nat.le_min.mpr ⟨by rw [apart_filter ok sub]; exact le, List.length_filter_le _ _⟩) (Nat.min_le_right _ _)
  have hd := h row (rs.trans sub)
  have hb : backN L (lessL ys row) = true := by
    unfold dubB at hd
    have h2 : (row.all fun y => decide (y ∈ ys)) = true := List.all_eq_true.mpr fun y hy => decide_eq_true (rs.subset hy)
    rw [decide_eq_true rl, h2, Bool.true_and, Bool.true_and] at hd
    cases e : backN L (lessL ys row) with
    | true => rfl
    | false => rw [e] at hd; cases hd
  obtain ⟨ks, ks1, ks2⟩ := kps_of (List.Sublist.trans List.filter_sublist sub : (lessL ys row).Sublist (L.kps.map (·.1)))
  refine back_tells ok ks1 (by rw [ks2]; exact hb) vl wl fun k hk => ?_
  have kl : k.1 ∈ lessL ys row := by rw [← ks2]; exact List.mem_map.mpr ⟨k, hk, rfl⟩
  obtain ⟨k1, k2⟩ := List.mem_filter.mp kl
  refine Classical.byContradiction fun hne => ?_
  have := rm k.1 k1 (decide_eq_true ((in_apart ok (ks1.subset hk)).mpr ⟨hne, k1⟩))
  simp [this] at k2
theorem sub_len {a b zs : List Str} (nd : zs.Nodup) (ha : a.Sublist zs) (hb : b.Sublist zs) (h : ∀ z ∈ a, z ∈ b) : a.length ≤ b.length := by
  rw [← sub_self ha nd, ← sub_self hb nd, ← List.countP_eq_length_filter, ← List.countP_eq_length_filter]
  exact List.countP_mono_left fun z _ hz => decide_eq_true (h z (of_decide_eq_true hz))
theorem apart_row {L : Lore} (ok : LoreOk L) {ys row : List Str} {ks : List KP} (ks1 : ks.Sublist L.kps) (ks2 : ks.map (·.1) = lessL ys row) {v w : Vec} (same : ∀ k ∈ ks, ansV L k v = ansV L k w) : ∀ z ∈ apartL L ys v w, z ∈ row := fun z hz => by
  obtain ⟨k, hk, rfl⟩ := List.mem_map.mp hz
  have km := (List.mem_filter.mp hk).1
  obtain ⟨h1, h2⟩ := (in_apart ok km).mp hz
  refine Classical.byContradiction fun hn => h1 ?_
  have : k.1 ∈ ks.map (·.1) := by
    rw [ks2]
    exact List.mem_filter.mpr ⟨h2, by rw [decide_eq_false hn]; rfl⟩
  obtain ⟨b, hb, e⟩ := List.mem_map.mp this
  have := kp_one ok (ks1.subset hb) km e
  subst this
  exact same b hb
theorem sure_dub {L : Lore} (ok : LoreOk L) {ys : List Str} (sub : ys.Sublist (L.kps.map (·.1))) {n : Nat} (h : sureL L ys n = true) {row : List Str} (rs : row.Sublist (L.kps.map (·.1))) : dubB L ys (min (2 * n) ys.length) row = false := by
  cases hd : dubB L ys (min (2 * n) ys.length) row with
  | false => rfl
  | true =>
    unfold dubB at hd
    obtain ⟨d1, d2⟩ := Bool.and_eq_true_iff.mp hd
    obtain ⟨d2, d3⟩ := Bool.and_eq_true_iff.mp d2
    have d1 := of_decide_eq_true d1
    obtain ⟨ks, ks1, ks2⟩ := kps_of (List.Sublist.trans List.filter_sublist sub : (lessL ys row).Sublist (L.kps.map (·.1)))
    have hn : backN L (ks.map (·.1)) = false := by
      rw [ks2]
      cases e : backN L (lessL ys row) with
      | false => rfl
      | true => rw [e] at d3; cases d3
    obtain ⟨v, vl, hl⟩ := back_lost ok ks1 hn
    obtain ⟨ne, same⟩ := lost_zero hl
    have := sureL_iff.mp h v (zv L.parts.length) vl (zv_len _) ne
    have := sub_len ok.kn (apart_sub L ys v (zv L.parts.length)) rs (apart_row ok ks1 ks2 same)
    omega
theorem sure_mono {L : Lore} {ys zs : List Str} {n : Nat} (h : ∀ z ∈ ys, z ∈ zs) (s : sureL L ys n = true) : sureL L zs n = true := by
  refine sureL_iff.mpr fun v w vl wl ne => Nat.lt_of_lt_of_le (sureL_iff.mp s v w vl wl ne) ?_
  unfold apartL apartK
  rw [List.length_map, List.length_map, ← List.countP_eq_length_filter, ← List.countP_eq_length_filter]
  refine List.countP_mono_left fun k _ hk => ?_
  obtain ⟨h1, h2⟩ := Bool.and_eq_true_iff.mp hk
  rw [h1, decide_eq_true (h _ (of_decide_eq_true h2))]
  rfl
/-! ### the least lots -/
def stepF (p : List Str → Bool) (kept : List (List Str)) (lot : List Str) : List (List Str) := if (p lot && !(kept.any fun r => r.all fun y => decide (y ∈ lot))) = true then kept ++ [lot] else kept
def leastF (p : List Str → Bool) (rws : List (List Str)) : List (List Str) := rws.foldl (stepF p) []
theorem stepF_grows (p : List Str → Bool) (kept : List (List Str)) (lot : List Str) (h : kept ≠ []) : stepF p kept lot ≠ [] := by
  unfold stepF
  split
  · simp
  · exact h
theorem foldF_grows (p : List Str → Bool) : ∀ (rws kept : List (List Str)), kept ≠ [] → rws.foldl (stepF p) kept ≠ []
  | [], _, h => h
  | r :: rws, kept, h => foldF_grows p rws _ (stepF_grows p kept r h)
theorem leastF_none (p : List Str → Bool) (rws : List (List Str)) : leastF p rws = [] ↔ ∀ r ∈ rws, p r = false := by
  unfold leastF
  induction rws with
  | nil => simp
  | cons r rws ih =>
    rw [List.foldl_cons]
    cases hp : p r with
    | true =>
      have e : stepF p [] r = [r] := by unfold stepF; rw [hp]; rfl
      rw [e]
      refine ⟨fun h => absurd h (foldF_grows p rws _ (by simp)), fun h => ?_⟩
      have := h r List.mem_cons_self
      rw [hp] at this
      cases this
    | false =>
      have e : stepF p [] r = [] := by unfold stepF; rw [hp]; rfl
      rw [e, ih]
      refine ⟨fun h x hx => ?_, fun h x hx => h x (List.mem_cons_of_mem _ hx)⟩
      rcases List.mem_cons.mp hx with rfl | hx
      · exact hp
      · exact h x hx
theorem fold_filter (p : List Str → Bool) : ∀ (rws kept : List (List Str)), (rws.filter p).foldl (stepF fun _ => true) kept = rws.foldl (stepF p) kept
  | [], _ => rfl
  | r :: rws, kept => by
    cases hp : p r with
    | true =>
      rw [List.filter_cons_of_pos hp, List.foldl_cons, List.foldl_cons, fold_filter p rws]
      have e : stepF (fun _ => true) kept r = stepF p kept r := by unfold stepF; rw [hp]
      rw [e]
    | false =>
      rw [List.filter_cons_of_neg (by rw [hp]; decide), List.foldl_cons, fold_filter p rws]
      have e : stepF p kept r = kept := by unfold stepF; rw [hp]; rfl
      rw [e]
theorem leastF_filter (p : List Str → Bool) (rws : List (List Str)) : leastF (fun _ => true) (rws.filter p) = leastF p rws := fold_filter p rws []
theorem stepF_sub {zs : List Str} (p : List Str → Bool) {kept : List (List Str)} {lot : List Str} (h : ∀ r ∈ kept, r.Sublist zs) (hl : lot.Sublist zs) : ∀ r ∈ stepF p kept lot, r.Sublist zs := by
  unfold stepF
  split
  · intro r hr
    rcases List.mem_append.mp hr with hr | hr
    · exact h r hr
    · rw [List.mem_singleton.mp hr]; exact hl
  · exact h
theorem stepF_len (p : List Str → Bool) (kept : List (List Str)) (lot : List Str) : (stepF p kept lot).length ≤ kept.length + 1 := by
  unfold stepF
  split
  · rw [List.length_append]; exact Nat.le_refl _
  · omega
end K6
set_option Elab.async false
set_option linter.all false
set_option maxRecDepth 100000
set_option maxHeartbeats 1500000
set_option pp.maxSteps 1200
set_option pp.deepTerms false
namespace K6
open PySem PySem.Spec PyProof.Rows L2 Lk
abbrev sIsTold : Stmt := top 17
abbrev sFirst : Stmt := top 32
abbrev sHasOne : Stmt := top 33
abbrev sLeast : Stmt := top 31
theorem eqvAll_strs : ∀ a b : List Str, PyData.eqvAll (strsD a) (strsD b) = decide (a = b)
  | [], [] => by simp [strsD, PyData.eqvAll]
  | [], _ :: _ => by simp [strsD, PyData.eqvAll]
  | _ :: _, [] => by simp [strsD, PyData.eqvAll]
  | x :: a, y :: b => by
    have ih := eqvAll_strs a b
    unfold strsD at ih ⊢
    rw [List.map_cons, List.map_cons, PyData.eqvAll, ih]
    by_cases h : x = y <;> by_cases g : a = b <;> simp [PyData.eqv, h, g]
theorem eqv_strsT (a b : List Str) : PyData.eqv (.tuple (strsD a)) (.tuple (strsD b)) = decide (a = b) := by
  rw [← eqvAll_strs]
  simp [PyData.eqv]
theorem in_rows (sel : List (List Str)) (r : List Str) : (sel.map fun z => PyData.tuple (strsD z)).any (fun z => PyData.eqv z (.tuple (strsD r))) = decide (r ∈ sel) := by
  rw [List.any_map, Bool.eq_iff_iff, List.any_eq_true, decide_eq_true_iff]
  constructor
  · rintro ⟨z, hz, e⟩
    have e : PyData.eqv (.tuple (strsD z)) (.tuple (strsD r)) = true := e
    rw [eqv_strsT] at e
    rw [← of_decide_eq_true e]
    exact hz
  · intro h
    refine ⟨r, h, ?_⟩
    show PyData.eqv (.tuple (strsD r)) (.tuple (strsD r)) = true
    rw [eqv_strsT]
    exact decide_eq_true rfl
theorem dp_rows {K : PySem.W.Frag} {H : Hp} : ∀ {ts : List V} {rows : List (List Str)}, Paired (RelT H) ts rows → DpAll K H ts (rows.map fun r => PyData.tuple (strsD r))
  | _, _, .nil => .nil
  | _, _, .cons ⟨t, e1, e2⟩ r => by
    subst e1
    exact .cons (.tup (SqT.of e2) (dp_strs _)) (dp_rows r)
theorem RelT.keepP {H H' : Hp} (k : Keep H H') (v : V) (r : List Str) (h : RelT H v r) : RelT H' v r := by
  obtain ⟨t, e1, e2⟩ := h
  exact ⟨t, e1, k _ _ e2 fun _ z => by cases z⟩
theorem rows_keep {H H' : Hp} {ts : List V} {rows : List (List Str)} (p : Paired (RelT H) ts rows) (k : Keep H H') : Paired (RelT H') ts rows := Paired.mapP p fun v r h => RelT.keepP k v r h
theorem nice_lot {zs r : List Str} (nk : NmOk zs) (s : r.Sublist zs) : Nice (6 * (8 + 1)) 1 (.tuple (strsD r)) := nice_strs (fun z hz => nk.ok z (s.subset hz)) (Nat.le_trans s.length_le nk.k6)
def hasB (rows : List (List Str)) (ys : List Str) : Bool := rows.any fun r => r.all fun y => decide (y ∈ ys)
section
variable {P : Program} {w : World} {K : PySem.W.Frag} {mg : Str → Option Value} {base : Heap} {f : Addr} {fd : FuncData}
def spFirst : Sp := fun vs H Q _ => ∃ (l t : Addr) (ts : List V) (rows : List (List Str)) (ys : List Str), vs = [.ref l, .ref t] ∧ H l = some (.lst ts) ∧ Paired (RelT H) ts rows ∧ rows.length ≤ 100 ∧ (∀ r ∈ rows, r.length ≤ 6) ∧ H t = some (.tup (ys.map V.str)) ∧
  ∀ v H', Same H H' → (v = .non ∧ hasB rows ys = false ∨ (∃ i : Int, v = .int i) ∧ hasB rows ys = true) → Q v H'
theorem scFirst : FnScope ["some", "lot", "number", "row"] ["some", "lot"] (defScope sFirst) := ⟨rfl, rfl, rfl, by decide +kernel, rfl, by decide +kernel, by decide +kernel⟩
theorem ok_first {f1 : Addr} {fd1 : FuncData} (F : Fun K "first_within" "first_within" sFirst f fd) (T : Bl mg)
    (G1 : FnOk P w K mg base CX0 1 f1 fd1 ["lot", "other"] (spWithin K)) (a1 : At K mg "is_within" f1 fd1 ["lot", "other"]) :
    FnOk P w K mg base CX0 2 f fd ["some", "lot"] spFirst := by
  refine F.ok scFirst (fun vs H Q E h => ?_) (fun cdv A outer s H vs Q E hr h => ?_)
  · obtain ⟨l, t, ts, rows, ys, rfl, _⟩ := h
    rfl
  · obtain ⟨l, t, ts, rows, ys, rfl, el, pr, rl, r6, et, k⟩ := h
    have nd := scFirst.nd
    refine ⟨_, pss_cons (ps_for PassesOwn.never rfl (pi_enum (by rfl) T.enum (pa_cons (pv 0) pa_nil)) (pg_tup rfl (pgs_cons (pg_name (i := 2) nd rfl (.inl rfl)) (pgs_cons (pg_name (i := 3) nd rfl (.inl rfl)) pgs_nil)))
          (pss_one (ps_if (pt_val (pe_call G1 hr (by rfl) a1.m a1.kp a1.b .nil pass0 (pa_cons (pv 3) (pa_cons (pv 1) pa_nil)))) (pss_one (ps_ret (pv 2))) pss_nil)))
        (pss_one (ps_ret pe_non)), ?_⟩
    have tl : ts.length = rows.length := paired_len pr
    refine ⟨_, rfl, l, _, rfl, SqL.of el, for_it (walk_enum (xs := ts)) (fun i σ H' => ∃ u v, σ = [some (.ref l), some (.ref t), u, v] ∧ Same H H' ∧ hasB (rows.take i) ys = false) ⟨none, none, rfl, Same.refl _, rfl⟩ (fun i σ H' _ ⟨_, _, _, s', _⟩ => SqL.of (s' _ _ el)) ?_ ?_⟩
    · rintro i x σ H2 H3 hi ⟨u, v, rfl, s2, hf⟩ ⟨t2, a1', a2, rfl, nt, rfl, e1, e2⟩
      obtain rfl := Option.some.inj e1
      obtain ⟨row, hrow⟩ : ∃ row, rows[i]? = some row := ⟨_, List.getElem?_eq_getElem (by rw [← tl]; exact (List.getElem?_eq_some_iff.mp e2).1)⟩
      obtain ⟨v2, hv2, p, rfl, ep⟩ := paired_get pr hrow
      obtain rfl : V.ref p = a2 := Option.some.inj (hv2.symm.trans e2)
      have s3 : Same H (upd H2 t2 (.tup [.int (i : Nat), .ref p])) := s2.trans (same_new nt)
      refine ⟨t2, _, rfl, SqT.of upd_same, rfl, _, _, rfl, _, _, rfl, rfl, ?_⟩
      have r6' := r6 row (List.mem_of_getElem? hrow)
      refine ⟨_, rfl, _, rfl, p, t, row, ys, rfl, .inr (SqT.of (s3 _ _ ep)), .inr (SqT.of (s3 _ _ et)), by omega, fun H4 s4 => ⟨_, rfl, ?_⟩⟩
      have tk : hasB (rows.take (i + 1)) ys = (row.all fun y => decide (y ∈ ys)) := by
        unfold hasB at hf ⊢
        rw [List.take_add_one, hrow, Option.toList_some, List.any_append, hf]
        simp
      cases hb : (row.all fun y => decide (y ∈ ys)) with
      | true =>
        refine iteT ⟨_, rfl, k _ _ (s3.trans s4) (.inr ⟨⟨_, rfl⟩, ?_⟩)⟩
        exact List.any_eq_true.mpr ⟨row, List.mem_of_getElem? hrow, hb⟩
      | false => exact iteB rfl ⟨_, _, rfl, s3.trans s4, by rw [tk, hb]⟩
    · rintro σ H2 ⟨u, v, rfl, s2, hf⟩
      rw [tl, List.take_length] at hf
      exact k _ _ s2 (.inl ⟨rfl, hf⟩)
def spHasOne : Sp := fun vs H Q _ => ∃ (l t : Addr) (ts : List V) (rows : List (List Str)) (ys : List Str), vs = [.ref l, .ref t] ∧ H l = some (.lst ts) ∧ Paired (RelT H) ts rows ∧ rows.length ≤ 100 ∧ (∀ r ∈ rows, r.length ≤ 6) ∧ H t = some (.tup (ys.map V.str)) ∧
  ∀ H', Same H H' → Q (.bl (hasB rows ys)) H'
theorem scHasOne : FnScope ["some", "lot"] ["some", "lot"] (defScope sHasOne) := ⟨rfl, rfl, rfl, by decide +kernel, rfl, by decide +kernel, by decide +kernel⟩
theorem ok_hasOne {f1 : Addr} {fd1 : FuncData} (F : Fun K "has_one" "has_one" sHasOne f fd)
    (G1 : FnOk P w K mg base CX0 2 f1 fd1 ["some", "lot"] spFirst) (a1 : At K mg "first_within" f1 fd1 ["some", "lot"]) :
    FnOk P w K mg base CX0 3 f fd ["some", "lot"] spHasOne := by
  refine F.ok scHasOne (fun vs H Q E h => ?_) (fun cdv A outer s H vs Q E hr h => ?_)
  · obtain ⟨l, t, ts, rows, ys, rfl, _⟩ := h
    rfl
  · obtain ⟨l, t, ts, rows, ys, rfl, el, pr, rl, r6, et, k⟩ := h
    refine ⟨_, pss_one (ps_ret (pe_cmp (pc_notN (pe_call G1 hr (by rfl) a1.m a1.kp a1.b .nil pass0 (pa_cons (pv 0) (pa_cons (pv 1) pa_nil)))))), ?_⟩
    refine ⟨_, rfl, _, rfl, l, t, ts, rows, ys, rfl, el, pr, rl, r6, et, fun v H' s h => ?_⟩
    rcases h with ⟨rfl, hb⟩ | ⟨⟨i, rfl⟩, hb⟩
    · have := k H' s
      rw [hb] at this
      exact this
    · have := k H' s
      rw [hb] at this
      exact this
def spLeast (C : Addr) : Sp := fun vs H Q _ => ∃ (c l : Addr) (zs : List Str) (ts : List V) (sel : List (List Str)), vs = [.ref c, .ref l] ∧ CircAt H C c zs ∧ NmOk zs ∧ zs.length ≤ 6 ∧ H l = some (.lst ts) ∧ Paired (RelT H) ts sel ∧ (∀ r ∈ sel, r.Sublist zs) ∧ sel.length ≤ 64 ∧
  ∀ q us rws H', Same H H' → H' q = some (.tup us) → Paired (RelT H') us (leastF (fun r => decide (r ∈ sel)) rws) → LotsOk zs rws → Q (.ref q) H'
theorem scLeast : FnScope ["circle", "some", "kept", "lot"] ["circle", "some"] (defScope sLeast) := ⟨rfl, rfl, rfl, by decide +kernel, rfl, by decide +kernel, by decide +kernel⟩
theorem lots_64 {zs : List Str} {rws : List (List Str)} (h : LotsOk zs rws) (l6 : zs.length ≤ 6) : rws.length ≤ 64 := by
  obtain ⟨o, rfl, p, _⟩ := h
  rw [List.length_map, p.length_eq, List.length_map, List.length_range]
  exact Nat.pow_le_pow_right (by decide) l6
theorem ok_least {C f1 f2 : Addr} {fd1 fd2 : FuncData} (F : Fun K "least_of" "least_of" sLeast f fd) (T : Bl mg) (Cc : Cn mg)
    (G1 : FnOk P w K mg base CX0 3 f1 fd1 ["circle"] (spLots C)) (a1 : At K mg "lots" f1 fd1 ["circle"])
    (G2 : FnOk P w K mg base CX0 3 f2 fd2 ["some", "lot"] spHasOne) (a2 : At K mg "has_one" f2 fd2 ["some", "lot"]) :
    FnOk P w K mg base CX0 4 f fd ["circle", "some"] (spLeast C) := by
  refine F.ok scLeast (fun vs H Q E h => ?_) (fun cdv A outer s H vs Q E hr h => ?_)
  · obtain ⟨c, l, zs, ts, sel, rfl, _⟩ := h
    rfl
  · obtain ⟨c, l, zs, ts, sel, rfl, ca, nk, z6, el, pr, hsub, s64, k⟩ := h
    have nd := scLeast.nd
    refine ⟨_, pss_cons (ps_set (i := 2) nd rfl (.inl rfl) (pe_lst pa_nil))
      (pss_cons (ps_for PassesOwn.never rfl (pi_tup (pe_call G1 hr (by rfl) a1.m a1.kp a1.b .nil pass0 (pa_cons (pv 0) pa_nil))) (pg_name (i := 3) nd rfl (.inl rfl))
          (pss_one (ps_if (PW.pt (pw_and (pt_cmpR (op_inD (room65 hr)) (pv 3) (pv 1) rfl) (pw_and1 (pt_not (pt_val (pe_call G2 hr (by rfl) a2.m a2.kp a2.b .nil pass0 (pa_cons (pv 2) (pa_cons (pv 3) pa_nil))))))))
            (pss_one (ps_expr (pe_bm PySem.F.plainAttrs_list PySem.F.slot_list_append PySem.F.type_list_append mt_append (pv 2) (pa_cons (pv 3) pa_nil)))) pss_nil)))
      (pss_one (ps_ret (pe_tupleOf (by rfl) Cc.tuple (pv 2))))), ?_⟩
    refine ⟨few_ok rfl, fun D nD => ?_⟩
    have s1 : Same H (upd H D (.lst [])) := same_new nD
    have eD0 := upd_same (H := H) (a := D) (o := HO.lst [])
    generalize upd H D (.lst []) = H1 at s1 eD0 ⊢
    have ca1 : CircAt H1 C c zs := by
      obtain ⟨dx, nm, e1, e2⟩ := ca
      exact ⟨dx, nm, s1 _ _ e1, e2.same s1⟩
    refine ⟨_, rfl, c, zs, rfl, ca1, z6, fun r us rws H2 s2 er pu lo => ?_⟩
    have eD2 := s2 _ _ eD0
    have s12 := s1.trans s2
    have rDD : r ≠ D := fun z => by rw [z, eD2] at er; cases er
    have rsub : ∀ x ∈ rws, x.Sublist zs := fun x hx => lots_sub lo hx
    have rl := lots_64 lo z6
    have ul : us.length = rws.length := paired_len pu
    have far : ∀ {H3 : Hp}, KeepB D H2 H3 → Same H H3 := fun kb b o q => kb _ _ (ne_of_none q nD) (s12 _ _ q)
    refine ⟨r, rfl, ⟨_, SqT.of er⟩, for_tup (xs := us) (fun i σ H3 => ∃ (u : Option V) (ks : List V), σ = [some (.ref c), some (.ref l), some (.ref D), u] ∧ H3 D = some (.lst ks) ∧ Paired (RelT H3) ks ((rws.take i).foldl (stepF fun x => decide (x ∈ sel)) []) ∧
      (∀ x ∈ (rws.take i).foldl (stepF fun x => decide (x ∈ sel)) [], x.Sublist zs) ∧ ((rws.take i).foldl (stepF fun x => decide (x ∈ sel)) []).length ≤ i ∧ KeepB D H2 H3) ?_ ?_ ?_ ?_⟩
    · exact ⟨none, [], rfl, eD2, .nil, (fun _ h => by cases h), Nat.le_refl _, fun _ _ _ q => q⟩
    · rintro i σ H3 _ ⟨_, _, _, _, _, _, _, kb⟩
      exact SqT.of (kb _ _ rDD er)
    · rintro i y σ H3 hy ⟨u, ks, rfl, eD, pk, ksub, kl, kb⟩
      obtain ⟨row, hrow⟩ : ∃ row, rws[i]? = some row := ⟨_, List.getElem?_eq_getElem (by rw [← ul]; exact (List.getElem?_eq_some_iff.mp hy).1)⟩
      obtain ⟨v2, hv2, p, rfl, ep⟩ := paired_get pu hrow
      obtain rfl : V.ref p = y := Option.some.inj (hv2.symm.trans hy)
      have i64 : i < 64 := by have := (List.getElem?_eq_some_iff.mp hrow).1; omega
      have pD : p ≠ D := fun z => by rw [z, eD2] at ep; cases ep
      have ep3 := kb _ _ pD ep
      have rs := rsub row (List.mem_of_getElem? hrow)
      obtain ⟨kept, hkept⟩ : ∃ kept, kept = (rws.take i).foldl (stepF fun x => decide (x ∈ sel)) [] := ⟨_, rfl⟩
      have tk : (rws.take (i + 1)).foldl (stepF fun x => decide (x ∈ sel)) [] = stepF (fun x => decide (x ∈ sel)) kept row := by
        rw [List.take_add_one, hrow, Option.toList_some, List.foldl_append, hkept]
        rfl
      rw [← hkept] at pk ksub kl
      have sH3 := far kb
      have pr3 := rows_keep pr (.of sH3)
      have nr := nice_lot nk rs
      refine ⟨_, rfl, _, rfl, .tuple (strsD row), sel.map fun z => .tuple (strsD z), .tup (SqT.of ep3) (dp_strs _), .lst (SqL.of (sH3 _ _ el)) (dp_rows pr3), nr.shaped (by decide), ?_, _, rfl, ?_⟩
      · exact (Nice.lst (c := 6 * (8 + 1)) (k := 1) (m := 64) (fun d hd => by
          obtain ⟨z, hz, rfl⟩ := List.mem_map.mp hd
          exact nice_lot nk (hsub z hz)) (by rw [List.length_map]; exact s64)).shaped (by decide)
      rw [in_rows]
      by_cases hin : row ∈ sel
      · rw [decide_eq_true hin]
        refine iteT ?_
        have k6' : ∀ x ∈ kept, x.length ≤ 6 := fun x hx => Nat.le_trans (ksub x hx).length_le z6
        refine ⟨_, rfl, _, rfl, D, p, ks, kept, row, rfl, eD, pk, by omega, k6', ep3, fun H4 s4 => ⟨_, rfl, ?_⟩⟩
        have eD4 := s4 _ _ eD
        have kb4 : KeepB D H2 H4 := fun b o nb q => s4 _ _ (kb b o nb q)
        have pk4 := rows_keep pk (.of s4)
        have st : stepF (fun x => decide (x ∈ sel)) kept row = if (!hasB kept row) = true then kept ++ [row] else kept := by
          unfold stepF hasB
          rw [show (fun x => decide (x ∈ sel)) row = true from decide_eq_true hin, Bool.true_and]
        cases hb : hasB kept row with
        | true =>
          refine iteB rfl ⟨_, ks, rfl, eD4, ?_, ?_, ?_, kb4⟩
          · rw [tk, st, hb]; exact pk4
          · rw [tk, st, hb]; exact ksub
          · rw [tk, st, hb]
            show kept.length ≤ _
            omega
        | false =>
          refine iteT ?_
          have ksl : ks.length = kept.length := paired_len pk
          refine ⟨_, rfl, .inl ⟨rfl, _, SqL.of eD4⟩, _, rfl, D, _, _, rfl, rfl, eD4, by rw [sizeLine_eq]; omega, ?_⟩
          have kp : Keep H4 (upd H4 D (.lst (ks ++ [.ref p]))) := .upd eD4
          refine ⟨_, ks ++ [.ref p], rfl, upd_same, ?_, ?_, ?_, fun b o nb q => by rw [upd_ne nb]; exact kb4 b o nb q⟩
          · rw [tk, st, hb]
            exact Paired.add (rows_keep pk4 kp) ⟨p, rfl, kp _ _ (s4 _ _ ep3) fun _ z => by cases z⟩
          · rw [tk, st, hb]
            intro x hx
            rcases List.mem_append.mp hx with hx | hx
            · exact ksub x hx
            · rw [List.mem_singleton.mp hx]; exact rs
          · rw [tk, st, hb]
            show (kept ++ [row]).length ≤ _
            rw [List.length_append]
            show kept.length + 1 ≤ _
            omega
      · rw [decide_eq_false hin]
        have st : stepF (fun x => decide (x ∈ sel)) kept row = kept := by unfold stepF; rw [show (fun x => decide (x ∈ sel)) row = false from decide_eq_false hin]; rfl
        refine iteB rfl (iteB rfl ⟨_, ks, rfl, eD, ?_, ?_, ?_, kb⟩)
        · rw [tk, st]; exact pk
        · rw [tk, st]; exact ksub
        · rw [tk, st]; omega
    · rintro σ H3 ⟨u, ks, rfl, eD, pk, ksub, kl, kb⟩
      rw [ul, List.take_length] at pk
      refine ⟨_, rfl, .inl ⟨D, _, rfl, SqL.of eD, fun q nq => ?_⟩⟩
      have s4 := same_new (o := HO.tup ks) nq
      exact k q ks rws _ ((far kb).trans s4) upd_same (rows_keep pk (.of s4)) lo
end
end K6
set_option Elab.async false
set_option linter.all false
set_option maxRecDepth 100000
set_option maxHeartbeats 4000000
set_option pp.maxSteps 1200
set_option pp.deepTerms false
namespace K6
open PySem PySem.Spec PyProof.Rows L2 Lk
theorem eqv_nil (zs : List Str) : PyData.eqv (.list (strsD zs)) (.list []) = decide (zs = []) := by
  cases zs with
  | nil => decide +kernel
  | cons z zs => simp [strsD, PyData.eqv, PyData.eqvAll]
theorem eqvT_nil (zs : List Str) : PyData.eqv (.tuple (strsD zs)) (.tuple []) = decide (zs = []) := by
  cases zs with
  | nil => decide +kernel
  | cons z zs => simp [strsD, PyData.eqv, PyData.eqvAll]
theorem stv_nice {L : Lore} (ok : LoreOk L) {v : Vec} (h : v.length = L.parts.length) : PyData.strOk (stv v) = true ∧ (stv v).length ≤ 4 := by
  refine ⟨strOk_of fun c hc => ?_, by rw [stv_len, h]; exact ok.p4⟩
  rcases stv_bits v c hc with rfl | rfl <;> decide
theorem nice_recsT {L : Lore} (ok : LoreOk L) {ws : List Vec} (h : ∀ v ∈ ws, v.length = L.parts.length) (l : ws.length ≤ 16) : Nice (16 * (4 + 1)) 1 (.tuple (strsD (ws.map stv))) :=
  nice_strs (fun z hz => by
    obtain ⟨v, hv, rfl⟩ := List.mem_map.mp hz
    exact stv_nice ok (h v hv)) (by rw [List.length_map]; exact l)
theorem within_len {L : Lore} {As : Ans} {n : Nat} : ∀ v ∈ withinV L As n, v.length = L.parts.length := fun v hv => mem_vL.mp (List.mem_filter.mp hv).1
theorem within16 {L : Lore} (ok : LoreOk L) (As : Ans) (n : Nat) : (withinV L As n).length ≤ 16 := Nat.le_trans (List.length_filter_le _ _) (recs16 ok)
theorem map_ne {α β : Type} {f : α → β} {xs : List α} (h : xs ≠ []) : xs.map f ≠ [] := fun e => h (List.map_eq_nil_iff.mp e)
/-- the answers with one keeper's more -/
def withA (L : Lore) (As : Ans) (k : KP) (w : Vec) : Ans := wideA L (As ++ [(k, w)])
theorem withA_es {L : Lore} (ok : LoreOk L) {As : Ans} (ao : AnsOk L As) {k : KP} (hk : k ∈ L.kps) (ho : k.1 ∉ As.map (·.1.1)) {w : Vec} (wl : w.length = k.2.length) : EsOk L (As ++ [(k, w)]) := by
  refine ⟨fun e0 he0 => ?_, ?_⟩
  · rcases List.mem_append.mp he0 with h | h
    · exact ao.both e0 h
    · rw [List.mem_singleton.mp h]
      exact ⟨hk, wl⟩
  · rw [List.map_append, List.nodup_append]
    refine ⟨by rw [names_eq]; exact ok.kn.sublist (ao.sub.map _), by simp, fun y hy y2 hy2 e => ?_⟩
    rw [List.map_cons, List.map_nil, List.mem_singleton] at hy2
    exact ho (by rw [← hy2, ← e]; exact hy)
theorem withA_ok {L : Lore} (ok : LoreOk L) {As : Ans} (ao : AnsOk L As) {k : KP} (hk : k ∈ L.kps) (ho : k.1 ∉ As.map (·.1.1)) {w : Vec} (wl : w.length = k.2.length) : AnsOk L (withA L As k w) := wide_ok ok (withA_es ok ao hk ho wl)
def kvA (As : Ans) : List (L2.Key × V) := As.map fun a => ((.inr a.1.1 : L2.Key), V.str (stv a.2))
theorem merge_snoc (b xs : List (L2.Key × V)) (x : L2.Key × V) : mergeK b (xs ++ [x]) = putK (mergeK b xs) x.1 x.2 := by
  unfold mergeK
  rw [List.foldl_append]
  rfl
theorem put_len (kvs : List (L2.Key × V)) (k : L2.Key) (v : V) : (putK kvs k v).length ≤ kvs.length + 1 := by
  unfold putK
  split
  · rw [List.length_map]
    omega
  · rw [List.length_append]
    exact Nat.le_refl _
theorem merge_len : ∀ (xs b : List (L2.Key × V)), (mergeK b xs).length ≤ b.length + xs.length
  | [], b => Nat.le_refl _
  | x :: xs, b => by
    have := merge_len xs (putK b x.1 x.2)
    have h := put_len b x.1 x.2
    show (mergeK (putK b x.1 x.2) xs).length ≤ _
    rw [List.length_cons]
    omega
section
variable {P : Program} {w : World} {K : PySem.W.Frag} {mg : Str → Option Value} {base : Heap} {f : Addr} {fd : FuncData}
/-! ### believed_records -/
def spBelRecs (C CS : Addr) : Sp := fun vs H Q _ => ∃ (x r : Addr) (L : Lore) (As : Ans) (n : Nat), vs = [.ref x, .ref r, .int (n : Int)] ∧ ShAt H C CS x L ∧ LoreOk L ∧ AnsAt H r As ∧ AnsOk L As ∧ n ≤ 3 ∧ withinV L As n ≠ [] ∧
  ∀ p H', Same H H' → H p = none → H' p = some (.tup (((withinV L As n).map stv).map V.str)) → Q (.ref p) H'
/-! ### with_answer -/
def spWithAns (C CS : Addr) : Sp := fun vs H Q _ => ∃ (x r : Addr) (L : Lore) (As : Ans) (kq : KP) (wv : Vec), vs = [.ref x, .ref r, .str kq.1, .str (stv wv)] ∧ ShAt H C CS x L ∧ LoreOk L ∧ AnsAt H r As ∧ AnsOk L As ∧ kq ∈ L.kps ∧ kq.1 ∉ As.map (·.1.1) ∧ wv.length = kq.2.length ∧
  ∀ t H', Same H H' → H t = none → AnsAt H' t (withA L As kq wv) → (∃ us, H' t = some (.tup us)) → Q (.ref t) H'
end
end K6
set_option Elab.async false
set_option linter.all false
set_option maxRecDepth 100000
set_option maxHeartbeats 4000000
set_option pp.maxSteps 1200
set_option pp.deepTerms false
namespace K6
open PySem PySem.Spec PyProof.Rows L2 Lk
abbrev sLIsI : Stmt := top 87
section
variable {P : Program} {w : World} {K : PySem.W.Frag} {mg : Str → Option Value} {base : Heap} {f : Addr} {fd : FuncData}
def spLIsI : Sp := fun vs H Q _ => ∃ i lo hi : Int, vs = [.int i, .int lo, .int hi] ∧ Q (.bl (decide (lo ≤ i) && decide (i ≤ hi))) H
theorem scLIsI : FnScope ["value", "low", "high"] ["value", "low", "high"] (defScope sLIsI) := ⟨rfl, rfl, rfl, by decide +kernel, rfl, by decide +kernel, by decide +kernel⟩
theorem ok_lisI {ds : List V} {ks : List (Str × V)} (F : FunD K "_law_is_int" "_law_is_int" (defArgs sLIsI) (defBody sLIsI) (defScope sLIsI) ds ks f fd) (T : Bl mg) (hB : mg "bool" = none) : FnOk P w K mg base CX0 1 f fd ["value", "low", "high"] spLIsI := by
  refine FunD.ok F scLIsI (fun vs H Q E h => ?_) (fun cdv A outer s H vs Q E hr h => ?_)
  · obtain ⟨i, lo, hi, rfl, _⟩ := h
    rfl
  · obtain ⟨i, lo, hi, rfl, k⟩ := h
    refine ⟨_, pss_cons (ps_if (PW.pt (pw_or (pt_not (pt_val (pe_callB call_isi (by rfl) T.isin boot_isinstance (pa_cons (pv 0) (pa_cons (pe_bltn (v := .ty "int") (by rfl) T.int rfl rfl) pa_nil)))))
        (pw_or1 (pt_val (pe_callB call_isi (by rfl) T.isin boot_isinstance (pa_cons (pv 0) (pa_cons (pe_bltn (v := .ty "bool") (by rfl) hB rfl rfl) pa_nil))))))) pss_no pss_nil)
      (pss_one (ps_ret (pe_and (pe_cmpR op_le (pv 1) (pv 0) (nomark _)) (pe_one (pe_or (pe_cmpR op_isN (pv 2) pe_non (nomark _)) (pe_one (pe_cmpR op_le (pv 0) (pv 2) (nomark _)))))))), ?_⟩
    refine ⟨_, rfl, _, _, _, _, true, rfl, .ty _, .base (.int _), by rfl, _, rfl, iteB rfl ?_⟩
    refine ⟨_, rfl, _, _, _, _, false, rfl, .ty _, .base (.int _), by rfl, _, rfl, iteB rfl ?_⟩
    refine ⟨_, rfl, _, rfl, _, _, rfl, rfl, _, rfl, ?_⟩
    by_cases h1 : lo ≤ i
    · rw [decide_eq_true h1] at k ⊢
      rw [Bool.true_and] at k
      refine iteT ⟨_, rfl, rfl, _, rfl, iteB rfl ⟨_, rfl, _, rfl, _, _, rfl, rfl, ?_⟩⟩
      exact k
    · rw [decide_eq_false h1] at k ⊢
      exact iteB rfl k
end
end K6
set_option Elab.async false
set_option linter.all false
set_option maxRecDepth 100000
set_option maxHeartbeats 4000000
set_option pp.maxSteps 1200
set_option pp.deepTerms false
namespace K6
open PySem PySem.Spec PyProof.Rows L2 Lk
abbrev sHeard : Stmt := top 86
/-- what the law makes of a call that it hears: (None, what it gives), or (the error, None) -/
def ttHeard (K : PySem.W.Frag) (CL : Addr) : (XK → Hp → VK → Prop) → Hp → VK → Prop := fun tl H Q => ∀ H0, Same H H0 → ∀ R : VK, (∀ v H', (∀ t, H' t = none → Q (.ref t) (upd H' t (.tup [.non, v]))) → R v H') →
  tl (fun cls d H' => PySem.W.exmOne K cls (.ref CL) = some true ∧ ∀ a t, H' a = none → t ≠ a → H' t = none → Q (.ref t) (upd (upd H' a (exq a cls d)) t (.tup [.ref a, .non]))) H0 R
theorem scHeard : FnScope ["call", "caught", "back", "error"] ["call"] (defScope sHeard) := ⟨rfl, rfl, rfl, by decide +kernel, rfl, by decide +kernel, by decide +kernel⟩
theorem heard_gives {X : Cx} {q : Str} {g CL : Addr} {cdg : Value} (hme : X.mg "LotError" = some (.ref CL)) :
    HearsTo X ["call", "caught", "back", "error"] "_law_heard" (defScope sHeard) g cdg (defBody sHeard) "call" q (ttHeard X.K CL) := by
  intro f c' s H Q tl act hc h
  have nd := scHeard.nd
  refine ⟨_, pss_cons (ps_asg (pe_tup (pa_cons pe_non (pa_cons pe_non pa_nil))) (pg_tup rfl (pgs_cons (pg_name (i := 1) nd rfl (.inl rfl)) (pgs_cons (pg_name (i := 2) nd rfl (.inl rfl)) pgs_nil))))
    (pss_cons (ps_try_trk (i := 3) (c := .ref CL) (tb := fun W D σ H => ∃ Ech : XK, (∀ cls d H', Ech cls d H' → W cls d σ H') ∧ σ[0]? = some (some (.ref f)) ∧ H c' = some (LamX.CodeO c' q) ∧ tl Ech H fun v H' => D.nx (σ.set 2 (some v)) H')
        rfl rfl rfl nd rfl rfl ⟨rfl, by decide, .inl hme⟩ (fun W pn xe tk _ => ?_) (fun a pn => pss_one (ps_set (i := 1) nd rfl (.inl rfl) (pv 3))))
    (pss_one (ps_ret (pe_tup (pa_cons (pv 1) (pa_cons (pv 2) pa_nil)))))), ?_⟩
  · refine ⟨fun pins s' σ H' D I h' => ?_⟩
    exact (pss_one (ps_set (i := 2) nd rfl (.inl rfl) (act W pn xe _ _ tk))).run pins s' σ H' D I h'
  · refine ⟨few_ok rfl, fun t nt => ⟨t, _, rfl, .inl (.inl upd_same), rfl, ?_⟩⟩
    refine ⟨_, _, rfl, _, _, rfl, rfl, ?_⟩
    have s1 : Same H (upd H t (.tup [.non, .non])) := same_new nt
    refine ⟨fun cls d H' => PySem.W.exmOne X.K cls (.ref CL) = some true ∧ ∀ a t, H' a = none → t ≠ a → H' t = none → Q (.ref t) (upd (upd H' a (exq a cls d)) t (.tup [.ref a, .non])), ?_, rfl, s1 _ _ hc, ?_⟩
    · rintro cls d H' ⟨e, k⟩
      refine ⟨e, fun a na => ?_⟩
      refine ⟨_, rfl, _, rfl, _, rfl, few_ok rfl, fun t2 n2 => ?_⟩
      have ne : t2 ≠ a := fun z => by rw [z, upd_same] at n2; cases n2
      refine k a t2 na ne ?_
      rw [upd_ne ne] at n2
      exact n2
    · exact h _ s1 _ fun v H' k => ⟨_, rfl, _, rfl, few_ok rfl, k⟩
end K6
set_option Elab.async false
set_option linter.all false
set_option maxRecDepth 100000
set_option maxHeartbeats 1500000
set_option pp.maxSteps 1200
set_option pp.deepTerms false
namespace K6
open PySem PySem.Spec PyProof.Rows L2 Lk
abbrev sInit : Stmt := inClass (top 1) 0
theorem fm_rowsR (q : List Str → Bool) : ∀ zs : List (V × List Str), (zs.filterMap fun z => if q z.2 = true then some z.1 else none) = (zs.filter fun z => q z.2).map (·.1)
  | [] => rfl
  | z :: zs => by
    have ih := fm_rowsR q zs
    rw [List.filterMap_cons]
    by_cases h : q z.2 = true
    · rw [if_pos h, List.filter_cons_of_pos (p := fun z : V × List Str => q z.2) h, List.map_cons, ih]
    · rw [if_neg h, List.filter_cons_of_neg (p := fun z : V × List Str => q z.2) h, ih]
theorem paired_of {α β : Type} {R : α → β → Prop} : ∀ {zs : List (α × β)}, (∀ z ∈ zs, R z.1 z.2) → Paired R (zs.map (·.1)) (zs.map (·.2))
  | [], _ => .nil
  | z :: zs, h => .cons (h z List.mem_cons_self) (paired_of fun y hy => h y (List.mem_cons_of_mem _ hy))
theorem leastF_congr {p q : List Str → Bool} {rws : List (List Str)} (h : ∀ r ∈ rws, p r = q r) : leastF p rws = leastF q rws := by
  unfold leastF
  generalize ([] : List (List Str)) = kept
  induction rws generalizing kept with
  | nil => rfl
  | cons r rws ih =>
    rw [List.foldl_cons, List.foldl_cons]
    have e : stepF p kept r = stepF q kept r := by unfold stepF; rw [h r List.mem_cons_self]
    rw [e]
    exact ih (fun x hx => h x (List.mem_cons_of_mem _ hx)) _
theorem leastF_mem {p : List Str → Bool} {rws : List (List Str)} : ∀ r ∈ leastF p rws, r ∈ rws := by
  unfold leastF
  have : ∀ (rws kept : List (List Str)), ∀ r ∈ rws.foldl (stepF p) kept, r ∈ kept ∨ r ∈ rws := by
    intro rws
    induction rws with
    | nil => exact fun kept r h => .inl h
    | cons x rws ih =>
      intro kept r h
      rw [List.foldl_cons] at h
      rcases ih _ r h with h | h
      · unfold stepF at h
        split at h
        · rcases List.mem_append.mp h with h | h
          · exact .inl h
          · exact .inr (by rw [List.mem_singleton.mp h]; exact List.mem_cons_self)
        · exact .inl h
      · exact .inr (List.mem_cons_of_mem _ h)
  intro r h
  rcases this rws [] r h with h | h
  · cases h
  · exact h
theorem stepF_len1 (p : List Str → Bool) : ∀ (rws kept : List (List Str)), (rws.foldl (stepF p) kept).length ≤ kept.length + rws.length
  | [], kept => Nat.le_refl _
  | r :: rws, kept => by
    rw [List.foldl_cons, List.length_cons]
    have h1 := stepF_len1 p rws (stepF p kept r)
    have h2 := stepF_len p kept r
    omega
theorem leastF_len (p : List Str → Bool) (rws : List (List Str)) : (leastF p rws).length ≤ rws.length := by
  have := stepF_len1 p rws []
  simpa [leastF] using this
theorem eqvT_rows (rows : List (List Str)) : PyData.eqv (.tuple (rows.map fun r => PyData.tuple (strsD r))) (.tuple []) = decide (rows = []) := by
  cases rows with
  | nil => simp [PyData.eqv, PyData.eqvAll]
  | cons r rows => simp [PyData.eqv, PyData.eqvAll]
theorem sure_none {L : Lore} {rws : List (List Str)} (ok : LoreOk L) {n : Nat} (lo : LotsOk (L.kps.map (·.1)) rws) : leastF (fun r => sureL L r n) rws = [] ↔ sureL L (L.kps.map (·.1)) n = false := by
  rw [leastF_none]
  constructor
  · intro h
    exact h _ (lots_has lo ok.kn (List.Sublist.refl _))
  · intro h r hr
    cases hs : sureL L r n with
    | false => rfl
    | true =>
      have := sure_mono (fun z hz => (lots_sub lo hr).subset hz) hs
      rw [h] at this
      cases this
section
variable {P : Program} {w : World} {K : PySem.W.Frag} {mg : Str → Option Value} {base : Heap} {f : Addr} {fd : FuncData}
/-! ### is_told -/
def spIsTold : Sp := fun vs H Q _ => ∃ (t : Addr) (xs : List V) (u wd : Str) (n : Int), vs = [.ref t, .str wd, .int n] ∧ H t = some (.tup (.str u :: xs)) ∧ Q (.bl (decide ((xs.length : Int) + 1 = n) && decide (u = wd))) H
theorem scIsTold : FnScope ["value", "word", "many"] ["value", "word", "many"] (defScope sIsTold) := ⟨rfl, rfl, rfl, by decide +kernel, rfl, by decide +kernel, by decide +kernel⟩
theorem ok_isTold {fR : Addr} {fdR : FuncData} (F : Fun K "is_told" "is_told" sIsTold f fd) (T : Bl mg) (Cc : Cn mg) (FR : Fun K "is_row" "is_row" sIsRow fR fdR) (bR : Binds K fdR ["value", "many"] []) (mR : mg "is_row" = some (.ref fR)) : FnOk P w K mg base CX0 2 f fd ["value", "word", "many"] spIsTold := by
  have GR : FnOk P w K mg base CX0 1 fR fdR ["value", "many"] spIsRow := ok_isRow FR T Cc
  refine F.ok scIsTold (fun vs H Q E h => ?_) (fun cdv A outer s H vs Q E hr h => ?_)
  · obtain ⟨t, xs, u, wd, n, rfl, _⟩ := h
    rfl
  · obtain ⟨t, xs, u, wd, n, rfl, ht, k⟩ := h
    refine ⟨_, pss_one (ps_ret (pe_and (pe_call GR hr (by rfl) mR FR.kp bR .nil pass0 (pa_cons (pv 0) (pa_cons (pv 2) pa_nil))) (pe_one (pe_cmpR op_eq (pe_ix ix_tup (pv 0) pe_int (fun _ _ => rfl)) (pv 1) (nomark _))))), ?_⟩
    refine ⟨_, rfl, _, rfl, t, _, n, rfl, ht, _, rfl, ?_⟩
    by_cases h : (xs.length : Int) + 1 = n
    · have h1 : decide (V.int (V.str u :: xs).length = V.int n) = true := decide_eq_true (by rw [← h]; rfl)
      refine iteA h1 ⟨_, rfl, t, _, _, _, rfl, rfl, SqT.of ht, at0 rfl, _, rfl, rfl, ?_⟩
      rw [decide_eq_true h, Bool.true_and] at k
      have e : decide (V.str u = V.str wd) = decide (u = wd) := by
        by_cases q : u = wd
        · rw [q]
          simp
        · simp [q]
      rw [e]
      exact k
    · have h1 : decide (V.int (V.str u :: xs).length = V.int n) = false := decide_eq_false fun e => h (by
        have := (V.int.inj e)
        rw [← this]
        rfl)
      rw [decide_eq_false h, Bool.false_and] at k
      exact iteB h1 k
theorem scInit : FnScope ["self", "value"] ["self", "value"] (defScope sInit) := ⟨rfl, rfl, rfl, by decide +kernel, rfl, by decide +kernel, by decide +kernel⟩
theorem ok_init {fI : Addr} {fdI : FuncData} (F : Fun K "__init__" "LotError.__init__" sInit fI fdI) : FnOk P w K mg base CX0 1 fI fdI ["self", "value"] (spInitV K fI) := by
  refine F.ok scInit (fun vs H Q E h => ?_) (fun cdv A outer s H vs Q E hr h => ?_)
  · obtain ⟨a, C, v, rfl, _⟩ := h
    rfl
  · obtain ⟨a, C, v, rfl, T, ha, k⟩ := h
    refine ⟨_, pss_one (ps_ost (pv 0) (pv 1)), ?_⟩
    exact ⟨_, rfl, _, rfl, a, C, rfl, T.oex, T.noV, .inl ⟨ha, fun d hd nd => k d hd nd⟩⟩
/-- an own error with `value` v is made and raised: what is wished of it -/
theorem made_oex {CU fI : Addr} {v : V} {H : Hp} {Q : XK} (T : ErC K CU fI) (k : ∀ d H', Same H H' → H d = none → H' d = some (.xd [("value", v)]) → Q (.ref CU) (some d) H') :
    [v].length ≤ 1000 ∧ ∀ a, H a = none → spInitV K fI (.ref a :: ([v] ++ [])) (upd H a (exo a CU none))
      (fun x H2 => x = .non ∧ ∃ (d : Addr) (fs : List (Str × V)), H2 a = some (exo a CU (some d)) ∧ H2 d = some (exd d fs) ∧ H d = none ∧ Q (.ref CU) (some d) (upd (del H2 a) d (.xd fs))) (fun _ _ _ => False) := by
  refine ⟨by show 1 ≤ 1000; decide, fun a na => ⟨a, CU, v, rfl, T, upd_same, fun d hd nd => ⟨rfl, d, [("value", v)], upd_same, by rw [upd_ne nd, upd_same], ?_, ?_⟩⟩⟩
  · rw [upd_ne nd] at hd
    exact hd
  · rw [upd_ne nd] at hd
    refine k d _ (fun b o e => ?_) hd upd_same
    have nb : b ≠ a := ne_of_none e na
    have nbd : b ≠ d := ne_of_none e hd
    rw [upd_ne nbd, del_ne nb, upd_ne nb, upd_ne nbd, upd_ne nb]
    exact e
/-! ### is_sure -/
def spIsSure (C CS : Addr) : Sp := fun vs H Q _ => ∃ (x t : Addr) (L : Lore) (ys : List Str) (n : Nat), vs = [.ref x, .ref t, .int (n : Int)] ∧ ShAt H C CS x L ∧ LoreOk L ∧ LotE H t ys ∧ ys.Sublist (L.kps.map (·.1)) ∧ n ≤ 3 ∧ ∀ H', Same H H' → Q (.bl (sureL L ys n)) H'
/-! ### sure_lots -/
def spSureLots (C CS : Addr) : Sp := fun vs H Q _ => ∃ (x : Addr) (L : Lore) (n : Nat), vs = [.ref x, .int (n : Int)] ∧ ShAt H C CS x L ∧ LoreOk L ∧ n ≤ 3 ∧
  ∀ D us rws H', Same H H' → H' D = some (.lst us) → Paired (RelT H') us (rws.filter fun r => sureL L r n) → LotsOk (L.kps.map (·.1)) rws → Q (.ref D) H'
/-! ### overruling -/
def spOverruling (C CS CN : Addr) : Sp := fun vs H Q E => ∃ (x : Addr) (L : Lore) (n : Nat), vs = [.ref x, .int (n : Int)] ∧ ShAt H C CS x L ∧ LoreOk L ∧ n ≤ 3 ∧
  (sureL L (L.kps.map (·.1)) n = false → ∀ d H', Same H H' → H d = none → H' d = some (.xd [("value", .int (n : Int))]) → E (.ref CN) (some d) H') ∧
  (sureL L (L.kps.map (·.1)) n = true → ∀ q us rws H', Same H H' → H' q = some (.tup us) → Paired (RelT H') us (leastF (fun r => sureL L r n) rws) → LotsOk (L.kps.map (·.1)) rws → Q (.ref q) H')
end
end K6
set_option Elab.async false
set_option linter.all false
set_option maxRecDepth 100000
set_option maxHeartbeats 4000000
set_option pp.maxSteps 1200
set_option pp.deepTerms false
namespace K6
open PySem PySem.Spec PyProof.Rows L2 Lk
section
variable {P : Program} {w : World} {K : PySem.W.Frag} {mg : Str → Option Value} {base : Heap} {f : Addr} {fd : FuncData}
/-- the pieces put anew -/
def spWith : Sp := fun vs H Q _ => ∃ (lo pa nm ps : Addr) (x : Addr), vs = [.ref lo, .str "pieces", .ref x] ∧ H lo = some (.dK [(.inr "parts", .ref pa), (.inr "names", .ref nm), (.inr "pieces", .ref ps)]) ∧
  ∀ d H', Same H H' → H d = none → D3 H' d pa nm x → Q (.ref d) H'
end
end K6
set_option Elab.async false
set_option linter.all false
set_option maxRecDepth 100000
set_option maxHeartbeats 4000000
set_option pp.maxSteps 1200
set_option pp.deepTerms false
namespace K6
open PySem PySem.Spec PyProof.Rows L2 Lk
/-- a shelf with other pieces -/
def rowsL' (L : Lore) (ps : List Str) (q : List (List Str)) : Lore := ⟨ps, L.kps.map fun k => (k.1, q)⟩
theorem rows_names (L : Lore) (ps : List Str) (q : List (List Str)) : (rowsL' L ps q).kps.map (·.1) = L.kps.map (·.1) := by
  unfold rowsL'
  rw [List.map_map]
  rfl
theorem one_piece {ps : List Str} (nd : ps.Nodup) {p : Str} (h : p ∈ ps) : PieceOk ps [p] := by
  refine ⟨by simp, ?_⟩
  induction ps with
  | nil => cases h
  | cons x ps ih =>
    have nx := (List.nodup_cons.mp nd)
    by_cases e : x = p
    · subst e
      rw [List.filter_cons_of_pos (by simp)]
      have : ps.filter (fun y => decide (y ∈ [x])) = [] := List.filter_eq_nil_iff.mpr fun y hy => by
        have : y ≠ x := fun z => nx.1 (by rw [← z]; exact hy)
        simp [this]
      rw [this]
    · rw [List.filter_cons_of_neg (by simp [e])]
      exact ih nx.2 ((List.mem_cons.mp h).resolve_left (fun z => e z.symm))
theorem rows_ok {L : Lore} (ok : LoreOk L) {ps : List Str} (h0 : 0 < ps.length) (hs : ps.Sublist L.parts) {q : List (List Str)} (q1 : 1 ≤ q.length) (q2 : q.length ≤ 2) (qp : ∀ p ∈ q, PieceOk ps p) : LoreOk (rowsL' L ps q) := by
  refine ⟨h0, Nat.le_trans hs.length_le ok.p4, ok.pn.sublist hs, fun p hp => ok.pp p (hs.subset hp), ?_, ?_, ?_, ?_, ?_⟩
  · show 2 ≤ (L.kps.map _).length
    rw [List.length_map]; exact ok.k2
  · show (L.kps.map _).length ≤ 6
    rw [List.length_map]; exact ok.k6
  · rw [rows_names]; exact ok.kn
  · intro k hk
    obtain ⟨k0, h, rfl⟩ := List.mem_map.mp hk
    exact ok.kp k0 h
  · intro k hk
    obtain ⟨k0, h, rfl⟩ := List.mem_map.mp hk
    exact ⟨q1, q2, qp⟩
theorem rows_rel {H : Hp} {L : Lore} {ps : List Str} {q : List (List Str)} {v : V} (h : RowR H v q) : Paired (fun v (k : KP) => RowR H v k.2) (List.replicate L.kps.length v) (rowsL' L ps q).kps := by
  unfold rowsL'
  generalize L.kps = ks
  induction ks with
  | nil => exact .nil
  | cons k ks ih => exact .cons h ih
theorem flat_rep {α : Type} (n : Nat) (x : α) : (List.replicate n [x]).flatten = List.replicate n x := by
  induction n with
  | zero => rfl
  | succ n ih => rw [List.replicate_succ, List.flatten_cons, ih]; rfl
theorem cut_to2 (xs : List V) : cutV xs none (some 2) = xs.take 2 := by
  show (xs.drop 0).take (min 2 xs.length - 0) = _
  rw [List.drop_zero, Nat.sub_zero]
  rcases Nat.le_total 2 xs.length with h | h
  · rw [Nat.min_eq_left h]
  · rw [Nat.min_eq_right h, List.take_of_length_le (Nat.le_refl _), List.take_of_length_le h]
theorem slA_two {K : PySem.W.Frag} {H : Hp} {a : Addr} {xs : List V} {Q : VK} (h : H a = some (.tup xs)) (k : ∀ p H', Same H H' → H' p = some (.tup (xs.take 2)) → Q (.ref p) H') : rSlA K (.ref a) none (some 2) H Q := by
  refine ⟨a, xs, rfl, SqT.of h, fun full => k a H (.refl _) ?_, fun _ p np => k p _ (same_new np) (by rw [upd_same, cut_to2])⟩
  have e : min 2 xs.length = xs.length := full.2
  rw [List.take_of_length_le (by omega)]
  exact h
section
variable {P : Program} {w : World} {K : PySem.W.Frag} {mg : Str → Option Value} {base : Heap} {f : Addr} {fd : FuncData}
def spThick : Sp := fun vs H Q _ => ∃ (a : Addr) (fw up mp : Int) (N : Nat), vs = [.ref a, .int fw, .int up, .int mp] ∧ PotAt a N H ∧ N ≤ 10000 ∧ 2 ≤ fw ∧ fw ≤ up ∧ up ≤ 6 ∧ 1 ≤ mp ∧ mp ≤ 4 ∧
  ∀ (L : Lore) (lo : Addr) (H' : Hp), LoreOk L → ExtP a H H' → PotAt a (N + 210) H' → LoreAt H' lo L → Q (.ref lo) H'
end
end K6
set_option Elab.async false
set_option linter.all false
set_option maxRecDepth 100000
set_option maxHeartbeats 4000000
set_option pp.maxSteps 1200
set_option pp.deepTerms false
namespace K6
open PySem PySem.Spec PyProof.Rows L2 Lk
abbrev sIsSum : Stmt := top 54
abbrev sOdd : Stmt := top 50
abbrev sComesTo : Stmt := top 41
abbrev sIsSumOf : Stmt := top 62
abbrev sIsAns : Stmt := top 65
abbrev sAreAns : Stmt := top 64
abbrev sRefAns : Stmt := top 66
abbrev sAnswered : Stmt := top 67
abbrev sValued : Stmt := top 68
section
variable {P : Program} {w : World} {K : PySem.W.Frag} {mg : Str → Option Value} {base : Heap} {f : Addr} {fd : FuncData}
def spIsSum (C CS : Addr) : Sp := fun vs H Q _ => ∃ (x p : Addr) (L : Lore) (ts : List V) (ss : List Spot), vs = [.ref x, .ref p] ∧ ShAt H C CS x L ∧ LoreOk L ∧ H p = some (.tup ts) ∧ Paired (RelS H) ts ss ∧ ss.Sublist (spotsOf L.kps) ∧ ∀ H', Same H H' → Q (.bl true) H'
theorem scIsSum : FnScope ["shelf", "value", "spot"] ["shelf", "value"] (defScope sIsSum) := ⟨rfl, rfl, rfl, by decide +kernel, rfl, by decide +kernel, by decide +kernel⟩
theorem ok_isSum {C CS fS fI fR : Addr} {fdI fdR : FuncData} (F : Fun K "is_sum" "is_sum" sIsSum f fd) (T : Bl mg) (Cc : Cn mg) (hB : mg "bool" = none) (SC : ShC K CS fS)
    (FI : Fun K "is_integer" "is_integer" sIsInt fI fdI) (bI : Binds K fdI ["value"] []) (mI : mg "is_integer" = some (.ref fI))
    (FR : Fun K "is_row" "is_row" sIsRow fR fdR) (bR : Binds K fdR ["value", "many"] []) (mR : mg "is_row" = some (.ref fR)) :
    FnOk P w K mg base CX0 2 f fd ["shelf", "value"] (spIsSum C CS) := by
  have GI : FnOk P w K mg base CX0 1 fI fdI ["value"] spIsInt := ok_isInt FI T hB
  have GR : FnOk P w K mg base CX0 1 fR fdR ["value", "many"] spIsRow := ok_isRow FR T Cc
  refine F.ok scIsSum (fun vs H Q E h => ?_) (fun cdv A outer s H vs Q E hr h => ?_)
  · obtain ⟨x, p, L, ts, ss, rfl, _⟩ := h
    rfl
  · obtain ⟨x, p, L, ts, ss, rfl, sh, ok, hp, pr, sub, k⟩ := h
    obtain ⟨dx, fs, hx, sf, _, ⟨pS, us, lS, eS, pS2, _⟩⟩ := id sh
    have nd := scIsSum.nd
    refine ⟨_, pss_cons (ps_if (pt_not (pt_val (pe_callB call_isi (by rfl) T.isin boot_isinstance (pa_cons (pv 1) (pa_cons (pe_bltn (v := .ty "tuple") (by rfl) Cc.tuple rfl rfl) pa_nil))))) pss_no pss_nil)
      (pss_cons (ps_if (pt_not (pt_val (pe_callB (cr_all rfl) (by rfl) T.all boot_all (pa_cons (pe_lc (own := [("spot", 2)]) (g := gName 2) (tt := tYes)
            (te := tAndV (tCall spIsRow [] E0 (tCons (tVar 2) (tCons (tC (.int 2)) tNil))) (tCall spIsInt [] E0 (tCons (tOp (rIxT K) (tVar 2) (tC (.int 1))) tNil))) rfl nd (pi_tup (pv 1))
            (blkOk_by (N := ["shelf", "value", "spot"]) (sc := defScope sIsSum) (by decide +kernel)) (fun _ _ _ _ _ => pg_name (i := 2) nd rfl (.inl rfl)) (fun _ _ _ _ _ => pts_nil)
            (fun _ _ _ _ _ => pe_and (pe_call GR hr (by rfl) mR FR.kp bR .nil pass0 (pa_cons (pv 2) (pa_cons pe_int pa_nil))) (pe_one (pe_call GI hr (by rfl) mI FI.kp bI .nil pass0 (pa_cons (pe_ix ix_tup (pv 2) pe_int (fun _ _ => rfl)) pa_nil))))) pa_nil)))) pss_no pss_nil)
      (pss_one (ps_ret (pe_cmpR (op_eqD (room64 hr)) (pv 1) (pe_tupleOf (by rfl) Cc.tuple (pe_lc (own := [("spot", 2)]) (g := gName 2) (tt := tTest (tOp (rInDT K) (tVar 2) (tVar 1))) (te := tVar 2) rfl nd (pi_tup (pe_fld (pv 0) rfl))
            (blkOk_by (N := ["shelf", "value", "spot"]) (sc := defScope sIsSum) (by decide +kernel)) (fun _ _ _ _ _ => pg_name (i := 2) nd rfl (.inl rfl)) (fun _ _ _ _ _ => pts_one (pt_cmpR (op_inDT (room65 hr)) (pv 2) (pv 1) rfl)) (fun _ _ _ _ _ => pv 2))) (nomark _))))), ?_⟩
    obtain ⟨zs, z1, z2, z3⟩ := paired_zip pr
    have tl : ts.length = ss.length := Paired.length pr
    have sl : ss.length ≤ 12 := by
      have h1 := sub.length_le
      have h2 := spots_len L.kps fun k hk => (ok.q k hk).2.1
      have := ok.k6
      omega
    have zl : zs.length = ss.length := by rw [← z2, List.length_map]
    refine ⟨_, rfl, _, _, _, _, true, rfl, .ty _, .base (.tup hp), by rfl, _, rfl, iteB rfl ?_⟩
    refine ⟨_, rfl, p, rfl, ⟨_, SqT.of hp⟩, all_over (walk_tup (a := p) (xs := ts)) zs (·.1) (fun _ => true) z1.symm (by omega) (fun H s => sqT_same s (SqT.of hp)) ?_ ?_⟩
    · rintro i ⟨yv, ys⟩ H1 R hy s1 kk
      obtain ⟨t, et, eh⟩ := z3 _ (List.mem_of_getElem? hy)
      dsimp only at et eh
      subst et
      have eh1 := s1 _ _ eh
      refine ⟨rfl, _, rfl, t, _, 2, rfl, eh1, _, rfl, iteA (decide_eq_true rfl) ?_⟩
      exact ⟨_, rfl, t, _, _, _, rfl, rfl, SqT.of eh1, at1 rfl, _, rfl, kk _ (Same.refl _)⟩
    intro H1 s1
    have al : (zs.all fun _ => true) = true := by simp
    rw [al]
    refine ⟨_, rfl, iteB rfl ?_⟩
    obtain ⟨ys, y1, y2, y3⟩ := paired_zip pS2
    have yo : SpOk (spotsOf L.kps) := spots_ok ok
    have so : SpOk ss := fun s hs => yo s (sub.subset hs)
    have yl : ys.length ≤ 12 := by
      have h2 := spots_len L.kps fun k hk => (ok.q k hk).2.1
      have := ok.k6
      rw [← y2, List.length_map] at h2
      omega
    have ul : us.length = ys.length := by rw [← y1, List.length_map]
    have hp1 := s1 _ _ hp
    have eS1 := s1 _ _ eS
    refine ⟨_, rfl, _, rfl, x, CS, dx, fs, .ref pS, rfl, s1 _ _ hx, SC.cls, SC.spots, lS, pS, rfl, ⟨_, SqT.of eS1⟩, fun D nD => lc_fm (walk_tup (a := pS) (xs := us)) ys (fun y => if y.2 ∈ ss then some y.1 else none) ul.symm (by omega) nD (fun H s => sqT_same s (SqT.of eS1)) ?_ ?_⟩
    · rintro i u ⟨yv, y⟩ H2 H2' R Rn hy s2 ⟨rfl, hu⟩ k1 k2
      obtain ⟨t, et, eh⟩ := y3 _ (List.mem_of_getElem? hy)
      dsimp only at et eh
      subst et
      obtain rfl : V.ref t = u := by
        rw [← y1, List.getElem?_map, hy] at hu
        exact Option.some.inj hu
      have sH := s1.trans s2
      refine ⟨rfl, _, rfl, _, rfl, spD y, ss.map spD, .tup (SqT.of (sH _ _ eh)) (.cons (.str _) (.cons (.int _) .nil)), .tup (SqT.of (sH _ _ hp)) (dp_spots (Paired.mapP pr fun v s r => RelS.keep _ _ _ _ (.of sH) r)), spD_shaped (yo y (by rw [← y2]; exact List.mem_map.mpr ⟨_, List.mem_of_getElem? hy, rfl⟩)), spDs_shaped so, _, rfl, ?_⟩
      rw [spDs_any]
      by_cases h : y ∈ ss
      · exact iteA (decide_eq_true h) ⟨_, rfl, k1 _ _ (if_pos h) (Same.refl _)⟩
      · exact iteB (decide_eq_false h) (k2 _ (if_neg h) (Same.refl _))
    · intro H2 s2 eD
      have sH : Same H H2 := s1.trans s2
      have pf := paired_fm ss ys fun z hz => RelS.keep _ _ _ _ (.of sH) (y3 z hz)
      rw [y2, sub_filter sub (spots_nodup ok.kn)] at pf
      refine .inl ⟨D, _, rfl, SqL.of eD, fun q nq => ?_⟩
      have s3 : Same H2 (upd H2 q (.tup (ys.filterMap fun y => if y.2 ∈ ss then some y.1 else none))) := same_new nq
      refine ⟨.tuple (ss.map spD), .tuple (ss.map spD), .tup (SqT.of (s3 _ _ (sH _ _ hp))) (dp_spots (Paired.mapP pr fun v s r => RelS.keep _ _ _ _ (.of (sH.trans s3)) r)), .tup (SqT.of upd_same) (dp_spots (Paired.mapP pf fun v s r => RelS.keep _ _ _ _ (.of s3) r)), spDs_shaped so, spDs_shaped so, ?_⟩
      have e : PyData.eqv (.tuple (ss.map spD)) (.tuple (ss.map spD)) = true := SeqAt.eqv_refl _ (SeqAt.canLay_of_shaped (spDs_shaped so))
      rw [e]
      exact k _ (sH.trans s3)
def tOddT (K : PySem.W.Frag) (i : Nat) : TT := fun σ H Q => tOp rOdd1 (tVar i) (tC (.int 1)) σ H fun x H' => ∃ k, TruV K x H' k ∧ Q k H'
theorem fm_cnt (p : Str) : ∀ ys : List (V × List Str), (ys.filterMap fun y => if p ∈ y.2 then some y.1 else none).length = cntP p (ys.map (·.2))
  | [] => rfl
  | y :: ys => by
    have ih := fm_cnt p ys
    unfold cntP at ih ⊢
    by_cases m : p ∈ y.2
    · rw [List.filterMap_cons, if_pos m, List.map_cons, List.filter_cons_of_pos (by simpa using m), List.length_cons, List.length_cons, ih]
    · rw [List.filterMap_cons, if_neg m, List.map_cons, List.filter_cons_of_neg (by simpa using m), ih]
theorem fm_odd (pcs : List (List Str)) : ∀ ps : List Str, (ps.filterMap fun p => if cntP p pcs % 2 = 1 then some (V.str p) else none) = (oddL ps pcs).map V.str
  | [] => rfl
  | p :: ps => by
    have ih := fm_odd pcs ps
    unfold oddL at ih ⊢
    by_cases m : cntP p pcs % 2 = 1
    · rw [List.filterMap_cons, if_pos m, List.filter_cons_of_pos (by simpa using m), List.map_cons, ih]
    · rw [List.filterMap_cons, if_neg m, List.filter_cons_of_neg (by simpa using m), ih]
def spOdd (K : PySem.W.Frag) : Sp := fun vs H Q _ => ∃ (pa l : Addr) (ps : List Str) (ts : List V) (pcs : List (List Str)), vs = [.ref pa, .ref l] ∧ SqT K H pa (ps.map V.str) ∧ H l = some (.lst ts) ∧ Pieces H ts pcs ∧ ps.length ≤ 10 ∧ ts.length ≤ 1000 ∧
  ∀ r H', Same H H' → H' r = some (.tup ((oddL ps pcs).map V.str)) → Q (.ref r) H'
theorem scOdd : FnScope ["parts", "pieces", "counts", "part", "piece", "count"] ["parts", "pieces"] (defScope sOdd) := ⟨rfl, rfl, rfl, by decide +kernel, rfl, by decide +kernel, by decide +kernel⟩
theorem ok_odd (F : Fun K "odd_parts" "odd_parts" sOdd f fd) (T : Bl mg) (Cc : Cn mg) : FnOk P w K mg base CX0 1 f fd ["parts", "pieces"] (spOdd K) := by
  refine F.ok scOdd (fun vs H Q E h => ?_) (fun cdv A outer s H vs Q E hr h => ?_)
  · obtain ⟨pa, l, ps, ts, pcs, rfl, _⟩ := h
    rfl
  · obtain ⟨pa, l, ps, ts, pcs, rfl, hpa, hl, hP, p10, t1000, k⟩ := h
    have nd := scOdd.nd
    refine ⟨_, pss_cons (ps_setLc (i := 2) (own := [("part", 3)]) (g := gName 3) (tt := tYes) (te := tCB (rLenS K) (tCons (tLc (iList K (tVar 1)) (gName 4) (tTest (tOp (rIn K false) (tVar 3) (tVar 4))) (tVar 4) [4]) tNil)) rfl nd rfl rfl (sw_true rfl rfl rfl (by decide +kernel)) (pi_tup (pv 0))
          (blkOk_by (N := ["parts", "pieces", "counts", "part", "piece", "count"]) (sc := defScope sOdd) (by decide +kernel)) (fun _ _ _ _ _ => pg_name (i := 3) nd rfl (.inr rfl)) (fun _ _ _ _ _ => pts_nil)
          (fun _ _ _ _ _ => pe_callB call_len_seq (by rfl) T.len PySem.boot_len (pa_cons (pe_lc (own := [("piece", 4)]) (g := gName 4) (tt := tTest (tOp (rIn K false) (tVar 3) (tVar 4))) (te := tVar 4) rfl nd (pi_list (pv 1))
            (blkOk_by (N := ["parts", "pieces", "counts", "part", "piece", "count"]) (sc := relS (asgScope sOdd 0) (defScope sOdd)) (by decide +kernel)) (fun _ _ _ _ _ => pg_name (i := 4) nd rfl (.inl rfl)) (fun _ _ _ _ _ => pts_one (pt_cmpR op_in_seq (pv 3) (pv 4) rfl)) (fun _ _ _ _ _ => pv 4)) pa_nil)))
      (pss_one (ps_ret (pe_tupleOf (by rfl) Cc.tuple (pe_lc (own := [("part", 3), ("count", 5)]) (g := gTup K 2 (gCons (gName 3) (gCons (gName 5) gNil))) (tt := tOddT K 5) (te := tVar 3) rfl nd
          (pi_zipS (by rfl) Cc.zip (pa_cons (pv 0) (pa_cons (pv 2) pa_nil))) (blkOk_by (N := ["parts", "pieces", "counts", "part", "piece", "count"]) (sc := defScope sOdd) (by decide +kernel))
          (fun _ _ _ _ _ => pg_tup rfl (pgs_cons (pg_name (i := 3) nd rfl (.inl rfl)) (pgs_cons (pg_name (i := 5) nd rfl (.inl rfl)) pgs_nil))) (fun _ _ _ _ _ => pts_one (pt_truth (pe_op op_odd (pv 5) pe_int) (by intro _; rfl))) (fun _ _ _ _ _ => pv 3))))), ?_⟩
    obtain ⟨zs, z1, z2, z3⟩ := paired_zip hP
    have zl : zs.length = ts.length := by rw [← z1, List.length_map]
    refine ⟨_, rfl, pa, rfl, ⟨_, hpa⟩, fun D nD => lc_fm (walk_tup (a := pa) (xs := ps.map V.str)) ps (fun p => some (V.int (cntP p pcs : Nat))) (by rw [List.length_map]) (by rw [List.length_map]; omega) nD (fun H s => sqT_same s hpa) ?_ ?_⟩
    · rintro i u p H1 H1' R Rn hp s1 ⟨rfl, hu⟩ k1 k2
      obtain rfl : V.str p = u := by
        rw [List.getElem?_map, hp] at hu
        exact Option.some.inj hu
      have hl1 := s1 _ _ hl
      refine ⟨rfl, _, rfl, l, rfl, ⟨_, SqL.of hl1⟩, fun D2 nD2 => lc_fm (walk_list (a := l) (xs := ts)) zs (fun y => if p ∈ y.2 then some y.1 else none) zl (by omega) nD2 (fun H s => s.seq (SqL.of hl1)) ?_ ?_⟩
      · rintro j u ⟨yv, q⟩ H2 H2' R2 Rn2 hy s2 ⟨rfl, hu⟩ g1 g2
        obtain ⟨t, et, eh⟩ := z3 _ (List.mem_of_getElem? hy)
        dsimp only at et eh
        subst et
        obtain rfl : V.ref t = u := by
          rw [← z1, List.getElem?_map, hy] at hu
          exact Option.some.inj hu
        refine ⟨rfl, _, rfl, _, rfl, t, _, rfl, .inr (SqT.of (s2 _ _ (s1 _ _ eh))), rfl, flat_strs _, _, rfl, ?_⟩
        rw [inV_str]
        by_cases h2 : p ∈ q
        · refine iteA (by simp [h2]) ⟨_, rfl, g1 _ _ (if_pos h2) (Same.refl _)⟩
        · exact iteB (by simp [h2]) (g2 _ (if_neg h2) (Same.refl _))
      · intro H2 s2 eD2
        refine ⟨D2, _, rfl, .inl (SqL.of eD2), ?_⟩
        rw [fm_cnt, z2]
        exact k1 _ _ rfl s2
    · intro H1 s1 eD
      have fe : (ps.filterMap fun p => some (V.int (cntP p pcs : Nat))) = ps.map fun p => V.int (cntP p pcs : Nat) := by simp [Function.comp_def]
      rw [fe] at eD
      have src : ∀ H', Same H1 H' → SrcAt K (.tup pa) H' (ps.map V.str) ∧ SrcAt K (.lst D) H' (ps.map fun p => V.int (cntP p pcs : Nat)) := fun H' s' => ⟨sqT_same (s1.trans s') hpa, SqL.of (s' _ _ eD)⟩
      refine ⟨_, rfl, _, rfl, .tup pa, .lst D, ps.map V.str, ps.map fun p => V.int (cntP p pcs : Nat), rfl, (src H1 (Same.refl _)).1, (src H1 (Same.refl _)).2, fun D2 nD2 => ?_⟩
      refine lc_fm (walk_zipS (s1 := .tup pa) (s2 := .lst D) (n := ps.length) (by rw [List.length_map, List.length_map, Nat.min_self])) ps (fun p => if cntP p pcs % 2 = 1 then some (V.str p) else none) rfl (by omega) nD2 (fun H' s' => src H' s') ?_ ?_
      · rintro i v p H2 H2' R Rn hp s2 ⟨T1, a1, a2, rfl, nT, rfl, e1, e2⟩ k1 k2
        obtain rfl : V.str p = a1 := by
          have e1 : (ps.map V.str)[i]? = some a1 := e1
          rw [List.getElem?_map, hp] at e1
          exact Option.some.inj e1
        obtain rfl : V.int (cntP p pcs : Nat) = a2 := by
          have e2 : (ps.map fun p => V.int (cntP p pcs : Nat))[i]? = some a2 := e2
          rw [List.getElem?_map, hp] at e2
          exact Option.some.inj e2
        have s3 : Same H2 (upd H2 T1 (.tup [.str p, .int (cntP p pcs : Nat)])) := same_new nT
        refine ⟨T1, _, rfl, SqT.of upd_same, rfl, _, _, rfl, _, _, rfl, rfl, rfl, _, rfl, cntP p pcs, rfl, rfl, _, rfl, ?_⟩
        by_cases h : cntP p pcs % 2 = 1
        · exact iteA (by rw [h]; rfl) ⟨_, rfl, k1 _ _ (if_pos h) s3⟩
        · have h0 : cntP p pcs % 2 = 0 := by omega
          exact iteB (by rw [h0]; rfl) (k2 _ (if_neg h) s3)
      · intro H2 s2 eD2
        rw [fm_odd] at eD2
        exact .inl ⟨D2, _, rfl, SqL.of eD2, fun r nr => k r _ ((s1.trans s2).trans (same_new nr)) upd_same⟩
def spComesTo (C CS : Addr) : Sp := fun vs H Q _ => ∃ (x p : Addr) (L : Lore) (ts : List V) (ss : List Spot), vs = [.ref x, .ref p] ∧ ShAt H C CS x L ∧ LoreOk L ∧ H p = some (.tup ts) ∧ Paired (RelS H) ts ss ∧ ss.Sublist (spotsOf L.kps) ∧
  ∀ r H', Same H H' → H' r = some (.tup ((oddL L.parts (ss.map (pieceOf L))).map V.str)) → Q (.ref r) H'
theorem scComesTo : FnScope ["shelf", "spots", "spot"] ["shelf", "spots"] (defScope sComesTo) := ⟨rfl, rfl, rfl, by decide +kernel, rfl, by decide +kernel, by decide +kernel⟩
theorem ok_comesTo {C CS fC fS fU fO fP : Addr} {fdU fdO fdP : FuncData} (F : Fun K "comes_to" "comes_to" sComesTo f fd) (CC : CircC K C fC) (SC : ShC K CS fS)
    (GU : FnOk P w K mg base CX0 2 fU fdU ["shelf", "value"] (spIsSum C CS)) (kU : PySem.W.keepIn K (.ref fU) = true) (bU : Binds K fdU ["shelf", "value"] []) (mU : mg "is_sum" = some (.ref fU))
    (GO : FnOk P w K mg base CX0 1 fO fdO ["parts", "pieces"] (spOdd K)) (kO : PySem.W.keepIn K (.ref fO) = true) (bO : Binds K fdO ["parts", "pieces"] []) (mO : mg "odd_parts" = some (.ref fO))
    (GP : FnOk P w K mg base CX0 1 fP fdP ["shelf", "spot"] (spPieceAt C CS)) (kP : PySem.W.keepIn K (.ref fP) = true) (bP : Binds K fdP ["shelf", "spot"] []) (mP : mg "piece_at" = some (.ref fP)) :
    FnOk P w K mg base CX0 3 f fd ["shelf", "spots"] (spComesTo C CS) := by
  refine F.ok scComesTo (fun vs H Q E h => ?_) (fun cdv A outer s H vs Q E hr h => ?_)
  · obtain ⟨x, p, L, ts, ss, rfl, _⟩ := h
    rfl
  · obtain ⟨x, p, L, ts, ss, rfl, sh, ok, hp, pr, sub, k⟩ := h
    have nd := scComesTo.nd
    have hr1 : Room 1 _ := hr.mono (by decide)
    refine ⟨_, pss_cons (ps_if (pt_not (pt_val (pe_call GU hr (by rfl) mU kU bU .nil pass0 (pa_cons (pv 0) (pa_cons (pv 1) pa_nil))))) pss_no pss_nil)
      (pss_one (ps_ret (pe_call GO hr1 (by rfl) mO kO bO .nil pass0 (pa_cons (pe_fld (pv 0) rfl) (pa_cons (pe_lc (own := [("spot", 2)]) (g := gName 2) (tt := tYes) (te := tCall (spPieceAt C CS) [] E0 (tCons (tVar 0) (tCons (tVar 2) tNil))) rfl nd (pi_tup (pv 1))
        (blkOk_by (N := ["shelf", "spots", "spot"]) (sc := defScope sComesTo) (by decide +kernel)) (fun _ _ _ _ _ => pg_name (i := 2) nd rfl (.inl rfl)) (fun _ _ _ _ _ => pts_nil) (fun _ _ _ _ _ => pe_call GP hr1 (by rfl) mP kP bP .nil pass0 (pa_cons (pv 0) (pa_cons (pv 2) pa_nil)))) pa_nil))))), ?_⟩
    refine ⟨_, rfl, _, rfl, x, p, L, ts, ss, rfl, sh, ok, hp, pr, sub, fun H1 s1 => ⟨_, rfl, iteB rfl ?_⟩⟩
    have sh1 := sh.same s1
    obtain ⟨dx, fs, hx, sf, _⟩ := id sh1
    obtain ⟨pa, lp, tpa⟩ := sf.parts
    obtain ⟨zs, z1, z2, z3⟩ := paired_zip pr
    have sl : ss.length ≤ 12 := by
      have h1 := sub.length_le
      have h2 := spots_len L.kps fun k hk => (ok.q k hk).2.1
      have := ok.k6
      omega
    have zl : zs.length = ss.length := by rw [← z2, List.length_map]
    have tl : ts.length = zs.length := by rw [← z1, List.length_map]
    have hp1 := s1 _ _ hp
    refine ⟨_, rfl, x, CS, dx, fs, .ref pa, rfl, hx, SC.cls, SC.parts, lp, _, rfl, p, rfl, ⟨_, SqT.of hp1⟩, fun D nD => lc_relQ (walk_tup (a := p) (xs := ts)) nD zs (·.1) (fun y => pieceOf L y.2) RelP RelP.keep z1.symm (by omega) (fun H s => sqT_same s (SqT.of hp1)) ?_ ?_⟩
    · rintro i ⟨yv, y⟩ H2 R hy s2 kk
      obtain ⟨t, et, eh⟩ := z3 _ (List.mem_of_getElem? hy)
      dsimp only at et eh
      subst et
      have ym : y ∈ ss := by
        rw [← z2]
        exact List.mem_map.mpr ⟨_, List.mem_of_getElem? hy, rfl⟩
      obtain ⟨j, kq, hj, e1, e2⟩ := piece_of ok (sub.subset ym)
      have sh2 := sh1.same s2
      obtain ⟨dx2, fs2, hx2, sf2, _⟩ := id sh2
      have eh2 := s2 _ _ (s1 _ _ eh)
      rw [← e1] at eh2
      refine ⟨rfl, _, rfl, _, rfl, x, t, dx2, fs2, L, j, y.2, kq, pieceOf L y, rfl, hx2, sf2, ok, eh2, hj, e2, fun u hu => kk _ _ (Same.refl _) ⟨u, rfl, hu⟩⟩
    · intro H2 us s2 eD pu
      have eu : us.length = zs.length := by have := Paired.length pu; rwa [List.length_map] at this
      have e3 : (zs.map fun y => pieceOf L y.2) = ss.map (pieceOf L) := by rw [← z2, List.map_map]; rfl
      rw [e3] at pu
      exact ⟨pa, D, L.parts, us, _, rfl, (tpa.same s2).sq, eD, pu, by have := ok.p4; omega, by omega, fun r H3 s3 er => k r H3 ((s1.trans s2).trans s3) er⟩
def spIsSumOf (C CS : Addr) : Sp := fun vs H Q _ => ∃ (x t p : Addr) (L : Lore) (ys : List Str) (ts : List V) (ss : List Spot), vs = [.ref x, .ref t, .ref p] ∧ ShAt H C CS x L ∧ LoreOk L ∧ LotAt H t ys ∧ H p = some (.tup ts) ∧ Paired (RelS H) ts ss ∧ ss.Sublist (spotsIn L ys) ∧ ∀ H', Same H H' → Q (.bl true) H'
theorem scIsSumOf : FnScope ["shelf", "lot", "value", "spot"] ["shelf", "lot", "value"] (defScope sIsSumOf) := ⟨rfl, rfl, rfl, by decide +kernel, rfl, by decide +kernel, by decide +kernel⟩
theorem ok_isSumOf {C CS f1 : Addr} {fd1 : FuncData} (F : Fun K "is_sum_of" "is_sum_of" sIsSumOf f fd) (T : Bl mg)
    (G1 : FnOk P w K mg base CX0 2 f1 fd1 ["shelf", "value"] (spIsSum C CS)) (k1 : PySem.W.keepIn K (.ref f1) = true) (b1 : Binds K fd1 ["shelf", "value"] []) (m1 : mg "is_sum" = some (.ref f1)) :
    FnOk P w K mg base CX0 3 f fd ["shelf", "lot", "value"] (spIsSumOf C CS) := by
  refine F.ok scIsSumOf (fun vs H Q E h => ?_) (fun cdv A outer s H vs Q E hr h => ?_)
  · obtain ⟨x, t, p, L, ys, ts, ss, rfl, _⟩ := h
    rfl
  · obtain ⟨x, t, p, L, ys, ts, ss, rfl, sh, ok, ht, hp, pr, sub, k⟩ := h
    have nd := scIsSumOf.nd
    have ht : H t = some (.tup (ys.map V.str)) := ht
    obtain ⟨zs, z1, z2, z3⟩ := paired_zip pr
    have subA : ss.Sublist (spotsOf L.kps) := sub.trans List.filter_sublist
    have sl : ss.length ≤ 12 := Nat.le_trans subA.length_le (spots12 ok)
    have zl : zs.length = ss.length := by rw [← z2, List.length_map]
    refine ⟨_, pss_one (ps_ret (pe_and (pe_call G1 hr (by rfl) m1 k1 b1 .nil pass0 (pa_cons (pv 0) (pa_cons (pv 2) pa_nil))) (pe_one (pe_callB (cr_all rfl) (by rfl) T.all boot_all (pa_cons
        (pe_lc (own := [("spot", 3)]) (g := gName 3) (tt := tYes) (te := tOp (rIn K false) (tOp (rIxT K) (tVar 3) (tC (.int 0))) (tVar 1)) rfl nd (pi_tup (pv 2))
          (blkOk_by (N := ["shelf", "lot", "value", "spot"]) (sc := defScope sIsSumOf) (by decide +kernel)) (fun _ _ _ _ _ => pg_name (i := 3) nd rfl (.inl rfl)) (fun _ _ _ _ _ => pts_nil) (fun _ _ _ _ _ => pe_cmpR op_in_seq (pe_ix ix_tup (pv 3) pe_int (fun _ _ => rfl)) (pv 1) rfl)) pa_nil))))), ?_⟩
    refine ⟨_, rfl, _, rfl, x, p, L, ts, ss, rfl, sh, ok, hp, pr, subA, fun H1 s1 => ⟨_, rfl, iteT ?_⟩⟩
    refine ⟨_, rfl, p, rfl, ⟨_, SqT.of (s1 _ _ hp)⟩, all_over (walk_tup (a := p) (xs := ts)) zs (·.1) (fun _ => true) z1.symm (by omega) (fun H s => sqT_same s (SqT.of (s1 _ _ hp))) ?_ ?_⟩
    · rintro i ⟨yv, y⟩ H2 R hy s2 kk
      obtain ⟨tt, et, eh⟩ := z3 _ (List.mem_of_getElem? hy)
      dsimp only at et eh
      subst et
      have ym : y ∈ ss := by rw [← z2]; exact List.mem_map.mpr ⟨_, List.mem_of_getElem? hy, rfl⟩
      have yi : y.1 ∈ ys := by simpa using (List.mem_filter.mp (sub.subset ym)).2
      have sH := s1.trans s2
      refine ⟨rfl, _, rfl, tt, _, _, .str y.1, rfl, rfl, SqT.of (sH _ _ eh), at0 rfl, _, rfl, t, _, rfl, .inr (SqT.of (sH _ _ ht)), rfl, flat_strs _, ?_⟩
      rw [if_neg (by decide), strs_inV, decide_eq_true yi]
      exact kk _ (Same.refl _)
    · intro H2 s2
      have al : (zs.all fun _ => true) = true := by simp
      rw [al]
      exact k _ (s1.trans s2)
theorem scAnswered : FnScope ["answers", "keeper", "_"] ["answers"] (defScope sAnswered) := ⟨rfl, rfl, rfl, by decide +kernel, rfl, by decide +kernel, by decide +kernel⟩
theorem ok_answered (F : Fun K "answered" "answered" sAnswered f fd) (Cc : Cn mg) : FnOk P w K mg base CX0 1 f fd ["answers"] spAnswered := by
  refine F.ok scAnswered (fun vs H Q E h => ?_) (fun cdv A outer s H vs Q E hr h => ?_)
  · obtain ⟨r, As, rfl, _⟩ := h
    rfl
  · obtain ⟨r, As, rfl, ⟨ts, er, pr⟩, l6, k⟩ := h
    have nd := scAnswered.nd
    obtain ⟨zs, z1, z2, z3⟩ := paired_zip pr
    have zl : zs.length = As.length := by rw [← z2, List.length_map]
    refine ⟨_, pss_one (ps_ret (pe_tupleOf (by rfl) Cc.tuple (pe_lc (own := [("keeper", 1), ("_", 2)]) (g := gTup K 2 (gCons (gName 1) (gCons (gName 2) gNil))) (tt := tYes) (te := tVar 1) rfl nd (pi_tup (pv 0))
        (blkOk_by (N := ["answers", "keeper", "_"]) (sc := defScope sAnswered) (by decide +kernel)) (fun _ _ _ _ _ => pg_tup rfl (pgs_cons (pg_name (i := 1) nd rfl (.inl rfl)) (pgs_cons (pg_name (i := 2) nd rfl (.inl rfl)) pgs_nil))) (fun _ _ _ _ _ => pts_nil) (fun _ _ _ _ _ => pv 1)))), ?_⟩
    refine ⟨_, rfl, r, rfl, ⟨_, er.sq⟩, fun D nD => lc_fm (walk_tup (a := r) (xs := ts)) zs (fun z => some (.str z.2.1.1)) (by rw [← z1, List.length_map]) (by rw [← z1, List.length_map]; omega) nD (fun H s => sqT_same s er.sq) ?_ ?_⟩
    · rintro i u ⟨zv, a⟩ H2 H2' R Rn hz s2 ⟨rfl, hu⟩ k1 k2
      obtain ⟨t, et, eh⟩ := z3 _ (List.mem_of_getElem? hz)
      dsimp only at et eh
      subst et
      obtain rfl : V.ref t = u := by
        rw [← z1, List.getElem?_map, hz] at hu
        exact Option.some.inj hu
      exact ⟨t, _, rfl, SqT.of (s2 _ _ eh), rfl, _, _, rfl, _, _, rfl, rfl, rfl, _, rfl, k1 _ _ rfl (Same.refl _)⟩
    · intro H2 s2 eD
      have fe : (zs.filterMap fun z => some (V.str z.2.1.1)) = ((As.map (·.1)).map (·.1)).map V.str := by
        rw [← z2]
        simp [Function.comp_def]
      rw [fe] at eD
      exact .inl ⟨D, _, rfl, SqL.of eD, fun q nq => k q _ (s2.trans (same_new nq)) upd_same⟩
theorem scIsAns : FnScope ["shelf", "value", "place"] ["shelf", "value"] (defScope sIsAns) := ⟨rfl, rfl, rfl, by decide +kernel, rfl, by decide +kernel, by decide +kernel⟩
theorem ok_isAns {C CS fC fS fI f1 f2 : Addr} {fdI fd1 fd2 : FuncData} (F : Fun K "is_answer" "is_answer" sIsAns f fd) (T : Bl mg) (Cc : Cn mg) (CC : CircC K C fC) (SC : ShC K CS fS) (M : MethC K C "__contains__" fI) (FI : Fun K "__contains__" "Circle.__contains__" sCircIn fI fdI) (bI : Binds K fdI ["self", "value"] [])
    (F1 : Fun K "is_row" "is_row" sIsRow f1 fd1) (b1 : Binds K fd1 ["value", "many"] []) (m1 : mg "is_row" = some (.ref f1)) (F2 : Fun K "are_bits" "are_bits" sAreBits f2 fd2) (b2 : Binds K fd2 ["value", "many"] []) (m2 : mg "are_bits" = some (.ref f2)) :
    FnOk P w K mg base CX0 2 f fd ["shelf", "value"] (spIsAns C CS) := by
  have GI : FnOk P w K mg base CX0 1 fI fdI ["self", "value"] (spCircIn C) := ok_circIn FI CC
  have G1 : FnOk P w K mg base CX0 1 f1 fd1 ["value", "many"] spIsRow := ok_isRow F1 T Cc
  have G2 : FnOk P w K mg base CX0 1 f2 fd2 ["value", "many"] spAreBits := ok_areBits F2 T Cc
  refine F.ok scIsAns (fun vs H Q E h => ?_) (fun cdv A outer s H vs Q E hr h => ?_)
  · obtain ⟨x, t, L, a, rfl, _⟩ := h
    rfl
  · obtain ⟨x, t, L, ⟨kq, v⟩, rfl, sh, ok, km, al, ht, k⟩ := h
    dsimp only at km al ht
    obtain ⟨dx, fs, hx, sf, _⟩ := id sh
    obtain ⟨c, lc, ca⟩ := sf.circle
    obtain ⟨cdx, nm, ec, tn⟩ := id ca
    obtain ⟨q, lq, rows, eq, pr⟩ := sf.pieces
    have nd := scIsAns.nd
    obtain ⟨j, hj⟩ := List.mem_iff_getElem?.mp km
    obtain ⟨vr, hv, r, ts, rfl, er, ep⟩ := paired_get pr hj
    have kn : (L.kps.map (·.1))[j]? = some kq.1 := by rw [List.getElem?_map, hj]; rfl
    refine ⟨_, pss_cons (ps_if (PW.pt (pw_or (pt_not (pt_val (pe_call G1 hr (by rfl) m1 F1.kp b1 .nil pass0 (pa_cons (pv 1) (pa_cons pe_int pa_nil))))) (pw_or1 (pt_cmpR (op_notInI GI M.at_ M.fn bI hr) (pe_ix ix_tup (pv 1) pe_int (fun _ _ => rfl)) (pe_fld (pv 0) rfl) rfl)))) pss_no pss_nil)
      (pss_cons (ps_set (i := 2) nd rfl (.inl rfl) (pe_bmX PySem.F.slot_tuple_index PySem.F.type_tuple_index mt_tup_index (pe_fld (pe_fld (pv 0) rfl) rfl) (pa_cons (pe_ix ix_tup (pv 1) pe_int (fun _ _ => rfl)) pa_nil)))
      (pss_one (ps_ret (pe_call G2 hr (by rfl) m2 F2.kp b2 .nil pass0 (pa_cons (pe_ix ix_tup (pv 1) pe_int (fun _ _ => rfl)) (pa_cons (pe_callB call_len_seq (by rfl) T.len PySem.boot_len (pa_cons (pe_ix ix_tup (pe_fld (pv 0) rfl) (pv 2) (fun _ _ => rfl)) pa_nil)) pa_nil)))))), ?_⟩
    have two : v.length ≤ 2 := by
      rw [al]
      exact (ok.q kq km).2.1
    refine ⟨_, rfl, t, _, 2, rfl, ht, _, rfl, iteB ?_ ?_⟩
    · have e2 : V.int ([V.str kq.1, V.str (stv v)].length : Nat) = V.int 2 := rfl
      rw [decide_eq_true e2]
      rfl
    refine ⟨_, rfl, t, _, _, _, rfl, rfl, SqT.of ht, at0 rfl, _, rfl, x, CS, dx, fs, .ref c, rfl, hx, SC.cls, SC.circle, lc, c, cdx, _, rfl, ec, c, _, kq.1, rfl, ca, _, rfl, _, rfl, iteB ?_ ?_⟩
    · have : kq.1 ∈ L.kps.map (·.1) := List.mem_map.mpr ⟨kq, km, rfl⟩
      simpa using this
    refine ⟨_, rfl, x, CS, dx, fs, .ref c, rfl, hx, SC.cls, SC.circle, lc, c, C, cdx, _, .ref nm, rfl, ec, CC.cls, CC.nm, rfl, ⟨nm, _, rfl, tn⟩, _, rfl, t, _, _, _, rfl, rfl, SqT.of ht, at0 rfl, nm, L.kps.map (·.1), kq.1, j, rfl, rfl, tn.sq, kn, first_at ok.kn kn, ?_⟩
    refine ⟨_, rfl, t, _, _, _, rfl, rfl, SqT.of ht, at1 rfl, _, rfl, x, CS, dx, fs, .ref q, rfl, hx, SC.cls, SC.pieces, lq, _, rfl, q, rows, _, .ref r, rfl, rfl, SqT.of eq, atN hv, r, ts, rfl, .inr (SqT.of er), stv v, ?_, stv_bits v, by rw [stv_len]; omega, k⟩
    have tl : ts.length = kq.2.length := Paired.length ep
    rw [stv_len, al, ← tl]
    rfl
theorem scAreAns : FnScope ["shelf", "value", "row"] ["shelf", "value"] (defScope sAreAns) := ⟨rfl, rfl, rfl, by decide +kernel, rfl, by decide +kernel, by decide +kernel⟩
theorem ok_areAns {C CS fC fS f1 f2 f3 : Addr} {fd1 fd2 fd3 : FuncData} (F : Fun K "are_answers" "are_answers" sAreAns f fd) (T : Bl mg) (Cc : Cn mg) (CC : CircC K C fC) (SC : ShC K CS fS)
    (G1 : FnOk P w K mg base CX0 2 f1 fd1 ["shelf", "value"] (spIsAns C CS)) (k1 : PySem.W.keepIn K (.ref f1) = true) (b1 : Binds K fd1 ["shelf", "value"] []) (m1 : mg "is_answer" = some (.ref f1))
    (G2 : FnOk P w K mg base CX0 1 f2 fd2 ["circle", "value"] (spIsLot C)) (k2 : PySem.W.keepIn K (.ref f2) = true) (b2 : Binds K fd2 ["circle", "value"] []) (m2 : mg "is_lot" = some (.ref f2))
    (G3 : FnOk P w K mg base CX0 1 f3 fd3 ["answers"] spAnswered) (k3 : PySem.W.keepIn K (.ref f3) = true) (b3 : Binds K fd3 ["answers"] []) (m3 : mg "answered" = some (.ref f3)) :
    FnOk P w K mg base CX0 3 f fd ["shelf", "value"] (spAreAns C CS) := by
  refine F.ok scAreAns (fun vs H Q E h => ?_) (fun cdv A outer s H vs Q E hr h => ?_)
  · obtain ⟨x, r, L, As, rfl, _⟩ := h
    rfl
  · obtain ⟨x, r, L, As, rfl, sh, ok, aa, ao, k⟩ := h
    obtain ⟨ts, er, pr⟩ := id aa
    obtain ⟨dx, fs, hx, sf, _⟩ := id sh
    obtain ⟨c, lc, ca⟩ := sf.circle
    have nd := scAreAns.nd
    have hr1 : Room 1 _ := hr.mono (by decide)
    obtain ⟨zs, z1, z2, z3⟩ := paired_zip pr
    have zl : zs.length = As.length := by rw [← z2, List.length_map]
    have l6 := ao.six ok
    refine ⟨_, pss_cons (ps_if (PW.pt (pw_or (pt_not (pt_val (pe_callB call_isi (by rfl) T.isin boot_isinstance (pa_cons (pv 1) (pa_cons (pe_bltn (v := .ty "tuple") (by rfl) Cc.tuple rfl rfl) pa_nil))))) (pw_or1 (pt_not (pt_val (pe_callB (cr_all rfl) (by rfl) T.all boot_all (pa_cons (pe_lc (own := [("row", 2)]) (g := gName 2) (tt := tYes)
          (te := tCall (spIsAns C CS) [] E0 (tCons (tVar 0) (tCons (tVar 2) tNil))) rfl nd (pi_tup (pv 1)) (blkOk_by (N := ["shelf", "value", "row"]) (sc := defScope sAreAns) (by decide +kernel)) (fun _ _ _ _ _ => pg_name (i := 2) nd rfl (.inl rfl)) (fun _ _ _ _ _ => pts_nil)
          (fun _ _ _ _ _ => pe_call G1 hr (by rfl) m1 k1 b1 .nil pass0 (pa_cons (pv 0) (pa_cons (pv 2) pa_nil)))) pa_nil))))))) pss_no pss_nil)
      (pss_one (ps_ret (pe_call G2 hr1 (by rfl) m2 k2 b2 .nil pass0 (pa_cons (pe_fld (pv 0) rfl) (pa_cons (pe_call G3 hr1 (by rfl) m3 k3 b3 .nil pass0 (pa_cons (pv 1) pa_nil)) pa_nil))))), ?_⟩
    refine ⟨_, rfl, _, _, _, _, true, rfl, .ty _, er.ty, by rfl, _, rfl, iteB rfl ?_⟩
    refine ⟨_, rfl, r, rfl, ⟨_, er.sq⟩, all_over (walk_tup (a := r) (xs := ts)) zs (·.1) (fun _ => true) z1.symm (by omega) (fun H s => sqT_same s er.sq) ?_ ?_⟩
    · rintro i ⟨zv, a⟩ H2 R hz s2 kk
      obtain ⟨t, et, eh⟩ := z3 _ (List.mem_of_getElem? hz)
      dsimp only at et eh
      subst et
      have am : a ∈ As := by rw [← z2]; exact List.mem_map.mpr ⟨_, List.mem_of_getElem? hz, rfl⟩
      exact ⟨rfl, _, rfl, _, rfl, x, t, L, a, rfl, sh.same s2, ok, ao.mem am, ao.len a am, s2 _ _ eh, fun H3 s3 => kk _ s3⟩
    intro H2 s2
    have al : (zs.all fun _ => true) = true := by simp
    rw [al]
    refine ⟨_, rfl, iteB rfl ?_⟩
    refine ⟨_, rfl, x, CS, dx, fs, .ref c, rfl, s2 _ _ hx, SC.cls, SC.circle, lc, _, rfl, r, As, rfl, aa.same s2, l6, fun t H3 s3 lt => ?_⟩
    exact ⟨c, t, _, _, rfl, (ca.same s2).same s3, .inl lt, ao.sub.map _, nmOk ok, fun H4 s4 => k _ ((s2.trans s3).trans s4)⟩
theorem scRefAns : FnScope ["shelf", "value"] ["shelf", "value"] (defScope sRefAns) := ⟨rfl, rfl, rfl, by decide +kernel, rfl, by decide +kernel, by decide +kernel⟩
theorem ok_refAns {C CS f1 : Addr} {fd1 : FuncData} (F : Fun K "refuse_answers" "refuse_answers" sRefAns f fd)
    (G1 : FnOk P w K mg base CX0 3 f1 fd1 ["shelf", "value"] (spAreAns C CS)) (k1 : PySem.W.keepIn K (.ref f1) = true) (b1 : Binds K fd1 ["shelf", "value"] []) (m1 : mg "are_answers" = some (.ref f1)) :
    FnOk P w K mg base CX0 4 f fd ["shelf", "value"] (spRefAns C CS) := by
  refine F.ok scRefAns (fun vs H Q E h => ?_) (fun cdv A outer s H vs Q E hr h => ?_)
  · obtain ⟨x, r, L, As, rfl, _⟩ := h
    rfl
  · obtain ⟨x, r, L, As, rfl, sh, ok, aa, ao, k⟩ := h
    refine ⟨_, pss_one (ps_if (pt_not (pt_val (pe_call G1 hr (by rfl) m1 k1 b1 .nil pass0 (pa_cons (pv 0) (pa_cons (pv 1) pa_nil))))) pss_no pss_nil), ?_⟩
    exact ⟨_, rfl, _, rfl, x, r, L, As, rfl, sh, ok, aa, ao, fun H1 s1 => ⟨_, rfl, iteB rfl (k H1 s1)⟩⟩
theorem scValued : FnScope ["answers", "keeper", "signs", "number", "sign"] ["answers"] (defScope sValued) := ⟨rfl, rfl, rfl, by decide +kernel, rfl, by decide +kernel, by decide +kernel⟩
theorem ok_valued (F : Fun K "valued" "valued" sValued f fd) (T : Bl mg) : FnOk P w K mg base CX0 1 f fd ["answers"] spValued := by
  refine F.ok scValued (fun vs H Q E h => ?_) (fun cdv A outer s H vs Q E hr h => ?_)
  · obtain ⟨r, As, rfl, _⟩ := h
    rfl
  · obtain ⟨r, As, rfl, ⟨ts, er, pr⟩, l6, l2, k⟩ := h
    have nd := scValued.nd
    refine ⟨_, pss_one (ps_ret (pe_lc2 (own := [("keeper", 1), ("signs", 2), ("number", 3), ("sign", 4)]) (vs1 := [3, 4]) (g := gTup K 2 (gCons (gName 1) (gCons (gName 2) gNil))) (tt := tYes) (wi1 := iEnumT (tCons (tVar 2) tNil))
        (g1 := gTup K 2 (gCons (gName 3) (gCons (gName 4) gNil))) (tt1 := tYes) (te := tTup (tCons (tTup (tCons (tVar 1) (tCons (tVar 3) tNil))) (tCons (tVar 4) tNil))) rfl nd
        (pi_tup (pv 0)) (blkOk_by (N := ["answers", "keeper", "signs", "number", "sign"]) (sc := defScope sValued) (by decide +kernel)) (by decide)
        (fun _ _ _ _ _ => pg_tup rfl (pgs_cons (pg_name (i := 1) nd rfl (.inl rfl)) (pgs_cons (pg_name (i := 2) nd rfl (.inl rfl)) pgs_nil))) (fun _ _ _ _ _ => pts_nil)
        (fun _ _ _ _ _ => pi_enumT (by rfl) T.enum (pa_cons (pv 2) pa_nil))
        (fun _ _ _ _ _ => pg_tup rfl (pgs_cons (pg_name (i := 3) nd rfl (.inl rfl)) (pgs_cons (pg_name (i := 4) nd rfl (.inl rfl)) pgs_nil))) (fun _ _ _ _ _ => pts_nil)
        (fun _ _ _ _ _ => pe_tup (pa_cons (pe_tup (pa_cons (pv 1) (pa_cons (pv 3) pa_nil))) (pa_cons (pv 4) pa_nil))))), ?_⟩
    refine ⟨_, rfl, r, rfl, ⟨_, er.sq⟩, fun D nD => ?_⟩
    refine in_it (walk_tup (a := r) (xs := ts)) (fun i H' => ∃ us, H' D = some (.lst us) ∧ Paired (RelW2 H') us (valuedL (As.take i)) ∧ us.length ≤ 2 * i ∧ Same H H') ⟨[], upd_same, .nil, by simp, same_new nD⟩ (fun i H' _ ⟨_, _, _, _, s'⟩ => sqT_same s' er.sq) ?_ ?_
    · rintro i y H2 H3 hi ⟨us, eD, pu, ul, s2⟩ ⟨rfl, hy⟩
      obtain ⟨a, ha, t, rfl, et⟩ := paired_put pr hy
      have am := List.mem_of_getElem? ha
      have a2 := l2 a am
      have i6 : i < 6 := Nat.lt_of_lt_of_le (List.getElem?_eq_some_iff.mp ha).1 l6
      refine ⟨t, _, rfl, SqT.of (s2 _ _ et), rfl, _, _, rfl, _, _, rfl, rfl, rfl, _, rfl, stv a.2, rfl, ?_⟩
      have sz : (stv a.2).cps.size = a.2.length := stv_len a.2
      refine in_it (walk_enumT (z := stv a.2)) (fun j H' => ∃ us, H' D = some (.lst us) ∧ Paired (RelW2 H') us (valuedL (As.take i) ++ (List.range j).map fun m => ((a.1.1, m), a.2.getD m false)) ∧ us.length ≤ 2 * i + j ∧ Same H H')
        ⟨us, eD, by rw [List.range_zero, List.map_nil, List.append_nil]; exact pu, by omega, s2⟩ (fun _ _ _ _ => trivial) ?_ ?_
      · rintro j x H4 H5 hj ⟨us, eD, pu, ul, s4⟩ ⟨T1, c, rfl, nT, hc, rfl⟩
        have jl : j < a.2.length := by rw [sz] at hj; exact hj
        have cb : (⟨#[c]⟩ : Str) = stv [a.2.getD j false] := by
          have h1 : (stv a.2).cps.toList[j]? = some c := by rw [Array.getElem?_toList]; exact hc
          have h2 : (stv a.2).cps.toList = a.2.map bC := tl_stv a.2
          rw [h2, List.getElem?_map, List.getElem?_eq_getElem jl] at h1
          have h3 : bC a.2[j] = c := Option.some.inj h1
          rw [List.getD_eq_getElem?_getD, List.getElem?_eq_getElem jl, ← h3]
          rfl
        have sT : Same H4 (upd H4 T1 (.tup [.int (j : Nat), .str ⟨#[c]⟩])) := same_new nT
        have eT : upd H4 T1 (.tup [.int (j : Nat), .str ⟨#[c]⟩]) T1 = some (.tup [.int (j : Nat), .str ⟨#[c]⟩]) := upd_same
        generalize upd H4 T1 (.tup [.int (j : Nat), .str ⟨#[c]⟩]) = H5 at sT eT
        refine ⟨T1, _, rfl, SqT.of eT, rfl, _, _, rfl, _, _, rfl, rfl, rfl, _, rfl, _, rfl, few_ok rfl, fun u nu => ⟨_, rfl, few_ok rfl, fun p np => ?_⟩⟩
        have su : Same H5 (upd H5 u (.tup [.str a.1.1, .int (j : Nat)])) := same_new nu
        have eu : upd H5 u (.tup [.str a.1.1, .int (j : Nat)]) u = some (.tup [.str a.1.1, .int (j : Nat)]) := upd_same
        generalize upd H5 u (.tup [.str a.1.1, .int (j : Nat)]) = H6 at su eu np ⊢
        have sp : Same H6 (upd H6 p (.tup [.ref u, .str ⟨#[c]⟩])) := same_new np
        have ep : upd H6 p (.tup [.ref u, .str ⟨#[c]⟩]) p = some (.tup [.ref u, .str ⟨#[c]⟩]) := upd_same
        generalize upd H6 p (.tup [.ref u, .str ⟨#[c]⟩]) = H7 at sp ep ⊢
        have s47 : Same H4 H7 := (sT.trans su).trans sp
        have eD7 := s47 _ _ eD
        refine ⟨us, eD7, by rw [sizeLine_eq]; omega, us ++ [.ref p], upd_same, ?_, by rw [List.length_append]; show us.length + 1 ≤ _; omega, fun b o e => ?_⟩
        · have kp : Keep H7 (upd H7 D (.lst (us ++ [.ref p]))) := .upd eD7
          rw [List.range_succ, List.map_append, ← List.append_assoc]
          refine Paired.add (Paired.mapP pu fun v r h => RelW2.keep _ _ _ _ ((Keep.of s47).trans kp) h) ⟨p, u, rfl, ?_, ?_⟩
          · rw [kp _ _ ep (fun xs z => by cases z), cb]
          · exact kp _ _ (sp _ _ eu) (fun xs z => by cases z)
        · rw [upd_ne (ne_of_none e nD)]
          exact s47 _ _ (s4 _ _ e)
      · rintro H4 ⟨us, eD, pu, ul, s4⟩
        rw [sz] at pu ul
        refine ⟨us, eD, ?_, by omega, s4⟩
        rw [valuedL_take As ha]
        exact pu
    · rintro H2 ⟨us, eD, pu, ul, s2⟩
      rw [Paired.length pr, List.take_length] at pu
      exact k D us H2 s2 eD pu
end
end K6
set_option Elab.async false
set_option linter.all false
set_option maxRecDepth 100000
set_option maxHeartbeats 1500000
set_option pp.maxSteps 1200
set_option pp.deepTerms false
namespace K6
open PySem PySem.Spec PyProof.Rows L2 Lk
abbrev sRefHelp : Stmt := top 74
abbrev sFirstLost : Stmt := top 76
abbrev sMakes : Stmt := top 77
abbrev sHidden : Stmt := top 78
/-- the spots of one keeper -/
def spK (k : KP) : List Spot := (List.range k.2.length).map fun m => (k.1, m)
theorem spotsIn_one {L : Lore} (ok : LoreOk L) {k : KP} (hk : k ∈ L.kps) : spotsIn L [k.1] = spK k := by
  have h := spotsIn_sub ok (ks := [k]) (List.singleton_sublist.mpr hk)
  rw [show [k].map (fun k : KP => k.1) = [k.1] from rfl] at h
  rw [h]
  show (List.range k.2.length).map (fun m => ((k.1, m) : Spot)) ++ [] = _
  rw [List.append_nil]
  rfl
theorem spK_sub {L : Lore} {k : KP} (hk : k ∈ L.kps) : ∀ s ∈ spK k, s ∈ spotsOf L.kps := fun s hs => List.mem_flatMap.mpr ⟨k, hk, hs⟩
theorem spK_at {k : KP} {m : Nat} (h : m < k.2.length) : (spK k)[m]? = some (k.1, m) := by
  unfold spK
  rw [List.getElem?_map, List.getElem?_range h]
  rfl
theorem spK_len (k : KP) : (spK k).length = k.2.length := by unfold spK; rw [List.length_map, List.length_range]
/-- the number of the first piece of the keeper that the others cannot make -/
def firstN (L : Lore) (ys : List Str) (k : KP) : Option Nat := (List.range k.2.length).find? fun m => lostS L ys (k.1, m)
def optV : Option Nat → V
  | some m => .int (m : Int)
  | none => .non
theorem find_some' {p : Nat → Bool} : ∀ {n m : Nat}, m < n → p m = true → (∀ i, i < m → p i = false) → (List.range n).find? p = some m := by
  intro n
  induction n with
  | zero => intro m h; exact absurd h (Nat.not_lt_zero _)
  | succ n ih =>
    intro m h h1 h2
    rw [List.range_succ, List.find?_append]
    by_cases e : m = n
    · subst e
      have : (List.range m).find? p = none := List.find?_eq_none.mpr fun x hx => by rw [h2 x (List.mem_range.mp hx)]; decide
      rw [this]
      simp [h1]
    · rw [ih (by omega) h1 h2]
      rfl
theorem silent_dark {L : Lore} (ok : LoreOk L) {ks : List KP} (sub : ks.Sublist L.kps) (v : Vec) : (!decide (true ∈ ks.flatMap fun k => ansV L k v)) = darkB L (ks.map (·.1)) v := by
  rw [Bool.eq_iff_iff, Bool.not_eq_true', decide_eq_false_iff_not, darkB_iff, spotsIn_sub ok sub]
  constructor
  · intro h s hs
    obtain ⟨k, hk, hsm⟩ := List.mem_flatMap.mp hs
    obtain ⟨m, hmr, rfl⟩ := List.mem_map.mp hsm
    have ml : m < k.2.length := List.mem_range.mp hmr
    cases e : dot (codeS L (k.1, m)) v with
    | false => rfl
    | true =>
      refine absurd (List.mem_flatMap.mpr ⟨k, hk, ?_⟩) h
      unfold ansV
      refine List.mem_map.mpr ⟨k.2[m], List.getElem_mem ml, ?_⟩
      rw [← e]
      show dot (vecP L.parts k.2[m]) v = dot (vecP L.parts (pieceOf L (k.1, m))) v
      rw [piece_at_of ok (sub.subset hk) (List.getElem?_eq_getElem ml)]
  · intro h hm
    obtain ⟨k, hk, hb⟩ := List.mem_flatMap.mp hm
    unfold ansV at hb
    obtain ⟨p, hp, e⟩ := List.mem_map.mp hb
    obtain ⟨m, hm⟩ := List.mem_iff_getElem?.mp hp
    have ml := (List.getElem?_eq_some_iff.mp hm).1
    have := h (k.1, m) (List.mem_flatMap.mpr ⟨k, hk, List.mem_map.mpr ⟨m, List.mem_range.mpr ml, rfl⟩⟩)
    have c : codeS L (k.1, m) = vecP L.parts p := by
      show vecP L.parts (pieceOf L (k.1, m)) = _
      rw [piece_at_of ok (sub.subset hk) hm]
    rw [c, e] at this
    cases this
section
variable {P : Program} {w : World} {K : PySem.W.Frag} {mg : Str → Option Value} {base : Heap} {f : Addr} {fd : FuncData}
/-! ### refuse_helpers, good -/
def spRefHelp (C CS : Addr) : Sp := fun vs H Q _ => ∃ (x t : Addr) (L : Lore) (z : Str) (ys : List Str), vs = [.ref x, .str z, .ref t] ∧ ShAt H C CS x L ∧ LoreOk L ∧ LotAt H t ys ∧ ys.Sublist (L.kps.map (·.1)) ∧ z ∉ ys ∧ ∀ H', Same H H' → Q .non H'
theorem scRefHelp : FnScope ["shelf", "keeper", "value"] ["shelf", "keeper", "value"] (defScope sRefHelp) := ⟨rfl, rfl, rfl, by decide +kernel, rfl, by decide +kernel, by decide +kernel⟩
theorem ok_refHelp {C CS fS f1 : Addr} {fd1 : FuncData} (F : Fun K "refuse_helpers" "refuse_helpers" sRefHelp f fd) (SC : ShC K CS fS)
    (G1 : FnOk P w K mg base CX0 1 f1 fd1 ["circle", "value"] (spIsLot C)) (a1 : At K mg "is_lot" f1 fd1 ["circle", "value"]) :
    FnOk P w K mg base CX0 2 f fd ["shelf", "keeper", "value"] (spRefHelp C CS) := by
  refine F.ok scRefHelp (fun vs H Q E h => ?_) (fun cdv A outer s H vs Q E hr h => ?_)
  · obtain ⟨x, t, L, z, ys, rfl, _⟩ := h
    rfl
  · obtain ⟨x, t, L, z, ys, rfl, sh, ok, lot, sub, nz, k⟩ := h
    obtain ⟨dx, fs, hx, sf, _⟩ := id sh
    obtain ⟨c, lc, ca⟩ := sf.circle
    refine ⟨_, pss_one (ps_if (PW.pt (pw_or (pt_not (pt_val (pe_call G1 hr (by rfl) a1.m a1.kp a1.b .nil pass0 (pa_cons (pe_fld (pv 0) rfl) (pa_cons (pv 2) pa_nil))))) (pw_or1 (pt_cmpR op_in_seq (pv 1) (pv 2) rfl)))) pss_no pss_nil), ?_⟩
    refine ⟨_, rfl, x, CS, dx, fs, .ref c, rfl, hx, SC.cls, SC.circle, lc, _, rfl, c, t, _, ys, rfl, ca, .inl lot, sub, nmOk ok, fun H1 s1 => ⟨_, rfl, iteB rfl ?_⟩⟩
    have lot1 : H1 t = some (.tup (ys.map V.str)) := s1 _ _ lot
    refine ⟨_, rfl, _, rfl, t, _, rfl, .inr (SqT.of lot1), rfl, flat_strs _, _, rfl, ?_⟩
    rw [if_neg (show ¬ (false = true) by decide), strs_inV]
    exact iteB (decide_eq_false nz) (k H1 s1)
/-! ### first_lost -/
def spFirstLost (C CS : Addr) : Sp := fun vs H Q _ => ∃ (x t : Addr) (L : Lore) (kq : KP) (ys : List Str), vs = [.ref x, .str kq.1, .ref t] ∧ ShAt H C CS x L ∧ LoreOk L ∧ kq ∈ L.kps ∧ LotAt H t ys ∧ ∀ H', Same H H' → Q (optV (firstN L ys kq)) H'
theorem scFirstLost : FnScope ["shelf", "keeper", "helpers", "found", "spot"] ["shelf", "keeper", "helpers"] (defScope sFirstLost) := ⟨rfl, rfl, rfl, by decide +kernel, rfl, by decide +kernel, by decide +kernel⟩
theorem ok_firstLost {C CS fS f1 f2 : Addr} {fd1 fd2 : FuncData} (F : Fun K "first_lost" "first_lost" sFirstLost f fd) (SC : ShC K CS fS)
    (G1 : FnOk P w K mg base CX0 1 f1 fd1 ["shelf", "lot"] (spSpotsOf C CS)) (a1 : At K mg "spots_of" f1 fd1 ["shelf", "lot"])
    (G2 : FnOk P w K mg base CX0 2 f2 fd2 ["shelf", "spots"] (spReach C CS)) (a2 : At K mg "reach" f2 fd2 ["shelf", "spots"]) :
    FnOk P w K mg base CX0 3 f fd ["shelf", "keeper", "helpers"] (spFirstLost C CS) := by
  refine F.ok scFirstLost (fun vs H Q E h => ?_) (fun cdv A outer s H vs Q E hr h => ?_)
  · obtain ⟨x, t, L, kq, ys, rfl, _⟩ := h
    rfl
  · obtain ⟨x, t, L, kq, ys, rfl, sh, ok, hk, lot, k⟩ := h
    have nd := scFirstLost.nd
    have hu := hu_of hr
    have hr1 : Room 1 _ := hr.mono (by decide)
    refine ⟨_, pss_cons (ps_set (i := 3) nd rfl (by first | exact .inl rfl | exact .inr rfl) (pe_call G2 hr (by rfl) a2.m a2.kp a2.b .nil pass0 (pa_cons (pv 0) (pa_cons (pe_call G1 hr1 (by rfl) a1.m a1.kp a1.b .nil pass0 (pa_cons (pv 0) (pa_cons (pv 2) pa_nil))) pa_nil))))
      (pss_cons (ps_for PassesOwn.never rfl (pi_tup (pe_call G1 hr1 (by rfl) a1.m a1.kp a1.b .nil pass0 (pa_cons (pv 0) (pa_cons (pe_tup (pa_cons (pv 1) pa_nil)) pa_nil)))) (pg_name (i := 4) nd rfl (by first | exact .inl rfl | exact .inr rfl))
          (pss_one (ps_if (pt_cmp (pc_dnotin hu (pe_dget hu (pe_fld (pv 0) rfl) (pv 4) (fun _ _ => rfl)) (pv 3))) (pss_one (ps_ret (pe_ix ix_tup (pv 4) pe_int (fun _ _ => rfl)))) pss_nil)))
        (pss_one (ps_ret pe_non))), ?_⟩
    refine ⟨_, rfl, _, rfl, _, rfl, x, t, L, ys, rfl, sh, ok, lot, fun p ts H1 s1 ep pp => ?_⟩
    have sh1 := sh.same s1
    refine ⟨x, p, L, ts, _, rfl, sh1, ok, ep, pp, List.filter_sublist, fun D H2 s2 ⟨kvs, eD, pk⟩ => ?_⟩
    have sh2 := sh1.same s2
    have tbo := tabC_ok L (spotsIn L ys)
    have pk : Paired (RelE H2) kvs (tabC L (spotsIn L ys)) := pk
    refine ⟨_, rfl, _, rfl, few_ok rfl, fun q nq => ?_⟩
    have s3 : Same H2 (upd H2 q (.tup [.str kq.1])) := same_new nq
    have eq3 : upd H2 q (.tup [.str kq.1]) q = some (.tup [.str kq.1]) := upd_same
    generalize upd H2 q (.tup [.str kq.1]) = H3 at s3 eq3 ⊢
    refine ⟨x, q, L, [kq.1], rfl, sh2.same s3, ok, eq3, fun p2 us H4 s4 ep2 pp2 => ?_⟩
    have pp2 : Paired (RelS H4) us (spotsIn L [kq.1]) := pp2
    rw [spotsIn_one ok hk] at pp2
    have s24 := s3.trans s4
    have s04 := (s1.trans s2).trans s24
    obtain ⟨dx, fs, hx, sf, _, _, _, _, _, _, D0, kvs0, lD, eD0, vD⟩ := id (sh2.same s24)
    have ul : us.length = kq.2.length := by rw [Paired.length pp2, spK_len]
    have eD4 := s24 _ _ eD
    refine ⟨p2, rfl, ⟨_, SqT.of ep2⟩, for_tup (xs := us) (fun i σ H' => ∃ o : Option V, σ = [some (.ref x), some (.str kq.1), some (.ref t), some (.ref D), o] ∧ (∀ m, m < i → lostS L ys (kq.1, m) = false) ∧ Same H4 H') ?_ ?_ ?_ ?_⟩
    · exact ⟨none, rfl, (fun m h => absurd h (Nat.not_lt_zero _)), Same.refl _⟩
    · rintro i σ H' _ ⟨_, _, _, ss⟩
      exact SqT.of (ss _ _ ep2)
    · rintro i y σ H5 hy ⟨o, rfl, prev, s5⟩
      obtain ⟨s, hs, u, rfl, eu⟩ := paired_put pp2 hy
      have il : i < kq.2.length := by rw [← ul]; exact (List.getElem?_eq_some_iff.mp hy).1
      rw [spK_at il] at hs
      obtain rfl : (kq.1, i) = s := Option.some.inj hs
      have vs := vD (kq.1, i) (spK_sub hk _ (List.mem_of_getElem? (spK_at il)))
      have m := dk_mem pk tbo.len (codeS_len L (kq.1, i))
      refine ⟨_, rfl, x, CS, dx, fs, .ref D0, rfl, s5 _ _ hx, SC.cls, SC.codes, lD, _, rfl, D0, .int ((toN (codeS L (kq.1, i)) : Nat) : Int), rfl, by rw [← vs]; exact DGet.t (k := keyS (kq.1, i)) (s5 _ _ eD0) (s5 _ _ eu), _, rfl, D, _, rfl, DGet.k (k := .inl ((toN (codeS L (kq.1, i)) : Nat) : Int)) (s5 _ _ eD4), _, rfl, ?_⟩
      rw [m]
      have eL : (!decide (codeS L (kq.1, i) ∈ (tabC L (spotsIn L ys)).map (·.1))) = lostS L ys (kq.1, i) := rfl
      rw [eL]
      cases hl : lostS L ys (kq.1, i) with
      | true =>
        refine iteA rfl ⟨_, rfl, u, _, _, _, rfl, rfl, SqT.of (s5 _ _ eu), at1 rfl, ?_⟩
        have e : firstN L ys kq = some i := find_some' il hl prev
        rw [e] at k
        exact k H5 (s04.trans s5)
      | false =>
        refine iteB rfl ⟨_, rfl, fun m hm => ?_, s5⟩
        by_cases e : m = i
        · rw [e, hl]
        · exact prev m (by omega)
    · rintro σ H5 ⟨o, rfl, prev, s5⟩
      have e : firstN L ys kq = none := List.find?_eq_none.mpr fun m hm => by
        rw [prev m (by rw [ul]; exact List.mem_range.mp hm)]
        decide
      rw [e] at k
      exact k H5 (s04.trans s5)
/-! ### makes -/
def spMakes (C CS : Addr) : Sp := fun vs H Q _ => ∃ (x t : Addr) (L : Lore) (kq : KP) (ys : List Str), vs = [.ref x, .str kq.1, .ref t] ∧ ShAt H C CS x L ∧ LoreOk L ∧ kq ∈ L.kps ∧ LotAt H t ys ∧ ∀ H', Same H H' → Q (.bl (firstN L ys kq).isNone) H'
theorem scMakes : FnScope ["shelf", "keeper", "helpers"] ["shelf", "keeper", "helpers"] (defScope sMakes) := ⟨rfl, rfl, rfl, by decide +kernel, rfl, by decide +kernel, by decide +kernel⟩
theorem ok_makes {C CS f1 : Addr} {fd1 : FuncData} (F : Fun K "makes" "makes" sMakes f fd)
    (G1 : FnOk P w K mg base CX0 3 f1 fd1 ["shelf", "keeper", "helpers"] (spFirstLost C CS)) (a1 : At K mg "first_lost" f1 fd1 ["shelf", "keeper", "helpers"]) :
    FnOk P w K mg base CX0 4 f fd ["shelf", "keeper", "helpers"] (spMakes C CS) := by
  refine F.ok scMakes (fun vs H Q E h => ?_) (fun cdv A outer s H vs Q E hr h => ?_)
  · obtain ⟨x, t, L, kq, ys, rfl, _⟩ := h
    rfl
  · obtain ⟨x, t, L, kq, ys, rfl, sh, ok, hk, lot, k⟩ := h
    refine ⟨_, pss_one (ps_ret (pe_cmpR op_isN (pe_call G1 hr (by rfl) a1.m a1.kp a1.b .nil pass0 (pa_cons (pv 0) (pa_cons (pv 1) (pa_cons (pv 2) pa_nil)))) pe_non (nomark _))), ?_⟩
    refine ⟨_, rfl, _, rfl, _, rfl, x, t, L, kq, ys, rfl, sh, ok, hk, lot, fun H1 s1 => ⟨rfl, ?_⟩⟩
    have e : decide (optV (firstN L ys kq) = V.non) = (firstN L ys kq).isNone := by
      cases firstN L ys kq with
      | none => rfl
      | some m => rfl
    rw [e]
    exact k H1 s1
/-! ### is_hidden -/
def spHidden (C CS : Addr) : Sp := fun vs H Q _ => ∃ (x t u : Addr) (L : Lore) (ks : List KP) (s : Spot) (v : Vec), vs = [.ref x, .ref t, .ref u, .str (stv v)] ∧ ShAt H C CS x L ∧ LoreOk L ∧ LotAt H t (ks.map (·.1)) ∧ ks.Sublist L.kps ∧ H u = some (.tup [.str s.1, .int (s.2 : Int)]) ∧ s ∈ spotsOf L.kps ∧ v.length = L.parts.length ∧
  ∀ H', Same H H' → Q (.bl (dot (codeS L s) v && darkB L (ks.map (·.1)) v)) H'
theorem scHidden : FnScope ["shelf", "helpers", "spot", "record"] ["shelf", "helpers", "spot", "record"] (defScope sHidden) := ⟨rfl, rfl, rfl, by decide +kernel, rfl, by decide +kernel, by decide +kernel⟩
theorem ok_hidden {C CS f1 f2 f3 : Addr} {fd1 fd2 fd3 : FuncData} (F : Fun K "is_hidden" "is_hidden" sHidden f fd)
    (G1 : FnOk P w K mg base CX0 1 f1 fd1 ["shelf", "spot"] (spPieceAt C CS)) (a1 : At K mg "piece_at" f1 fd1 ["shelf", "spot"])
    (G2 : FnOk P w K mg base CX0 1 f2 fd2 ["shelf", "piece", "record"] (spWorth C CS)) (a2 : At K mg "worth" f2 fd2 ["shelf", "piece", "record"])
    (G3 : FnOk P w K mg base CX0 5 f3 fd3 ["shelf", "lot", "record"] (spIsSilent C CS)) (a3 : At K mg "is_silent" f3 fd3 ["shelf", "lot", "record"]) :
    FnOk P w K mg base CX0 6 f fd ["shelf", "helpers", "spot", "record"] (spHidden C CS) := by
  refine F.ok scHidden (fun vs H Q E h => ?_) (fun cdv A outer s H vs Q E hr h => ?_)
  · obtain ⟨x, t, u, L, ks, s, v, rfl, _⟩ := h
    rfl
  · obtain ⟨x, t, u, L, ks, s, v, rfl, sh, ok, lot, sub, hu, sm, vl, k⟩ := h
    have hr1 : Room 1 _ := hr.mono (by decide)
    obtain ⟨dx, fs, hx, sf, _⟩ := id sh
    obtain ⟨j, kq, hj, e1, e2⟩ := piece_of ok sm
    rw [← e1] at hu
    refine ⟨_, pss_one (ps_ret (pe_and (pe_cmpR op_eq (pe_call G2 hr1 (by rfl) a2.m a2.kp a2.b .nil pass0 (pa_cons (pv 0) (pa_cons (pe_call G1 hr1 (by rfl) a1.m a1.kp a1.b .nil pass0 (pa_cons (pv 0) (pa_cons (pv 2) pa_nil))) (pa_cons (pv 3) pa_nil)))) pe_str (nomark _))
      (pe_one (pe_call G3 hr (by rfl) a3.m a3.kp a3.b .nil pass0 (pa_cons (pv 0) (pa_cons (pv 1) (pa_cons (pv 3) pa_nil))))))), ?_⟩
    refine ⟨_, rfl, _, rfl, _, rfl, x, u, dx, fs, L, j, s.2, kq, pieceOf L s, rfl, hx, sf, ok, hu, hj, e2, fun p hp => ⟨_, rfl, x, p, L, pieceOf L s, stv v, rfl, sh, ok, hp, recOk_stv vl, fun H1 s1 => ?_⟩⟩
    have dc : decide (V.str (bitS (onesN L (pieceOf L s) (stv v))) = V.str "1") = dot (codeS L s) v := by
      rw [bitS_dot vl]
      exact strOne _
    refine ⟨rfl, _, rfl, ?_⟩
    rw [dc]
    cases hd : dot (codeS L s) v with
    | false =>
      rw [hd, Bool.false_and] at k
      exact iteB rfl (k H1 s1)
    | true =>
      rw [hd, Bool.true_and, ← silent_dark ok sub v] at k
      exact iteT ⟨_, rfl, _, rfl, _, rfl, x, t, L, ks, v, rfl, sh.same s1, ok, s1 _ _ lot, sub, vl, fun H2 s2 => k H2 (s1.trans s2)⟩
end
end K6
set_option Elab.async false
set_option linter.all false
set_option maxRecDepth 100000
set_option maxHeartbeats 1500000
set_option pp.maxSteps 1200
set_option pp.deepTerms false
namespace K6
open PySem PySem.Spec PyProof.Rows L2 Lk
abbrev sMends : Stmt := top 70
theorem find_tab : ∀ {tb : TabS}, (tb.map (·.1)).Nodup → ∀ {e}, e ∈ tb → tb.find? (fun x => decide (x.1 = e.1)) = some e
  | [], _, e, h => by cases h
  | a :: tb, nd, e, h => by
    have n2 := List.nodup_cons.mp nd
    rcases List.mem_cons.mp h with rfl | h
    · simp
    · have : a.1 ≠ e.1 := fun q => n2.1 (List.mem_map.mpr ⟨e, h, q.symm⟩)
      rw [List.find?_cons_of_neg (by simpa using this)]
      exact find_tab n2.2 h
/-- the sum that is told for a spot's piece -/
def sumO (L : Lore) (ys : List Str) (s : Spot) : List Spot := match (tabC L (spotsIn L ys)).find? fun e => decide (e.1 = codeS L s) with
  | some e => e.2.map (·.1)
  | none => []
theorem sumO_of {L : Lore} {ys : List Str} {s : Spot} {e : Vec × List RowS} (he : e ∈ tabC L (spotsIn L ys)) (e1 : e.1 = codeS L s) : sumO L ys s = e.2.map (·.1) := by
  unfold sumO
  rw [← e1, find_tab (tabC_ok L _).nd he]
theorem made_has {L : Lore} {ys : List Str} {s : Spot} (h : lostS L ys s = false) : ∃ e, e ∈ tabC L (spotsIn L ys) ∧ e.1 = codeS L s := by
  unfold lostS at h
  rw [Bool.not_eq_false'] at h
  obtain ⟨e, he, e1⟩ := List.mem_map.mp (of_decide_eq_true h)
  exact ⟨e, he, e1⟩
theorem sumO_sub {L : Lore} {ys : List Str} {s : Spot} (h : lostS L ys s = false) : (sumO L ys s).Sublist (spotsIn L ys) := by
  obtain ⟨e, he, e1⟩ := made_has h
  rw [sumO_of he e1]
  obtain ⟨sub, _⟩ := (tabC_ok L (spotsIn L ys)).sums e he
  obtain ⟨vs, vsub, ev⟩ := List.sublist_map_iff.mp sub
  have : e.2.map (·.1) = vs := by
    rw [ev, List.map_map]
    exact List.map_id _
  rw [this]
  exact vsub
theorem sumO_odd {L : Lore} (ok : LoreOk L) {ys : List Str} {s : Spot} (hs : s ∈ spotsOf L.kps) (h : lostS L ys s = false) : oddL L.parts ((sumO L ys s).map (pieceOf L)) = pieceOf L s := by
  obtain ⟨e, he, e1⟩ := made_has h
  rw [sumO_of he e1]
  exact sum_piece ok hs he e1
theorem firstN_none {L : Lore} {ys : List Str} {k : KP} (h : firstN L ys k = none) : ∀ s ∈ spK k, lostS L ys s = false := fun s hs => by
  obtain ⟨m, hm, rfl⟩ := List.mem_map.mp hs
  have := List.find?_eq_none.mp h m hm
  simpa using this
theorem firstN_some {L : Lore} {ys : List Str} {k : KP} {m : Nat} (h : firstN L ys k = some m) : m < k.2.length ∧ lostS L ys (k.1, m) = true ∧ ∀ i, i < m → lostS L ys (k.1, i) = false := by
  have hm := List.mem_of_find?_eq_some h
  have hp := List.find?_some h
  refine ⟨List.mem_range.mp hm, hp, fun i hi => ?_⟩
  obtain ⟨as, bs, e, no⟩ := (List.find?_eq_some_iff_append.mp h).2
  have : i ∈ as := by
    have ea : as = List.range as.length := by
      have := congrArg (List.take as.length) e
      rw [List.take_left' rfl, List.take_range] at this
      have l : as.length ≤ k.2.length := by
        have := congrArg List.length e
        rw [List.length_append, List.length_range] at this
        omega
      rw [Nat.min_eq_left l] at this
      exact this.symm
    have em : as.length = m := by
      have := congrArg (fun l => l[as.length]?) e
      simp only [List.getElem?_append_right (Nat.le_refl _), Nat.sub_self, List.getElem?_cons_zero] at this
      have l : as.length < k.2.length := by
        have := congrArg List.length e
        rw [List.length_append, List.length_range, List.length_cons] at this
        omega
      rw [List.getElem?_range l] at this
      exact Option.some.inj this
    rw [ea, em]
    exact List.mem_range.mpr hi
  have := no i this
  simpa using this
/-- a told sum -/
def RelSm (H : Hp) (v : V) (ss : List Spot) : Prop := ∃ q us, v = .ref q ∧ H q = some (.tup us) ∧ Paired (RelS H) us ss
theorem RelSm.keep (H H' : Hp) (v : V) (ss : List Spot) (k : Keep H H') (h : RelSm H v ss) : RelSm H' v ss := by
  obtain ⟨q, us, e, h1, h2⟩ := h
  exact ⟨q, us, e, k _ _ h1 (fun xs z => by cases z), Paired.mapP h2 fun v s r => RelS.keep _ _ _ _ k r⟩
/-- what mends tells -/
def MendsAt (H : Hp) (q : Addr) (L : Lore) (kq : KP) (ys : List Str) : Prop :=
  (∃ m v, firstN L ys kq = some m ∧ v.length = L.parts.length ∧ dot (codeS L (kq.1, m)) v = true ∧ darkB L ys v = true ∧ H q = some (.tup [.str "lost", .int (m : Int), .str (stv v)])) ∨
  (firstN L ys kq = none ∧ ∃ p us, H q = some (.tup [.str "mended", .ref p]) ∧ H p = some (.tup us) ∧ Paired (RelSm H) us ((spK kq).map (sumO L ys)))
theorem MendsAt.keep {H H' : Hp} {q : Addr} {L : Lore} {kq : KP} {ys : List Str} (h : MendsAt H q L kq ys) (k : Keep H H') : MendsAt H' q L kq ys := by
  rcases h with ⟨m, v, h1, h2, h3, h4, h5⟩ | ⟨h1, p, us, h2, h3, h4⟩
  · exact .inl ⟨m, v, h1, h2, h3, h4, k _ _ h5 fun xs z => by cases z⟩
  · exact .inr ⟨h1, p, us, k _ _ h2 (fun xs z => by cases z), k _ _ h3 (fun xs z => by cases z), Paired.mapP h4 fun v s r => RelSm.keep _ _ _ _ k r⟩
end K6
set_option Elab.async false
set_option linter.all false
set_option maxRecDepth 100000
set_option maxHeartbeats 1500000
set_option pp.maxSteps 1200
set_option pp.deepTerms false
namespace K6
open PySem PySem.Spec PyProof.Rows L2 Lk
theorem paired_maps {α β γ : Type} {R : α → β → Prop} {f : γ → β} : ∀ {xs : List α} {zs : List γ}, Paired R xs (zs.map f) → Paired (fun x z => R x (f z)) xs zs
  | _, [], h => by cases h; exact .nil
  | _, z :: zs, h => by
    cases h with
    | cons a b => exact .cons a (paired_maps b)
theorem fm_recs (q : Vec → Bool) : ∀ vs : List Vec, (vs.filterMap fun v => if q v = true then some (V.str (stv v)) else none) = (vs.filter q).map fun v => V.str (stv v)
  | [] => rfl
  | v :: vs => by
    have ih := fm_recs q vs
    by_cases m : q v = true
    · rw [List.filterMap_cons, if_pos m, List.filter_cons_of_pos m, List.map_cons, ih]
    · rw [List.filterMap_cons, if_neg m, List.filter_cons_of_neg m, ih]
section
variable {P : Program} {w : World} {K : PySem.W.Frag} {mg : Str → Option Value} {base : Heap} {f : Addr} {fd : FuncData}
def spMends (C CS : Addr) : Sp := fun vs H Q _ => ∃ (x t : Addr) (L : Lore) (kq : KP) (ks : List KP), vs = [.ref x, .str kq.1, .ref t] ∧ ShAt H C CS x L ∧ LoreOk L ∧ kq ∈ L.kps ∧ LotAt H t (ks.map (·.1)) ∧ ks.Sublist L.kps ∧ kq.1 ∉ ks.map (·.1) ∧ ∀ q H', Same H H' → MendsAt H' q L kq (ks.map (·.1)) → Q (.ref q) H'
abbrev nmMe : List Str := ["shelf", "keeper", "helpers", "number", "hidden", "record", "found", "spot"]
theorem scMends : FnScope nmMe ["shelf", "keeper", "helpers"] (defScope sMends) := ⟨rfl, rfl, rfl, by decide +kernel, rfl, by decide +kernel, by decide +kernel⟩
theorem ok_mends {C CS fS f1 f2 f3 f4 f5 f6 f7 : Addr} {fd1 fd2 fd3 fd4 fd5 fd6 fd7 : FuncData} (F : Fun K "mends" "mends" sMends f fd) (Cc : Cn mg) (SC : ShC K CS fS)
    (G1 : FnOk P w K mg base CX0 2 f1 fd1 ["shelf", "value"] (spRefKeeper C CS)) (a1 : At K mg "refuse_keeper" f1 fd1 ["shelf", "value"])
    (G2 : FnOk P w K mg base CX0 2 f2 fd2 ["shelf", "keeper", "value"] (spRefHelp C CS)) (a2 : At K mg "refuse_helpers" f2 fd2 ["shelf", "keeper", "value"])
    (G3 : FnOk P w K mg base CX0 3 f3 fd3 ["shelf", "keeper", "helpers"] (spFirstLost C CS)) (a3 : At K mg "first_lost" f3 fd3 ["shelf", "keeper", "helpers"])
    (G4 : FnOk P w K mg base CX0 2 f4 fd4 ["shelf"] (spRecs C CS)) (a4 : At K mg "records" f4 fd4 ["shelf"])
    (G5 : FnOk P w K mg base CX0 6 f5 fd5 ["shelf", "helpers", "spot", "record"] (spHidden C CS)) (a5 : At K mg "is_hidden" f5 fd5 ["shelf", "helpers", "spot", "record"])
    (G6 : FnOk P w K mg base CX0 1 f6 fd6 ["shelf", "lot"] (spSpotsOf C CS)) (a6 : At K mg "spots_of" f6 fd6 ["shelf", "lot"])
    (G7 : FnOk P w K mg base CX0 2 f7 fd7 ["shelf", "spots"] (spReach C CS)) (a7 : At K mg "reach" f7 fd7 ["shelf", "spots"]) :
    FnOk P w K mg base CX0 7 f fd ["shelf", "keeper", "helpers"] (spMends C CS) := by
  refine F.ok scMends (fun vs H Q E h => ?_) (fun cdv A outer s H vs Q E hr h => ?_)
  · obtain ⟨x, t, L, kq, ks, rfl, _⟩ := h
    rfl
  · obtain ⟨x, t, L, kq, ks, rfl, sh, ok, hk, lot, sub, nin, k⟩ := h
    have nd := scMends.nd
    have hu := hu_of hr
    have hr1 : Room 1 _ := hr.mono (by decide)
    have hr2 : Room 2 _ := hr.mono (by decide)
    have hr3 : Room 3 _ := hr.mono (by decide)
    refine ⟨_, pss_cons (ps_expr (pe_call G1 hr2 (by rfl) a1.m a1.kp a1.b .nil pass0 (pa_cons (pv 0) (pa_cons (pv 1) pa_nil))))
      (pss_cons (ps_expr (pe_call G2 hr2 (by rfl) a2.m a2.kp a2.b .nil pass0 (pa_cons (pv 0) (pa_cons (pv 1) (pa_cons (pv 2) pa_nil)))))
      (pss_cons (ps_set (i := 3) nd rfl (by first | exact .inl rfl | exact .inr rfl) (pe_call G3 hr3 (by rfl) a3.m a3.kp a3.b .nil pass0 (pa_cons (pv 0) (pa_cons (pv 1) (pa_cons (pv 2) pa_nil)))))
      (pss_cons (ps_if (pt_cmpR op_notN (pv 3) pe_non (nomark _))
          (pss_cons (ps_setLc (i := 4) (own := [("record", 5)]) (g := gName 5) (tt := tB (tCall (spHidden C CS) [] E0 (tCons (tVar 0) (tCons (tVar 2) (tCons (tTup (tCons (tVar 1) (tCons (tVar 3) tNil))) (tCons (tVar 5) tNil)))))) (te := tVar 5) rfl nd rfl rfl (sw_true rfl rfl rfl (by decide +kernel)) (pi_list (pe_call G4 hr2 (by rfl) a4.m a4.kp a4.b .nil pass0 (pa_cons (pv 0) pa_nil)))
              (blkOk_by (N := nmMe) (sc := defScope sMends) (by decide +kernel)) (fun _ _ _ _ _ => pg_name (i := 5) nd rfl (by first | exact .inl rfl | exact .inr rfl))
              (fun _ _ _ _ _ => pts_one (pt_val (pe_call G5 hr (by rfl) a5.m a5.kp a5.b .nil pass0 (pa_cons (pv 0) (pa_cons (pv 2) (pa_cons (pe_tup (pa_cons (pv 1) (pa_cons (pv 3) pa_nil))) (pa_cons (pv 5) pa_nil))))))) (fun _ _ _ _ _ => pv 5))
            (pss_one (ps_ret (pe_tup (pa_cons pe_str (pa_cons (pv 3) (pa_cons (pe_ix ix_list (pv 4) pe_int (fun _ _ => rfl)) pa_nil))))))) pss_nil)
      (pss_cons (ps_set (i := 6) nd rfl (by first | exact .inl rfl | exact .inr rfl) (pe_call G7 hr2 (by rfl) a7.m a7.kp a7.b .nil pass0 (pa_cons (pv 0) (pa_cons (pe_call G6 hr1 (by rfl) a6.m a6.kp a6.b .nil pass0 (pa_cons (pv 0) (pa_cons (pv 2) pa_nil))) pa_nil))))
      (pss_one (ps_ret (pe_tup (pa_cons pe_str (pa_cons (pe_tupleOf (by rfl) Cc.tuple (pe_lc (own := [("spot", 7)]) (g := gName 7) (tt := tYes) (te := tDGet (tVar 6) (tDGet (tFld K (tVar 0) "codes") (tVar 7))) rfl nd (pi_tup (pe_call G6 hr1 (by rfl) a6.m a6.kp a6.b .nil pass0 (pa_cons (pv 0) (pa_cons (pe_tup (pa_cons (pv 1) pa_nil)) pa_nil))))
          (blkOk_by (N := nmMe) (sc := defScope sMends) (by decide +kernel)) (fun _ _ _ _ _ => pg_name (i := 7) nd rfl (by first | exact .inl rfl | exact .inr rfl)) (fun _ _ _ _ _ => pts_nil) (fun _ _ _ _ _ => pe_dget hu (pv 6) (pe_dget hu (pe_fld (pv 0) rfl) (pv 7) (fun _ _ => rfl)) (fun _ _ => rfl)))) pa_nil))))))))), ?_⟩
    refine ⟨_, rfl, _, rfl, x, L, kq, rfl, sh, hk, ?_⟩
    refine ⟨_, rfl, _, rfl, _, rfl, x, t, L, kq.1, ks.map (·.1), rfl, sh, ok, lot, sub.map _, nin, fun H1 s1 => ?_⟩
    have sh1 := sh.same s1
    have lot1 : LotAt H1 t (ks.map (·.1)) := s1 _ _ lot
    refine ⟨_, rfl, _, rfl, _, rfl, x, t, L, kq, ks.map (·.1), rfl, sh1, ok, hk, lot1, fun H2 s2 => ?_⟩
    have sh2 := sh1.same s2
    have lot2 : LotAt H2 t (ks.map (·.1)) := s2 _ _ lot1
    have s12 := s1.trans s2
    have r16 : (vL L.parts.length).length ≤ 16 := by
      rw [vL_len]
      exact Nat.le_trans (Nat.pow_le_pow_right (by decide) ok.p4) (by decide)
    cases hf : firstN L (ks.map (·.1)) kq with
    | some m =>
      obtain ⟨ml, lm, _⟩ := firstN_some hf
      have sm : (kq.1, m) ∈ spotsOf L.kps := spK_sub hk _ (List.mem_of_getElem? (spK_at ml))
      refine ⟨_, rfl, rfl, _, rfl, iteA rfl ?_⟩
      refine ⟨_, rfl, x, L, rfl, sh2, ok, fun p H3 s3 _ ep => ?_⟩
      have ep : H3 p = some (.lst (((vL L.parts.length).map stv).map V.str)) := ep
      refine ⟨p, rfl, ⟨_, SqL.of ep⟩, fun D nD => lc_fm (walk_list (a := p) (xs := ((vL L.parts.length).map stv).map V.str)) (vL L.parts.length) (fun v => if (dot (codeS L (kq.1, m)) v && darkB L (ks.map (·.1)) v) = true then some (.str (stv v)) else none) (by rw [List.length_map, List.length_map]) (by rw [List.length_map, List.length_map]; omega) nD (fun H s => s.seq (SqL.of ep)) ?_ ?_⟩
      · rintro i u v H4 H4' R Rn hv s4 ⟨rfl, hu'⟩ k1 k2
        obtain rfl : V.str (stv v) = u := by
          rw [List.getElem?_map, List.getElem?_map, hv] at hu'
          exact Option.some.inj hu'
        have s34 := s3.trans s4
        refine ⟨rfl, _, rfl, _, rfl, _, rfl, _, rfl, few_ok rfl, fun w nw => ⟨_, rfl, ?_⟩⟩
        have s5 : Same H4' (upd H4' w (.tup [.str kq.1, .int (m : Int)])) := same_new nw
        refine ⟨x, t, w, L, ks, (kq.1, m), v, rfl, sh2.same (s34.trans s5), ok, (s34.trans s5) _ _ lot2, sub, upd_same, sm, mem_vL.mp (List.mem_of_getElem? hv), fun H6 s6 => ⟨_, rfl, ?_⟩⟩
        cases hb : (dot (codeS L (kq.1, m)) v && darkB L (ks.map (·.1)) v) with
        | true => exact iteA rfl ⟨_, rfl, k1 _ _ (if_pos hb) (s5.trans s6)⟩
        | false => exact iteB rfl (k2 _ (if_neg (by rw [hb]; decide)) (s5.trans s6))
      · intro H4 s4 eD
        rw [fm_recs (fun v => dot (codeS L (kq.1, m)) v && darkB L (ks.map (·.1)) v)] at eD
        obtain ⟨v0, v0l, v0d, v01⟩ := lostS_iff.mp lm
        obtain ⟨v, vs, e⟩ : ∃ v vs, (vL L.parts.length).filter (fun v => dot (codeS L (kq.1, m)) v && darkB L (ks.map (·.1)) v) = v :: vs := by
          cases e : (vL L.parts.length).filter (fun v => dot (codeS L (kq.1, m)) v && darkB L (ks.map (·.1)) v) with
          | nil =>
            have : v0 ∈ (vL L.parts.length).filter (fun v => dot (codeS L (kq.1, m)) v && darkB L (ks.map (·.1)) v) := List.mem_filter.mpr ⟨mem_vL.mpr v0l, by rw [v01, v0d]; rfl⟩
            rw [e] at this
            cases this
          | cons v vs => exact ⟨v, vs, rfl⟩
        have vm : v ∈ (vL L.parts.length).filter (fun v => dot (codeS L (kq.1, m)) v && darkB L (ks.map (·.1)) v) := by rw [e]; exact List.mem_cons_self
        obtain ⟨vl, vb⟩ := List.mem_filter.mp vm
        rw [Bool.and_eq_true] at vb
        rw [e] at eD
        refine ⟨_, rfl, _, rfl, D, _, _, _, rfl, rfl, SqL.of eD, at0 rfl, few_ok rfl, fun q nq => ?_⟩
        exact k q _ ((s12.trans (s3.trans s4)).trans (same_new nq)) (.inl ⟨m, v, hf, mem_vL.mp vl, vb.1, vb.2, upd_same⟩)
    | none =>
      have all := firstN_none hf
      refine ⟨_, rfl, rfl, _, rfl, iteB rfl ?_⟩
      refine ⟨_, rfl, _, rfl, _, rfl, x, t, L, ks.map (·.1), rfl, sh2, ok, lot2, fun p ts H3 s3 ep pp => ?_⟩
      have sh3 := sh2.same s3
      refine ⟨x, p, L, ts, _, rfl, sh3, ok, ep, pp, List.filter_sublist, fun D H4 s4 ⟨kvs, eD, pk⟩ => ?_⟩
      have pk : Paired (RelE H4) kvs (tabC L (spotsIn L (ks.map (·.1)))) := pk
      have sh4 := sh3.same s4
      have tbo := tabC_ok L (spotsIn L (ks.map (·.1)))
      refine ⟨_, rfl, _, rfl, few_ok rfl, fun q nq => ?_⟩
      have s5 : Same H4 (upd H4 q (.tup [.str kq.1])) := same_new nq
      have eq5 : upd H4 q (.tup [.str kq.1]) q = some (.tup [.str kq.1]) := upd_same
      generalize upd H4 q (.tup [.str kq.1]) = H5 at s5 eq5 ⊢
      refine ⟨x, q, L, [kq.1], rfl, sh4.same s5, ok, eq5, fun p2 us H6 s6 ep2 pp2 => ?_⟩
      have pp2 : Paired (RelS H6) us (spotsIn L [kq.1]) := pp2
      rw [spotsIn_one ok hk] at pp2
      have s46 := s5.trans s6
      obtain ⟨dx, fs, hx, sf, _, _, _, _, _, _, D0, kvs0, lD, eD0, vD⟩ := id (sh4.same s46)
      have eD6 := s46 _ _ eD
      obtain ⟨zs, z1, z2, z3⟩ := paired_zip pp2
      have zl : zs.length = kq.2.length := by rw [← spK_len kq, ← z2, List.length_map]
      have q2 := (ok.q kq hk).2.1
      refine ⟨p2, rfl, ⟨_, SqT.of ep2⟩, fun D1 nD1 => lc_relQ (walk_tup (a := p2) (xs := us)) nD1 zs (·.1) (fun z => sumO L (ks.map (·.1)) z.2) RelSm RelSm.keep z1.symm (by omega) (fun H s => sqT_same s (SqT.of ep2)) ?_ ?_⟩
      · rintro i ⟨yv, s⟩ H7 R hy s7 kk
        obtain ⟨u, et, eu⟩ := z3 _ (List.mem_of_getElem? hy)
        dsimp only at et eu
        subst et
        have sK : s ∈ spK kq := by rw [← z2]; exact List.mem_map.mpr ⟨_, List.mem_of_getElem? hy, rfl⟩
        have vs := vD s (spK_sub hk _ sK)
        obtain ⟨e, he, e1⟩ := made_has (all s sK)
        obtain ⟨qq, ws, vq, eqq, pqq⟩ := dk_get pk tbo.nd tbo.len e he
        have s47 := s46.trans s7
        refine ⟨rfl, _, rfl, _, rfl, x, CS, dx, fs, .ref D0, rfl, s7 _ _ hx, SC.cls, SC.codes, lD, _, rfl, D0, .int ((toN (codeS L s) : Nat) : Int), rfl, by rw [← vs]; exact DGet.t (k := keyS s) (s7 _ _ eD0) (s7 _ _ eu), D, .ref qq, rfl, ?_, kk _ _ (Same.refl _) ⟨qq, ws, rfl, s47 _ _ eqq, ?_⟩⟩
        · rw [← vq, e1]
          exact DGet.k (k := .inl ((toN (codeS L s) : Nat) : Int)) (s7 _ _ eD6)
        · rw [sumO_of he e1]
          exact Paired.mapP pqq fun v s r => RelS.keep _ _ _ _ (.of s47) r
      · intro H7 ws s7 eD1 pS
        have e : (zs.map fun z => sumO L (ks.map (·.1)) z.2) = (spK kq).map (sumO L (ks.map (·.1))) := by rw [← z2, List.map_map]; rfl
        rw [e] at pS
        refine .inl ⟨D1, _, rfl, SqL.of eD1, fun q3 nq3 => ⟨few_ok rfl, fun q4 nq4 => ?_⟩⟩
        have sA : Same H7 (upd H7 q3 (.tup ws)) := same_new nq3
        have sB : Same (upd H7 q3 (.tup ws)) (upd (upd H7 q3 (.tup ws)) q4 (.tup [.str "mended", .ref q3])) := same_new nq4
        exact k q4 _ ((((s12.trans (s3.trans s4)).trans s46).trans s7).trans (sA.trans sB)) (.inr ⟨hf, q3, ws, upd_same, sB _ _ upd_same, Paired.mapP pS fun v s r => RelSm.keep _ _ _ _ (.of (sA.trans sB)) r⟩)
end
end K6
set_option Elab.async false
set_option linter.all false
set_option maxRecDepth 100000
set_option maxHeartbeats 1500000
set_option pp.maxSteps 1200
set_option pp.deepTerms false
namespace K6
open PySem PySem.Spec PyProof.Rows L2 Lk
abbrev sNumOf : Stmt := top 15
abbrev sAreSums : Stmt := top 79
abbrev sShowsM : Stmt := top 71
/-- sums that come to the pieces of a keeper -/
structure SumsOk (L : Lore) (kq : KP) (ys : List Str) (sums : List (List Spot)) : Prop where
  sub : ∀ ss ∈ sums, ss.Sublist (spotsIn L ys)
  odd : (sums.map fun ss => oddL L.parts (ss.map (pieceOf L))) = (spK kq).map (pieceOf L)
theorem SumsOk.len {L : Lore} {kq : KP} {ys : List Str} {sums : List (List Spot)} (h : SumsOk L kq ys sums) : sums.length = kq.2.length := by
  have := congrArg List.length h.odd
  rwa [List.length_map, List.length_map, spK_len] at this
theorem SumsOk.mono {L : Lore} {kq : KP} {ys zs : List Str} {sums : List (List Spot)} (h : SumsOk L kq ys sums) (s : ∀ y ∈ ys, y ∈ zs) : SumsOk L kq zs sums := ⟨fun ss hs => by
  have h1 := h.sub ss hs
  have : spotsIn L ys = (spotsIn L zs).filter fun s => decide (s.1 ∈ ys) := by
    unfold spotsIn
    rw [List.filter_filter]
    refine List.filter_congr fun z _ => ?_
    by_cases m : z.1 ∈ ys
    · simp [m, s _ m]
    · simp [m]
  rw [this] at h1
  exact h1.trans List.filter_sublist, h.odd⟩
theorem sums_ok {L : Lore} (ok : LoreOk L) {kq : KP} (hk : kq ∈ L.kps) {ys : List Str} (h : firstN L ys kq = none) : SumsOk L kq ys ((spK kq).map (sumO L ys)) := by
  have all := firstN_none h
  refine ⟨fun ss hs => ?_, ?_⟩
  · obtain ⟨s, hsk, rfl⟩ := List.mem_map.mp hs
    exact sumO_sub (all s hsk)
  · rw [List.map_map]
    exact List.map_congr_left fun s hs => sumO_odd ok (spK_sub hk s hs) (all s hs)
theorem odd_sub (ps : List Str) (pcs : List (List Str)) : (∀ z ∈ oddL ps pcs, z ∈ ps) ∧ (oddL ps pcs).length ≤ ps.length := ⟨fun z hz => (List.mem_filter.mp hz).1, List.length_filter_le _ _⟩
theorem spotsIn_iff_sub {L : Lore} {ys : List Str} {ss : List Spot} (h : ss.Sublist (spotsIn L ys)) : ss.Sublist (spotsOf L.kps) := h.trans List.filter_sublist
theorem fm_true (n : Nat) : ((List.range n).filterMap fun _ => some (V.bl true)) = List.replicate n (V.bl true) := by
  rw [List.filterMap_eq_map', List.eq_replicate_iff]
  refine ⟨by rw [List.length_map, List.length_range], fun b hb => ?_⟩
  obtain ⟨_, _, rfl⟩ := List.mem_map.mp hb
  rfl
section
variable {P : Program} {w : World} {K : PySem.W.Frag} {mg : Str → Option Value} {base : Heap} {f : Addr} {fd : FuncData}
/-! ### is_number_of -/
def spNumOf (K : PySem.W.Frag) : Sp := fun vs H Q _ => ∃ (m : Nat) (p : Addr) (xs : List V), vs = [.int (m : Int), .ref p] ∧ SqT K H p xs ∧ m < xs.length ∧ Q (.bl true) H
theorem scNumOf : FnScope ["value", "some"] ["value", "some"] (defScope sNumOf) := ⟨rfl, rfl, rfl, by decide +kernel, rfl, by decide +kernel, by decide +kernel⟩
theorem ok_numOf {f1 : Addr} {fd1 : FuncData} (F : Fun K "is_number_of" "is_number_of" sNumOf f fd) (T : Bl mg)
    (G1 : FnOk P w K mg base CX0 2 f1 fd1 ["value", "low", "high"] spFromTo) (a1 : At K mg "is_from_to" f1 fd1 ["value", "low", "high"]) :
    FnOk P w K mg base CX0 3 f fd ["value", "some"] (spNumOf K) := by
  refine F.ok scNumOf (fun vs H Q E h => ?_) (fun cdv A outer s H vs Q E hr h => ?_)
  · obtain ⟨m, p, xs, rfl, _⟩ := h
    rfl
  · obtain ⟨m, p, xs, rfl, hp, ml, k⟩ := h
    refine ⟨_, pss_one (ps_ret (pe_call G1 hr (by rfl) a1.m a1.kp a1.b .nil pass0 (pa_cons (pv 0) (pa_cons pe_int (pa_cons (pe_op op_sub (pe_callB call_len_seq (by rfl) T.len PySem.boot_len (pa_cons (pv 1) pa_nil)) pe_int) pa_nil))))), ?_⟩
    refine ⟨_, rfl, _, rfl, p, xs, rfl, .inr hp, _, _, rfl, rfl, _, _, _, rfl, by omega, by omega, k⟩
/-! ### are_sums_for -/
def spAreSums (C CS : Addr) : Sp := fun vs H Q _ => ∃ (x t p : Addr) (L : Lore) (kq : KP) (ys : List Str) (us : List V) (sums : List (List Spot)), vs = [.ref x, .str kq.1, .ref t, .ref p] ∧ ShAt H C CS x L ∧ LoreOk L ∧ kq ∈ L.kps ∧ LotAt H t ys ∧ H p = some (.tup us) ∧ Paired (RelSm H) us sums ∧ SumsOk L kq ys sums ∧ ∀ H', Same H H' → Q (.bl true) H'
abbrev nmAS : List Str := ["shelf", "keeper", "helpers", "value", "spots", "row", "spot"]
theorem scAreSums : FnScope nmAS ["shelf", "keeper", "helpers", "value"] (defScope sAreSums) := ⟨rfl, rfl, rfl, by decide +kernel, rfl, by decide +kernel, by decide +kernel⟩
theorem ok_areSums {C CS fC fS f1 f2 f3 f4 f5 : Addr} {fd1 fd2 fd3 fd4 fd5 : FuncData} (F : Fun K "are_sums_for" "are_sums_for" sAreSums f fd) (T : Bl mg) (Cc : Cn mg)
    (G1 : FnOk P w K mg base CX0 1 f1 fd1 ["shelf", "lot"] (spSpotsOf C CS)) (a1 : At K mg "spots_of" f1 fd1 ["shelf", "lot"])
    (G2 : FnOk P w K mg base CX0 1 f2 fd2 ["value", "many"] spIsRow) (a2 : At K mg "is_row" f2 fd2 ["value", "many"])
    (G3 : FnOk P w K mg base CX0 3 f3 fd3 ["shelf", "lot", "value"] (spIsSumOf C CS)) (a3 : At K mg "is_sum_of" f3 fd3 ["shelf", "lot", "value"])
    (G4 : FnOk P w K mg base CX0 3 f4 fd4 ["shelf", "spots"] (spComesTo C CS)) (a4 : At K mg "comes_to" f4 fd4 ["shelf", "spots"])
    (G5 : FnOk P w K mg base CX0 1 f5 fd5 ["shelf", "spot"] (spPieceAt C CS)) (a5 : At K mg "piece_at" f5 fd5 ["shelf", "spot"]) :
    FnOk P w K mg base CX0 4 f fd ["shelf", "keeper", "helpers", "value"] (spAreSums C CS) := by
  refine F.ok scAreSums (fun vs H Q E h => ?_) (fun cdv A outer s H vs Q E hr h => ?_)
  · obtain ⟨x, t, p, L, kq, ys, us, sums, rfl, _⟩ := h
    rfl
  · obtain ⟨x, t, p, L, kq, ys, us, sums, rfl, sh, ok, hk, lot, hp, pr, so, k⟩ := h
    have nd := scAreSums.nd
    have hr1 : Room 1 _ := hr.mono (by decide)
    have p4 := ok.p4
    refine ⟨_, pss_cons (ps_set (i := 4) nd rfl (by first | exact .inl rfl | exact .inr rfl) (pe_call G1 hr1 (by rfl) a1.m a1.kp a1.b .nil pass0 (pa_cons (pv 0) (pa_cons (pe_tup (pa_cons (pv 1) pa_nil)) pa_nil))))
      (pss_cons (ps_if (PW.pt (pw_or (pt_not (pt_val (pe_call G2 hr1 (by rfl) a2.m a2.kp a2.b .nil pass0 (pa_cons (pv 3) (pa_cons (pe_callB call_len_seq (by rfl) T.len PySem.boot_len (pa_cons (pv 4) pa_nil)) pa_nil)))))
          (pw_or1 (pt_not (pt_val (pe_callB (cr_all rfl) (by rfl) T.all boot_all (pa_cons (pe_lc (own := [("row", 5)]) (g := gName 5) (tt := tYes) (te := tCall (spIsSumOf C CS) [] E0 (tCons (tVar 0) (tCons (tVar 2) (tCons (tVar 5) tNil)))) rfl nd (pi_tup (pv 3))
            (blkOk_by (N := nmAS) (sc := defScope sAreSums) (by decide +kernel)) (fun _ _ _ _ _ => pg_name (i := 5) nd rfl (by first | exact .inl rfl | exact .inr rfl)) (fun _ _ _ _ _ => pts_nil)
            (fun _ _ _ _ _ => pe_call G3 hr (by rfl) a3.m a3.kp a3.b .nil pass0 (pa_cons (pv 0) (pa_cons (pv 2) (pa_cons (pv 5) pa_nil))))) pa_nil))))))) pss_no pss_nil)
      (pss_one (ps_ret (pe_callB (cr_all rfl) (by rfl) T.all boot_all (pa_cons (pe_lc (own := [("row", 5), ("spot", 6)]) (g := gTup K 2 (gCons (gName 5) (gCons (gName 6) gNil))) (tt := tYes) (te := tOp (rEqD K) (tCall (spComesTo C CS) [] E0 (tCons (tVar 0) (tCons (tVar 5) tNil))) (tCall (spPieceAt C CS) [] E0 (tCons (tVar 0) (tCons (tVar 6) tNil)))) rfl nd
            (pi_zipS (by rfl) Cc.zip (pa_cons (pv 3) (pa_cons (pv 4) pa_nil))) (blkOk_by (N := nmAS) (sc := defScope sAreSums) (by decide +kernel))
            (fun _ _ _ _ _ => pg_tup rfl (pgs_cons (pg_name (i := 5) nd rfl (by first | exact .inl rfl | exact .inr rfl)) (pgs_cons (pg_name (i := 6) nd rfl (by first | exact .inl rfl | exact .inr rfl)) pgs_nil))) (fun _ _ _ _ _ => pts_nil)
            (fun _ _ _ _ _ => pe_cmpR (op_eqD (room64 hr)) (pe_call G4 hr (by rfl) a4.m a4.kp a4.b .nil pass0 (pa_cons (pv 0) (pa_cons (pv 5) pa_nil))) (pe_call G5 hr1 (by rfl) a5.m a5.kp a5.b .nil pass0 (pa_cons (pv 0) (pa_cons (pv 6) pa_nil))) (nomark _))) pa_nil))))), ?_⟩
    have sl := so.len
    have q2 := (ok.q kq hk).2.1
    refine ⟨_, rfl, _, rfl, few_ok rfl, fun q nq => ?_⟩
    have s1 : Same H (upd H q (.tup [.str kq.1])) := same_new nq
    have eq1 : upd H q (.tup [.str kq.1]) q = some (.tup [.str kq.1]) := upd_same
    generalize upd H q (.tup [.str kq.1]) = H1 at s1 eq1 ⊢
    have sh1 := sh.same s1
    refine ⟨x, q, L, [kq.1], rfl, sh1, ok, eq1, fun p2 ws H2 s2 ep2 pp2 => ?_⟩
    have pp2 : Paired (RelS H2) ws (spotsIn L [kq.1]) := pp2
    rw [spotsIn_one ok hk] at pp2
    have s12 := s1.trans s2
    have hp2 := s12 _ _ hp
    have pr2 : Paired (RelSm H2) us sums := Paired.mapP pr fun v s r => RelSm.keep _ _ _ _ (.of s12) r
    have ul : us.length = kq.2.length := by rw [Paired.length pr, sl]
    have wl : ws.length = kq.2.length := by rw [Paired.length pp2, spK_len]
    refine ⟨_, rfl, _, rfl, p2, ws, rfl, .inr (SqT.of ep2), p, us, _, rfl, hp2, _, rfl, ?_⟩
    refine iteB (by rw [ul, wl, decide_eq_true rfl]; rfl) ?_
    obtain ⟨zs, z1, z2, z3⟩ := paired_zip pr2
    have zl : zs.length = kq.2.length := by rw [← sl, ← z2, List.length_map]
    refine ⟨_, rfl, p, rfl, ⟨_, SqT.of hp2⟩, all_over (walk_tup (a := p) (xs := us)) zs (·.1) (fun _ => true) z1.symm (by omega) (fun H s => sqT_same s (SqT.of hp2)) ?_ ?_⟩
    · rintro i ⟨yv, ss⟩ H3 R hy s3 kk
      obtain ⟨a, vs, et, ea, pa⟩ := z3 _ (List.mem_of_getElem? hy)
      dsimp only at et ea pa
      subst et
      have sm : ss ∈ sums := by rw [← z2]; exact List.mem_map.mpr ⟨_, List.mem_of_getElem? hy, rfl⟩
      exact ⟨rfl, _, rfl, _, rfl, _, rfl, x, t, a, L, ys, vs, ss, rfl, sh.same (s12.trans s3), ok, (s12.trans s3) _ _ lot, s3 _ _ ea, Paired.mapP pa fun v s r => RelS.keep _ _ _ _ (.of s3) r, so.sub ss sm, fun H4 s4 => kk _ s4⟩
    intro H3 s3
    have s13 := s12.trans s3
    have al : (zs.all fun _ => true) = true := by simp
    rw [al]
    refine ⟨_, rfl, iteB rfl ?_⟩
    have src : ∀ H', Same H3 H' → SrcAt K (.tup p) H' us ∧ SrcAt K (.tup p2) H' ws := fun H' s' => ⟨SqT.of ((s3.trans s') _ _ hp2), SqT.of ((s3.trans s') _ _ ep2)⟩
    refine ⟨_, rfl, _, rfl, .tup p, .tup p2, us, ws, rfl, (src H3 (Same.refl _)).1, (src H3 (Same.refl _)).2, fun D nD => ?_⟩
    refine lc_fm (walk_zipS (s1 := .tup p) (s2 := .tup p2) (xs := us) (ys := ws) (n := kq.2.length) (by rw [ul, wl, Nat.min_self])) (List.range kq.2.length) (fun _ => some (V.bl true)) (by rw [List.length_range]) (by omega) nD (fun H' s' => src H' s') ?_ ?_
    · rintro i v b H4 H4' R Rn hb s4 ⟨T1, b1, b2, rfl, nT, rfl, e1, e2⟩ k1 k2
      obtain ⟨hil, rfl⟩ : i < kq.2.length ∧ i = b := by
        obtain ⟨h2, h3⟩ := List.getElem?_eq_some_iff.mp hb
        rw [List.length_range] at h2
        rw [List.getElem_range] at h3
        exact ⟨h2, h3⟩
      have e1 : us[i]? = some b1 := e1
      have e2 : ws[i]? = some b2 := e2
      obtain ⟨ss, hss, a, vs, rfl, ea, pa⟩ := paired_put pr2 e1
      obtain ⟨s0, hs0, u, rfl, eu⟩ := paired_put pp2 e2
      rw [spK_at hil] at hs0
      obtain rfl : (kq.1, i) = s0 := Option.some.inj hs0
      have sS := (spotsIn_iff_sub (so.sub ss (List.mem_of_getElem? hss)))
      have od : oddL L.parts (ss.map (pieceOf L)) = pieceOf L (kq.1, i) := by
        have h1 : (sums.map fun ss => oddL L.parts (ss.map (pieceOf L)))[i]? = some (oddL L.parts (ss.map (pieceOf L))) := by rw [List.getElem?_map, hss]; rfl
        rw [so.odd, List.getElem?_map, spK_at hil] at h1
        exact (Option.some.inj h1).symm
      have s5 : Same H4 (upd H4 T1 (.tup [.ref a, .ref u])) := same_new nT
      have sA := (s3.trans s4).trans s5
      refine ⟨T1, _, rfl, SqT.of upd_same, rfl, _, _, rfl, _, _, rfl, rfl, rfl, _, rfl, _, rfl, x, a, L, vs, ss, rfl, sh.same (s12.trans sA), ok, sA _ _ ea, Paired.mapP pa fun v s r => RelS.keep _ _ _ _ (.of sA) r, sS, fun r H6 s6 er => ?_⟩
      rw [od] at er
      obtain ⟨dx, fs, hx, sf, _⟩ := id ((sh.same (s12.trans sA)).same s6)
      obtain ⟨j, kq', hj, n1, n2⟩ := piece_of ok (spK_sub hk _ (List.mem_of_getElem? (spK_at hil)))
      have eu6 := s6 _ _ (sA _ _ eu)
      rw [← n1] at eu6
      refine ⟨_, rfl, _, rfl, x, u, dx, fs, L, j, i, kq', pieceOf L (kq.1, i), rfl, hx, sf, ok, eu6, hj, n2, fun pu hpu => ?_⟩
      have np := (nice_parts ok (zs := pieceOf L (kq.1, i)) (fun z hz => by rw [← od] at hz; exact (odd_sub _ _).1 z hz) (by rw [← od]; exact Nat.le_trans (odd_sub _ _).2 p4)).shaped (by decide)
      refine ⟨.tuple (strsD (pieceOf L (kq.1, i))), .tuple (strsD (pieceOf L (kq.1, i))), .tup (SqT.of er) (dp_strs _), .tup (SqT.of hpu) (dp_strs _), np, np, ?_⟩
      rw [eqv_strsT, decide_eq_true rfl]
      exact k1 _ _ rfl (s5.trans s6)
    · intro H4 s4 eD
      rw [fm_true] at eD
      refine ⟨D, List.replicate kq.2.length true, rfl, SqL.of (by rw [eD, List.map_replicate]), ?_⟩
      have : (List.replicate kq.2.length true).all id = true := by
        rw [List.all_eq_true]
        intro b hb
        rw [(List.mem_replicate.mp hb).2]
        rfl
      rw [this]
      exact k _ (s13.trans s4)
end
end K6
set_option Elab.async false
set_option linter.all false
set_option maxRecDepth 100000
set_option maxHeartbeats 1500000
set_option pp.maxSteps 1200
set_option pp.deepTerms false
namespace K6
open PySem PySem.Spec PyProof.Rows L2 Lk
abbrev sCRest : Stmt := inClass (top 24) 5
section
variable {P : Program} {w : World} {K : PySem.W.Frag} {mg : Str → Option Value} {base : Heap} {f : Addr} {fd : FuncData}
/-! ### shows_mends -/
def spShowsM (C CS : Addr) : Sp := fun vs H Q _ => ∃ (x t q : Addr) (L : Lore) (kq : KP) (ks : List KP), vs = [.ref x, .str kq.1, .ref t, .ref q] ∧ ShAt H C CS x L ∧ LoreOk L ∧ kq ∈ L.kps ∧ LotAt H t (ks.map (·.1)) ∧ ks.Sublist L.kps ∧ kq.1 ∉ ks.map (·.1) ∧ MendsAt H q L kq (ks.map (·.1)) ∧ ∀ H', Same H H' → Q (.bl true) H'
theorem scShowsM : FnScope ["shelf", "keeper", "helpers", "value"] ["shelf", "keeper", "helpers", "value"] (defScope sShowsM) := ⟨rfl, rfl, rfl, by decide +kernel, rfl, by decide +kernel, by decide +kernel⟩
theorem ok_showsM {C CS f1 f2 f3 f4 f5 f6 f7 f8 : Addr} {fd1 fd2 fd3 fd4 fd5 fd6 fd7 fd8 : FuncData} (F : Fun K "shows_mends" "shows_mends" sShowsM f fd)
    (G1 : FnOk P w K mg base CX0 2 f1 fd1 ["shelf", "value"] (spRefKeeper C CS)) (a1 : At K mg "refuse_keeper" f1 fd1 ["shelf", "value"])
    (G2 : FnOk P w K mg base CX0 2 f2 fd2 ["shelf", "keeper", "value"] (spRefHelp C CS)) (a2 : At K mg "refuse_helpers" f2 fd2 ["shelf", "keeper", "value"])
    (G3 : FnOk P w K mg base CX0 2 f3 fd3 ["value", "word", "many"] spIsTold) (a3 : At K mg "is_told" f3 fd3 ["value", "word", "many"])
    (G4 : FnOk P w K mg base CX0 4 f4 fd4 ["shelf", "keeper", "helpers", "value"] (spAreSums C CS)) (a4 : At K mg "are_sums_for" f4 fd4 ["shelf", "keeper", "helpers", "value"])
    (G5 : FnOk P w K mg base CX0 3 f5 fd5 ["value", "some"] (spNumOf K)) (a5 : At K mg "is_number_of" f5 fd5 ["value", "some"])
    (G6 : FnOk P w K mg base CX0 1 f6 fd6 ["shelf", "lot"] (spSpotsOf C CS)) (a6 : At K mg "spots_of" f6 fd6 ["shelf", "lot"])
    (G7 : FnOk P w K mg base CX0 2 f7 fd7 ["shelf", "value"] (spIsRecord C CS)) (a7 : At K mg "is_record" f7 fd7 ["shelf", "value"])
    (G8 : FnOk P w K mg base CX0 6 f8 fd8 ["shelf", "helpers", "spot", "record"] (spHidden C CS)) (a8 : At K mg "is_hidden" f8 fd8 ["shelf", "helpers", "spot", "record"]) :
    FnOk P w K mg base CX0 7 f fd ["shelf", "keeper", "helpers", "value"] (spShowsM C CS) := by
  refine F.ok scShowsM (fun vs H Q E h => ?_) (fun cdv A outer s H vs Q E hr h => ?_)
  · obtain ⟨x, t, q, L, kq, ks, rfl, _⟩ := h
    rfl
  · obtain ⟨x, t, q, L, kq, ks, rfl, sh, ok, hk, lot, sub, nin, me, k⟩ := h
    have nd := scShowsM.nd
    have hr1 : Room 1 _ := hr.mono (by decide)
    have hr2 : Room 2 _ := hr.mono (by decide)
    have hr3 : Room 3 _ := hr.mono (by decide)
    have hr4 : Room 4 _ := hr.mono (by decide)
    refine ⟨_, pss_cons (ps_expr (pe_call G1 hr2 (by rfl) a1.m a1.kp a1.b .nil pass0 (pa_cons (pv 0) (pa_cons (pv 1) pa_nil))))
      (pss_cons (ps_expr (pe_call G2 hr2 (by rfl) a2.m a2.kp a2.b .nil pass0 (pa_cons (pv 0) (pa_cons (pv 1) (pa_cons (pv 2) pa_nil)))))
      (pss_cons (ps_if (pt_val (pe_call G3 hr2 (by rfl) a3.m a3.kp a3.b .nil pass0 (pa_cons (pv 3) (pa_cons pe_str (pa_cons pe_int pa_nil))))) (pss_one (ps_ret (pe_call G4 hr4 (by rfl) a4.m a4.kp a4.b .nil pass0 (pa_cons (pv 0) (pa_cons (pv 1) (pa_cons (pv 2) (pa_cons (pe_ix ix_tup (pv 3) pe_int (fun _ _ => rfl)) pa_nil))))))) pss_nil)
      (pss_cons (ps_if (PW.pt (pw_or (pt_not (pt_val (pe_call G3 hr2 (by rfl) a3.m a3.kp a3.b .nil pass0 (pa_cons (pv 3) (pa_cons pe_str (pa_cons pe_int pa_nil))))))
          (pw_or1 (pt_not (pt_val (pe_call G5 hr3 (by rfl) a5.m a5.kp a5.b .nil pass0 (pa_cons (pe_ix ix_tup (pv 3) pe_int (fun _ _ => rfl)) (pa_cons (pe_call G6 hr1 (by rfl) a6.m a6.kp a6.b .nil pass0 (pa_cons (pv 0) (pa_cons (pe_tup (pa_cons (pv 1) pa_nil)) pa_nil))) pa_nil)))))))) pss_no pss_nil)
      (pss_one (ps_ret (pe_and (pe_call G7 hr2 (by rfl) a7.m a7.kp a7.b .nil pass0 (pa_cons (pv 0) (pa_cons (pe_ix ix_tup (pv 3) pe_int (fun _ _ => rfl)) pa_nil)))
          (pe_one (pe_call G8 hr (by rfl) a8.m a8.kp a8.b .nil pass0 (pa_cons (pv 0) (pa_cons (pv 2) (pa_cons (pe_tup (pa_cons (pv 1) (pa_cons (pe_ix ix_tup (pv 3) pe_int (fun _ _ => rfl)) pa_nil))) (pa_cons (pe_ix ix_tup (pv 3) pe_int (fun _ _ => rfl)) pa_nil)))))))))))), ?_⟩
    refine ⟨_, rfl, _, rfl, x, L, kq, rfl, sh, hk, ?_⟩
    refine ⟨_, rfl, _, rfl, _, rfl, x, t, L, kq.1, ks.map (·.1), rfl, sh, ok, lot, sub.map _, nin, fun H1 s1 => ?_⟩
    have sh1 := sh.same s1
    have lot1 : LotAt H1 t (ks.map (·.1)) := s1 _ _ lot
    rcases me.keep (.of s1) with ⟨m, v, h1, h2, h3, h4, h5⟩ | ⟨h1, p, us, h2, h3, h4⟩
    · obtain ⟨ml, lm, _⟩ := firstN_some h1
      have sm : (kq.1, m) ∈ spotsOf L.kps := spK_sub hk _ (List.mem_of_getElem? (spK_at ml))
      refine ⟨_, rfl, q, _, _, _, _, rfl, h5, _, rfl, iteB ?_ ?_⟩
      · show (decide (((2 : Nat) : Int) + 1 = 2) && decide (("lost" : Str) = "mended")) = false
        decide +kernel
      refine ⟨_, rfl, q, _, _, _, _, rfl, h5, _, rfl, iteB ?_ ?_⟩
      · show (!(decide (((2 : Nat) : Int) + 1 = 3) && decide (("lost" : Str) = "lost"))) = false
        decide +kernel
      refine ⟨_, rfl, q, _, _, _, rfl, rfl, SqT.of h5, at1 rfl, _, rfl, _, rfl, few_ok rfl, fun u nu => ?_⟩
      have s2 : Same H1 (upd H1 u (.tup [.str kq.1])) := same_new nu
      have eu2 : upd H1 u (.tup [.str kq.1]) u = some (.tup [.str kq.1]) := upd_same
      generalize upd H1 u (.tup [.str kq.1]) = H2 at s2 eu2 ⊢
      refine ⟨x, u, L, [kq.1], rfl, sh1.same s2, ok, eu2, fun p2 ws H3 s3 ep2 pp2 => ?_⟩
      have pp2 : Paired (RelS H3) ws (spotsIn L [kq.1]) := pp2
      rw [spotsIn_one ok hk] at pp2
      have wl : ws.length = kq.2.length := by rw [Paired.length pp2, spK_len]
      have s13 := s2.trans s3
      refine ⟨m, p2, ws, rfl, SqT.of ep2, by omega, _, rfl, iteB rfl ?_⟩
      have h53 := s13 _ _ h5
      refine ⟨_, rfl, _, rfl, q, _, _, _, rfl, rfl, SqT.of h53, at2 rfl, x, L, stv v, rfl, sh1.same s13, ok, recOk_stv h2, fun H4 s4 => ⟨_, rfl, iteT ?_⟩⟩
      have s14 := s13.trans s4
      have h54 := s14 _ _ h5
      refine ⟨_, rfl, _, rfl, _, rfl, _, rfl, q, _, _, _, rfl, rfl, SqT.of h54, at1 rfl, few_ok rfl, fun w2 nw => ?_⟩
      have s5 : Same H4 (upd H4 w2 (.tup [.str kq.1, .int (m : Int)])) := same_new nw
      refine ⟨_, rfl, q, _, _, _, rfl, rfl, SqT.of (s5 _ _ h54), at2 rfl, x, t, w2, L, ks, (kq.1, m), v, rfl, sh1.same (s14.trans s5), ok, (s14.trans s5) _ _ lot1, sub, upd_same, sm, h2, fun H6 s6 => ?_⟩
      rw [h3, h4]
      exact k H6 (((s1.trans s14).trans s5).trans s6)
    · refine ⟨_, rfl, q, _, _, _, _, rfl, h2, _, rfl, iteA ?_ ?_⟩
      · show (decide (((1 : Nat) : Int) + 1 = 2) && decide (("mended" : Str) = "mended")) = true
        decide +kernel
      exact ⟨_, rfl, _, rfl, _, rfl, _, rfl, q, _, _, _, rfl, rfl, SqT.of h2, at1 rfl, x, t, p, L, kq, ks.map (·.1), us, _, rfl, sh1, ok, hk, lot1, h3, h4, sums_ok ok hk h1, fun H2 s2 => k H2 (s1.trans s2)⟩
/-! ### Circle.rest, of a lot -/
def spCRest (C : Addr) : Sp := fun vs H Q _ => ∃ (c t : Addr) (ns ys : List Str), vs = [.ref c, .ref t] ∧ CircAt H C c ns ∧ NmOk ns ∧ LotAt H t ys ∧ ys.Sublist ns ∧ ∀ r H', Same H H' → H' r = some (.tup ((ns.filter fun y => !decide (y ∈ ys)).map V.str)) → Q (.ref r) H'
theorem scCRest : FnScope ["self", "lot"] ["self", "lot"] (defScope sCRest) := ⟨rfl, rfl, rfl, by decide +kernel, rfl, by decide +kernel, by decide +kernel⟩
theorem ok_cRest {C fC f1 f2 : Addr} {fd1 fd2 : FuncData} (F : Fun K "rest" "Circle.rest" sCRest f fd) (CC : CircC K C fC)
    (G1 : FnOk P w K mg base CX0 2 f1 fd1 ["circle", "value"] (spRefLot C)) (a1 : At K mg "refuse_lot" f1 fd1 ["circle", "value"])
    (G2 : FnOk P w K mg base CX0 1 f2 fd2 ["lot", "other"] (spPLess K)) (a2 : At K mg "less" f2 fd2 ["lot", "other"]) :
    FnOk P w K mg base CX0 3 f fd ["self", "lot"] (spCRest C) := by
  refine F.ok scCRest (fun vs H Q E h => ?_) (fun cdv A outer s H vs Q E hr h => ?_)
  · obtain ⟨c, t, ns, ys, rfl, _⟩ := h
    rfl
  · obtain ⟨c, t, ns, ys, rfl, hc, nok, lot, sub, k⟩ := h
    have hr1 : Room 1 _ := hr.mono (by decide)
    refine ⟨_, pss_cons (ps_expr (pe_call G1 hr (by rfl) a1.m a1.kp a1.b .nil pass0 (pa_cons (pv 0) (pa_cons (pv 1) pa_nil))))
      (pss_one (ps_ret (pe_call G2 hr1 (by rfl) a2.m a2.kp a2.b .nil pass0 (pa_cons (pe_fld (pv 0) rfl) (pa_cons (pv 1) pa_nil))))), ?_⟩
    refine ⟨_, rfl, _, rfl, c, t, ns, ys, rfl, hc, .inl lot, sub, nok, fun H1 s1 => ?_⟩
    obtain ⟨cdx, nm, ec, en⟩ := hc.same s1
    have k6 := nok.k6
    have lot1 : H1 t = some (.tup (ys.map V.str)) := s1 _ _ lot
    exact ⟨_, rfl, c, C, cdx, _, .ref nm, rfl, ec, CC.cls, CC.nm, rfl, _, rfl, nm, t, ns, ys, rfl, .inr en.sq, .inr (SqT.of lot1), by omega, fun r H' s' nr er => k r H' (s1.trans s') er⟩
end
end K6
set_option Elab.async false
set_option linter.all false
set_option maxRecDepth 100000
set_option maxHeartbeats 1500000
set_option pp.maxSteps 1200
set_option pp.deepTerms false
namespace K6
open PySem PySem.Spec PyProof.Rows L2 Lk
abbrev sMade : Stmt := top 73
abbrev nmMd : List Str := ["shelf", "keeper", "sums", "answers", "spots", "spot", "ones", "sign"]
theorem scMade : FnScope nmMd ["shelf", "keeper", "sums", "answers"] (defScope sMade) := ⟨rfl, rfl, rfl, by decide +kernel, rfl, by decide +kernel, by decide +kernel⟩
theorem valued_rows {L : Lore} (ok : LoreOk L) (v : Vec) : ∀ {ks : List KP}, (∀ k ∈ ks, k ∈ L.kps) → valuedL (ks.map fun k => (k, ansV L k v)) = (spotsOf ks).map fun s => (s, dot (codeS L s) v)
  | [], _ => rfl
  | k :: ks, h => by
    have ih := valued_rows ok v (ks := ks) fun q hq => h q (List.mem_cons_of_mem _ hq)
    unfold valuedL spotsOf at ih ⊢
    rw [List.map_cons, List.flatMap_cons, List.flatMap_cons, List.map_append, ih, List.map_map]
    congr 1
    dsimp only
    rw [ansV_len]
    refine List.map_congr_left fun i hi => ?_
    have il := List.mem_range.mp hi
    have e := piece_at_of ok (h k List.mem_cons_self) (List.getElem?_eq_getElem il)
    show ((k.1, i), (ansV L k v).getD i false) = ((k.1, i), dot (codeS L (k.1, i)) v)
    unfold ansV codeS
    rw [e, List.getD_eq_getElem?_getD, List.getElem?_map, List.getElem?_eq_getElem il]
    rfl
/-- the spot that is told first -/
def fstO (H : Hp) : V → V
  | .ref t => match H t with
    | some (.tup (x :: _)) => x
    | _ => .non
  | _ => .non
theorem fstO_of {H : Hp} {v : V} {r : Spot × Bool} (h : RelW2 H v r) : RelS H (fstO H v) r.1 := by
  obtain ⟨t, u, rfl, h1, h2⟩ := h
  have : fstO H (.ref t) = .ref u := by unfold fstO; dsimp only; rw [h1]
  rw [this]
  exact ⟨u, rfl, h2⟩
theorem fm_ones2 {H : Hp} : ∀ zs : List (V × (Spot × Bool)), (∀ z ∈ zs, RelW2 H z.1 z.2) → Paired (RelS H) (zs.filterMap fun z => if z.2.2 = true then some (fstO H z.1) else none) (((zs.map (·.2)).filter (·.2)).map (·.1))
  | [], _ => .nil
  | z :: zs, h => by
    have ih := fm_ones2 zs fun y hy => h y (List.mem_cons_of_mem _ hy)
    by_cases m : z.2.2 = true
    · rw [List.filterMap_cons, if_pos m, List.map_cons, List.filter_cons_of_pos (p := fun x : Spot × Bool => x.2) m]
      exact .cons (fstO_of (h z List.mem_cons_self)) ih
    · rw [List.filterMap_cons, if_neg m, List.map_cons, List.filter_cons_of_neg (p := fun x : Spot × Bool => x.2) m]
      exact ih
theorem ones_rows (L : Lore) (v : Vec) (ss : List Spot) : ((ss.map fun s => (s, dot (codeS L s) v)).filter (·.2)).map (·.1) = ss.filter fun s => dot (codeS L s) v := by
  rw [List.filter_map, List.map_map]
  exact List.map_id' _
/-- the parity of the ones of a sum is the value of what it comes to -/
theorem sum_par {L : Lore} {ss : List Spot} {s : Spot} {v : Vec} (vl : v.length = L.parts.length) (pd : oddL L.parts (ss.map (pieceOf L)) = pieceOf L s) : dot (codeS L s) v = decide ((ss.filter fun s => dot (codeS L s) v).length % 2 = 1) := by
  have h := dot_sum vl (ss.map (codeS L)) fun c hc => by
    obtain ⟨s, _, rfl⟩ := List.mem_map.mp hc
    exact codeS_len L s
  have e : sumV L.parts.length (ss.map (codeS L)) = codeS L s := by
    have : ss.map (codeS L) = (ss.map (pieceOf L)).map (vecP L.parts) := by rw [List.map_map]; rfl
    rw [this, sum_codes]
    show _ = L.parts.map fun p => decide (p ∈ pieceOf L s)
    rw [← pd]
    refine List.map_congr_left fun p hp => ?_
    unfold oddL
    have : (p ∈ L.parts.filter fun p => decide (cntP p (ss.map (pieceOf L)) % 2 = 1)) ↔ cntP p (ss.map (pieceOf L)) % 2 = 1 := by
      rw [List.mem_filter, decide_eq_true_iff]
      exact ⟨fun h => h.2, fun h => ⟨hp, h⟩⟩
    exact (decide_eq_decide.mpr this).symm
  rw [e, List.filter_map, List.length_map] at h
  exact h
theorem spDs_shapedL {zs : List Spot} (hz : SpOk zs) : SeqAt.shaped (.list (zs.map spD)) = true := by
  have h1 := spDs_depth zs
  have h2 : PyData.depth (.list (zs.map spD)) ≤ 64 := by
    simp only [PyData.depth]
    omega
  show (PyData.canLay0 (.list (zs.map spD)) && decide (PyData.depth (.list (zs.map spD)) ≤ 64)) = true
  rw [Bool.and_eq_true]
  exact ⟨by simp only [PyData.canLay0]; exact spDs_lay hz, decide_eq_true h2⟩
theorem ansV_dots {L : Lore} (ok : LoreOk L) {k : KP} (hk : k ∈ L.kps) (v : Vec) : ansV L k v = (spK k).map fun s => dot (codeS L s) v := by
  have h := valued_rows ok v (ks := [k]) (fun q hq => by rw [List.mem_singleton.mp hq]; exact hk)
  refine List.ext_getElem? fun i => ?_
  unfold ansV spK
  rw [List.getElem?_map, List.getElem?_map, List.getElem?_map]
  by_cases il : i < k.2.length
  · rw [List.getElem?_range il, List.getElem?_eq_getElem il]
    have e := piece_at_of ok hk (List.getElem?_eq_getElem il)
    show some (dot (vecP L.parts k.2[i]) v) = some (dot (codeS L (k.1, i)) v)
    unfold codeS
    rw [e]
  · rw [List.getElem?_eq_none (by omega), List.getElem?_eq_none (by rw [List.length_range]; omega)]
    rfl
theorem fm_len {q : Spot → Bool} : ∀ ys : List (V × Spot), (ys.filterMap fun y => if q y.2 = true then some y.1 else none).length = ((ys.map (·.2)).filter q).length
  | [] => rfl
  | y :: ys => by
    have ih := fm_len (q := q) ys
    by_cases m : q y.2 = true
    · rw [List.filterMap_cons, if_pos m, List.map_cons, List.filter_cons_of_pos m, List.length_cons, List.length_cons, ih]
    · rw [List.filterMap_cons, if_neg m, List.map_cons, List.filter_cons_of_neg m, ih]
theorem flat_one {α β : Type} (g : α → β) : ∀ xs : List α, (xs.map fun x => [g x]).flatten = xs.map g
  | [] => rfl
  | x :: xs => by rw [List.map_cons, List.flatten_cons, flat_one g xs]; rfl
section
variable {P : Program} {w : World} {K : PySem.W.Frag} {mg : Str → Option Value} {base : Heap} {f : Addr} {fd : FuncData}
/-! ### made -/
def spMade (C CS : Addr) : Sp := fun vs H Q _ => ∃ (x p r : Addr) (L : Lore) (kq : KP) (ks : List KP) (us : List V) (sums : List (List Spot)) (v : Vec), vs = [.ref x, .str kq.1, .ref p, .ref r] ∧ ShAt H C CS x L ∧ LoreOk L ∧ kq ∈ L.kps ∧ ks.Sublist L.kps ∧ kq.1 ∉ ks.map (·.1) ∧ H p = some (.tup us) ∧ Paired (RelSm H) us sums ∧ SumsOk L kq (ks.map (·.1)) sums ∧ AnsAt H r (ks.map fun k => (k, ansV L k v)) ∧ v.length = L.parts.length ∧
  ∀ H', Same H H' → Q (.str (stv (ansV L kq v))) H'
theorem ok_made {C CS fC fS f1 f2 f3 f4 f5 fR : Addr} {fd1 fd2 fd3 fd4 fd5 fdR : FuncData} (F : Fun K "made" "made" sMade f fd) (T : Bl mg) (CC : CircC K C fC) (SC : ShC K CS fS)
    (G1 : FnOk P w K mg base CX0 2 f1 fd1 ["shelf", "value"] (spRefKeeper C CS)) (a1 : At K mg "refuse_keeper" f1 fd1 ["shelf", "value"])
    (G2 : FnOk P w K mg base CX0 4 f2 fd2 ["shelf", "keeper", "helpers", "value"] (spAreSums C CS)) (a2 : At K mg "are_sums_for" f2 fd2 ["shelf", "keeper", "helpers", "value"])
    (G3 : FnOk P w K mg base CX0 4 f3 fd3 ["shelf", "value"] (spRefAns C CS)) (a3 : At K mg "refuse_answers" f3 fd3 ["shelf", "value"])
    (G4 : FnOk P w K mg base CX0 1 f4 fd4 ["answers"] spAnswered) (a4 : At K mg "answered" f4 fd4 ["answers"])
    (G5 : FnOk P w K mg base CX0 1 f5 fd5 ["answers"] spValued) (a5 : At K mg "valued" f5 fd5 ["answers"])
    (GR : FnOk P w K mg base CX0 3 fR fdR ["self", "lot"] (spCRest C)) (kR : PySem.W.keepIn K (.ref fR) = true) (bR : Binds K fdR ["self", "lot"] []) (MR : MethC K C "rest" fR) :
    FnOk P w K mg base CX0 5 f fd ["shelf", "keeper", "sums", "answers"] (spMade C CS) := by
  refine F.ok scMade (fun vs H Q E h => ?_) (fun cdv A outer s H vs Q E hr h => ?_)
  · obtain ⟨x, p, r, L, kq, ks, us, sums, v, rfl, _⟩ := h
    rfl
  · obtain ⟨x, p, r, L, kq, ks, us, sums, v, rfl, sh, ok, hk, sub, nin, hp, pr, so, aa, vl, k⟩ := h
    have nd := scMade.nd
    have hr1 : Room 1 _ := hr.mono (by decide)
    have hr2 : Room 2 _ := hr.mono (by decide)
    have hr3 : Room 3 _ := hr.mono (by decide)
    have hr4 : Room 4 _ := hr.mono (by decide)
    refine ⟨_, pss_cons (ps_expr (pe_call G1 hr2 (by rfl) a1.m a1.kp a1.b .nil pass0 (pa_cons (pv 0) (pa_cons (pv 1) pa_nil))))
      (pss_cons (ps_if (pt_not (pt_val (pe_call G2 hr4 (by rfl) a2.m a2.kp a2.b .nil pass0 (pa_cons (pv 0) (pa_cons (pv 1) (pa_cons (pe_meth (pe_fld (pv 0) rfl) CC.cls ⟨MR.at_, MR.fn, kR⟩ GR hr3 bR .nil pass0 (pa_cons (pe_tup (pa_cons (pv 1) pa_nil)) pa_nil)) (pa_cons (pv 2) pa_nil))))))) pss_no pss_nil)
      (pss_cons (ps_expr (pe_call G3 hr4 (by rfl) a3.m a3.kp a3.b .nil pass0 (pa_cons (pv 0) (pa_cons (pv 3) pa_nil))))
      (pss_cons (ps_if (pt_not (pt_val (pe_callB (cr_all rfl) (by rfl) T.all boot_all (pa_cons (pe_lc2 (own := [("spots", 4), ("spot", 5)]) (vs1 := [5]) (g := gName 4) (tt := tYes) (wi1 := iTup K (tVar 4)) (g1 := gName 5) (tt1 := tYes) (te := tOp (rIn K false) (tOp (rIxT K) (tVar 5) (tC (.int 0))) (tCall spAnswered [] E0 (tCons (tVar 3) tNil))) rfl nd
          (pi_tup (pv 2)) (blkOk_by (N := nmMd) (sc := defScope sMade) (by decide +kernel)) (by decide) (fun _ _ _ _ _ => pg_name (i := 4) nd rfl (by first | exact .inl rfl | exact .inr rfl)) (fun _ _ _ _ _ => pts_nil)
          (fun _ _ _ _ _ => pi_tup (pv 4)) (fun _ _ _ _ _ => pg_name (i := 5) nd rfl (by first | exact .inl rfl | exact .inr rfl)) (fun _ _ _ _ _ => pts_nil)
          (fun _ _ _ _ _ => pe_cmpR op_in_seq (pe_ix ix_tup (pv 5) pe_int (fun _ _ => rfl)) (pe_call G4 hr1 (by rfl) a4.m a4.kp a4.b .nil pass0 (pa_cons (pv 3) pa_nil)) rfl)) pa_nil)))) pss_no pss_nil)
      (pss_cons (ps_set (i := 6) nd rfl (.inr rfl) (pe_lc (own := [("spot", 5), ("sign", 7)]) (g := gTup K 2 (gCons (gName 5) (gCons (gName 7) gNil))) (tt := tTest (tOp rEq (tVar 7) (tC (.str "1")))) (te := tVar 5) rfl nd
          (pi_list (pe_call G5 hr1 (by rfl) a5.m a5.kp a5.b .nil pass0 (pa_cons (pv 3) pa_nil))) (blkOk_by (N := nmMd) (sc := defScope sMade) (by decide +kernel))
          (fun _ _ _ _ _ => pg_tup rfl (pgs_cons (pg_name (i := 5) nd rfl (by first | exact .inl rfl | exact .inr rfl)) (pgs_cons (pg_name (i := 7) nd rfl (by first | exact .inl rfl | exact .inr rfl)) pgs_nil))) (fun _ _ _ _ _ => pts_one (pt_cmpR op_eq (pv 7) pe_str (nomark _))) (fun _ _ _ _ _ => pv 5)))
      (pss_one (ps_ret (pe_join pe_str (pe_lc (own := [("spots", 4)]) (g := gName 4) (tt := tYes) (te := tOp rIxS (tC (.str "01")) (tOp rOdd1 (tCB (rLenS K) (tCons (tLc (iTup K (tVar 4)) (gName 5) (tTest (tOp (rInD K) (tVar 5) (tVar 6))) (tVar 5) [5]) tNil)) (tC (.int 1)))) rfl nd (pi_tup (pv 2))
          (blkOk_by (N := nmMd) (sc := defScope sMade) (by decide +kernel)) (fun _ _ _ _ _ => pg_name (i := 4) nd rfl (by first | exact .inl rfl | exact .inr rfl)) (fun _ _ _ _ _ => pts_nil)
          (fun _ _ _ _ _ => pe_ix ix_str pe_str (pe_op op_odd (pe_callB call_len_seq (by rfl) T.len PySem.boot_len (pa_cons (pe_lc (own := [("spot", 5)]) (g := gName 5) (tt := tTest (tOp (rInD K) (tVar 5) (tVar 6))) (te := tVar 5) rfl nd (pi_tup (pv 4))
            (blkOk_by (N := nmMd) (sc := relS (retScope sMade 5) (defScope sMade)) (by decide +kernel)) (fun _ _ _ _ _ => pg_name (i := 5) nd rfl (by first | exact .inl rfl | exact .inr rfl)) (fun _ _ _ _ _ => pts_one (pt_cmpR (op_inD (room65 hr)) (pv 5) (pv 6) rfl)) (fun _ _ _ _ _ => pv 5)) pa_nil)) pe_int) (fun _ _ => rfl)))))))))), ?_⟩
    obtain ⟨dx, fs, hx, sf, _⟩ := id sh
    obtain ⟨c, lc, ca⟩ := sf.circle
    obtain ⟨cdx, nm, ec, en⟩ := id ca
    have nok := nmOk ok
    have kn : kq.1 ∈ L.kps.map (·.1) := List.mem_map.mpr ⟨kq, hk, rfl⟩
    obtain ⟨As, hAs⟩ : ∃ As : Ans, As = ks.map fun k => (k, ansV L k v) := ⟨_, rfl⟩
    have hA1 : As.map (·.1) = ks := by rw [hAs, List.map_map]; exact List.map_id' _
    have ao : AnsOk L As := ⟨by rw [hA1]; exact sub, fun a ha => by
      rw [hAs] at ha
      obtain ⟨k, _, rfl⟩ := List.mem_map.mp ha
      exact ansV_len L k v⟩
    have l6 := ao.six ok
    have hva : valuedL As = (spotsIn L (ks.map (·.1))).map fun s => (s, dot (codeS L s) v) := by rw [hAs, valued_rows ok v fun k h => sub.subset h, spotsIn_sub ok sub]
    rw [← hAs] at aa
    clear hAs
    have sl := so.len
    have q2 := (ok.q kq hk).2.1
    have ul : us.length = kq.2.length := by rw [Paired.length pr, sl]
    have slen : ∀ ss ∈ sums, ss.length ≤ 12 := fun ss h => Nat.le_trans ((so.sub ss h).trans List.filter_sublist).length_le (spots12 ok)
    refine ⟨_, rfl, _, rfl, x, L, kq, rfl, sh, hk, ?_⟩
    refine ⟨_, rfl, _, rfl, _, rfl, x, CS, dx, fs, .ref c, rfl, hx, SC.cls, SC.circle, lc, c, cdx, _, rfl, ec, rfl, _, rfl, few_ok rfl, fun q nq => ?_⟩
    have s1 : Same H (upd H q (.tup [.str kq.1])) := same_new nq
    have eq1 : upd H q (.tup [.str kq.1]) q = some (.tup [.str kq.1]) := upd_same
    generalize upd H q (.tup [.str kq.1]) = H1 at s1 eq1 ⊢
    refine ⟨c, q, L.kps.map (·.1), [kq.1], rfl, ca.same s1, nok, eq1, List.singleton_sublist.mpr kn, fun o H2 s2 eo => ?_⟩
    have s12 := s1.trans s2
    have soO : SumsOk L kq ((L.kps.map (·.1)).filter fun y => !decide (y ∈ [kq.1])) sums := so.mono fun y hy => List.mem_filter.mpr ⟨(sub.map _).subset hy, by
      have : y ≠ kq.1 := fun e => nin (e ▸ hy)
      simp [this]⟩
    refine ⟨_, rfl, x, o, p, L, kq, _, us, sums, rfl, sh.same s12, ok, hk, eo, s12 _ _ hp, Paired.mapP pr fun v s r => RelSm.keep _ _ _ _ (.of s12) r, soO, fun H3 s3 => ⟨_, rfl, iteB rfl ?_⟩⟩
    have s13 := s12.trans s3
    refine ⟨_, rfl, _, rfl, x, r, L, As, rfl, sh.same s13, ok, aa.same s13, ao, fun H4 s4 => ?_⟩
    have s14 := s13.trans s4
    have sh4 := sh.same s14
    have aa4 := aa.same s14
    have hp4 := s14 _ _ hp
    have pr4 : Paired (RelSm H4) us sums := Paired.mapP pr fun v s r => RelSm.keep _ _ _ _ (.of s14) r
    clear s1 s2 s3 s4 s12 s13 eq1 eo nq
    refine ⟨_, rfl, p, rfl, ⟨_, SqT.of hp4⟩, fun D nD => ?_⟩
    refine in_it (walk_tup (a := p) (xs := us)) (fun i H' => ∃ n, H' D = some (.lst (List.replicate n (V.bl true))) ∧ n ≤ 12 * i ∧ Same H4 H') ⟨0, upd_same, Nat.zero_le _, same_new nD⟩ (fun i H' _ ⟨_, _, _, s'⟩ => SqT.of (s' _ _ hp4)) ?_ ?_
    · rintro i y H5 H6 hi ⟨n, eD, nl, s5⟩ ⟨rfl, hy⟩
      obtain ⟨ss, hss, a, ws, rfl, ea, pa⟩ := paired_put pr4 hy
      have sm := List.mem_of_getElem? hss
      have s12l := slen ss sm
      have wl : ws.length = ss.length := Paired.length pa
      refine ⟨rfl, _, rfl, a, rfl, ⟨_, SqT.of (s5 _ _ ea)⟩, ?_⟩
      refine in_it (walk_tup (a := a) (xs := ws)) (fun j H' => ∃ n', H' D = some (.lst (List.replicate n' (V.bl true))) ∧ n' ≤ 12 * i + j ∧ Same H4 H') ⟨n, eD, by omega, s5⟩ (fun i H' _ ⟨_, _, _, s'⟩ => SqT.of (s' _ _ ea)) ?_ ?_
      · rintro j y H7 H8 hj ⟨n2, eD2, nl2, s7⟩ ⟨rfl, hy2⟩
        obtain ⟨s0, hs0, u, rfl, eu⟩ := paired_put pa hy2
        have s0m : s0.1 ∈ (As.map (·.1)).map (·.1) := by
          rw [hA1]
          exact of_decide_eq_true (List.mem_filter.mp ((so.sub ss sm).subset (List.mem_of_getElem? hs0))).2
        refine ⟨rfl, _, rfl, u, _, _, .str s0.1, rfl, rfl, SqT.of (s7 _ _ eu), at0 rfl, _, rfl, r, As, rfl, aa4.same s7, l6, fun t H9 s9 lt => ⟨t, _, rfl, .inr (SqT.of lt), rfl, flat_strs _, ?_⟩⟩
        rw [if_neg (by decide), strs_inV, decide_eq_true s0m]
        have i2 : i < 2 := by omega
        refine ⟨_, s9 _ _ eD2, by rw [List.length_replicate, sizeLine_eq]; omega, n2 + 1, by rw [upd_same, List.replicate_succ'], by omega, fun b o e => ?_⟩
        rw [upd_ne (ne_of_none e nD)]
        exact s9 _ _ (s7 _ _ e)
      · rintro H7 ⟨n2, eD2, nl2, s7⟩
        exact ⟨n2, eD2, by omega, s7⟩
    rintro H5 ⟨n, eD, _, s5⟩
    refine ⟨D, List.replicate n true, rfl, SqL.of (by rw [eD, List.map_replicate]), ?_⟩
    have al : (List.replicate n true).all id = true := by
      rw [List.all_eq_true]
      intro b hb
      rw [(List.mem_replicate.mp hb).2]
      rfl
    rw [al]
    refine ⟨_, rfl, iteB rfl ?_⟩
    have sh5 := sh4.same s5
    have aa5 := aa4.same s5
    have a2 := answers_two ok ao
    refine ⟨_, rfl, r, As, rfl, aa5, l6, a2, fun D2 ts H6 s6 eD2 pw => ?_⟩
    rw [hva] at pw
    obtain ⟨zs, z1, z2, z3⟩ := paired_zip pw
    have zl : zs.length ≤ 12 := by
      have : zs.length = (spotsIn L (ks.map (·.1))).length := by
        have := congrArg List.length z2
        rwa [List.length_map, List.length_map] at this
      rw [this]
      exact Nat.le_trans List.filter_sublist.length_le (spots12 ok)
    refine ⟨D2, rfl, ⟨_, SqL.of eD2⟩, fun D3 nD3 => lc_fm (walk_list (a := D2) (xs := ts)) zs (fun z => if z.2.2 = true then some (fstO H6 z.1) else none) (by rw [← z1, List.length_map]) (by rw [← z1, List.length_map]; omega) nD3 (fun H s => s.seq (SqL.of eD2)) ?_ ?_⟩
    · rintro i u ⟨zv, r0⟩ H7 H7' R Rn hz s7 ⟨rfl, hu⟩ k1 k2
      obtain ⟨t, u0, et, e1, e2⟩ := z3 _ (List.mem_of_getElem? hz)
      dsimp only at et e1 e2
      subst et
      obtain rfl : V.ref t = u := by
        rw [← z1, List.getElem?_map, hz] at hu
        exact Option.some.inj hu
      have ef : fstO H6 (.ref t) = .ref u0 := by unfold fstO; dsimp only; rw [e1]
      refine ⟨t, _, rfl, SqT.of (s7 _ _ e1), rfl, _, _, rfl, _, _, rfl, rfl, rfl, _, rfl, rfl, _, rfl, ?_⟩
      rw [strOne]
      by_cases h : r0.2 = true
      · exact iteA h ⟨_, rfl, k1 _ _ (by rw [if_pos h]; exact congrArg some ef) (Same.refl _)⟩
      · exact iteB (by simpa using h) (k2 _ (if_neg h) (Same.refl _))
    intro H7 s7 eD3
    have po := fm_ones2 zs z3
    rw [z2, ones_rows] at po
    generalize (zs.filterMap fun z => if z.2.2 = true then some (fstO H6 z.1) else none) = os at eD3 po
    obtain ⟨on, hon⟩ : ∃ on, on = (spotsIn L (ks.map (·.1))).filter fun s => dot (codeS L s) v := ⟨_, rfl⟩
    rw [← hon] at po
    have so1 : SpOk (spotsOf L.kps) := spots_ok ok
    have onok : SpOk on := fun s hs => so1 s (by rw [hon] at hs; exact (List.mem_filter.mp (List.mem_filter.mp hs).1).1)
    have s57 := s6.trans s7
    have s47 := s5.trans s57
    have po7 : Paired (RelS H7) os on := Paired.mapP po fun v s r => RelS.keep _ _ _ _ (.of s7) r
    have hp7 := s47 _ _ hp4
    have pr7 : Paired (RelSm H7) us sums := Paired.mapP pr4 fun v s r => RelSm.keep _ _ _ _ (.of s47) r
    have k7 : ∀ H', Same H7 H' → Q (.str (stv (ansV L kq v))) H' := fun H' s' => k H' ((s14.trans s47).trans s')
    clear pw z1 z2 z3 zl zs po
    obtain ⟨zs, z1, z2, z3⟩ := paired_zip pr7
    have zl : zs.length = kq.2.length := by rw [← sl, ← z2, List.length_map]
    refine ⟨⟨_, rfl⟩, _, rfl, p, rfl, ⟨_, SqT.of hp7⟩, fun D4 nD4 => lc_fm (walk_tup (a := p) (xs := us)) zs (fun z => some (.str (stv [decide ((z.2.filter fun s => dot (codeS L s) v).length % 2 = 1)]))) (by rw [← z1, List.length_map]) (by omega) nD4 (fun H s => sqT_same s (SqT.of hp7)) ?_ ?_⟩
    · rintro i u ⟨zv, ss⟩ H8 H8' R Rn hz s8 ⟨rfl, hu⟩ k1 k2
      obtain ⟨a, ws, et, ea, pa⟩ := z3 _ (List.mem_of_getElem? hz)
      dsimp only at et ea pa
      subst et
      obtain rfl : V.ref a = u := by
        rw [← z1, List.getElem?_map, hz] at hu
        exact Option.some.inj hu
      have sm : ss ∈ sums := by rw [← z2]; exact List.mem_map.mpr ⟨_, List.mem_of_getElem? hz, rfl⟩
      have sin := so.sub ss sm
      have ss12 := slen ss sm
      obtain ⟨ys, y1, y2, y3⟩ := paired_zip pa
      have yl : ys.length = ss.length := by rw [← y2, List.length_map]
      refine ⟨rfl, _, rfl, a, rfl, ⟨_, SqT.of (s8 _ _ ea)⟩, fun D5 nD5 => lc_fm (walk_tup (a := a) (xs := ws)) ys (fun y => if dot (codeS L y.2) v = true then some y.1 else none) (by rw [← y1, List.length_map]) (by rw [← y1, List.length_map]; omega) nD5 (fun H s => sqT_same s (SqT.of (s8 _ _ ea))) ?_ ?_⟩
      · rintro j u ⟨yv, y⟩ H9 H9' R2 Rn2 hy s9 ⟨rfl, hu⟩ g1 g2
        obtain ⟨t, et, eh⟩ := y3 _ (List.mem_of_getElem? hy)
        dsimp only at et eh
        subst et
        obtain rfl : V.ref t = u := by
          rw [← y1, List.getElem?_map, hy] at hu
          exact Option.some.inj hu
        have sH := s8.trans s9
        have ym : y ∈ ss := by rw [← y2]; exact List.mem_map.mpr ⟨_, List.mem_of_getElem? hy, rfl⟩
        have yi := sin.subset ym
        refine ⟨rfl, _, rfl, _, rfl, spD y, on.map spD, .tup (SqT.of (sH _ _ eh)) (.cons (.str _) (.cons (.int _) .nil)), .lst (SqL.of (sH _ _ eD3)) (dp_spots (Paired.mapP po7 fun v s r => RelS.keep _ _ _ _ (.of sH) r)), spD_shaped (so1 y (List.mem_filter.mp yi).1), spDs_shapedL onok, _, rfl, ?_⟩
        rw [spDs_any]
        have mm : y ∈ on ↔ dot (codeS L y) v = true := by rw [hon, List.mem_filter]; exact ⟨fun h => h.2, fun h => ⟨yi, h⟩⟩
        by_cases h : dot (codeS L y) v = true
        · exact iteA (decide_eq_true (mm.mpr h)) ⟨_, rfl, g1 _ _ (if_pos h) (Same.refl _)⟩
        · exact iteB (decide_eq_false fun z => h (mm.mp z)) (g2 _ (if_neg h) (Same.refl _))
      · intro H9 s9 eD5
        obtain ⟨N, hN⟩ : ∃ N, N = (ss.filter fun s => dot (codeS L s) v).length := ⟨_, rfl⟩
        have hl : (ys.filterMap fun y => if dot (codeS L y.2) v = true then some y.1 else none).length = N := by
          rw [hN, ← y2]
          exact fm_len (q := fun s => dot (codeS L s) v) ys
        generalize (ys.filterMap fun y => if dot (codeS L y.2) v = true then some y.1 else none) = xs at eD5 hl
        refine ⟨D5, _, rfl, .inl (SqL.of eD5), N, by rw [hl], rfl, ?_⟩
        have m2 : N % 2 = 0 ∨ N % 2 = 1 := by omega
        rcases m2 with m | m
        · refine ⟨"01", _, 48, rfl, rfl, by rw [sizeLine_eq]; decide, by rw [m]; rfl, ?_⟩
          refine k1 _ _ ?_ s9
          dsimp only
          rw [← hN, m]
          exact congrArg (fun z => some (V.str z)) stv_f
        · refine ⟨"01", _, 49, rfl, rfl, by rw [sizeLine_eq]; decide, by rw [m]; rfl, ?_⟩
          refine k1 _ _ ?_ s9
          dsimp only
          rw [← hN, m]
          exact congrArg (fun z => some (V.str z)) stv_t
    · intro H8 s8 eD4
      have fe : (zs.filterMap fun z => some (V.str (stv [decide ((z.2.filter fun s => dot (codeS L s) v).length % 2 = 1)]))) = (((sums.map fun ss => [decide ((ss.filter fun s => dot (codeS L s) v).length % 2 = 1)])).map stv).map V.str := by
        rw [← z2]
        simp [Function.comp_def]
      rw [fe] at eD4
      have rows : (sums.map fun ss => [decide ((ss.filter fun s => dot (codeS L s) v).length % 2 = 1)]).flatten = ansV L kq v := by
        rw [ansV_dots ok hk]
        have e1 : (sums.map fun ss => [decide ((ss.filter fun s => dot (codeS L s) v).length % 2 = 1)]).flatten = sums.map fun ss => decide ((ss.filter fun s => dot (codeS L s) v).length % 2 = 1) := flat_one _ _
        rw [e1]
        refine List.ext_getElem? fun i => ?_
        have od := congrArg (fun l : List (List Str) => l[i]?) so.odd
        rw [List.getElem?_map, List.getElem?_map] at od
        rw [List.getElem?_map, List.getElem?_map]
        cases h1 : sums[i]? with
        | none =>
          cases h2 : (spK kq)[i]? with
          | none => rfl
          | some s => rw [h1, h2] at od; cases od
        | some ss =>
          cases h2 : (spK kq)[i]? with
          | none => rw [h1, h2] at od; cases od
          | some s =>
            rw [h1, h2] at od
            exact congrArg some (sum_par vl (Option.some.inj od)).symm
      refine ⟨"", D4, _, rfl, rfl, .inl (SqL.of eD4), ?_, ?_⟩
      · refine Nat.le_trans (join_le (s := ("" : Str)) (n := 2) (c := 1) (by rw [List.length_map, List.length_map, sl]; exact q2) fun y hy => ?_).1 (by decide)
        obtain ⟨b, hb, rfl⟩ := List.mem_map.mp hy
        obtain ⟨ss, _, rfl⟩ := List.mem_map.mp hb
        rw [stv_len]
        exact Nat.le_refl _
      · rw [join_stv, rows]
        exact k7 _ s8
end
end K6
set_option Elab.async false
set_option linter.all false
set_option maxRecDepth 100000
set_option maxHeartbeats 1500000
namespace K6
open PySem PySem.Spec PyProof.Rows L2 Lk
/-! ### lots without one keeper -/
theorem rowC_inj {n c d : Nat} (hc : c < 2 ^ n) (hd : d < 2 ^ n) (h : rowC n c = rowC n d) : c = d := by
  refine Nat.eq_of_testBit_eq fun i => ?_
  rcases Nat.lt_or_ge i n with hi | hi
  · rw [Nat.testBit_eq_decide_div_mod_eq, Nat.testBit_eq_decide_div_mod_eq]
    have : i ∈ rowC n c ↔ i ∈ rowC n d := by rw [h]
    unfold rowC at this
    rw [List.mem_filter, List.mem_filter, decide_eq_true_iff, decide_eq_true_iff] at this
    have m := List.mem_range.mpr hi
    exact decide_eq_decide.mpr ⟨fun q => (this.mp ⟨m, q⟩).2, fun q => (this.mpr ⟨m, q⟩).2⟩
  · have p := Nat.pow_le_pow_right (n := 2) (by decide) hi
    rw [Nat.testBit_lt_two_pow (Nat.lt_of_lt_of_le hc p), Nat.testBit_lt_two_pow (Nat.lt_of_lt_of_le hd p)]
theorem codes_nodup (n : Nat) : ((List.range (2 ^ n)).map (rowC n)).Nodup := by
  rw [List.nodup_iff_pairwise_ne, List.pairwise_map]
  have : (List.range (2 ^ n)).Pairwise (fun a b => a < 2 ^ n ∧ b < 2 ^ n ∧ a ≠ b) := by
    have h := List.nodup_iff_pairwise_ne.mp (List.nodup_range (n := 2 ^ n))
    refine List.Pairwise.imp_of_mem (fun {a b} ha hb hab => ?_) h
    exact ⟨List.mem_range.mp ha, List.mem_range.mp hb, hab⟩
  exact this.imp fun ⟨h1, h2, h3⟩ e => h3 (rowC_inj h1 h2 e)
def gSh (j p : Nat) : Nat := if p < j then p else p + 1
def gBk (j p : Nat) : Nat := if p < j then p else p - 1
theorem gSh_inj {j a b : Nat} (h : gSh j a = gSh j b) : a = b := by
  unfold gSh at h
  split at h <;> split at h <;> omega
theorem gSh_lt {j a b : Nat} : gSh j a < gSh j b ↔ a < b := by
  unfold gSh
  split <;> split <;> omega
theorem gBk_gSh (j p : Nat) : gBk j (gSh j p) = p := by
  unfold gBk gSh
  by_cases h : p < j
  · rw [if_pos h, if_pos h]
  · rw [if_neg h, if_neg (by omega)]
    omega
theorem gSh_ne (j p : Nat) : gSh j p ≠ j := by
  unfold gSh
  split <;> omega
theorem range_gSh (j : Nat) : ∀ m : Nat, (List.range (j + m)).map (gSh j) = (List.range (j + m + 1)).filter fun p => decide (p ≠ j)
  | 0 => by
    rw [Nat.add_zero, List.range_succ, List.filter_append]
    have e1 : (List.range j).filter (fun p => decide (p ≠ j)) = List.range j := List.filter_eq_self.mpr fun p hp => by
      have := List.mem_range.mp hp
      exact decide_eq_true (by omega)
    have e2 : [j].filter (fun p => decide (p ≠ j)) = [] := by simp
    rw [e1, e2, List.append_nil]
    have : (List.range j).map (gSh j) = (List.range j).map id := List.map_congr_left fun p hp => by
      unfold gSh
      rw [if_pos (List.mem_range.mp hp)]
      rfl
    rw [this, List.map_id]
  | m + 1 => by
    have ih := range_gSh j m
    rw [← Nat.add_assoc, List.range_succ, List.map_append, ih, List.range_succ (n := j + m + 1), List.filter_append]
    have e1 : [j + m + 1].filter (fun p => decide (p ≠ j)) = [j + m + 1] := by
      have : j + m + 1 ≠ j := by omega
      simp [this]
    have e2 : [j + m].map (gSh j) = [j + m + 1] := by
      unfold gSh
      rw [List.map_singleton, if_neg (by omega)]
    rw [e1, e2]
theorem lexLt_g (j : Nat) : ∀ (xs ys : List Nat), HT.lexLt ((xs.map (gSh j)).map fun p : Nat => (p : Int)) ((ys.map (gSh j)).map fun p : Nat => (p : Int)) = HT.lexLt (xs.map fun p : Nat => (p : Int)) (ys.map fun p : Nat => (p : Int))
  | [], [] => rfl
  | [], _ :: _ => rfl
  | _ :: _, [] => rfl
  | x :: xs, y :: ys => by
    have ih := lexLt_g j xs ys
    simp only [List.map_cons, HT.lexLt_cons, ih]
    by_cases e : x = y
    · subst e
      rw [if_pos rfl, if_pos rfl]
    · have e1 : ((x : Nat) : Int) ≠ ((y : Nat) : Int) := fun h => e (Int.ofNat.inj h)
      have e2 : ((gSh j x : Nat) : Int) ≠ ((gSh j y : Nat) : Int) := fun h => e (gSh_inj (Int.ofNat.inj h))
      rw [if_neg e1, if_neg e2]
      refine decide_eq_decide.mpr ?_
      have := gSh_lt (j := j) (a := x) (b := y)
      omega
theorem ltLen_g (j : Nat) (xs ys : List Nat) : ltLen ((xs.map (gSh j)).map fun p : Nat => (p : Int)) ((ys.map (gSh j)).map fun p : Nat => (p : Int)) = ltLen (xs.map fun p : Nat => (p : Int)) (ys.map fun p : Nat => (p : Int)) := by
  unfold ltLen
  rw [lexLt_g]
  simp only [List.length_map]
theorem rows_sh {m j : Nat} (hj : j ≤ m) (a : List Nat) : (a ∈ (List.range (2 ^ (m + 1))).map (rowC (m + 1)) ∧ j ∉ a) ↔ a ∈ ((List.range (2 ^ m)).map (rowC m)).map (·.map (gSh j)) := by
  obtain ⟨k, rfl⟩ : ∃ k, m = j + k := ⟨m - j, by omega⟩
  have G := range_gSh j k
  constructor
  · rintro ⟨h, nj⟩
    obtain ⟨c, hc, rfl⟩ := List.mem_map.mp h
    obtain ⟨c2, hc2, hp⟩ := rowC_has (j + k) fun p => decide (c / 2 ^ (gSh j p) % 2 = 1)
    refine List.mem_map.mpr ⟨rowC (j + k) c2, List.mem_map.mpr ⟨c2, List.mem_range.mpr hc2, rfl⟩, ?_⟩
    have e1 : rowC (j + k) c2 = (List.range (j + k)).filter ((fun p => decide (c / 2 ^ p % 2 = 1)) ∘ gSh j) := List.filter_congr fun p hpr => by
      have := hp p (List.mem_range.mp hpr)
      rw [Bool.eq_iff_iff, decide_eq_true_iff]
      exact this
    rw [e1, ← List.filter_map, G, List.filter_filter]
    refine List.filter_congr fun p hpr => ?_
    by_cases e : p = j
    · subst e
      have : ¬ (c / 2 ^ p % 2 = 1) := fun q => nj (List.mem_filter.mpr ⟨hpr, decide_eq_true q⟩)
      rw [decide_eq_false this, Bool.false_and]
    · rw [decide_eq_true e, Bool.and_true]
  · intro h
    obtain ⟨q, hq, rfl⟩ := List.mem_map.mp h
    obtain ⟨c2, hc2, rfl⟩ := List.mem_map.mp hq
    obtain ⟨c, hc, hp⟩ := rowC_has (j + k + 1) fun p => decide (p ≠ j) && decide (c2 / 2 ^ (gBk j p) % 2 = 1)
    refine ⟨List.mem_map.mpr ⟨c, List.mem_range.mpr hc, ?_⟩, fun hm => ?_⟩
    · have e1 : rowC (j + k + 1) c = ((List.range (j + k + 1)).filter fun p => decide (p ≠ j)).filter fun p => decide (c2 / 2 ^ (gBk j p) % 2 = 1) := by
        rw [List.filter_filter]
        refine List.filter_congr fun p hpr => ?_
        have := hp p (List.mem_range.mp hpr)
        rw [Bool.eq_iff_iff, decide_eq_true_iff, this, Bool.and_comm]
      rw [e1, ← G, List.filter_map]
      congr 1
      refine List.filter_congr fun p _ => ?_
      show decide (c2 / 2 ^ (gBk j (gSh j p)) % 2 = 1) = _
      rw [gBk_gSh]
    · obtain ⟨p, _, e⟩ := List.mem_map.mp hm
      exact gSh_ne j p e
theorem getD_sh {A B : List Str} {z : Str} (p : Nat) (hp : p < (A ++ B).length) : (A ++ z :: B).getD (gSh A.length p) Str.empty = (A ++ B).getD p Str.empty := by
  unfold gSh
  rw [List.getD_eq_getElem?_getD, List.getD_eq_getElem?_getD]
  split
  next h => rw [List.getElem?_append_left h, List.getElem?_append_left h]
  next h =>
    rw [List.getElem?_append_right (by omega), List.getElem?_append_right (by omega), show p + 1 - A.length = (p - A.length) + 1 from by omega, List.getElem?_cons_succ]
/-- the lots without a keeper are those of the others, in the same sequence -/
theorem lots_less {zs : List Str} (nd : zs.Nodup) {z : Str} (hz : z ∈ zs) {rws rw2 : List (List Str)} (h1 : LotsOk zs rws) (h2 : LotsOk (zs.filter fun y => !decide (y ∈ [z])) rw2) : (rws.filter fun r => !decide (z ∈ r)) = rw2 := by
  obtain ⟨A, B, rfl⟩ := List.append_of_mem hz
  have ndp := List.nodup_append.mp nd
  have nB := List.nodup_cons.mp ndp.2.1
  have zA : z ∉ A := fun h => ndp.2.2 z h z List.mem_cons_self rfl
  have fe : (A ++ z :: B).filter (fun y => !decide (y ∈ [z])) = A ++ B := by
    have fA : ∀ C : List Str, z ∉ C → C.filter (fun y => !decide (y ∈ [z])) = C := fun C hC => List.filter_eq_self.mpr fun y hy => by
      have : y ≠ z := fun e => hC (e ▸ hy)
      simp [this]
    rw [List.filter_append, List.filter_cons_of_neg (by simp), fA A zA, fA B nB.1]
  rw [fe] at h2
  obtain ⟨o1, rfl, p1, s1⟩ := h1
  obtain ⟨o2, rfl, p2, s2⟩ := h2
  have ln : (A ++ z :: B).length = (A ++ B).length + 1 := by rw [List.length_append, List.length_append, List.length_cons]; omega
  obtain ⟨m, hm⟩ : ∃ m, m = (A ++ B).length := ⟨_, rfl⟩
  rw [ln, ← hm] at p1
  rw [← hm] at p2
  have jm : A.length ≤ m := by rw [hm, List.length_append]; omega
  have n1 : o1.Nodup := p1.nodup_iff.mpr (codes_nodup (m + 1))
  have n2 : o2.Nodup := p2.nodup_iff.mpr (codes_nodup m)
  have gI : ∀ {a b : List Nat}, a.map (gSh A.length) = b.map (gSh A.length) → a = b := fun h => (List.map_inj_right (fun _ _ e => gSh_inj e)).mp h
  have n2' : (o2.map (·.map (gSh A.length))).Nodup := by
    rw [List.nodup_iff_pairwise_ne, List.pairwise_map]
    exact (List.nodup_iff_pairwise_ne.mp n2).imp fun h e => h (gI e)
  have pp : (o1.filter fun q => !decide (A.length ∈ q)).Perm (o2.map (·.map (gSh A.length))) := by
    refine (List.perm_ext_iff_of_nodup (n1.sublist List.filter_sublist) n2').mpr fun a => ?_
    rw [List.mem_filter, (p2.map (·.map (gSh A.length))).mem_iff, ← rows_sh jm, p1.mem_iff]
    simp
  have eq : (o1.filter fun q => !decide (A.length ∈ q)) = o2.map (·.map (gSh A.length)) := pw_uniqR (R := fun x y : List Nat => ltLen (y.map fun p : Nat => (p : Int)) (x.map fun p : Nat => (p : Int)) = false) (fun a b h g => by
    have := ltLen_anti g h
    exact (List.map_inj_right (fun _ _ e => Int.ofNat.inj e)).mp this) (s1.sublist List.filter_sublist) (by
      rw [List.pairwise_map]
      refine List.Pairwise.imp (fun {x y} h => ?_) s2
      rw [ltLen_g]
      exact h) pp
  rw [List.filter_map]
  have cg : o1.filter ((fun r => !decide (z ∈ r)) ∘ namesAt (A ++ z :: B)) = o1.filter fun q => !decide (A.length ∈ q) := by
    refine List.filter_congr fun q hq => ?_
    obtain ⟨c, hc, rfl⟩ := List.mem_map.mp (p1.mem_iff.mp hq)
    have : z ∈ namesAt (A ++ z :: B) (rowC (m + 1) c) ↔ A.length ∈ rowC (m + 1) c := by
      unfold namesAt
      constructor
      · intro h
        obtain ⟨p, hp, e⟩ := List.mem_map.mp h
        have pl : p < (A ++ z :: B).length := by rw [ln, ← hm]; exact rowC_lt hp
        have zl : A.length < (A ++ z :: B).length := by rw [ln, ← hm]; omega
        have e2 : (A ++ z :: B)[p]? = (A ++ z :: B)[A.length]? := by
          rw [List.getD_eq_getElem?_getD, List.getElem?_eq_getElem pl] at e
          have e3 : (A ++ z :: B)[A.length]? = some z := by simp
          rw [e3, List.getElem?_eq_getElem pl]
          exact congrArg some e
        have := (List.getElem?_inj pl nd).mp e2
        rw [← this]
        exact hp
      · intro h
        refine List.mem_map.mpr ⟨A.length, h, ?_⟩
        simp [List.getD_eq_getElem?_getD]
    show (!decide (z ∈ namesAt (A ++ z :: B) (rowC (m + 1) c))) = _
    rw [decide_eq_decide.mpr this]
  rw [cg, eq, List.map_map]
  refine List.map_congr_left fun q hq => ?_
  obtain ⟨c, hc, rfl⟩ := List.mem_map.mp (p2.mem_iff.mp hq)
  show namesAt (A ++ z :: B) ((rowC m c).map (gSh A.length)) = namesAt (A ++ B) (rowC m c)
  unfold namesAt
  rw [List.map_map]
  refine List.map_congr_left fun p hp => ?_
  exact getD_sh p (by rw [← hm]; exact rowC_lt hp)
end K6
set_option Elab.async false
set_option linter.all false
set_option maxRecDepth 100000
set_option maxHeartbeats 1500000
set_option pp.maxSteps 1200
set_option pp.deepTerms false
namespace K6
open PySem PySem.Spec PyProof.Rows L2 Lk
abbrev sRefNo : Stmt := top 75
abbrev sHelping : Stmt := top 72
theorem restL_eq (L : Lore) (z : Str) : ((L.kps.map (·.1)).filter fun y => !decide (y ∈ [z])).Sublist (L.kps.map (·.1)) := List.filter_sublist
def othersL (L : Lore) (z : Str) : List Str := (L.kps.map (·.1)).filter fun y => !decide (y ∈ [z])
theorem leastF_two (a b : List Str → Bool) (rws : List (List Str)) : leastF (fun r => decide (r ∈ (rws.filter a).filter b)) rws = leastF b (rws.filter a) := by
  rw [← leastF_filter, ← leastF_filter b, List.filter_filter]
  congr 1
  refine List.filter_congr fun r hr => ?_
  rw [Bool.eq_iff_iff, decide_eq_true_iff, List.mem_filter]
  exact ⟨fun h => h.2, fun h => ⟨hr, h⟩⟩
section
variable {P : Program} {w : World} {K : PySem.W.Frag} {mg : Str → Option Value} {base : Heap} {f : Addr} {fd : FuncData}
/-! ### refuse_no_help -/
def spRefNo (C CS CN : Addr) : Sp := fun vs H Q E => ∃ (x t : Addr) (L : Lore) (kq : KP) (ys : List Str), vs = [.ref x, .str kq.1, .ref t] ∧ ShAt H C CS x L ∧ LoreOk L ∧ kq ∈ L.kps ∧ LotAt H t ys ∧
  (∀ m, firstN L ys kq = some m → ∀ d H', Same H H' → H d = none → H' d = some (.xd [("value", .int (m : Int))]) → E (.ref CN) (some d) H') ∧
  (firstN L ys kq = none → ∀ H', Same H H' → Q .non H')
theorem scRefNo : FnScope ["shelf", "keeper", "helpers", "number"] ["shelf", "keeper", "helpers"] (defScope sRefNo) := ⟨rfl, rfl, rfl, by decide +kernel, rfl, by decide +kernel, by decide +kernel⟩
theorem ok_refNo {C CS CN fI f1 : Addr} {fdI fd1 : FuncData} (F : Fun K "refuse_no_help" "refuse_no_help" sRefNo f fd) (T : ErC K CN fI) (TK : ErK K fI) (mU : mg "NoHelp" = some (.ref CN))
    (GI : FnOk P w K mg base CX0 1 fI fdI ["self", "value"] (spInitV K fI)) (bI : Binds K fdI ["self", "value"] [])
    (G1 : FnOk P w K mg base CX0 3 f1 fd1 ["shelf", "keeper", "helpers"] (spFirstLost C CS)) (a1 : At K mg "first_lost" f1 fd1 ["shelf", "keeper", "helpers"]) :
    FnOk P w K mg base (L2.CX P w) 4 f fd ["shelf", "keeper", "helpers"] (spRefNo C CS CN) := by
  refine F.okX scRefNo (fun vs H Q E h => ?_) (fun cdv A outer s H vs Q E hr h => ?_)
  · obtain ⟨x, t, L, kq, ys, rfl, _⟩ := h
    rfl
  · obtain ⟨x, t, L, kq, ys, rfl, sh, ok, hk, lot, bad, good⟩ := h
    have nd := scRefNo.nd
    have hr2 : Room 2 _ := hr.mono (by decide)
    refine ⟨_, pss_cons (ps_set (i := 3) nd rfl (.inl rfl) (pe_call G1 hr (by rfl) a1.m a1.kp a1.b .nil pass0 (pa_cons (pv 0) (pa_cons (pv 1) (pa_cons (pv 2) pa_nil)))))
      (pss_one (ps_if (pt_cmpR op_notN (pv 3) pe_non (nomark _)) (pss_one (ps_raise rfl (takes_of rfl rfl rfl rfl) (pmk_oex T.oex T.init TK.fn GI hr2 bI .nil pass0 (by rfl) mU (pa_cons (pv 3) pa_nil)))) pss_nil)), ?_⟩
    refine ⟨_, rfl, _, rfl, _, rfl, x, t, L, kq, ys, rfl, sh, ok, hk, lot, fun H1 s1 => ?_⟩
    cases hf : firstN L ys kq with
    | none => exact ⟨_, rfl, rfl, _, rfl, iteB rfl (good hf H1 s1)⟩
    | some m =>
      refine ⟨_, rfl, rfl, _, rfl, iteA rfl ⟨_, rfl, ?_⟩⟩
      exact made_oex T fun d H' s4 nd' e => bad m hf d H' (s1.trans s4) (by
        cases z : H d with
        | none => rfl
        | some o => rw [s1 _ _ z] at nd'; cases nd') e
/-! ### helping -/
def spHelping (C CS CN : Addr) : Sp := fun vs H Q E => ∃ (x : Addr) (L : Lore) (kq : KP), vs = [.ref x, .str kq.1] ∧ ShAt H C CS x L ∧ LoreOk L ∧ kq ∈ L.kps ∧
  (∀ m, firstN L (othersL L kq.1) kq = some m → ∀ d H', Same H H' → H d = none → H' d = some (.xd [("value", .int (m : Int))]) → E (.ref CN) (some d) H') ∧
  (firstN L (othersL L kq.1) kq = none → ∀ q us rws H', Same H H' → H' q = some (.tup us) → LotsOk (L.kps.map (·.1)) rws → Paired (RelT H') us (leastF (fun r => (firstN L r kq).isNone) (rws.filter fun r => !decide (kq.1 ∈ r))) → Q (.ref q) H')
abbrev nmHg : List Str := ["shelf", "keeper", "others", "rows", "lot"]
theorem scHelping : FnScope nmHg ["shelf", "keeper"] (defScope sHelping) := ⟨rfl, rfl, rfl, by decide +kernel, rfl, by decide +kernel, by decide +kernel⟩
theorem ok_helping {C CS CN fC fS f1 f2 f3 f4 f5 fR : Addr} {fd1 fd2 fd3 fd4 fd5 fdR : FuncData} (F : Fun K "helping" "helping" sHelping f fd) (CC : CircC K C fC) (SC : ShC K CS fS)
    (G1 : FnOk P w K mg base CX0 2 f1 fd1 ["shelf", "value"] (spRefKeeper C CS)) (a1 : At K mg "refuse_keeper" f1 fd1 ["shelf", "value"])
    (G2 : FnOk P w K mg base (L2.CX P w) 4 f2 fd2 ["shelf", "keeper", "helpers"] (spRefNo C CS CN)) (a2 : At K mg "refuse_no_help" f2 fd2 ["shelf", "keeper", "helpers"])
    (G3 : FnOk P w K mg base CX0 3 f3 fd3 ["circle"] (spLots C)) (a3 : At K mg "lots" f3 fd3 ["circle"])
    (G4 : FnOk P w K mg base CX0 4 f4 fd4 ["shelf", "keeper", "helpers"] (spMakes C CS)) (a4 : At K mg "makes" f4 fd4 ["shelf", "keeper", "helpers"])
    (G5 : FnOk P w K mg base CX0 4 f5 fd5 ["circle", "some"] (spLeast C)) (a5 : At K mg "least_of" f5 fd5 ["circle", "some"])
    (GR : FnOk P w K mg base CX0 3 fR fdR ["self", "lot"] (spCRest C)) (kR : PySem.W.keepIn K (.ref fR) = true) (bR : Binds K fdR ["self", "lot"] []) (MR : MethC K C "rest" fR) :
    FnOk P w K mg base (L2.CX P w) 5 f fd ["shelf", "keeper"] (spHelping C CS CN) := by
  refine F.okX scHelping (fun vs H Q E h => ?_) (fun cdv A outer s H vs Q E hr h => ?_)
  · obtain ⟨x, L, kq, rfl, _⟩ := h
    rfl
  · obtain ⟨x, L, kq, rfl, sh, ok, hk, bad, good⟩ := h
    have nd := scHelping.nd
    have hr1 : Room 1 _ := hr.mono (by decide)
    have hr2 : Room 2 _ := hr.mono (by decide)
    have hr3 : Room 3 _ := hr.mono (by decide)
    refine ⟨_, pss_cons (ps_expr (pe_call G1 hr2 (by rfl) a1.m a1.kp a1.b .nil pass0 (pa_cons (pv 0) (pa_cons (pv 1) pa_nil))))
      (pss_cons (ps_set (i := 2) nd rfl (by first | exact .inl rfl | exact .inr rfl) (pe_meth (pe_fld (pv 0) rfl) CC.cls ⟨MR.at_, MR.fn, kR⟩ GR hr3 bR .nil pass0 (pa_cons (pe_tup (pa_cons (pv 1) pa_nil)) pa_nil)))
      (pss_cons (ps_expr (pe_call G2 hr (by rfl) a2.m a2.kp a2.b .nil (passes_call (W := fun cls d _ H => E cls d H) (takes_of rfl rfl rfl rfl) (fun _ _ _ _ h => h)) (pa_cons (pv 0) (pa_cons (pv 1) (pa_cons (pv 2) pa_nil)))))
      (pss_cons (ps_setLc (i := 3) (own := [("lot", 4)]) (g := gName 4) (tt := tTest (tOp (rIn K true) (tVar 1) (tVar 4))) (te := tVar 4) rfl nd rfl rfl (sw_true rfl rfl rfl (by decide +kernel)) (pi_tup (pe_call G3 hr3 (by rfl) a3.m a3.kp a3.b .nil pass0 (pa_cons (pe_fld (pv 0) rfl) pa_nil)))
          (blkOk_by (N := nmHg) (sc := defScope sHelping) (by decide +kernel)) (fun _ _ _ _ _ => pg_name (i := 4) nd rfl (by first | exact .inl rfl | exact .inr rfl)) (fun _ _ _ _ _ => pts_one (pt_cmpR op_notIn_seq (pv 1) (pv 4) rfl)) (fun _ _ _ _ _ => pv 4))
      (pss_one (ps_ret (pe_call G5 hr (by rfl) a5.m a5.kp a5.b .nil pass0 (pa_cons (pe_fld (pv 0) rfl) (pa_cons (pe_lc (own := [("lot", 4)]) (g := gName 4) (tt := tB (tCall (spMakes C CS) [] E0 (tCons (tVar 0) (tCons (tVar 1) (tCons (tVar 4) tNil))))) (te := tVar 4) rfl nd (pi_list (pv 3))
          (blkOk_by (N := nmHg) (sc := defScope sHelping) (by decide +kernel)) (fun _ _ _ _ _ => pg_name (i := 4) nd rfl (by first | exact .inl rfl | exact .inr rfl)) (fun _ _ _ _ _ => pts_one (pt_val (pe_call G4 hr (by rfl) a4.m a4.kp a4.b .nil pass0 (pa_cons (pv 0) (pa_cons (pv 1) (pa_cons (pv 4) pa_nil)))))) (fun _ _ _ _ _ => pv 4)) pa_nil)))))))), ?_⟩
    obtain ⟨dx, fs, hx, sf, _⟩ := id sh
    obtain ⟨c, lc, ca⟩ := sf.circle
    obtain ⟨cdx, nm, ec, en⟩ := id ca
    have nok := nmOk ok
    have k6 := ok.k6
    have kn : kq.1 ∈ L.kps.map (·.1) := List.mem_map.mpr ⟨kq, hk, rfl⟩
    refine ⟨_, rfl, _, rfl, x, L, kq, rfl, sh, hk, ?_⟩
    refine ⟨_, rfl, x, CS, dx, fs, .ref c, rfl, hx, SC.cls, SC.circle, lc, c, cdx, _, rfl, ec, rfl, _, rfl, few_ok rfl, fun q nq => ?_⟩
    have s1 : Same H (upd H q (.tup [.str kq.1])) := same_new nq
    have eq1 : upd H q (.tup [.str kq.1]) q = some (.tup [.str kq.1]) := upd_same
    generalize upd H q (.tup [.str kq.1]) = H1 at s1 eq1 ⊢
    refine ⟨c, q, L.kps.map (·.1), [kq.1], rfl, ca.same s1, nok, eq1, List.singleton_sublist.mpr kn, fun o H2 s2 eo => ?_⟩
    have s12 := s1.trans s2
    refine ⟨_, rfl, _, rfl, _, rfl, x, o, L, kq, othersL L kq.1, rfl, sh.same s12, ok, hk, eo, fun m hm d H' s3 nd' e => bad m hm d H' (s12.trans s3) ?_ e, fun hn H3 s3 => ?_⟩
    · cases z : H d with
      | none => rfl
      | some o => rw [s12 _ _ z] at nd'; cases nd'
    have s13 := s12.trans s3
    have hx3 := s13 _ _ hx
    have good := good hn
    refine ⟨_, rfl, x, CS, dx, fs, .ref c, rfl, hx3, SC.cls, SC.circle, lc, c, L.kps.map (·.1), rfl, ca.same s13, by rw [List.length_map]; exact k6, fun r us rws H4 s4 er pu lo => ?_⟩
    have s14 := s13.trans s4
    have r64 := lots_64 lo (by rw [List.length_map]; exact k6)
    have fin : ∀ q us H', Same H4 H' → H' q = some (.tup us) → Paired (RelT H') us (leastF (fun r => (firstN L r kq).isNone) (rws.filter fun r => !decide (kq.1 ∈ r))) → Q (.ref q) H' := fun q us H' s e p => good q us rws H' (s14.trans s) e lo p
    clear good bad s1 s2 s3 s12 s13 eq1 eo
    obtain ⟨zs, z1, z2, z3⟩ := paired_zip pu
    have zl : zs.length = rws.length := by rw [← z2, List.length_map]
    refine ⟨r, rfl, ⟨_, SqT.of er⟩, fun D nD => lc_fm (walk_tup (a := r) (xs := us)) zs (fun z => if (!decide (kq.1 ∈ z.2)) = true then some z.1 else none) (by rw [← z1, List.length_map]) (by rw [← z1, List.length_map]; omega) nD (fun H s => sqT_same s (SqT.of er)) ?_ ?_⟩
    · rintro i u ⟨zv0, row⟩ H7 H7' R Rn hz s7 ⟨rfl, hu2⟩ k1 k2
      obtain ⟨t, et, eh⟩ := z3 _ (List.mem_of_getElem? hz)
      dsimp only at et eh
      subst et
      obtain rfl : V.ref t = u := by
        rw [← z1, List.getElem?_map, hz] at hu2
        exact Option.some.inj hu2
      refine ⟨rfl, _, rfl, _, rfl, t, _, rfl, .inr (SqT.of (s7 _ _ eh)), rfl, flat_strs _, _, rfl, ?_⟩
      rw [inV_str]
      by_cases hb : kq.1 ∈ row
      · exact iteB (by simp [hb]) (k2 _ (by simp [hb]) (Same.refl _))
      · exact iteA (by simp [hb]) ⟨_, rfl, k1 _ _ (by simp [hb]) (Same.refl _)⟩
    intro H5 s5 eD
    rw [fm_rowsR (fun r => !decide (kq.1 ∈ r))] at eD
    have p5 : Paired (RelT H5) ((zs.filter fun z => !decide (kq.1 ∈ z.2)).map (·.1)) (rws.filter fun r => !decide (kq.1 ∈ r)) := by
      have e : (rws.filter fun r => !decide (kq.1 ∈ r)) = (zs.filter fun z => !decide (kq.1 ∈ z.2)).map (·.2) := by
        rw [← z2, List.filter_map]
        rfl
      rw [e]
      exact paired_of fun z hz => RelT.keepP (.of s5) _ _ (z3 z (List.mem_filter.mp hz).1)
    generalize (zs.filter fun z => !decide (kq.1 ∈ z.2)).map (·.1) = vs at eD p5
    obtain ⟨rs, hrs⟩ : ∃ rs, rs = rws.filter fun r => !decide (kq.1 ∈ r) := ⟨_, rfl⟩
    rw [← hrs] at p5
    have rs64 : rs.length ≤ 64 := by rw [hrs]; exact Nat.le_trans (List.length_filter_le _ _) r64
    clear z1 z2 z3 zl zs pu er nD
    obtain ⟨zs, z1, z2, z3⟩ := paired_zip p5
    have zl : zs.length = rs.length := by rw [← z2, List.length_map]
    have s35 := s4.trans s5
    have s05 := s14.trans s5
    have hx5 := s05 _ _ hx
    have sh5 := sh.same s05
    refine ⟨_, rfl, x, CS, dx, fs, .ref c, rfl, hx5, SC.cls, SC.circle, lc, _, rfl, D, rfl, ⟨_, SqL.of eD⟩, fun D2 nD2 => lc_fm (walk_list (a := D) (xs := vs)) zs (fun z => if (firstN L z.2 kq).isNone = true then some z.1 else none) (by rw [← z1, List.length_map]) (by rw [← z1, List.length_map]; omega) nD2 (fun H s => s.seq (SqL.of eD)) ?_ ?_⟩
    · rintro i u ⟨zv0, row⟩ H7 H7' R Rn hz s7 ⟨rfl, hu2⟩ k1 k2
      obtain ⟨t, et, eh⟩ := z3 _ (List.mem_of_getElem? hz)
      dsimp only at et eh
      subst et
      obtain rfl : V.ref t = u := by
        rw [← z1, List.getElem?_map, hz] at hu2
        exact Option.some.inj hu2
      refine ⟨rfl, _, rfl, _, rfl, _, rfl, x, t, L, kq, row, rfl, sh5.same s7, ok, hk, s7 _ _ eh, fun H8 s8 => ⟨_, rfl, ?_⟩⟩
      cases hb : (firstN L row kq).isNone with
      | true => exact iteT ⟨_, rfl, k1 _ _ (if_pos hb) s8⟩
      | false => exact iteB rfl (k2 _ (if_neg (by rw [hb]; decide)) s8)
    · intro H6 s6 eD2
      rw [fm_rowsR (fun r => (firstN L r kq).isNone)] at eD2
      have p6 : Paired (RelT H6) ((zs.filter fun z => (firstN L z.2 kq).isNone).map (·.1)) (rs.filter fun r => (firstN L r kq).isNone) := by
        have e : (rs.filter fun r => (firstN L r kq).isNone) = (zs.filter fun z => (firstN L z.2 kq).isNone).map (·.2) := by
          rw [← z2, List.filter_map]
          rfl
        rw [e]
        exact paired_of fun z hz => RelT.keepP (.of s6) _ _ (z3 z (List.mem_filter.mp hz).1)
      refine ⟨c, D2, L.kps.map (·.1), _, _, rfl, ca.same (s05.trans s6), nok, by rw [List.length_map]; exact k6, eD2, p6, fun r hr => lots_sub lo (by
        have := (List.mem_filter.mp hr).1
        rw [hrs] at this
        exact (List.mem_filter.mp this).1), Nat.le_trans (List.length_filter_le _ _) rs64, fun q us2 rws2 H7 s7 eq pu2 lo2 => ?_⟩
      obtain rfl := lots_uniq lo lo2
      rw [hrs, leastF_two] at pu2
      exact fin q us2 H7 ((s5.trans s6).trans s7) eq pu2
end
end K6
set_option Elab.async false
set_option linter.all false
set_option maxRecDepth 100000
set_option maxHeartbeats 1500000
set_option pp.maxSteps 1200
set_option pp.deepTerms false
namespace K6
open PySem PySem.Spec PyProof.Rows L2 Lk
abbrev sLSpots : Stmt := top 101
abbrev sLPAt : Stmt := top 102
abbrev sLComes : Stmt := top 103
def rInt1 : List V → Hp → VK → Prop := fun xs H Q => (∃ i, xs = [.int i] ∧ Q (.int i) H) ∨ ∃ k, xs = [.bl k] ∧ Q (.int (if k = true then 1 else 0)) H
theorem sum_in (p : Str) : ∀ qs : List (List Str), (qs.map fun q => if decide (p ∈ q) = true then (1 : Int) else 0).sum = ((cntP p qs : Nat) : Int)
  | [] => rfl
  | q :: qs => by
    have ih := sum_in p qs
    unfold cntP at ih ⊢
    by_cases m : p ∈ q
    · rw [List.map_cons, List.sum_cons, ih, if_pos (decide_eq_true m), List.filter_cons_of_pos (by simpa using m), List.length_cons]
      omega
    · rw [List.map_cons, List.sum_cons, ih, if_neg (by simpa using m), List.filter_cons_of_neg (by simpa using m)]
      omega
section
variable {P : Program} {w : World} {K : PySem.W.Frag} {mg : Str → Option Value} {base : Heap} {f : Addr} {fd : FuncData}
/-! ### _law_spots -/
def spLSpots (K : PySem.W.Frag) : Sp := fun vs H Q _ => ∃ (lo q : Addr) (L : Lore) (ys : List Str), vs = [.ref lo, .ref q] ∧ LoreAt H lo L ∧ LoreOk L ∧ Sq K H q (ys.map V.str) ∧
  ∀ p ts H', Same H H' → H p = none → H' p = some (.lst ts) → Paired (RelS H') ts (spotsIn L ys) → Q (.ref p) H'
abbrev nmLS : List Str := ["lore", "lot", "found", "name", "some", "at"]
theorem scLSpots : FnScope nmLS ["lore", "lot"] (defScope sLSpots) := ⟨rfl, rfl, rfl, by decide +kernel, rfl, by decide +kernel, by decide +kernel⟩
theorem ok_lspots (F : Fun K "_law_spots" "_law_spots" sLSpots f fd) (T : Bl mg) (hZ : mg "zip" = none) : FnOk P w K mg base CX0 1 f fd ["lore", "lot"] (spLSpots K) := by
  refine F.ok scLSpots (fun vs H Q E h => ?_) (fun cdv A outer s H vs Q E hr h => ?_)
  · obtain ⟨lo, q, L, ys, rfl, _⟩ := h
    rfl
  · obtain ⟨lo, q, L, ys, rfl, la, ok, hq, k⟩ := h
    have nd := scLSpots.nd
    have hu := hu_of hr
    refine ⟨_, pss_cons (ps_set (i := 2) nd rfl (.inl rfl) (pe_lst pa_nil))
      (pss_cons (ps_for PassesOwn.never rfl (RZ.pi_zipA (by rfl) hZ (pa_cons (pe_dget hu (pv 0) pe_str (fun _ _ => rfl)) (pa_cons (pe_dget hu (pv 0) pe_str (fun _ _ => rfl)) pa_nil))) (pg_tup rfl (pgs_cons (pg_name (i := 3) nd rfl (by first | exact .inl rfl | exact .inr rfl)) (pgs_cons (pg_name (i := 4) nd rfl (by first | exact .inl rfl | exact .inr rfl)) pgs_nil)))
          (pss_one (ps_if (pt_cmpR op_in_seq (pv 3) (pv 1) rfl) (pss_one (ps_expr (pe_bm PySem.F.plainAttrs_list PySem.F.slot_list_extend PySem.F.type_list_extend mt_extend (pv 2) (pa_cons
            (pe_lc (own := [("at", 5)]) (g := gName 5) (tt := tYes) (te := tTup (tCons (tVar 3) (tCons (tVar 5) tNil))) rfl nd
              (pi_range1 (by rfl) T.range (pa_cons (pe_callB call_len_seq (by rfl) T.len PySem.boot_len (pa_cons (pv 4) pa_nil)) pa_nil)) (blkOk_by (N := nmLS) (sc := defScope sLSpots) (by decide +kernel))
              (fun _ _ _ _ _ => pg_name (i := 5) nd rfl (by first | exact .inl rfl | exact .inr rfl)) (fun _ _ _ _ _ => pts_nil) (fun _ _ _ _ _ => pe_tup (pa_cons (pv 3) (pa_cons (pv 5) pa_nil)))) pa_nil)))) pss_nil)))
        (pss_one (ps_ret (pv 2)))), ?_⟩
    have k6 := ok.k6
    obtain ⟨pa, nm, pt, rows, e1, e2, e3, e4, e5⟩ := id la
    have rwl : rows.length = L.kps.length := paired_len e5
    refine ⟨Nat.zero_le _, fun fl nf => ?_⟩
    have s1 : Same H (upd H fl (.lst [])) := same_new nf
    have ef1 : upd H fl (.lst []) fl = some (.lst []) := upd_same
    generalize upd H fl (.lst []) = H1 at s1 ef1
    have e1' := e1.same s1
    obtain ⟨zs, hz1, hz2, hz3⟩ := paired_zip e5
    refine ⟨_, rfl, lo, _, rfl, (dget3 e1').2.1, _, rfl, lo, _, rfl, (dget3 e1').2.2, nm, pt, (L.kps.map (·.1)).map V.str, rows, rfl, .inr ⟨(e3.same s1).sq, SqT.of (s1 _ _ e4), ?_⟩⟩
    refine RZ.for_zipT (xs := (L.kps.map (·.1)).map V.str) (ys := rows) (by rw [List.length_map, List.length_map]; omega) (fun i σ H' => ∃ (ts : List V) (u v w : Option V), σ = [some (.ref lo), some (.ref q), some (.ref fl), u, v, w] ∧ H' fl = some (.lst ts) ∧ Paired (RelS H') ts ((spotsOf (L.kps.take i)).filter fun s => decide (s.1 ∈ ys)) ∧ ts.length ≤ 2 * i ∧ Same H H') ?_ ?_ ?_ ?_
    · exact ⟨[], none, none, none, rfl, ef1, .nil, by simp, s1⟩
    · rintro i σ H' ⟨_, _, _, _, _, _, _, _, ss⟩
      exact ⟨(e3.same ss).sq, SqT.of (ss _ _ e4)⟩
    · rintro i x y TT σ H' hx hy ⟨ts, u, v, w, rfl, ef, pr, tl, ss⟩ nTT
      obtain ⟨z, hz⟩ : ∃ z, zs[i]? = some z := by
        rw [← hz1, List.getElem?_map] at hy
        cases e : zs[i]? with
        | none => rw [e] at hy; cases hy
        | some z => exact ⟨z, rfl⟩
      have hy2 : z.1 = y := by rw [← hz1, List.getElem?_map, hz] at hy; exact Option.some.inj hy
      have hk : L.kps[i]? = some z.2 := by rw [← hz2, List.getElem?_map, hz]; rfl
      have hi : i < L.kps.length := (List.getElem?_eq_some_iff.mp hk).1
      obtain rfl : V.str z.2.1 = x := by rw [List.getElem?_map, List.getElem?_map, hk] at hx; exact Option.some.inj hx
      obtain ⟨qq, us, ex, eq, ep⟩ := hz3 z (List.mem_of_getElem? hz)
      obtain ⟨zx, kq⟩ := z
      dsimp only at hy2 hk ex eq ep
      subst hy2
      subst ex
      have km := List.mem_of_getElem? hk
      have ul := ep.length
      have kl := (ok.q kq km).2.1
      have sT : Same H' (upd H' TT (.tup [.str kq.1, .ref qq])) := same_new nTT
      refine ⟨TT, _, rfl, SqT.of upd_same, rfl, _, _, rfl, _, _, rfl, rfl, ?_⟩
      have efT := sT _ _ ef
      have ssT := ss.trans sT
      have prT := Paired.mapP pr fun v s r => RelS.keep _ _ _ _ (.of sT) r
      show _
      generalize upd H' TT (.tup [.str kq.1, .ref qq]) = HT at sT efT ssT prT
      have e1c : spotsOf (L.kps.take (i + 1)) = spotsOf (L.kps.take i) ++ (List.range kq.2.length).map fun m => (kq.1, m) := by
        unfold spotsOf
        rw [List.take_add_one, hk, List.flatMap_append]
        simp
      refine ⟨_, rfl, _, rfl, q, _, rfl, hq.same ssT, rfl, flat_strs _, _, rfl, ?_⟩
      rw [if_neg (show ¬ (false = true) by decide), strs_inV]
      by_cases my : kq.1 ∈ ys
      · refine iteA (decide_eq_true my) ⟨_, rfl, .inl ⟨rfl, _, SqL.of efT⟩, _, rfl, qq, us, rfl, .inr (SqT.of (ssT _ _ eq)), _, rfl, by omega, by omega, fun D nD => ?_⟩
        refine lc_it (walk_range (n := ((us.length : Nat) : Int).toNat)) (fun j H4 => ∃ vs, H4 D = some (.lst vs) ∧ Paired (RelS H4) vs ((List.range j).map fun m => (kq.1, m)) ∧ vs.length ≤ j ∧ Same HT H4) ⟨[], upd_same, by rw [List.range_zero]; exact .nil, Nat.le_refl _, same_new nD⟩ (fun _ _ _ _ => trivial) ?_ ?_
        · rintro j y H4 H4' hj ⟨vs, eD, pv2, vl, s4⟩ ⟨rfl, rfl⟩
          refine ⟨rfl, _, rfl, _, rfl, few_ok rfl, fun p np => ?_⟩
          have eD2 := (same_new (o := .tup [.str kq.1, .int (0 + (j : Nat))]) np) _ _ eD
          have pD : p ≠ D := fun z => by rw [z, eD] at np; cases np
          have kp : Keep H4' (upd (upd H4' p (.tup [.str kq.1, .int (0 + (j : Nat))])) D (.lst (vs ++ [.ref p]))) := (Keep.of (same_new np)).trans (.upd eD2)
          refine ⟨vs, eD2, by rw [sizeLine_eq]; omega, vs ++ [.ref p], upd_same, ?_, by rw [List.length_append]; show vs.length + 1 ≤ _; omega, fun b o e => ?_⟩
          · rw [List.range_succ, List.map_append]
            refine Paired.add (Paired.mapP pv2 fun v s r => RelS.keep _ _ _ _ kp r) ⟨p, rfl, ?_⟩
            rw [upd_ne pD, upd_same]
            show some (HO.tup [V.str kq.1, V.int (0 + (j : Int))]) = _
            rw [Int.zero_add]
          · rw [upd_ne (ne_of_none e nD)]
            exact (same_new np) _ _ (s4 _ _ e)
        · rintro H4 ⟨vs, eD, pv2, vl, s4⟩
          have un : ((us.length : Nat) : Int).toNat = kq.2.length := by omega
          rw [un] at pv2 vl
          have ef4 := s4 _ _ efT
          have kp : Keep H4 (upd H4 fl (.lst (ts ++ vs))) := .upd ef4
          refine ⟨fl, D, ts, vs, rfl, rfl, ef4, eD, by rw [sizeLine_eq]; omega, ts ++ vs, _, _, _, rfl, upd_same, ?_, by rw [List.length_append]; omega, fun b o e => ?_⟩
          · have e2 : ((List.range kq.2.length).map fun m => ((kq.1, m) : Spot)).filter (fun s => decide (s.1 ∈ ys)) = (List.range kq.2.length).map fun m => (kq.1, m) := List.filter_eq_self.mpr fun s hs => by
              obtain ⟨m, _, rfl⟩ := List.mem_map.mp hs
              exact decide_eq_true my
            rw [e1c, List.filter_append, e2]
            exact paired_append (Paired.mapP prT fun v s r => RelS.keep _ _ _ _ ((Keep.of s4).trans kp) r) (Paired.mapP pv2 fun v s r => RelS.keep _ _ _ _ kp r)
          · rw [upd_ne (ne_of_none e nf)]
            exact s4 _ _ (ssT _ _ e)
      · refine iteB (decide_eq_false my) ⟨ts, _, _, _, rfl, efT, ?_, by omega, ssT⟩
        have e2 : ((List.range kq.2.length).map fun m => ((kq.1, m) : Spot)).filter (fun s => decide (s.1 ∈ ys)) = [] := List.filter_eq_nil_iff.mpr fun s hs => by
          obtain ⟨m, _, rfl⟩ := List.mem_map.mp hs
          simpa using my
        rw [e1c, List.filter_append, e2, List.append_nil]
        exact prT
    · rintro σ H' ⟨ts, u, v, w, rfl, ef, pr, tl, ss⟩
      rw [List.length_map, List.length_map, List.take_length] at pr
      exact ⟨_, rfl, k fl ts H' ss nf ef pr⟩
/-! ### _law_piece_at -/
def spLPAt : Sp := fun vs H Q _ => ∃ (lo t : Addr) (L : Lore) (s : Spot), vs = [.ref lo, .ref t] ∧ LoreAt H lo L ∧ LoreOk L ∧ H t = some (.tup [.str s.1, .int (s.2 : Int)]) ∧ s ∈ spotsOf L.kps ∧
  ∀ u, H u = some (.tup ((pieceOf L s).map V.str)) → Q (.ref u) H
theorem scLPAt : FnScope ["lore", "spot"] ["lore", "spot"] (defScope sLPAt) := ⟨rfl, rfl, rfl, by decide +kernel, rfl, by decide +kernel, by decide +kernel⟩
theorem ok_lpat (F : Fun K "_law_piece_at" "_law_piece_at" sLPAt f fd) : FnOk P w K mg base CX0 1 f fd ["lore", "spot"] spLPAt := by
  refine F.ok scLPAt (fun vs H Q E h => ?_) (fun cdv A outer s H vs Q E hr h => ?_)
  · obtain ⟨lo, t, L, s, rfl, _⟩ := h
    rfl
  · obtain ⟨lo, t, L, s, rfl, la, ok, ht, hs, k⟩ := h
    have nd := scLPAt.nd
    have hu := hu_of hr
    obtain ⟨pa, nm, pt, rows, e1, e2, e3, e4, e5⟩ := id la
    obtain ⟨j, kq, hj, n1, n2⟩ := piece_of ok hs
    rw [← n1] at ht
    refine ⟨_, pss_one (ps_ret (pe_ix ix_tup (pe_ix ix_tup (pe_dget hu (pv 0) pe_str (fun _ _ => rfl)) (pe_bmX PySem.F.slot_tuple_index PySem.F.type_tuple_index mt_tup_index (pe_dget hu (pv 0) pe_str (fun _ _ => rfl)) (pa_cons (pe_ix ix_tup (pv 1) pe_int (fun _ _ => rfl)) pa_nil)) (fun _ _ => rfl)) (pe_ix ix_tup (pv 1) pe_int (fun _ _ => rfl)) (fun _ _ => rfl))), ?_⟩
    obtain ⟨v, hv, q, ts, rfl, eq, ep⟩ := paired_get e5 hj
    obtain ⟨v2, hv2, u, rfl, eu⟩ := paired_get ep n2
    have kn : (L.kps.map (·.1))[j]? = some kq.1 := by rw [List.getElem?_map, hj]; rfl
    refine ⟨_, rfl, lo, _, rfl, (dget3 e1).2.2, _, rfl, lo, _, rfl, (dget3 e1).2.1, ⟨nm, _, rfl, e3⟩, _, rfl, t, _, _, _, rfl, rfl, SqT.of ht, at0 rfl, nm, L.kps.map (·.1), kq.1, j, rfl, rfl, e3.sq, kn, first_at ok.kn kn, pt, rows, _, .ref q, rfl, rfl, SqT.of e4, atN hv, ?_⟩
    exact ⟨_, rfl, t, _, _, _, rfl, rfl, SqT.of ht, at1 rfl, q, ts, _, .ref u, rfl, rfl, SqT.of eq, atN hv2, k u eu⟩
/-! ### _law_comes -/
def spLComes : Sp := fun vs H Q _ => ∃ (lo p : Addr) (L : Lore) (ts : List V) (ss : List Spot), vs = [.ref lo, .ref p] ∧ LoreAt H lo L ∧ LoreOk L ∧ H p = some (.tup ts) ∧ Paired (RelS H) ts ss ∧ ss.Sublist (spotsOf L.kps) ∧
  ∀ r H', Same H H' → H' r = some (.tup ((oddL L.parts (ss.map (pieceOf L))).map V.str)) → Q (.ref r) H'
abbrev nmLC : List Str := ["lore", "some", "pieces", "spot", "part", "piece"]
theorem scLComes : FnScope nmLC ["lore", "some"] (defScope sLComes) := ⟨rfl, rfl, rfl, by decide +kernel, rfl, by decide +kernel, by decide +kernel⟩
theorem ok_lcomes {f1 : Addr} {fd1 : FuncData} (F : Fun K "_law_comes" "_law_comes" sLComes f fd) (T : Bl mg) (Cc : Cn mg)
    (G1 : FnOk P w K mg base CX0 1 f1 fd1 ["lore", "spot"] spLPAt) (a1 : At K mg "_law_piece_at" f1 fd1 ["lore", "spot"]) :
    FnOk P w K mg base CX0 2 f fd ["lore", "some"] spLComes := by
  refine F.ok scLComes (fun vs H Q E h => ?_) (fun cdv A outer s H vs Q E hr h => ?_)
  · obtain ⟨lo, p, L, ts, ss, rfl, _⟩ := h
    rfl
  · obtain ⟨lo, p, L, ts, ss, rfl, la, ok, hp, pr, sub, k⟩ := h
    have nd := scLComes.nd
    have hu := hu_of hr
    refine ⟨_, pss_cons (ps_set (i := 2) nd rfl (.inr rfl) (pe_lc (own := [("spot", 3)]) (g := gName 3) (tt := tYes) (te := tCall spLPAt [] E0 (tCons (tVar 0) (tCons (tVar 3) tNil))) rfl nd (pi_tup (pv 1))
          (blkOk_by (N := nmLC) (sc := defScope sLComes) (by decide +kernel)) (fun _ _ _ _ _ => pg_name (i := 3) nd rfl (by first | exact .inl rfl | exact .inr rfl)) (fun _ _ _ _ _ => pts_nil)
          (fun _ _ _ _ _ => pe_call G1 hr (by rfl) a1.m a1.kp a1.b .nil pass0 (pa_cons (pv 0) (pa_cons (pv 3) pa_nil)))))
      (pss_one (ps_ret (pe_tupleOf (by rfl) Cc.tuple (pe_lc (own := [("part", 4)]) (g := gName 4) (tt := tTest (tOp rEq (tOp (rI (fun _ j => 0 < j) fun i j => .int (i % j)) (tCB (rSum K) (tCons (tLc (iList K (tVar 2)) (gName 5) tYes (tCB rInt1 (tCons (tOp (rIn K false) (tVar 4) (tVar 5)) tNil)) [5]) tNil)) (tC (.int 2))) (tC (.int 1)))) (te := tVar 4) rfl nd
          (pi_tup (pe_dget hu (pv 0) pe_str (fun _ _ => rfl))) (blkOk_by (N := nmLC) (sc := defScope sLComes) (by decide +kernel))
          (fun _ _ _ _ _ => pg_name (i := 4) nd rfl (by first | exact .inl rfl | exact .inr rfl))
          (fun _ _ _ _ _ => pts_one (pt_cmpR op_eq (pe_op op_mod (pe_callB (cr_sum rfl) (by rfl) Cc.sum boot_sum (pa_cons (pe_lc (own := [("piece", 5)]) (g := gName 5) (tt := tYes) (te := tCB rInt1 (tCons (tOp (rIn K false) (tVar 4) (tVar 5)) tNil)) rfl nd (pi_list (pv 2))
            (blkOk_by (N := nmLC) (sc := relS (retScope sLComes 1) (defScope sLComes)) (by decide +kernel)) (fun _ _ _ _ _ => pg_name (i := 5) nd rfl (by first | exact .inl rfl | exact .inr rfl)) (fun _ _ _ _ _ => pts_nil)
            (fun _ _ _ _ _ => pe_callTy call_int1 rfl T.int boot_int (pa_cons (pe_cmpR op_in_seq (pv 4) (pv 5) rfl) pa_nil))) pa_nil)) pe_int) pe_int (nomark _)))
          (fun _ _ _ _ _ => pv 4))))), ?_⟩
    obtain ⟨zs, z1, z2, z3⟩ := paired_zip pr
    have sl : ss.length ≤ 12 := Nat.le_trans sub.length_le (spots12 ok)
    have zl : zs.length = ss.length := by rw [← z2, List.length_map]
    have tl : ts.length = zs.length := by rw [← z1, List.length_map]
    refine ⟨_, rfl, p, rfl, ⟨_, SqT.of hp⟩, fun D nD => lc_relQ (walk_tup (a := p) (xs := ts)) nD zs (·.1) (fun y => pieceOf L y.2) RelP RelP.keep z1.symm (by omega) (fun H s => sqT_same s (SqT.of hp)) ?_ ?_⟩
    · rintro i ⟨yv, y⟩ H1 R hy s1 kk
      obtain ⟨t, et, eh⟩ := z3 _ (List.mem_of_getElem? hy)
      dsimp only at et eh
      subst et
      have ym : y ∈ ss := by
        rw [← z2]
        exact List.mem_map.mpr ⟨_, List.mem_of_getElem? hy, rfl⟩
      exact ⟨rfl, _, rfl, _, rfl, lo, t, L, y, rfl, la.same s1, ok, s1 _ _ eh, sub.subset ym, fun u hu => kk _ _ (Same.refl _) ⟨u, rfl, hu⟩⟩
    · intro H1 us s1 eD pu
      have eul : us.length = zs.length := by have := Paired.length pu; rwa [List.length_map] at this
      have e3 : (zs.map fun y => pieceOf L y.2) = ss.map (pieceOf L) := by rw [← z2, List.map_map]; rfl
      rw [e3] at pu
      obtain ⟨pa, nm, pt, rows, e1, e2, _⟩ := la.same s1
      obtain ⟨ws, w1, w2, w3⟩ := paired_zip pu
      have wl : ws.length = us.length := by rw [← w1, List.length_map]
      have p4 := ok.p4
      refine ⟨_, rfl, lo, _, rfl, (dget3 e1).1, pa, rfl, ⟨_, SqT.of e2⟩, fun D2 nD2 => lc_fm (walk_tup (a := pa) (xs := L.parts.map V.str)) L.parts (fun p => if cntP p (ss.map (pieceOf L)) % 2 = 1 then some (V.str p) else none) (by rw [List.length_map]) (by rw [List.length_map]; omega) nD2 (fun H s => sqT_same s (SqT.of e2)) ?_ ?_⟩
      · rintro i u z H2 H2' R Rn hz s2 ⟨rfl, hu⟩ k1 k2
        obtain rfl : V.str z = u := by
          rw [List.getElem?_map, hz] at hu
          exact Option.some.inj hu
        have eD2 := s2 _ _ eD
        refine ⟨rfl, _, rfl, D, rfl, ⟨_, SqL.of eD2⟩, fun D3 nD3 => lc_fm (walk_list (a := D) (xs := us)) ws (fun y => some (V.int (if decide (z ∈ y.2) = true then 1 else 0))) wl (by omega) nD3 (fun H s => s.seq (SqL.of eD2)) ?_ ?_⟩
        · rintro j u ⟨yv, q⟩ H3 H3' R2 Rn2 hy s3 ⟨rfl, hu⟩ g1 g2
          obtain ⟨t, et, eh⟩ := w3 _ (List.mem_of_getElem? hy)
          dsimp only at et eh
          subst et
          obtain rfl : V.ref t = u := by
            rw [← w1, List.getElem?_map, hy] at hu
            exact Option.some.inj hu
          refine ⟨rfl, _, rfl, _, rfl, t, _, rfl, .inr (SqT.of (s3 _ _ (s2 _ _ eh))), rfl, flat_strs _, ?_⟩
          rw [if_neg (show ¬ (false = true) by decide), strs_inV]
          exact .inr ⟨_, rfl, g1 _ _ rfl (Same.refl _)⟩
        · intro H3 s3 eD3
          have fe : (ws.filterMap fun y => some (V.int (if decide (z ∈ y.2) = true then 1 else 0))) = ((ss.map (pieceOf L)).map fun q => if decide (z ∈ q) = true then (1 : Int) else 0).map V.int := by
            rw [← w2]
            simp [Function.comp_def]
          rw [fe] at eD3
          refine ⟨D3, _, rfl, SqL.of eD3, ?_⟩
          rw [sum_in]
          refine ⟨_, _, rfl, rfl, (by decide : (0 : Int) < 2), rfl, _, rfl, ?_⟩
          by_cases h : cntP z (ss.map (pieceOf L)) % 2 = 1
          · exact iteA (decide_eq_true (congrArg V.int (by omega))) ⟨_, rfl, k1 _ _ (if_pos h) s3⟩
          · exact iteB (decide_eq_false fun e => h (by have := V.int.inj e; omega)) (k2 _ (if_neg h) s3)
      · intro H2 s2 eD2
        rw [fm_odd] at eD2
        exact .inl ⟨D2, _, rfl, SqL.of eD2, fun r nr => k r _ ((s1.trans s2).trans (same_new nr)) upd_same⟩
end
end K6
set_option Elab.async false
set_option linter.all false
set_option maxRecDepth 100000
set_option maxHeartbeats 1500000
set_option pp.maxSteps 1200
set_option pp.deepTerms false
namespace K6
open PySem PySem.Spec PyProof.Rows L2 Lk
abbrev sLSum : Stmt := top 104
abbrev sDark : Stmt := top 105
abbrev sDarks : Stmt := top 106
abbrev sDoMake : Stmt := top 107
abbrev sPiecesOf : Stmt := top 108
abbrev sLFirst : Stmt := top 109
theorem ones_dot {L : Lore} {p : List Str} {v : Vec} (h : v.length = L.parts.length) : ((onesN L p (stv v) : Nat) : Int) % 2 = if dot (vecP L.parts p) v = true then 1 else 0 := by
  unfold onesN
  rw [tl_stv, dot_ones _ _ h.symm]
  by_cases m : ((L.parts.zip (v.map bC)).filter fun pc => decide (pc.2 = 49 ∧ pc.1 ∈ p)).length % 2 = 1
  · rw [if_pos (decide_eq_true m)]
    omega
  · rw [if_neg (by simpa using m)]
    omega
theorem dec0 (b : Bool) : decide (V.int (if b = true then 1 else 0) = V.int 0) = !b := by cases b <;> simp
theorem dec1 (b : Bool) : decide (V.int (if b = true then 1 else 0) = V.int 1) = b := by cases b <;> simp
section
variable {P : Program} {w : World} {K : PySem.W.Frag} {mg : Str → Option Value} {base : Heap} {f : Addr} {fd : FuncData}
/-! ### _law_is_int, without its upper end -/
def spLIsN : Sp := fun vs H Q _ => ∃ i lo : Int, vs = [.int i, .int lo, .non] ∧ Q (.bl (decide (lo ≤ i))) H
theorem ok_lisN {ds : List V} {ks : List (Str × V)} (F : FunD K "_law_is_int" "_law_is_int" (defArgs sLIsI) (defBody sLIsI) (defScope sLIsI) ds ks f fd) (T : Bl mg) (hB : mg "bool" = none) : FnOk P w K mg base CX0 1 f fd ["value", "low", "high"] spLIsN := by
  refine FunD.ok F scLIsI (fun vs H Q E h => ?_) (fun cdv A outer s H vs Q E hr h => ?_)
  · obtain ⟨i, lo, rfl, _⟩ := h
    rfl
  · obtain ⟨i, lo, rfl, k⟩ := h
    refine ⟨_, pss_cons (ps_if (PW.pt (pw_or (pt_not (pt_val (pe_callB call_isi (by rfl) T.isin boot_isinstance (pa_cons (pv 0) (pa_cons (pe_bltn (v := .ty "int") (by rfl) T.int rfl rfl) pa_nil)))))
        (pw_or1 (pt_val (pe_callB call_isi (by rfl) T.isin boot_isinstance (pa_cons (pv 0) (pa_cons (pe_bltn (v := .ty "bool") (by rfl) hB rfl rfl) pa_nil))))))) pss_no pss_nil)
      (pss_one (ps_ret (pe_and (pe_cmpR op_le (pv 1) (pv 0) (nomark _)) (pe_one (pe_or (pe_cmpR op_isN (pv 2) pe_non (nomark _)) pe_no))))), ?_⟩
    refine ⟨_, rfl, _, _, _, _, true, rfl, .ty _, .base (.int _), by rfl, _, rfl, iteB rfl ?_⟩
    refine ⟨_, rfl, _, _, _, _, false, rfl, .ty _, .base (.int _), by rfl, _, rfl, iteB rfl ?_⟩
    refine ⟨_, rfl, _, rfl, _, _, rfl, rfl, _, rfl, ?_⟩
    by_cases h1 : lo ≤ i
    · rw [decide_eq_true h1] at k ⊢
      exact iteT ⟨_, rfl, rfl, _, rfl, iteA rfl k⟩
    · rw [decide_eq_false h1] at k ⊢
      exact iteB rfl k
/-! ### _law_is_sum -/
def spLSum (K : PySem.W.Frag) : Sp := fun vs H Q _ => ∃ (lo q p : Addr) (L : Lore) (ys : List Str) (ts : List V) (ss : List Spot), vs = [.ref lo, .ref q, .ref p] ∧ LoreAt H lo L ∧ LoreOk L ∧ Sq K H q (ys.map V.str) ∧ H p = some (.tup ts) ∧ Paired (RelS H) ts ss ∧ ss.Sublist (spotsIn L ys) ∧ ∀ H', Same H H' → Q (.bl true) H'
abbrev nmLSu : List Str := ["lore", "lot", "value", "spot"]
theorem scLSum : FnScope nmLSu ["lore", "lot", "value"] (defScope sLSum) := ⟨rfl, rfl, rfl, by decide +kernel, rfl, by decide +kernel, by decide +kernel⟩
theorem ok_lsum {f1 fI : Addr} {fd1 dI : FuncData} (F : Fun K "_law_is_sum" "_law_is_sum" sLSum f fd) (T : Bl mg) (Cc : Cn mg)
    (FI : FunD K "_law_is_int" "_law_is_int" (defArgs sLIsI) (defBody sLIsI) (defScope sLIsI) [.non] [] fI dI)
    (GI : FnOk P w K mg base CX0 1 fI dI ["value", "low", "high"] spLIsN) (aI : At K mg "_law_is_int" fI dI ["value", "low", "high"])
    (G1 : FnOk P w K mg base CX0 1 f1 fd1 ["lore", "lot"] (spLSpots K)) (a1 : At K mg "_law_spots" f1 fd1 ["lore", "lot"]) :
    FnOk P w K mg base CX0 2 f fd ["lore", "lot", "value"] (spLSum K) := by
  obtain ⟨dsI, vI, bI⟩ := FunD.binds1 (ps := ["value", "low", "high"]) FI 2 0 (by simp) rfl fun _ _ _ _ _ _ _ us its h1 h2 => match us, its, h1, h2 with | [_, _], [_], _, _ => ⟨_, rfl, rfl⟩
  refine F.ok scLSum (fun vs H Q E h => ?_) (fun cdv A outer s H vs Q E hr h => ?_)
  · obtain ⟨lo, q, p, L, ys, ts, ss, rfl, _⟩ := h
    rfl
  · obtain ⟨lo, q, p, L, ys, ts, ss, rfl, la, ok, hq, hp, pr, sub, k⟩ := h
    have nd := scLSum.nd
    have subA : ss.Sublist (spotsOf L.kps) := sub.trans List.filter_sublist
    refine ⟨_, pss_cons (ps_if (PW.pt (pw_or (pt_not (pt_val (pe_callB call_isi (by rfl) T.isin boot_isinstance (pa_cons (pv 2) (pa_cons (pe_bltn (v := .ty "tuple") (by rfl) Cc.tuple rfl rfl) pa_nil)))))
          (pw_or1 (pt_not (pt_val (pe_callB (cr_all rfl) (by rfl) T.all boot_all (pa_cons (pe_lc (own := [("spot", 3)]) (g := gName 3) (tt := tYes) (te := tAndV (tCB (rIsi K) (tCons (tVar 3) (tCons (tC (.ty "tuple")) tNil))) (tOp rEq (tCB (rLenS K) (tCons (tVar 3) tNil)) (tC (.int 2)))) rfl nd (pi_tup (pv 2))
            (blkOk_by (N := nmLSu) (sc := defScope sLSum) (by decide +kernel)) (fun _ _ _ _ _ => pg_name (i := 3) nd rfl (by first | exact .inl rfl | exact .inr rfl)) (fun _ _ _ _ _ => pts_nil)
            (fun _ _ _ _ _ => pe_and (pe_callB call_isi (by rfl) T.isin boot_isinstance (pa_cons (pv 3) (pa_cons (pe_bltn (v := .ty "tuple") (by rfl) Cc.tuple rfl rfl) pa_nil))) (pe_one (pe_cmpR op_eq (pe_callB call_len_seq (by rfl) T.len PySem.boot_len (pa_cons (pv 3) pa_nil)) pe_int (nomark _))))) pa_nil))))))) pss_no pss_nil)
      (pss_cons (ps_if (pt_not (pt_val (pe_callB (cr_all rfl) (by rfl) T.all boot_all (pa_cons (pe_lc (own := [("spot", 3)]) (g := gName 3) (tt := tYes) (te := tAndV (tCB (rIsi K) (tCons (tOp (rIxT K) (tVar 3) (tC (.int 0))) (tCons (tC (.ty "str")) tNil))) (tCall spLIsN [.non] E0 (tCons (tOp (rIxT K) (tVar 3) (tC (.int 1))) (tCons (tC (.int 0)) tNil)))) rfl nd (pi_tup (pv 2))
            (blkOk_by (N := nmLSu) (sc := defScope sLSum) (by decide +kernel)) (fun _ _ _ _ _ => pg_name (i := 3) nd rfl (by first | exact .inl rfl | exact .inr rfl)) (fun _ _ _ _ _ => pts_nil)
            (fun _ _ _ _ _ => pe_and (pe_callB call_isi (by rfl) T.isin boot_isinstance (pa_cons (pe_ix ix_tup (pv 3) pe_int (fun _ _ => rfl)) (pa_cons (pe_bltn (v := .ty "str") (by rfl) Cc.str rfl rfl) pa_nil))) (pe_one (pe_call GI hr (by rfl) aI.m aI.kp bI vI pass0 (pa_cons (pe_ix ix_tup (pv 3) pe_int (fun _ _ => rfl)) (pa_cons pe_int pa_nil)))))) pa_nil)))) pss_no pss_nil)
      (pss_one (ps_ret (pe_cmpR (op_eqD (room64 hr)) (pv 2) (pe_tupleOf (by rfl) Cc.tuple (pe_lc (own := [("spot", 3)]) (g := gName 3) (tt := tTest (tOp (rInDT K) (tVar 3) (tVar 2))) (te := tVar 3) rfl nd (pi_list (pe_call G1 hr (by rfl) a1.m a1.kp a1.b .nil pass0 (pa_cons (pv 0) (pa_cons (pv 1) pa_nil))))
            (blkOk_by (N := nmLSu) (sc := defScope sLSum) (by decide +kernel)) (fun _ _ _ _ _ => pg_name (i := 3) nd rfl (by first | exact .inl rfl | exact .inr rfl)) (fun _ _ _ _ _ => pts_one (pt_cmpR (op_inDT (room65 hr)) (pv 3) (pv 2) rfl)) (fun _ _ _ _ _ => pv 3))) (nomark _))))), ?_⟩
    obtain ⟨zs, z1, z2, z3⟩ := paired_zip pr
    have yo : SpOk (spotsOf L.kps) := spots_ok ok
    have so : SpOk ss := fun s hs => yo s (subA.subset hs)
    have sl : ss.length ≤ 12 := Nat.le_trans subA.length_le (spots12 ok)
    have zl : zs.length = ss.length := by rw [← z2, List.length_map]
    have al : ∀ n : List (V × Spot), (n.all fun _ => true) = true := fun n => by simp
    refine ⟨_, rfl, _, _, _, _, true, rfl, .ty _, .base (.tup hp), by rfl, _, rfl, iteB rfl ?_⟩
    refine ⟨_, rfl, p, rfl, ⟨_, SqT.of hp⟩, all_over (walk_tup (a := p) (xs := ts)) zs (·.1) (fun _ => true) z1.symm (by omega) (fun H s => sqT_same s (SqT.of hp)) ?_ ?_⟩
    · rintro i ⟨yv, y⟩ H1 R hy s1 kk
      obtain ⟨t, et, eh⟩ := z3 _ (List.mem_of_getElem? hy)
      dsimp only at et eh
      subst et
      have eh1 := s1 _ _ eh
      exact ⟨rfl, _, rfl, _, _, _, _, true, rfl, .ty _, .base (.tup eh1), by rfl, _, rfl, iteT ⟨_, rfl, t, _, rfl, .inr (SqT.of eh1), rfl, kk _ (Same.refl _)⟩⟩
    intro H1 s1
    rw [al]
    refine ⟨_, rfl, iteB rfl ?_⟩
    have hp1 := s1 _ _ hp
    refine ⟨_, rfl, p, rfl, ⟨_, SqT.of hp1⟩, all_over (walk_tup (a := p) (xs := ts)) zs (·.1) (fun _ => true) z1.symm (by omega) (fun H s => sqT_same s (SqT.of hp1)) ?_ ?_⟩
    · rintro i ⟨yv, y⟩ H2 R hy s2 kk
      obtain ⟨t, et, eh⟩ := z3 _ (List.mem_of_getElem? hy)
      dsimp only at et eh
      subst et
      have eh2 := s2 _ _ (s1 _ _ eh)
      refine ⟨rfl, _, rfl, t, _, _, _, rfl, rfl, SqT.of eh2, at0 rfl, _, _, _, _, true, rfl, .ty _, .base (.str _), by rfl, _, rfl, iteT ⟨_, rfl, t, _, _, _, rfl, rfl, SqT.of eh2, at1 rfl, _, _, rfl, ?_⟩⟩
      have e0 : decide ((0 : Int) ≤ (y.2 : Int)) = true := decide_eq_true (by omega)
      rw [e0]
      exact kk _ (Same.refl _)
    intro H2 s2
    rw [al]
    refine ⟨_, rfl, iteB rfl ?_⟩
    have s12 := s1.trans s2
    refine ⟨_, rfl, _, rfl, _, rfl, lo, q, L, ys, rfl, la.same s12, ok, hq.same s12, fun d us H3 s3 _ ed pu => ?_⟩
    have s13 := s12.trans s3
    have hp3 := s13 _ _ hp
    clear zl z1 z2 z3 zs
    obtain ⟨zs, z1, z2, z3⟩ := paired_zip pu
    have zl : zs.length ≤ 12 := by
      have h3 : (spotsIn L ys).length ≤ (spotsOf L.kps).length := List.length_filter_le _ _
      have := spots12 ok
      rw [← z2, List.length_map] at h3
      omega
    refine ⟨d, rfl, ⟨_, SqL.of ed⟩, fun D nD => lc_fm (walk_list (a := d) (xs := us)) zs (fun y => if y.2 ∈ ss then some y.1 else none) (by rw [← z1, List.length_map]) (by rw [← z1, List.length_map]; omega) nD (fun H s => s.seq (SqL.of ed)) ?_ ?_⟩
    · rintro i u ⟨yv, y⟩ H4 H4' R Rn hy s4 ⟨rfl, hu⟩ k1 k2
      obtain ⟨t, et, eh⟩ := z3 _ (List.mem_of_getElem? hy)
      dsimp only at et eh
      subst et
      obtain rfl : V.ref t = u := by
        rw [← z1, List.getElem?_map, hy] at hu
        exact Option.some.inj hu
      have ym : y ∈ spotsOf L.kps := by
        have : y ∈ spotsIn L ys := by rw [← z2]; exact List.mem_map.mpr ⟨_, List.mem_of_getElem? hy, rfl⟩
        exact (List.mem_filter.mp this).1
      have s14 := s13.trans s4
      refine ⟨rfl, _, rfl, _, rfl, spD y, ss.map spD, .tup (SqT.of (s4 _ _ eh)) (.cons (.str _) (.cons (.int _) .nil)), .tup (SqT.of (s4 _ _ hp3)) (dp_spots (Paired.mapP pr fun v s r => RelS.keep _ _ _ _ (.of s14) r)), spD_shaped (yo y ym), spDs_shaped so, _, rfl, ?_⟩
      rw [spDs_any]
      by_cases h : y ∈ ss
      · exact iteA (decide_eq_true h) ⟨_, rfl, k1 _ _ (if_pos h) (Same.refl _)⟩
      · exact iteB (decide_eq_false h) (k2 _ (if_neg h) (Same.refl _))
    · intro H4 s4 eD
      have s14 := s13.trans s4
      have pf := paired_fm ss zs fun z hz => RelS.keep _ _ _ _ (.of s4) (z3 z hz)
      have ndS : (spotsIn L ys).Nodup := (spots_nodup ok.kn).sublist List.filter_sublist
      rw [z2, sub_filter sub ndS] at pf
      refine .inl ⟨D, _, rfl, SqL.of eD, fun q nq => ?_⟩
      have s5 : Same H4 (upd H4 q (.tup (zs.filterMap fun y => if y.2 ∈ ss then some y.1 else none))) := same_new nq
      refine ⟨.tuple (ss.map spD), .tuple (ss.map spD), .tup (SqT.of (s5 _ _ (s4 _ _ hp3))) (dp_spots (Paired.mapP pr fun v s r => RelS.keep _ _ _ _ (.of (s14.trans s5)) r)), .tup (SqT.of upd_same) (dp_spots (Paired.mapP pf fun v s r => RelS.keep _ _ _ _ (.of s5) r)), spDs_shaped so, spDs_shaped so, ?_⟩
      have e : PyData.eqv (.tuple (ss.map spD)) (.tuple (ss.map spD)) = true := SeqAt.eqv_refl _ (SeqAt.canLay_of_shaped (spDs_shaped so))
      rw [e]
      exact k _ (s14.trans s5)
/-! ### _law_is_dark -/
def spDark : Sp := fun vs H Q _ => ∃ (lo p : Addr) (L : Lore) (ts : List V) (ss : List Spot) (v : Vec), vs = [.ref lo, .ref p, .str (stv v)] ∧ LoreAt H lo L ∧ LoreOk L ∧ H p = some (.lst ts) ∧ Paired (RelS H) ts ss ∧ (∀ s ∈ ss, s ∈ spotsOf L.kps) ∧ ss.length ≤ 12 ∧ v.length = L.parts.length ∧
  ∀ H', Same H H' → Q (.bl (ss.all fun s => !dot (codeS L s) v)) H'
abbrev nmDk : List Str := ["lore", "spots", "record", "spot"]
theorem scDark : FnScope nmDk ["lore", "spots", "record"] (defScope sDark) := ⟨rfl, rfl, rfl, by decide +kernel, rfl, by decide +kernel, by decide +kernel⟩
theorem ok_dark {f1 f2 : Addr} {fd1 fd2 : FuncData} (F : Fun K "_law_is_dark" "_law_is_dark" sDark f fd) (T : Bl mg)
    (G1 : FnOk P w K mg base CX0 1 f1 fd1 ["lore", "spot"] spLPAt) (a1 : At K mg "_law_piece_at" f1 fd1 ["lore", "spot"])
    (G2 : FnOk P w K mg base CX0 1 f2 fd2 ["lore", "piece", "record"] spValue) (a2 : At K mg "_law_piece_value" f2 fd2 ["lore", "piece", "record"]) :
    FnOk P w K mg base CX0 2 f fd ["lore", "spots", "record"] spDark := by
  refine F.ok scDark (fun vs H Q E h => ?_) (fun cdv A outer s H vs Q E hr h => ?_)
  · obtain ⟨lo, p, L, ts, ss, v, rfl, _⟩ := h
    rfl
  · obtain ⟨lo, p, L, ts, ss, v, rfl, la, ok, hp, pr, sin, sl, vl, k⟩ := h
    have nd := scDark.nd
    refine ⟨_, pss_one (ps_ret (pe_callB (cr_all rfl) (by rfl) T.all boot_all (pa_cons (pe_lc (own := [("spot", 3)]) (g := gName 3) (tt := tYes) (te := tOp rEq (tCall spValue [] E0 (tCons (tVar 0) (tCons (tCall spLPAt [] E0 (tCons (tVar 0) (tCons (tVar 3) tNil))) (tCons (tVar 2) tNil)))) (tC (.int 0))) rfl nd (pi_list (pv 1))
        (blkOk_by (N := nmDk) (sc := defScope sDark) (by decide +kernel)) (fun _ _ _ _ _ => pg_name (i := 3) nd rfl (by first | exact .inl rfl | exact .inr rfl)) (fun _ _ _ _ _ => pts_nil)
        (fun _ _ _ _ _ => pe_cmpR op_eq (pe_call G2 hr (by rfl) a2.m a2.kp a2.b .nil pass0 (pa_cons (pv 0) (pa_cons (pe_call G1 hr (by rfl) a1.m a1.kp a1.b .nil pass0 (pa_cons (pv 0) (pa_cons (pv 3) pa_nil))) (pa_cons (pv 2) pa_nil)))) pe_int (nomark _))) pa_nil))), ?_⟩
    obtain ⟨zs, z1, z2, z3⟩ := paired_zip pr
    have zl : zs.length = ss.length := by rw [← z2, List.length_map]
    refine ⟨_, rfl, p, rfl, ⟨_, SqL.of hp⟩, all_over (walk_list (a := p) (xs := ts)) zs (·.1) (fun z => !dot (codeS L z.2) v) z1.symm (by omega) (fun H s => s.seq (SqL.of hp)) ?_ ?_⟩
    · rintro i ⟨yv, y⟩ H1 R hy s1 kk
      obtain ⟨t, et, eh⟩ := z3 _ (List.mem_of_getElem? hy)
      dsimp only at et eh
      subst et
      have ym : y ∈ ss := by rw [← z2]; exact List.mem_map.mpr ⟨_, List.mem_of_getElem? hy, rfl⟩
      refine ⟨rfl, _, rfl, _, rfl, _, rfl, lo, t, L, y, rfl, la.same s1, ok, s1 _ _ eh, sin y ym, fun u hu => ⟨_, rfl, lo, u, L, pieceOf L y, stv v, rfl, la.same s1, ok.p4, hu, recOk_stv vl, fun H2 s2 => ?_⟩⟩
      rw [ones_dot vl]
      refine ⟨rfl, ?_⟩
      rw [dec0]
      exact kk H2 s2
    · intro H1 s1
      have e : (zs.all fun z => !dot (codeS L z.2) v) = ss.all fun s => !dot (codeS L s) v := by rw [← z2, List.all_map]; rfl
      rw [e]
      exact k H1 s1
/-! ### _law_dark_records -/
def spDarks : Sp := fun vs H Q _ => ∃ (lo p : Addr) (L : Lore) (ts : List V) (ys : List Str), vs = [.ref lo, .ref p] ∧ LoreAt H lo L ∧ LoreOk L ∧ H p = some (.lst ts) ∧ Paired (RelS H) ts (spotsIn L ys) ∧
  ∀ D H', Same H H' → H' D = some (.lst (((vL L.parts.length).filter (darkB L ys)).map fun v => V.str (stv v))) → Q (.ref D) H'
theorem scDarks : FnScope ["lore", "spots", "record"] ["lore", "spots"] (defScope sDarks) := ⟨rfl, rfl, rfl, by decide +kernel, rfl, by decide +kernel, by decide +kernel⟩
theorem ok_darks {f1 f2 : Addr} {fd1 fd2 : FuncData} (F : Fun K "_law_dark_records" "_law_dark_records" sDarks f fd)
    (G1 : FnOk P w K mg base CX0 1 f1 fd1 ["lore"] spRecords) (a1 : At K mg "_law_records" f1 fd1 ["lore"])
    (G2 : FnOk P w K mg base CX0 2 f2 fd2 ["lore", "spots", "record"] spDark) (a2 : At K mg "_law_is_dark" f2 fd2 ["lore", "spots", "record"]) :
    FnOk P w K mg base CX0 3 f fd ["lore", "spots"] spDarks := by
  refine F.ok scDarks (fun vs H Q E h => ?_) (fun cdv A outer s H vs Q E hr h => ?_)
  · obtain ⟨lo, p, L, ts, ys, rfl, _⟩ := h
    rfl
  · obtain ⟨lo, p, L, ts, ys, rfl, la, ok, hp, pr, k⟩ := h
    have nd := scDarks.nd
    have hr1 : Room 1 _ := hr.mono (by decide)
    refine ⟨_, pss_one (ps_ret (pe_lc (own := [("record", 2)]) (g := gName 2) (tt := tB (tCall spDark [] E0 (tCons (tVar 0) (tCons (tVar 1) (tCons (tVar 2) tNil))))) (te := tVar 2) rfl nd (pi_list (pe_call G1 hr1 (by rfl) a1.m a1.kp a1.b .nil pass0 (pa_cons (pv 0) pa_nil)))
        (blkOk_by (N := ["lore", "spots", "record"]) (sc := defScope sDarks) (by decide +kernel)) (fun _ _ _ _ _ => pg_name (i := 2) nd rfl (by first | exact .inl rfl | exact .inr rfl)) (fun _ _ _ _ _ => pts_one (pt_val (pe_call G2 hr (by rfl) a2.m a2.kp a2.b .nil pass0 (pa_cons (pv 0) (pa_cons (pv 1) (pa_cons (pv 2) pa_nil)))))) (fun _ _ _ _ _ => pv 2))), ?_⟩
    have r16 : (vL L.parts.length).length ≤ 16 := by
      rw [vL_len]
      exact Nat.le_trans (Nat.pow_le_pow_right (by decide) ok.p4) (by decide)
    refine ⟨_, rfl, lo, L, rfl, la, ok.p4, fun q H1 s1 _ eq => ?_⟩
    have eq : H1 q = some (.lst (((vL L.parts.length).map stv).map V.str)) := eq
    refine ⟨q, rfl, ⟨_, SqL.of eq⟩, fun D nD => lc_fm (walk_list (a := q) (xs := ((vL L.parts.length).map stv).map V.str)) (vL L.parts.length) (fun v => if darkB L ys v = true then some (.str (stv v)) else none) (by rw [List.length_map, List.length_map]) (by rw [List.length_map, List.length_map]; omega) nD (fun H s => s.seq (SqL.of eq)) ?_ ?_⟩
    · rintro i u v H4 H4' R Rn hv s4 ⟨rfl, hu'⟩ k1 k2
      obtain rfl : V.str (stv v) = u := by
        rw [List.getElem?_map, List.getElem?_map, hv] at hu'
        exact Option.some.inj hu'
      have s14 := s1.trans s4
      refine ⟨rfl, _, rfl, _, rfl, _, rfl, lo, p, L, ts, spotsIn L ys, v, rfl, la.same s14, ok, s14 _ _ hp, Paired.mapP pr (fun v s r => RelS.keep _ _ _ _ (.of s14) r), fun s hs => (List.mem_filter.mp hs).1, Nat.le_trans List.filter_sublist.length_le (spots12 ok), mem_vL.mp (List.mem_of_getElem? hv), fun H5 s5 => ⟨_, rfl, ?_⟩⟩
      have e : ((spotsIn L ys).all fun s => !dot (codeS L s) v) = darkB L ys v := rfl
      rw [e]
      cases hb : darkB L ys v with
      | true => exact iteT ⟨_, rfl, k1 _ _ (if_pos hb) s5⟩
      | false => exact iteB rfl (k2 _ (if_neg (by rw [hb]; decide)) s5)
    · intro H4 s4 eD
      rw [fm_recs (darkB L ys)] at eD
      exact k D H4 (s1.trans s4) eD
end
end K6
set_option Elab.async false
set_option linter.all false
set_option maxRecDepth 100000
set_option maxHeartbeats 1500000
set_option pp.maxSteps 1200
set_option pp.deepTerms false
namespace K6
open PySem PySem.Spec PyProof.Rows L2 Lk
abbrev sLLess : Stmt := top 110
section
variable {P : Program} {w : World} {K : PySem.W.Frag} {mg : Str → Option Value} {base : Heap} {f : Addr} {fd : FuncData}
/-! ### _law_do_make -/
def spDoMake : Sp := fun vs H Q _ => ∃ (lo p l u : Addr) (L : Lore) (ts : List V) (ys : List Str) (s : Spot), vs = [.ref lo, .ref p, .ref l] ∧ LoreAt H lo L ∧ LoreOk L ∧ H p = some (.lst ts) ∧ Paired (RelS H) ts (spotsIn L ys) ∧ H l = some (.lst [.ref u]) ∧ H u = some (.tup ((pieceOf L s).map V.str)) ∧
  ∀ H', Same H H' → Q (.bl (!lostS L ys s)) H'
abbrev nmDM : List Str := ["lore", "spots", "pieces", "record", "piece"]
theorem scDoMake : FnScope nmDM ["lore", "spots", "pieces"] (defScope sDoMake) := ⟨rfl, rfl, rfl, by decide +kernel, rfl, by decide +kernel, by decide +kernel⟩
theorem ok_doMake {f1 f2 : Addr} {fd1 fd2 : FuncData} (F : Fun K "_law_do_make" "_law_do_make" sDoMake f fd) (T : Bl mg)
    (G1 : FnOk P w K mg base CX0 3 f1 fd1 ["lore", "spots"] spDarks) (a1 : At K mg "_law_dark_records" f1 fd1 ["lore", "spots"])
    (G2 : FnOk P w K mg base CX0 1 f2 fd2 ["lore", "piece", "record"] spValue) (a2 : At K mg "_law_piece_value" f2 fd2 ["lore", "piece", "record"]) :
    FnOk P w K mg base CX0 4 f fd ["lore", "spots", "pieces"] spDoMake := by
  refine F.ok scDoMake (fun vs H Q E h => ?_) (fun cdv A outer s H vs Q E hr h => ?_)
  · obtain ⟨lo, p, l, u, L, ts, ys, s, rfl, _⟩ := h
    rfl
  · obtain ⟨lo, p, l, u, L, ts, ys, s, rfl, la, ok, hp, pr, hl, hu, k⟩ := h
    have nd := scDoMake.nd
    have hr1 : Room 1 _ := hr.mono (by decide)
    refine ⟨_, pss_cons (ps_for PassesOwn.never rfl (pi_list (pe_call G1 hr (by rfl) a1.m a1.kp a1.b .nil pass0 (pa_cons (pv 0) (pa_cons (pv 1) pa_nil)))) (pg_name (i := 3) nd rfl (by first | exact .inl rfl | exact .inr rfl))
          (pss_one (ps_if (pt_val (pe_callB (cr_any rfl) (by rfl) T.any boot_any (pa_cons (pe_lc (own := [("piece", 4)]) (g := gName 4) (tt := tYes) (te := tOp rEq (tCall spValue [] E0 (tCons (tVar 0) (tCons (tVar 4) (tCons (tVar 3) tNil)))) (tC (.int 1))) rfl nd (pi_list (pv 2))
              (blkOk_by (N := nmDM) (sc := defScope sDoMake) (by decide +kernel)) (fun _ _ _ _ _ => pg_name (i := 4) nd rfl (by first | exact .inl rfl | exact .inr rfl)) (fun _ _ _ _ _ => pts_nil)
              (fun _ _ _ _ _ => pe_cmpR op_eq (pe_call G2 hr1 (by rfl) a2.m a2.kp a2.b .nil pass0 (pa_cons (pv 0) (pa_cons (pv 4) (pa_cons (pv 3) pa_nil)))) pe_int (nomark _))) pa_nil)))
            (pss_one (ps_ret pe_bl)) pss_nil)))
        (pss_one (ps_ret pe_bl)), ?_⟩
    refine ⟨_, rfl, _, rfl, lo, p, L, ts, ys, rfl, la, ok, hp, pr, fun D H1 s1 eD => ?_⟩
    obtain ⟨vv, hvv⟩ : ∃ vv, vv = (vL L.parts.length).filter (darkB L ys) := ⟨_, rfl⟩
    rw [← hvv] at eD
    refine ⟨D, rfl, ⟨_, SqL.of eD⟩, for_list (xs := vv.map fun v => V.str (stv v)) (fun i σ H' => ∃ o o2 : Option V, σ = [some (.ref lo), some (.ref p), some (.ref l), o, o2] ∧ (∀ m v, m < i → vv[m]? = some v → dot (codeS L s) v = false) ∧ Same H1 H') ?_ ?_ ?_ ?_⟩
    · exact ⟨none, none, rfl, (fun m v h => absurd h (Nat.not_lt_zero _)), Same.refl _⟩
    · rintro i σ H' _ ⟨_, _, _, _, ss⟩
      exact SqL.of (ss _ _ eD)
    · rintro i y σ H5 hy ⟨o, o2, rfl, prev, s5⟩
      obtain ⟨v, hv, rfl⟩ : ∃ v, vv[i]? = some v ∧ y = .str (stv v) := by
        rw [List.getElem?_map] at hy
        obtain ⟨v, h1, h2⟩ := Option.map_eq_some_iff.mp hy
        exact ⟨v, h1, h2.symm⟩
      have vm : v ∈ vL L.parts.length ∧ darkB L ys v = true := by
        have := List.mem_of_getElem? hv
        rw [hvv] at this
        exact List.mem_filter.mp this
      have vl := mem_vL.mp vm.1
      have s15 := s1.trans s5
      have hl5 := s15 _ _ hl
      refine ⟨_, rfl, l, rfl, ⟨_, SqL.of hl5⟩, fun B nB => lc_fm (walk_list (a := l) (xs := [.ref u])) [()] (fun _ => some (V.bl (dot (codeS L s) v))) rfl (by show 1 ≤ 100000; decide) nB (fun H s => s.seq (SqL.of hl5)) ?_ ?_⟩
      · rintro j x z H6 H6' R Rn hz s6 ⟨rfl, hx⟩ k1 k2
        obtain rfl : V.ref u = x := by
          match j, hx with
          | 0, h => exact Option.some.inj h
          | _ + 1, h => simp at h
        refine ⟨rfl, _, rfl, _, rfl, _, rfl, lo, u, L, pieceOf L s, stv v, rfl, la.same (s15.trans s6), ok.p4, (s15.trans s6) _ _ hu, recOk_stv vl, fun H7 s7 => ?_⟩
        rw [ones_dot vl]
        refine ⟨rfl, ?_⟩
        rw [dec1]
        exact k1 _ _ rfl s7
      · intro H6 s6 eB
        refine ⟨B, [dot (codeS L s) v], rfl, SqL.of eB, _, rfl, ?_⟩
        have e : [dot (codeS L s) v].any id = dot (codeS L s) v := by simp
        rw [e]
        cases hd : dot (codeS L s) v with
        | true =>
          refine iteA rfl ?_
          have : lostS L ys s = true := lostS_iff.mpr ⟨v, vl, vm.2, hd⟩
          rw [this] at k
          exact k H6 (s15.trans s6)
        | false =>
          refine iteB rfl ⟨_, _, rfl, fun m v' hm hv' => ?_, s5.trans s6⟩
          by_cases em : m = i
          · subst em
            rw [hv] at hv'
            rw [← Option.some.inj hv', hd]
          · exact prev m v' (by omega) hv'
    · rintro σ H5 ⟨o, o2, rfl, prev, s5⟩
      have hf : lostS L ys s = false := by
        cases hl' : lostS L ys s with
        | false => rfl
        | true =>
          obtain ⟨v, vl, vd, hd⟩ := lostS_iff.mp hl'
          have vm : v ∈ vv := by rw [hvv]; exact List.mem_filter.mpr ⟨mem_vL.mpr vl, vd⟩
          obtain ⟨m, hm⟩ := List.mem_iff_getElem?.mp vm
          have := prev m v (by rw [List.length_map]; exact (List.getElem?_eq_some_iff.mp hm).1) hm
          rw [this] at hd
          cases hd
      rw [hf] at k
      exact k H5 (s1.trans s5)
/-! ### _law_pieces_of -/
def spPcs (K : PySem.W.Frag) : Sp := fun vs H Q _ => ∃ (lo q : Addr) (L : Lore) (kq : KP), vs = [.ref lo, .ref q] ∧ LoreAt H lo L ∧ LoreOk L ∧ kq ∈ L.kps ∧ H q = some (.tup [.str kq.1]) ∧
  ∀ p ts H', Same H H' → H' p = some (.lst ts) → Paired (RelP H') ts ((spK kq).map (pieceOf L)) → Q (.ref p) H'
theorem scPcs : FnScope ["lore", "lot", "spot"] ["lore", "lot"] (defScope sPiecesOf) := ⟨rfl, rfl, rfl, by decide +kernel, rfl, by decide +kernel, by decide +kernel⟩
theorem ok_pcs {f1 f2 : Addr} {fd1 fd2 : FuncData} (F : Fun K "_law_pieces_of" "_law_pieces_of" sPiecesOf f fd)
    (G1 : FnOk P w K mg base CX0 1 f1 fd1 ["lore", "lot"] (spLSpots K)) (a1 : At K mg "_law_spots" f1 fd1 ["lore", "lot"])
    (G2 : FnOk P w K mg base CX0 1 f2 fd2 ["lore", "spot"] spLPAt) (a2 : At K mg "_law_piece_at" f2 fd2 ["lore", "spot"]) :
    FnOk P w K mg base CX0 2 f fd ["lore", "lot"] (spPcs K) := by
  refine F.ok scPcs (fun vs H Q E h => ?_) (fun cdv A outer s H vs Q E hr h => ?_)
  · obtain ⟨lo, q, L, kq, rfl, _⟩ := h
    rfl
  · obtain ⟨lo, q, L, kq, rfl, la, ok, hk, hq, k⟩ := h
    have nd := scPcs.nd
    refine ⟨_, pss_one (ps_ret (pe_lc (own := [("spot", 2)]) (g := gName 2) (tt := tYes) (te := tCall spLPAt [] E0 (tCons (tVar 0) (tCons (tVar 2) tNil))) rfl nd (pi_list (pe_call G1 hr (by rfl) a1.m a1.kp a1.b .nil pass0 (pa_cons (pv 0) (pa_cons (pv 1) pa_nil))))
        (blkOk_by (N := ["lore", "lot", "spot"]) (sc := defScope sPiecesOf) (by decide +kernel)) (fun _ _ _ _ _ => pg_name (i := 2) nd rfl (by first | exact .inl rfl | exact .inr rfl)) (fun _ _ _ _ _ => pts_nil)
        (fun _ _ _ _ _ => pe_call G2 hr (by rfl) a2.m a2.kp a2.b .nil pass0 (pa_cons (pv 0) (pa_cons (pv 2) pa_nil))))), ?_⟩
    refine ⟨_, rfl, _, rfl, lo, q, L, [kq.1], rfl, la, ok, .inr (SqT.of hq), fun p ts H1 s1 _ ep pr => ?_⟩
    rw [spotsIn_one ok hk] at pr
    obtain ⟨zs, z1, z2, z3⟩ := paired_zip pr
    have q2 := (ok.q kq hk).2.1
    have zl : zs.length = kq.2.length := by rw [← spK_len kq, ← z2, List.length_map]
    refine ⟨p, rfl, ⟨_, SqL.of ep⟩, fun D nD => lc_relQ (walk_list (a := p) (xs := ts)) nD zs (·.1) (fun y => pieceOf L y.2) RelP RelP.keep z1.symm (by omega) (fun H s => s.seq (SqL.of ep)) ?_ ?_⟩
    · rintro i ⟨yv, y⟩ H2 R hy s2 kk
      obtain ⟨t, et, eh⟩ := z3 _ (List.mem_of_getElem? hy)
      dsimp only at et eh
      subst et
      have ym : y ∈ spK kq := by
        rw [← z2]
        exact List.mem_map.mpr ⟨_, List.mem_of_getElem? hy, rfl⟩
      exact ⟨rfl, _, rfl, _, rfl, lo, t, L, y, rfl, la.same (s1.trans s2), ok, s2 _ _ eh, spK_sub hk y ym, fun u hu => kk _ _ (Same.refl _) ⟨u, rfl, hu⟩⟩
    · intro H2 us s2 eD pu
      have e : (zs.map fun y => pieceOf L y.2) = (spK kq).map (pieceOf L) := by rw [← z2, List.map_map]; rfl
      rw [e] at pu
      exact k D us H2 (s1.trans s2) eD pu
/-! ### _law_first_lost -/
def spLFirst (K : PySem.W.Frag) : Sp := fun vs H Q _ => ∃ (lo t : Addr) (L : Lore) (kq : KP) (ys : List Str), vs = [.ref lo, .str kq.1, .ref t] ∧ LoreAt H lo L ∧ LoreOk L ∧ kq ∈ L.kps ∧ Sq K H t (ys.map V.str) ∧ ∀ H', Same H H' → Q (optV (firstN L ys kq)) H'
abbrev nmLF : List Str := ["lore", "name", "lot", "number", "piece"]
theorem scLFirst : FnScope nmLF ["lore", "name", "lot"] (defScope sLFirst) := ⟨rfl, rfl, rfl, by decide +kernel, rfl, by decide +kernel, by decide +kernel⟩
theorem ok_lfirst {f1 f2 f3 : Addr} {fd1 fd2 fd3 : FuncData} (F : Fun K "_law_first_lost" "_law_first_lost" sLFirst f fd) (T : Bl mg)
    (G1 : FnOk P w K mg base CX0 2 f1 fd1 ["lore", "lot"] (spPcs K)) (a1 : At K mg "_law_pieces_of" f1 fd1 ["lore", "lot"])
    (G2 : FnOk P w K mg base CX0 1 f2 fd2 ["lore", "lot"] (spLSpots K)) (a2 : At K mg "_law_spots" f2 fd2 ["lore", "lot"])
    (G3 : FnOk P w K mg base CX0 4 f3 fd3 ["lore", "spots", "pieces"] spDoMake) (a3 : At K mg "_law_do_make" f3 fd3 ["lore", "spots", "pieces"]) :
    FnOk P w K mg base CX0 5 f fd ["lore", "name", "lot"] (spLFirst K) := by
  refine F.ok scLFirst (fun vs H Q E h => ?_) (fun cdv A outer s H vs Q E hr h => ?_)
  · obtain ⟨lo, t, L, kq, ys, rfl, _⟩ := h
    rfl
  · obtain ⟨lo, t, L, kq, ys, rfl, la, ok, hk, ht, k⟩ := h
    have nd := scLFirst.nd
    have hr1 : Room 1 _ := hr.mono (by decide)
    have hr2 : Room 2 _ := hr.mono (by decide)
    refine ⟨_, pss_cons (ps_for PassesOwn.never rfl (pi_enum (by rfl) T.enum (pa_cons (pe_call G1 hr2 (by rfl) a1.m a1.kp a1.b .nil pass0 (pa_cons (pv 0) (pa_cons (pe_tup (pa_cons (pv 1) pa_nil)) pa_nil))) pa_nil)) (pg_tup rfl (pgs_cons (pg_name (i := 3) nd rfl (.inl rfl)) (pgs_cons (pg_name (i := 4) nd rfl (.inl rfl)) pgs_nil)))
          (pss_one (ps_if (pt_not (pt_val (pe_call G3 hr (by rfl) a3.m a3.kp a3.b .nil pass0 (pa_cons (pv 0) (pa_cons (pe_call G2 hr1 (by rfl) a2.m a2.kp a2.b .nil pass0 (pa_cons (pv 0) (pa_cons (pv 2) pa_nil))) (pa_cons (pe_lst (pa_cons (pv 4) pa_nil)) pa_nil)))))) (pss_one (ps_ret (pv 3))) pss_nil)))
        (pss_one (ps_ret pe_non)), ?_⟩
    refine ⟨_, rfl, _, rfl, few_ok rfl, fun q nq => ?_⟩
    have s0 : Same H (upd H q (.tup [.str kq.1])) := same_new nq
    have eq0 : upd H q (.tup [.str kq.1]) q = some (.tup [.str kq.1]) := upd_same
    generalize upd H q (.tup [.str kq.1]) = H0 at s0 eq0 ⊢
    refine ⟨lo, q, L, kq, rfl, la.same s0, ok, hk, eq0, fun l ts H1 s1 el pr => ?_⟩
    have s01 := s0.trans s1
    have tl : ts.length = kq.2.length := by rw [Paired.length pr, List.length_map, spK_len]
    refine ⟨l, _, rfl, SqL.of el, for_it (walk_enum (xs := ts)) (fun i σ H' => ∃ u v, σ = [some (.ref lo), some (.str kq.1), some (.ref t), u, v] ∧ Same H1 H' ∧ ∀ m, m < i → lostS L ys (kq.1, m) = false) ⟨none, none, rfl, Same.refl _, fun m h => absurd h (Nat.not_lt_zero _)⟩ (fun i σ H' _ ⟨_, _, _, s', _⟩ => SqL.of (s' _ _ el)) ?_ ?_⟩
    · rintro i x σ H2 H3 hi ⟨u, v, rfl, s2, prev⟩ ⟨t2, a1', a2', rfl, nt, rfl, e1, e2⟩
      obtain rfl := Option.some.inj e1
      have il : i < kq.2.length := by rw [← tl]; exact (List.getElem?_eq_some_iff.mp e2).1
      have hi2 : ((spK kq).map (pieceOf L))[i]? = some (pieceOf L (kq.1, i)) := by rw [List.getElem?_map, spK_at il]; rfl
      obtain ⟨v2, hv2, p, rfl, ep⟩ := paired_get pr hi2
      obtain rfl : V.ref p = a2' := Option.some.inj (hv2.symm.trans e2)
      have s3 : Same H1 (upd H2 t2 (.tup [.int (i : Nat), .ref p])) := s2.trans (same_new nt)
      refine ⟨t2, _, rfl, SqT.of upd_same, rfl, _, _, rfl, _, _, rfl, rfl, ?_⟩
      generalize upd H2 t2 (.tup [.int (i : Nat), .ref p]) = H3 at s3 ⊢
      have s03 := s01.trans s3
      refine ⟨_, rfl, _, rfl, _, rfl, lo, t, L, ys, rfl, la.same s03, ok, ht.same s03, fun d ws H4 s4 _ ed pw => ?_⟩
      have s34 := s3.trans s4
      have s04 := s03.trans s4
      refine ⟨_, rfl, few_ok rfl, fun g ng => ?_⟩
      have s5 : Same H4 (upd H4 g (.lst [.ref p])) := same_new ng
      refine ⟨lo, d, g, p, L, ws, ys, (kq.1, i), rfl, la.same (s04.trans s5), ok, s5 _ _ ed, Paired.mapP pw (fun v s r => RelS.keep _ _ _ _ (.of s5) r), upd_same, (s34.trans s5) _ _ ep, fun H6 s6 => ⟨_, rfl, ?_⟩⟩
      have s16 := (s34.trans s5).trans s6
      cases hl : lostS L ys (kq.1, i) with
      | true =>
        refine iteT ⟨_, rfl, ?_⟩
        have e : firstN L ys kq = some i := find_some' il hl prev
        rw [e] at k
        exact k H6 (s01.trans s16)
      | false =>
        refine iteB rfl ⟨_, _, rfl, s16, fun m hm => ?_⟩
        by_cases e : m = i
        · rw [e, hl]
        · exact prev m (by omega)
    · rintro σ H5 ⟨u, v, rfl, s5, prev⟩
      have e : firstN L ys kq = none := List.find?_eq_none.mpr fun m hm => by
        rw [prev m (by rw [tl]; exact List.mem_range.mp hm)]
        decide
      rw [e] at k
      exact k H5 (s01.trans s5)
/-! ### _law_less -/
theorem scLLess : FnScope ["names", "gone", "name"] ["names", "gone"] (defScope sLLess) := ⟨rfl, rfl, rfl, by decide +kernel, rfl, by decide +kernel, by decide +kernel⟩
theorem ok_lless (F : Fun K "_law_less" "_law_less" sLLess f fd) (hT : mg "tuple" = none) : FnOk P w K mg base CX0 1 f fd ["names", "gone"] (spPLess K) := by
  refine F.ok scLLess (fun vs H Q E h => ?_) (fun cdv A outer s H vs Q E hr h => ?_)
  · obtain ⟨n, q, ns, ss, rfl, _⟩ := h
    rfl
  · obtain ⟨n, q, ns, ss, rfl, hn, hs, n100, k⟩ := h
    have nd := scLLess.nd
    refine ⟨_, pss_one (ps_ret (pe_tupleOf (by rfl) hT (pe_lc (own := [("name", 2)]) (g := gName 2) (tt := tTest (tOp (rIn K true) (tVar 2) (tVar 1))) rfl nd (pi_seq (pi_list (pv 0)) (pi_tup (pv 0))) (blkOk_by (N := ["names", "gone", "name"]) (sc := defScope sLLess) (by decide +kernel))
        (fun _ _ _ _ _ => pg_name (i := 2) nd rfl (Or.inl rfl)) (fun _ _ _ _ _ => pts_one (pt_cmpR op_notIn_seq (pv 2) (pv 1) rfl)) (fun _ _ _ _ _ => pv 2)))), ?_⟩
    refine ⟨n, rfl, seq_lc (Q := fun x H1 => kTup K x H1 Q) ns V.str (fun p => if p ∈ ss then none else some (V.str p)) hn (by omega) ?_ ?_⟩
    · intro j b H' R Rn hb s' k1 k2
      refine ⟨rfl, _, rfl, _, rfl, q, _, rfl, hs.same s', rfl, flat_strs _, _, rfl, ?_⟩
      rw [inV_str]
      by_cases hz : b ∈ ss
      · refine iteB (by simp [hz]) ?_
        exact k2 _ (by simp [hz]) (Same.refl _)
      · refine iteA (by simp [hz]) ?_
        exact ⟨_, rfl, k1 _ _ (by simp [hz]) (Same.refl _)⟩
    · intro D H' nD s' e
      rw [fm_ifn] at e
      exact .inl ⟨D, _, rfl, SqL.of e, fun T nT => k T _ (s'.trans (same_new nT)) (s'.free nT) upd_same⟩
end
end K6
set_option Elab.async false
set_option linter.all false
set_option maxRecDepth 100000
set_option maxHeartbeats 1500000
set_option pp.maxSteps 1200
set_option pp.deepTerms false
namespace K6
open PySem PySem.Spec PyProof.Rows L2 Lk
abbrev sLRec : Stmt := top 111
abbrev sLTold : Stmt := top 112
section
variable {P : Program} {w : World} {K : PySem.W.Frag} {mg : Str → Option Value} {base : Heap} {f : Addr} {fd : FuncData}
/-! ### _law_is_a_record -/
def spLRec : Sp := fun vs H Q _ => ∃ (lo : Addr) (L : Lore) (v : Vec), vs = [.ref lo, .str (stv v)] ∧ LoreAt H lo L ∧ LoreOk L ∧ v.length = L.parts.length ∧ ∀ H', Same H H' → Q (.bl true) H'
theorem scLRec : FnScope ["lore", "value", "mark"] ["lore", "value"] (defScope sLRec) := ⟨rfl, rfl, rfl, by decide +kernel, rfl, by decide +kernel, by decide +kernel⟩
theorem ok_lrec (F : Fun K "_law_is_a_record" "_law_is_a_record" sLRec f fd) (T : Bl mg) (Cc : Cn mg) : FnOk P w K mg base CX0 1 f fd ["lore", "value"] spLRec := by
  refine F.ok scLRec (fun vs H Q E h => ?_) (fun cdv A outer s H vs Q E hr h => ?_)
  · obtain ⟨lo, L, v, rfl, _⟩ := h
    rfl
  · obtain ⟨lo, L, v, rfl, la, ok, vl, k⟩ := h
    have nd := scLRec.nd
    have hu := hu_of hr
    refine ⟨_, pss_cons (ps_if (PW.pt (pw_or (pt_not (pt_val (pe_callB call_isi (by rfl) T.isin boot_isinstance (pa_cons (pv 1) (pa_cons (pe_bltn (v := .ty "str") (by rfl) Cc.str rfl rfl) pa_nil)))))
          (pw_or1 (pt_cmpR op_ne (pe_callB call_len_str (by rfl) T.len PySem.boot_len (pa_cons (pv 1) pa_nil)) (pe_callB call_len_seq (by rfl) T.len PySem.boot_len (pa_cons (pe_dget hu (pv 0) pe_str (fun _ _ => rfl)) pa_nil)) (nomark _))))) pss_no pss_nil)
      (pss_one (ps_ret (pe_callB (cr_all rfl) (by rfl) T.all boot_all (pa_cons (pe_lc (own := [("mark", 2)]) (g := gName 2) (tt := tYes) (te := tOp (rIn K false) (tVar 2) (tTup (tCons (tC (.str "0")) (tCons (tC (.str "1")) tNil)))) rfl nd (pi_str (pv 1)) (blkOk_by (N := ["lore", "value", "mark"]) (sc := defScope sLRec) (by decide +kernel))
          (fun _ _ _ _ _ => pg_name (i := 2) nd rfl (.inl rfl)) (fun _ _ _ _ _ => pts_nil) (fun _ _ _ _ _ => pe_cmpR op_in_seq (pv 2) (pe_tup (pa_cons pe_str (pa_cons pe_str pa_nil))) rfl)) pa_nil)))), ?_⟩
    have p4 := ok.p4
    have zl : (stv v).length = v.length := stv_len v
    obtain ⟨pa, nm, pt, rows, e1, e2, e3, e4, e5⟩ := id la
    refine ⟨_, rfl, _, _, _, _, true, rfl, .ty _, .base (.str _), by rfl, _, rfl, iteB rfl ?_⟩
    refine ⟨_, rfl, stv v, rfl, by rw [sizeLine_eq, zl]; omega, _, rfl, lo, _, rfl, (dget3 e1).1, pa, _, rfl, .inr (SqT.of e2), rfl, _, rfl, ?_⟩
    rw [zl, List.length_map, vl]
    refine iteB (by simp) ?_
    have zz : (stv v).cps.toList.length ≤ 100 := by
      have : (stv v).cps.toList.length = (stv v).length := by simp [Str.length]
      omega
    refine ⟨_, rfl, stv v, rfl, str_lc (Q := fun x H1 => rAll K [x] H1 Q) (fun c => some (.bl (decide ((⟨#[c]⟩ : Str) ∈ (["0", "1"] : List Str))))) (by omega) ?_ ?_⟩
    · intro i c H1 R Rn hc s1 k1 k2
      refine ⟨rfl, _, rfl, few_ok rfl, fun q nq => ⟨q, _, rfl, .inr (SqT.of upd_same), rfl, flat_strs ["0", "1"], ?_⟩⟩
      have e : inV (V.str ⟨#[c]⟩) [V.str "0", V.str "1"] = decide ((⟨#[c]⟩ : Str) ∈ (["0", "1"] : List Str)) := inV_str _ (["0", "1"] : List Str)
      rw [e]
      exact k1 _ _ rfl (same_new nq)
    · intro D H1 nD s1 e
      rw [fm_bl] at e
      refine ⟨D, _, rfl, SqL.of e, ?_⟩
      have : ((stv v).cps.toList.map fun c => decide ((⟨#[c]⟩ : Str) ∈ (["0", "1"] : List Str))).all id = true := by
        rw [List.all_eq_true]
        intro b hb
        obtain ⟨c, hc, rfl⟩ := List.mem_map.mp hb
        refine decide_eq_true ?_
        rcases (stv_bits v) c hc with rfl | rfl
        · decide +kernel
        · decide +kernel
      rw [this]
      exact k _ s1
/-! ### _law_is_mends_told -/
def spLTold (K : PySem.W.Frag) : Sp := fun vs H Q _ => ∃ (lo t q : Addr) (L : Lore) (kq : KP) (ys : List Str), vs = [.ref lo, .str kq.1, .ref t, .ref q] ∧ LoreAt H lo L ∧ LoreOk L ∧ kq ∈ L.kps ∧ Sq K H t (ys.map V.str) ∧ MendsAt H q L kq ys ∧ ∀ H', Same H H' → Q (.bl true) H'
abbrev nmLT : List Str := ["lore", "name", "lot", "value", "pieces", "some", "piece"]
theorem scLTold : FnScope nmLT ["lore", "name", "lot", "value"] (defScope sLTold) := ⟨rfl, rfl, rfl, by decide +kernel, rfl, by decide +kernel, by decide +kernel⟩
theorem ok_ltold {f1 f2 f3 f4 f5 f6 f7 f8 : Addr} {fd1 fd2 fd3 fd4 fd5 fd6 fd7 fd8 : FuncData} (F : Fun K "_law_is_mends_told" "_law_is_mends_told" sLTold f fd) (T : Bl mg) (Cc : Cn mg)
    (G1 : FnOk P w K mg base CX0 2 f1 fd1 ["lore", "lot"] (spPcs K)) (a1 : At K mg "_law_pieces_of" f1 fd1 ["lore", "lot"])
    (G2 : FnOk P w K mg base CX0 2 f2 fd2 ["lore", "lot", "value"] (spLSum K)) (a2 : At K mg "_law_is_sum" f2 fd2 ["lore", "lot", "value"])
    (G3 : FnOk P w K mg base CX0 2 f3 fd3 ["lore", "some"] spLComes) (a3 : At K mg "_law_comes" f3 fd3 ["lore", "some"])
    (G4 : FnOk P w K mg base CX0 1 f4 fd4 ["value", "low", "high"] spLIsI) (a4 : At K mg "_law_is_int" f4 fd4 ["value", "low", "high"])
    (G5 : FnOk P w K mg base CX0 1 f5 fd5 ["lore", "value"] spLRec) (a5 : At K mg "_law_is_a_record" f5 fd5 ["lore", "value"])
    (G6 : FnOk P w K mg base CX0 2 f6 fd6 ["lore", "spots", "record"] spDark) (a6 : At K mg "_law_is_dark" f6 fd6 ["lore", "spots", "record"])
    (G7 : FnOk P w K mg base CX0 1 f7 fd7 ["lore", "lot"] (spLSpots K)) (a7 : At K mg "_law_spots" f7 fd7 ["lore", "lot"])
    (G8 : FnOk P w K mg base CX0 1 f8 fd8 ["lore", "piece", "record"] spValue) (a8 : At K mg "_law_piece_value" f8 fd8 ["lore", "piece", "record"]) :
    FnOk P w K mg base CX0 3 f fd ["lore", "name", "lot", "value"] (spLTold K) := by
  refine F.ok scLTold (fun vs H Q E h => ?_) (fun cdv A outer s H vs Q E hr h => ?_)
  · obtain ⟨lo, t, q, L, kq, ys, rfl, _⟩ := h
    rfl
  · obtain ⟨lo, t, q, L, kq, ys, rfl, la, ok, hk, ht, me, k⟩ := h
    have nd := scLTold.nd
    have hr1 : Room 1 _ := hr.mono (by decide)
    have p4 := ok.p4
    refine ⟨_, pss_cons (ps_set (i := 4) nd rfl (by first | exact .inl rfl | exact .inr rfl) (pe_call G1 hr (by rfl) a1.m a1.kp a1.b .nil pass0 (pa_cons (pv 0) (pa_cons (pe_tup (pa_cons (pv 1) pa_nil)) pa_nil))))
      (pss_cons (ps_if (PW.pt (pw_or (pt_not (pt_val (pe_callB call_isi (by rfl) T.isin boot_isinstance (pa_cons (pv 3) (pa_cons (pe_bltn (v := .ty "tuple") (by rfl) Cc.tuple rfl rfl) pa_nil)))))
          (pw_or (pt_cmpR op_lt (pe_callB call_len_seq (by rfl) T.len PySem.boot_len (pa_cons (pv 3) pa_nil)) pe_int (nomark _))
          (pw_or1 (pt_not (pt_val (pe_callB call_isi (by rfl) T.isin boot_isinstance (pa_cons (pe_ix ix_tup (pv 3) pe_int (fun _ _ => rfl)) (pa_cons (pe_bltn (v := .ty "str") (by rfl) Cc.str rfl rfl) pa_nil))))))))) pss_no pss_nil)
      (pss_cons (ps_if (pt_cmpR op_eq (pe_ix ix_tup (pv 3) pe_int (fun _ _ => rfl)) pe_str (nomark _))
          (pss_cons (ps_if (PW.pt (pw_or (pt_cmpR op_ne (pe_callB call_len_seq (by rfl) T.len PySem.boot_len (pa_cons (pv 3) pa_nil)) pe_int (nomark _))
              (pw_or (pt_not (pt_val (pe_callB call_isi (by rfl) T.isin boot_isinstance (pa_cons (pe_ix ix_tup (pv 3) pe_int (fun _ _ => rfl)) (pa_cons (pe_bltn (v := .ty "tuple") (by rfl) Cc.tuple rfl rfl) pa_nil)))))
              (pw_or1 (pt_cmpR op_ne (pe_callB call_len_seq (by rfl) T.len PySem.boot_len (pa_cons (pe_ix ix_tup (pv 3) pe_int (fun _ _ => rfl)) pa_nil)) (pe_callB call_len_seq (by rfl) T.len PySem.boot_len (pa_cons (pv 4) pa_nil)) (nomark _)))))) pss_no pss_nil)
          (pss_cons (ps_if (pt_not (pt_val (pe_callB (cr_all rfl) (by rfl) T.all boot_all (pa_cons (pe_lc (own := [("some", 5)]) (g := gName 5) (tt := tYes) (te := tCall (spLSum K) [] E0 (tCons (tVar 0) (tCons (tVar 2) (tCons (tVar 5) tNil)))) rfl nd (pi_tup (pe_ix ix_tup (pv 3) pe_int (fun _ _ => rfl)))
              (blkOk_by (N := nmLT) (sc := defScope sLTold) (by decide +kernel)) (fun _ _ _ _ _ => pg_name (i := 5) nd rfl (by first | exact .inl rfl | exact .inr rfl)) (fun _ _ _ _ _ => pts_nil)
              (fun _ _ _ _ _ => pe_call G2 hr (by rfl) a2.m a2.kp a2.b .nil pass0 (pa_cons (pv 0) (pa_cons (pv 2) (pa_cons (pv 5) pa_nil))))) pa_nil)))) pss_no pss_nil)
          (pss_one (ps_ret (pe_callB (cr_all rfl) (by rfl) T.all boot_all (pa_cons (pe_lc (own := [("some", 5), ("piece", 6)]) (g := gTup K 2 (gCons (gName 5) (gCons (gName 6) gNil))) (tt := tYes) (te := tOp (rEqD K) (tCall spLComes [] E0 (tCons (tVar 0) (tCons (tVar 5) tNil))) (tVar 6)) rfl nd
              (pi_zipS (by rfl) Cc.zip (pa_cons (pe_ix ix_tup (pv 3) pe_int (fun _ _ => rfl)) (pa_cons (pv 4) pa_nil))) (blkOk_by (N := nmLT) (sc := defScope sLTold) (by decide +kernel))
              (fun _ _ _ _ _ => pg_tup rfl (pgs_cons (pg_name (i := 5) nd rfl (by first | exact .inl rfl | exact .inr rfl)) (pgs_cons (pg_name (i := 6) nd rfl (by first | exact .inl rfl | exact .inr rfl)) pgs_nil))) (fun _ _ _ _ _ => pts_nil)
              (fun _ _ _ _ _ => pe_cmpR (op_eqD (room64 hr)) (pe_call G3 hr (by rfl) a3.m a3.kp a3.b .nil pass0 (pa_cons (pv 0) (pa_cons (pv 5) pa_nil))) (pv 6) (nomark _))) pa_nil)))))) pss_nil)
      (pss_cons (ps_if (PW.pt (pw_or (pt_cmpR op_ne (pe_ix ix_tup (pv 3) pe_int (fun _ _ => rfl)) pe_str (nomark _))
          (pw_or (pt_cmpR op_ne (pe_callB call_len_seq (by rfl) T.len PySem.boot_len (pa_cons (pv 3) pa_nil)) pe_int (nomark _))
          (pw_or1 (pt_not (pt_val (pe_call G4 hr1 (by rfl) a4.m a4.kp a4.b .nil pass0 (pa_cons (pe_ix ix_tup (pv 3) pe_int (fun _ _ => rfl)) (pa_cons pe_int (pa_cons (pe_op op_sub (pe_callB call_len_seq (by rfl) T.len PySem.boot_len (pa_cons (pv 4) pa_nil)) pe_int) pa_nil)))))))))) pss_no pss_nil)
      (pss_cons (ps_if (PW.pt (pw_or (pt_not (pt_val (pe_call G5 hr1 (by rfl) a5.m a5.kp a5.b .nil pass0 (pa_cons (pv 0) (pa_cons (pe_ix ix_tup (pv 3) pe_int (fun _ _ => rfl)) pa_nil)))))
          (pw_or1 (pt_not (pt_val (pe_call G6 hr (by rfl) a6.m a6.kp a6.b .nil pass0 (pa_cons (pv 0) (pa_cons (pe_call G7 hr1 (by rfl) a7.m a7.kp a7.b .nil pass0 (pa_cons (pv 0) (pa_cons (pv 2) pa_nil))) (pa_cons (pe_ix ix_tup (pv 3) pe_int (fun _ _ => rfl)) pa_nil))))))))) pss_no pss_nil)
      (pss_one (ps_ret (pe_cmpR op_eq (pe_call G8 hr1 (by rfl) a8.m a8.kp a8.b .nil pass0 (pa_cons (pv 0) (pa_cons (pe_ix ix_list (pv 4) (pe_ix ix_tup (pv 3) pe_int (fun _ _ => rfl)) (fun _ _ => rfl)) (pa_cons (pe_ix ix_tup (pv 3) pe_int (fun _ _ => rfl)) pa_nil)))) pe_int (nomark _)))))))), ?_⟩
    refine ⟨_, rfl, _, rfl, few_ok rfl, fun d nd0 => ?_⟩
    have s0 : Same H (upd H d (.tup [.str kq.1])) := same_new nd0
    have ed0 : upd H d (.tup [.str kq.1]) d = some (.tup [.str kq.1]) := upd_same
    generalize upd H d (.tup [.str kq.1]) = H0 at s0 ed0 ⊢
    refine ⟨lo, d, L, kq, rfl, la.same s0, ok, hk, ed0, fun l ts H1 s1 el pr => ?_⟩
    have s01 := s0.trans s1
    have tl : ts.length = kq.2.length := by rw [Paired.length pr, List.length_map, spK_len]
    have q2 := (ok.q kq hk).2.1
    have la1 := la.same s01
    have ht1 := ht.same s01
    rcases me.keep (.of s01) with ⟨m, v, h1, h2, h3, h4, h5⟩ | ⟨h1, p, us, h2, h3, h4⟩
    · obtain ⟨ml, lm, _⟩ := firstN_some h1
      refine ⟨_, rfl, _, _, _, _, true, rfl, .ty _, .base (.tup h5), by rfl, _, rfl, iteB rfl ?_⟩
      refine ⟨_, rfl, q, _, rfl, .inr (SqT.of h5), _, _, rfl, rfl, _, rfl, iteB (decide_eq_false (by show ¬ ((3 : Int) < 2); decide)) ?_⟩
      refine ⟨_, rfl, q, _, _, _, rfl, rfl, SqT.of h5, at0 rfl, _, _, _, _, true, rfl, .ty _, .base (.str _), by rfl, _, rfl, iteB rfl ?_⟩
      refine ⟨_, rfl, q, _, _, _, rfl, rfl, SqT.of h5, at0 rfl, rfl, _, rfl, iteB (by decide +kernel) ?_⟩
      refine ⟨_, rfl, q, _, _, _, rfl, rfl, SqT.of h5, at0 rfl, rfl, _, rfl, iteB (by decide +kernel) ?_⟩
      refine ⟨_, rfl, q, _, rfl, .inr (SqT.of h5), rfl, _, rfl, iteB (by show (!decide (V.int 3 = V.int 3)) = false; decide) ?_⟩
      refine ⟨_, rfl, q, _, _, _, rfl, rfl, SqT.of h5, at1 rfl, _, rfl, l, _, rfl, .inl (SqL.of el), _, _, rfl, rfl, (m : Int), 0, ((ts.length : Nat) : Int) - 1, rfl, ?_⟩
      have e0 : decide ((0 : Int) ≤ (m : Int)) = true := decide_eq_true (by omega)
      have e1 : decide ((m : Int) ≤ ((ts.length : Nat) : Int) - 1) = true := decide_eq_true (by omega)
      rw [e0, e1]
      refine ⟨_, rfl, iteB rfl ?_⟩
      refine ⟨_, rfl, _, rfl, q, _, _, _, rfl, rfl, SqT.of h5, at2 rfl, lo, L, v, rfl, la1, ok, h2, fun H2 s2 => ⟨_, rfl, iteB rfl ?_⟩⟩
      have s02 := s01.trans s2
      refine ⟨_, rfl, _, rfl, _, rfl, lo, t, L, ys, rfl, la.same s02, ok, ht.same s02, fun e ws H3 s3 _ ee pw => ?_⟩
      have s23 := s2.trans s3
      have s03 := s02.trans s3
      have sIn : ∀ s ∈ spotsIn L ys, s ∈ spotsOf L.kps := fun s hs => (List.mem_filter.mp hs).1
      have sl : (spotsIn L ys).length ≤ 12 := Nat.le_trans List.filter_sublist.length_le (spots12 ok)
      refine ⟨_, rfl, q, _, _, _, rfl, rfl, SqT.of (s23 _ _ h5), at2 rfl, lo, e, L, ws, spotsIn L ys, v, rfl, la.same s03, ok, ee, pw, sIn, sl, h2, fun H4 s4 => ⟨_, rfl, ?_⟩⟩
      have ed : ((spotsIn L ys).all fun s => !dot (codeS L s) v) = true := h4
      rw [ed]
      refine iteB rfl ?_
      have s14 := s23.trans s4
      have s04 := s03.trans s4
      have h54 := s14 _ _ h5
      have hm2 : ((spK kq).map (pieceOf L))[m]? = some (pieceOf L (kq.1, m)) := by rw [List.getElem?_map, spK_at ml]; rfl
      obtain ⟨v2, hv2, u, rfl, eu⟩ := paired_get pr hm2
      refine ⟨_, rfl, _, rfl, _, rfl, q, _, _, _, rfl, rfl, SqT.of h54, at1 rfl, l, ts, _, .ref u, rfl, rfl, SqL.of (s14 _ _ el), atN hv2, _, rfl, q, _, _, _, rfl, rfl, SqT.of h54, at2 rfl, lo, u, L, pieceOf L (kq.1, m), stv v, rfl, la.same s04, p4, s14 _ _ eu, recOk_stv h2, fun H5 s5 => ?_⟩
      rw [ones_dot h2]
      refine ⟨rfl, ?_⟩
      rw [dec1]
      have e3 : dot (vecP L.parts (pieceOf L (kq.1, m))) v = true := h3
      rw [e3]
      exact k H5 (s04.trans s5)
    · have so := sums_ok ok hk h1
      have q2 := (ok.q kq hk).2.1
      obtain ⟨sums, hsum⟩ : ∃ sums, sums = (spK kq).map (sumO L ys) := ⟨_, rfl⟩
      rw [← hsum] at h4 so
      clear hsum h1
      have ul : us.length = kq.2.length := by rw [Paired.length h4, so.len]
      refine ⟨_, rfl, _, _, _, _, true, rfl, .ty _, .base (.tup h2), by rfl, _, rfl, iteB rfl ?_⟩
      refine ⟨_, rfl, q, _, rfl, .inr (SqT.of h2), _, _, rfl, rfl, _, rfl, iteB (decide_eq_false (by show ¬ ((2 : Int) < 2); decide)) ?_⟩
      refine ⟨_, rfl, q, _, _, _, rfl, rfl, SqT.of h2, at0 rfl, _, _, _, _, true, rfl, .ty _, .base (.str _), by rfl, _, rfl, iteB rfl ?_⟩
      refine ⟨_, rfl, q, _, _, _, rfl, rfl, SqT.of h2, at0 rfl, rfl, _, rfl, iteA (by decide +kernel) ?_⟩
      refine ⟨_, rfl, q, _, rfl, .inr (SqT.of h2), rfl, _, rfl, iteB (by show (!decide (V.int 2 = V.int 2)) = false; decide) ?_⟩
      refine ⟨_, rfl, q, _, _, _, rfl, rfl, SqT.of h2, at1 rfl, _, _, _, _, true, rfl, .ty _, .base (.tup h3), by rfl, _, rfl, iteB rfl ?_⟩
      refine ⟨_, rfl, q, _, _, _, rfl, rfl, SqT.of h2, at1 rfl, p, _, rfl, .inr (SqT.of h3), _, rfl, l, _, rfl, .inl (SqL.of el), rfl, _, rfl, iteB (by rw [ul, tl]; simp) ?_⟩
      obtain ⟨zs, z1, z2, z3⟩ := paired_zip h4
      have zl : zs.length = kq.2.length := by rw [← so.len, ← z2, List.length_map]
      refine ⟨_, rfl, q, _, _, _, rfl, rfl, SqT.of h2, at1 rfl, p, rfl, ⟨_, SqT.of h3⟩, all_over (walk_tup (a := p) (xs := us)) zs (·.1) (fun _ => true) z1.symm (by omega) (fun H s => sqT_same s (SqT.of h3)) ?_ ?_⟩
      · rintro i ⟨yv, ss⟩ H3 R hy s3 kk
        obtain ⟨a, vs, et, ea, pa⟩ := z3 _ (List.mem_of_getElem? hy)
        dsimp only at et ea pa
        subst et
        have sm : ss ∈ sums := by rw [← z2]; exact List.mem_map.mpr ⟨_, List.mem_of_getElem? hy, rfl⟩
        exact ⟨rfl, _, rfl, _, rfl, _, rfl, lo, t, a, L, ys, vs, ss, rfl, la1.same s3, ok, ht1.same s3, s3 _ _ ea, Paired.mapP pa fun v s r => RelS.keep _ _ _ _ (.of s3) r, so.sub ss sm, fun H4 s4 => kk _ s4⟩
      intro H3 s3
      have al : (zs.all fun _ => true) = true := by simp
      rw [al]
      refine ⟨_, rfl, iteB rfl ?_⟩
      have h23 := s3 _ _ h2
      have src : ∀ H', Same H3 H' → SrcAt K (.tup p) H' us ∧ SrcAt K (.lst l) H' ts := fun H' s' => ⟨SqT.of ((s3.trans s') _ _ h3), SqL.of ((s3.trans s') _ _ el)⟩
      refine ⟨_, rfl, q, _, _, _, rfl, rfl, SqT.of h23, at1 rfl, _, rfl, .tup p, .lst l, us, ts, rfl, (src H3 (Same.refl _)).1, (src H3 (Same.refl _)).2, fun D nD => ?_⟩
      refine lc_fm (walk_zipS (s1 := .tup p) (s2 := .lst l) (xs := us) (ys := ts) (n := kq.2.length) (by rw [ul, tl, Nat.min_self])) (List.range kq.2.length) (fun _ => some (V.bl true)) (by rw [List.length_range]) (by omega) nD (fun H' s' => src H' s') ?_ ?_
      · rintro i v b H4 H4' R Rn hb s4 ⟨T1, b1, b2, rfl, nT, rfl, e1, e2⟩ k1 k2
        obtain ⟨hil, rfl⟩ : i < kq.2.length ∧ i = b := by
          obtain ⟨h2, h3⟩ := List.getElem?_eq_some_iff.mp hb
          rw [List.length_range] at h2
          rw [List.getElem_range] at h3
          exact ⟨h2, h3⟩
        have e1 : us[i]? = some b1 := e1
        have e2 : ts[i]? = some b2 := e2
        obtain ⟨ss, hss, a, vs, rfl, ea, pa⟩ := paired_put h4 e1
        obtain ⟨pc, hpc, u, rfl, eu⟩ := paired_put pr e2
        rw [List.getElem?_map, spK_at hil] at hpc
        obtain rfl : pieceOf L (kq.1, i) = pc := Option.some.inj hpc
        have sS := (spotsIn_iff_sub (so.sub ss (List.mem_of_getElem? hss)))
        have od : oddL L.parts (ss.map (pieceOf L)) = pieceOf L (kq.1, i) := by
          have h1 : (sums.map fun ss => oddL L.parts (ss.map (pieceOf L)))[i]? = some (oddL L.parts (ss.map (pieceOf L))) := by rw [List.getElem?_map, hss]; rfl
          rw [so.odd, List.getElem?_map, spK_at hil] at h1
          exact (Option.some.inj h1).symm
        have s5 : Same H4 (upd H4 T1 (.tup [.ref a, .ref u])) := same_new nT
        have sA := (s3.trans s4).trans s5
        refine ⟨T1, _, rfl, SqT.of upd_same, rfl, _, _, rfl, _, _, rfl, rfl, rfl, _, rfl, _, rfl, lo, a, L, vs, ss, rfl, la1.same sA, ok, sA _ _ ea, Paired.mapP pa fun v s r => RelS.keep _ _ _ _ (.of sA) r, sS, fun r H6 s6 er => ?_⟩
        rw [od] at er
        have np := (nice_parts ok (zs := pieceOf L (kq.1, i)) (fun z hz => by rw [← od] at hz; exact (odd_sub _ _).1 z hz) (by rw [← od]; exact Nat.le_trans (odd_sub _ _).2 p4)).shaped (by decide)
        refine ⟨_, rfl, .tuple (strsD (pieceOf L (kq.1, i))), .tuple (strsD (pieceOf L (kq.1, i))), .tup (SqT.of er) (dp_strs _), .tup (SqT.of (s6 _ _ (sA _ _ eu))) (dp_strs _), np, np, ?_⟩
        rw [eqv_strsT, decide_eq_true rfl]
        exact k1 _ _ rfl (s5.trans s6)
      · intro H4 s4 eD
        rw [fm_true] at eD
        refine ⟨D, List.replicate kq.2.length true, rfl, SqL.of (by rw [eD, List.map_replicate]), ?_⟩
        have : (List.replicate kq.2.length true).all id = true := by
          rw [List.all_eq_true]
          intro b hb
          rw [(List.mem_replicate.mp hb).2]
          rfl
        rw [this]
        exact k _ ((s01.trans s3).trans s4)
end
end K6
set_option Elab.async false
set_option linter.all false
set_option maxRecDepth 100000
set_option maxHeartbeats 1500000
set_option pp.maxSteps 1200
set_option pp.deepTerms false
namespace K6
open PySem PySem.Spec PyProof.Rows L2 Lk
abbrev sAllLots : Stmt := top 91
def retLScope (st : Stmt) (i : Nat) : Scope := match (defBody st).getD i (.Pass ⟨0, 0, 0, 0⟩) with
  | .Return (some (.ListComp _ _ sc _)) _ => sc
  | _ => defScope st
/-- all choices of places, the later places in the later half -/
def rowsN : Nat → List (List Nat)
  | 0 => [[]]
  | n + 1 => rowsN n ++ (rowsN n).map (· ++ [n])
theorem rowC_succ (n c : Nat) : rowC (n + 1) c = rowC n c ++ (if c / 2 ^ n % 2 = 1 then [n] else []) := by
  unfold rowC
  rw [List.range_succ, List.filter_append]
  congr 1
  by_cases h : c / 2 ^ n % 2 = 1
  · simp [h]
  · simp [h]
theorem rowsN_eq : ∀ n, rowsN n = (List.range (2 ^ n)).map (rowC n)
  | 0 => by
    show [[]] = (List.range 1).map (rowC 0)
    rfl
  | n + 1 => by
    have e : List.range (2 ^ (n + 1)) = List.range (2 ^ n) ++ (List.range (2 ^ n)).map (2 ^ n + ·) := by
      rw [Nat.pow_succ, Nat.mul_two, List.range_add]
    rw [rowsN, rowsN_eq n, e, List.map_append, List.map_map, List.map_map]
    congr 1
    · refine List.map_congr_left fun c hc => ?_
      have lt := List.mem_range.mp hc
      rw [rowC_succ, Nat.div_eq_of_lt lt]
      simp
    · refine List.map_congr_left fun c hc => ?_
      have lt := List.mem_range.mp hc
      show rowC n c ++ [n] = rowC (n + 1) (2 ^ n + c)
      have d : (2 ^ n + c) / 2 ^ n = 1 := by
        rw [Nat.add_div_left _ (Nat.pow_pos (by decide)), Nat.div_eq_of_lt lt]
      rw [rowC_succ, d]
      have e2 : rowC n (2 ^ n + c) = rowC n c := rowC_congr fun p hp => by
        have : 2 ^ n = 2 ^ p * (2 * 2 ^ (n - p - 1)) := by
          rw [← Nat.mul_assoc, Nat.mul_comm (2 ^ p) 2, Nat.mul_comm 2, ← Nat.pow_succ, ← Nat.pow_add]
          congr 1
          omega
        rw [this, Nat.mul_add_div (Nat.pow_pos (by decide)), Nat.mul_add_mod]
      rw [e2]
      rfl
theorem rowsN_len (n : Nat) : (rowsN n).length = 2 ^ n := by rw [rowsN_eq, List.length_map, List.length_range]
theorem paired_map_eq2 {α β γ : Type} {R : α → β → Prop} {f : α → γ} {g : β → γ} (h : ∀ a b, R a b → f a = g b) : ∀ {xs : List α} {ys : List β}, Paired R xs ys → xs.map f = ys.map g
  | _, _, .nil => rfl
  | _, _, .cons r t => by rw [List.map_cons, List.map_cons, h _ _ r, paired_map_eq2 h t]
theorem paired_mem2 {α β : Type} {R : α → β → Prop} : ∀ {xs : List α} {ys : List β}, Paired R xs ys → ∀ x ∈ xs, ∃ y ∈ ys, R x y
  | _, _, .nil, x, h => by cases h
  | _, _, .cons r t, x, h => by
    rcases List.mem_cons.mp h with rfl | h
    · exact ⟨_, List.mem_cons_self, r⟩
    · obtain ⟨y, h1, h2⟩ := paired_mem2 t x h
      exact ⟨y, List.mem_cons_of_mem _ h1, h2⟩
def RelI (H : Hp) (v : V) (ns : List Nat) : Prop := ∃ t, v = V.ref t ∧ H t = some (.tup ((ns.map fun p : Nat => (p : Int)).map V.int))
theorem RelI.keepP {H H' : Hp} (k : Keep H H') (v : V) (r : List Nat) (h : RelI H v r) : RelI H' v r := by
  obtain ⟨t, e1, e2⟩ := h
  exact ⟨t, e1, k _ _ e2 fun _ z => by cases z⟩
def RelPT (H : Hp) (v : V) (ns : List Nat) : Prop := ∃ t b, v = V.ref t ∧ H t = some (.tup [.int (ns.length : Int), .ref b]) ∧ H b = some (.tup ((ns.map fun p : Nat => (p : Int)).map V.int))
theorem RelPT.inj {H : Hp} {v : V} {ns ms : List Nat} (h : RelPT H v ns) (g : RelPT H v ms) : ns = ms := by
  obtain ⟨t, b, e1, e2, e3⟩ := h
  obtain ⟨t', b', f1, f2, f3⟩ := g
  rw [e1] at f1
  cases f1
  rw [e2] at f2
  injection f2 with f2
  injection f2 with f2
  injection f2 with f4 f5
  injection f5 with f5 _
  injection f5 with f5
  subst f5
  rw [e3] at f3
  injection f3 with f3
  injection f3 with f3
  have := (List.map_inj_right (fun a b h => V.int.inj h)).mp f3
  exact (List.map_inj_right (fun a b h => Int.ofNat.inj h)).mp this
theorem RelPT.keepP {H H' : Hp} (k : Keep H H') (v : V) (r : List Nat) (h : RelPT H v r) : RelPT H' v r := by
  obtain ⟨t, b, e1, e2, e3⟩ := h
  exact ⟨t, b, e1, k _ _ e2 (fun _ z => by cases z), k _ _ e3 fun _ z => by cases z⟩
section
variable {P : Program} {w : World} {K : PySem.W.Frag} {mg : Str → Option Value} {base : Heap} {f : Addr} {fd : FuncData}
def spAllLots (K : PySem.W.Frag) : Sp := fun vs H Q _ => ∃ (n : Addr) (zs : List Str), vs = [.ref n] ∧ SqT K H n (zs.map V.str) ∧ zs.length ≤ 6 ∧
  ∀ (D : Addr) (ts : List V) (rws : List (List Str)) (H' : Hp), Same H H' → H D = none → H' D = some (.lst ts) → Paired (RelT H') ts rws → LotsOk zs rws → Q (.ref D) H'
abbrev nmAL : List Str := ["names", "found", "place", "lot", "ranked", "size"]
theorem scAllLots : FnScope nmAL ["names"] (defScope sAllLots) := ⟨rfl, rfl, rfl, by decide +kernel, rfl, by decide +kernel, by decide +kernel⟩
def tPlacesL (K : PySem.W.Frag) : TE := fun σ H Q => tLc (iTup K (tVar 3)) (gName 2) tYes (tOp (rIxT K) (tVar 0) (tVar 2)) [2] σ H fun x H1 => kTup K x H1 Q
theorem ok_allLots (F : Fun K "_law_all_lots" "_law_all_lots" sAllLots f fd) (T : Bl mg) (Cc : Cn mg) : FnOk P w K mg base CX0 1 f fd ["names"] (spAllLots K) := by
  refine F.ok scAllLots (fun vs H Q E h => ?_) (fun cdv A outer s H vs Q E hr h => ?_)
  · obtain ⟨n, zs, rfl, _⟩ := h
    rfl
  · obtain ⟨n, zs, rfl, hn, z6, k⟩ := h
    have nd := scAllLots.nd
    have hu := hu_of hr
    have hu8 : _ + 8 < cLine := Nat.lt_of_le_of_lt (Nat.add_le_add_left (by decide) _) (room64 hr)
    refine ⟨_, pss_cons (ps_set (i := 1) nd rfl (.inl rfl) (pe_lst (pa_cons (pe_tup pa_nil) pa_nil)))
      (pss_cons (ps_for PassesOwn.never rfl (pi_range1 (by rfl) T.range (pa_cons (pe_callB call_len_seq (by rfl) T.len PySem.boot_len (pa_cons (pv 0) pa_nil)) pa_nil)) (pg_name (i := 2) nd rfl (.inr rfl))
          (pss_one (ps_set (i := 1) nd rfl (.inl rfl) (pe_op op_cat (pv 1) (pe_lc (own := [("lot", 3)]) (g := gName 3) (tt := tYes) (te := tOp (rCatT2 K) (tVar 3) (tTup (tCons (tVar 2) tNil))) rfl nd (pi_list (pv 1)) (blkOk_by (N := nmAL) (sc := defScope sAllLots) (by decide +kernel))
              (fun _ _ _ _ _ => pg_name (i := 3) nd rfl (.inl rfl)) (fun _ _ _ _ _ => pts_nil) (fun _ _ _ _ _ => pe_op op_catT2 (pv 3) (pe_tup (pa_cons (pv 2) pa_nil))))))))
      (pss_cons (ps_set (i := 4) nd rfl (.inl rfl) (pe_callB (cr_sortedLen (tup := true) hu8) (by rfl) Cc.sorted boot_sorted (pa_cons (pe_lc (own := [("lot", 3)]) (g := gName 3) (tt := tYes) (te := tTup (tCons (tCB (rLenS K) (tCons (tVar 3) tNil)) (tCons (tVar 3) tNil))) rfl nd (pi_list (pv 1))
          (blkOk_by (N := nmAL) (sc := defScope sAllLots) (by decide +kernel)) (fun _ _ _ _ _ => pg_name (i := 3) nd rfl (.inl rfl)) (fun _ _ _ _ _ => pts_nil)
          (fun _ _ _ _ _ => pe_tup (pa_cons (pe_callB call_len_seq (by rfl) T.len PySem.boot_len (pa_cons (pv 3) pa_nil)) (pa_cons (pv 3) pa_nil)))) pa_nil)))
      (pss_one (ps_ret (pe_lc (own := [("size", 5), ("lot", 3)]) (g := gTup K 2 (gCons (gName 5) (gCons (gName 3) gNil))) (tt := tYes) (te := tPlacesL K) rfl nd (pi_list (pv 4))
          (blkOk_by (N := nmAL) (sc := defScope sAllLots) (by decide +kernel)) (fun _ _ _ _ _ => pg_tup rfl (pgs_cons (pg_name (i := 5) nd rfl (.inl rfl)) (pgs_cons (pg_name (i := 3) nd rfl (.inl rfl)) pgs_nil))) (fun _ _ _ _ _ => pts_nil)
          (fun _ _ _ _ _ => pe_tupleOf (by rfl) Cc.tuple (pe_lc (own := [("place", 2)]) (g := gName 2) (tt := tYes) (te := tOp (rIxT K) (tVar 0) (tVar 2)) rfl nd (pi_tup (pv 3))
            (blkOk_by (N := nmAL) (sc := relS (retLScope sAllLots 3) (defScope sAllLots)) (by decide +kernel)) (fun _ _ _ _ _ => pg_name (i := 2) nd rfl (.inl rfl)) (fun _ _ _ _ _ => pts_nil)
            (fun _ _ _ _ _ => pe_ix ix_tup (pv 0) (pv 2) (fun _ _ => rfl))))))))), ?_⟩
    refine ⟨few_ok rfl, fun e0 ne0 => ⟨few_ok rfl, fun l0 nl0 => ?_⟩⟩
    have s1 : Same H (upd H e0 (.tup [])) := same_new ne0
    have s2 := same_new (o := HO.lst [.ref e0]) nl0
    have ee0 := s2 _ _ (upd_same (H := H) (a := e0) (o := HO.tup []))
    have el0 := upd_same (H := upd H e0 (.tup [])) (a := l0) (o := HO.lst [.ref e0])
    have s12 := s1.trans s2
    generalize upd (upd H e0 (.tup [])) l0 (.lst [.ref e0]) = H2 at s12 ee0 el0 ⊢
    refine ⟨_, rfl, n, _, rfl, .inr (sqT_same s12 hn), ?_⟩
    rw [List.length_map]
    refine ⟨_, rfl, by omega, by omega, for_range (lo := 0) (n := zs.length) (fun i σ H' => ∃ (fl : Addr) (ts : List V) (u v x y : Option V), σ = [some (.ref n), some (.ref fl), u, v, x, y] ∧ H' fl = some (.lst ts) ∧ Paired (RelI H') ts (rowsN i) ∧ Same H2 H') ?_ ?_ ?_⟩
    · exact ⟨l0, [.ref e0], none, none, none, none, rfl, el0, .cons ⟨e0, rfl, ee0⟩ .nil, .refl _⟩
    · rintro i σ H' hi ⟨fl, ts, u, v, x, y, rfl, ef, pr, ss⟩
      have hi6 : i < 6 := by omega
      have r32 : (rowsN i).length ≤ 32 := by rw [rowsN_len]; exact Nat.le_trans (Nat.pow_le_pow_right (by decide) (show i ≤ 5 by omega)) (by decide)
      obtain ⟨ws, w1, w2, w3⟩ := paired_zip pr
      have wl : ws.length = (rowsN i).length := by rw [← w2, List.length_map]
      have tl : ts.length = (rowsN i).length := paired_len pr
      refine ⟨_, rfl, _, rfl, fl, rfl, ⟨_, SqL.of ef⟩, fun D nD => lc_relQ (walk_list (a := fl) (xs := ts)) nD ws (fun z => z.1) (fun z => z.2 ++ [i]) RelI (fun Ha Hb v b kp h => RelI.keepP kp v b h) w1.symm (by omega) (fun H s => s.seq (SqL.of ef)) ?_ ?_⟩
      · rintro j ⟨zv0, ns⟩ H3 R hz s3 kR
        obtain ⟨t, et, eh⟩ := w3 _ (List.mem_of_getElem? hz)
        dsimp only at et eh
        subst et
        have nm : ns ∈ rowsN i := by rw [← w2]; exact List.mem_map.mpr ⟨_, List.mem_of_getElem? hz, rfl⟩
        have nl : ns.length ≤ 6 := by
          rw [rowsN_eq] at nm
          obtain ⟨c, _, rfl⟩ := List.mem_map.mp nm
          exact Nat.le_trans (rowC_len _ _) (by omega)
        refine ⟨rfl, _, rfl, _, rfl, few_ok rfl, fun q nq => ?_⟩
        have s4 : Same H3 (upd H3 q (.tup [.int (0 + (i : Nat))])) := same_new nq
        have eq := upd_same (H := H3) (a := q) (o := HO.tup [.int (0 + (i : Nat))])
        have em : ((ns ++ [i]).map fun p : Nat => (p : Int)).map V.int = (ns.map fun p : Nat => (p : Int)).map V.int ++ [.int (0 + (i : Nat))] := by
          rw [List.map_append, List.map_append, Int.zero_add]
          rfl
        refine ⟨t, q, _, _, rfl, rfl, SqT.of (s4 _ _ (s3 _ _ eh)), SqT.of eq, by simp, by rw [List.length_map, List.length_map, sizeLine_eq]; show ns.length + 1 ≤ _; omega, fun e => ?_, fun _ p np => ?_⟩
        · refine kR _ _ s4 ⟨q, rfl, ?_⟩
          rw [em, e]
          exact eq
        · refine kR _ _ (s4.trans (same_new np)) ⟨p, rfl, ?_⟩
          rw [em]
          exact upd_same
      · intro H3 ts3 s3 eD pD
        have pE : Paired (RelI H3) ts3 ((rowsN i).map (· ++ [i])) := by
          rw [← w2, List.map_map]
          exact pD
        have tl3 : ts3.length = (rowsN i).length := by rw [paired_len pE, List.length_map]
        refine ⟨fl, D, _, _, rfl, rfl, s3 _ _ ef, eD, by rw [sizeLine_eq]; omega, fun p np => ?_⟩
        have s4 : Same H3 (upd H3 p (.lst (ts ++ ts3))) := same_new np
        refine ⟨p, ts ++ ts3, _, _, _, _, rfl, upd_same, ?_, (ss.trans s3).trans s4⟩
        exact paired_append (Paired.mapP pr fun v r h => RelI.keepP (.of (s3.trans s4)) v r h) (Paired.mapP pE fun v r h => RelI.keepP (.of s4) v r h)
    · rintro σ H' ⟨fl, ts, u, v, x, y, rfl, ef, pr, ss⟩
      have N64 : (rowsN zs.length).length ≤ 64 := by rw [rowsN_len]; exact Nat.pow_le_pow_right (by decide) z6
      obtain ⟨ws, w1, w2, w3⟩ := paired_zip pr
      have wl : ws.length = (rowsN zs.length).length := by rw [← w2, List.length_map]
      refine ⟨_, rfl, fl, rfl, ⟨_, SqL.of ef⟩, fun E1 nE => lc_relQ (walk_list (a := fl) (xs := ts)) nE ws (fun z => z.1) (fun z => z.2) RelPT (fun Ha Hb v b kp h => RelPT.keepP kp v b h) w1.symm (by omega) (fun H s => s.seq (SqL.of ef)) ?_ ?_⟩
      · rintro j ⟨zv0, ns⟩ H3 R hz s3 kR
        obtain ⟨t, et, eh⟩ := w3 _ (List.mem_of_getElem? hz)
        dsimp only at et eh
        subst et
        have eh4 := s3 _ _ eh
        refine ⟨rfl, _, rfl, t, _, rfl, .inr (SqT.of eh4), _, rfl, few_ok rfl, fun q nq => ?_⟩
        rw [List.length_map, List.length_map]
        exact kR _ (.ref q) (same_new nq) ⟨q, t, rfl, upd_same, same_new nq _ _ eh4⟩
      · intro H5 ts2 s5 eE pr2
        rw [w2] at pr2
        classical
        obtain ⟨kN, hkN⟩ : ∃ kN : V → List Nat, kN = fun x => if h : ∃ q : List Nat, RelPT H5 x q then h.choose else [] := ⟨_, rfl⟩
        have kR : ∀ {x : V} {ns : List Nat}, RelPT H5 x ns → kN x = ns := fun {x ns} r => by
          have ex : ∃ q : List Nat, RelPT H5 x q := ⟨_, r⟩
          rw [hkN]
          show (if h : _ then _ else _) = _
          rw [dif_pos ex]
          exact RelPT.inj ex.choose_spec r
        have kmap : ts2.map kN = rowsN zs.length := by
          have := paired_map_eq2 (f := kN) (g := fun ns : List Nat => ns) (fun x ns r => kR r) pr2
          rw [this, List.map_id'']
          exact fun _ => rfl
        have relK : ∀ x ∈ ts2, RelPT H5 x (kN x) := fun x hx => by
          obtain ⟨ns, _, r⟩ := paired_mem2 pr2 x hx
          rw [kR r]
          exact r
        refine ⟨E1, ts2, fun x => (kN x).map fun p : Nat => (p : Int), rfl, SqL.of eE, fun x hx => ?_, fun os p srt perm np => ?_⟩
        · obtain ⟨t, b, e1, e2, e3⟩ := relK x hx
          exact ⟨t, b, e1, by rw [List.length_map]; exact e2, by rw [if_pos rfl]; exact SqT.of e3⟩
        have s6 : Same H5 (upd H5 p (.lst os)) := same_new np
        have ep6 : upd H5 p (.lst os) p = some (.lst os) := upd_same
        generalize upd H5 p (.lst os) = H6 at s6 ep6
        have relO : ∀ x ∈ os, RelPT H6 x (kN x) := fun x hx => RelPT.keepP (.of s6) _ _ (relK x (perm.mem_iff.mp hx))
        have ordP : (os.map kN).Perm (rowsN zs.length) := by
          rw [← kmap]
          exact perm.map kN
        have osl : os.length = (rowsN zs.length).length := by
          have := ordP.length_eq
          rw [List.length_map] at this
          exact this
        have sA : Same H H6 := ((s12.trans ss).trans s5).trans s6
        refine ⟨_, rfl, p, rfl, ⟨_, SqL.of ep6⟩, fun G nG => lc_relQ (walk_list (a := p) (xs := os)) nG os id (fun y => namesAt zs (kN y)) RelT (fun Ha Hb v b kp r => ?_) (by rw [List.map_id]) (by omega) (fun H s => s.seq (SqL.of ep6)) ?_ ?_⟩
        · obtain ⟨t, e1, e2⟩ := r
          exact ⟨t, e1, kp _ _ e2 fun _ z => by cases z⟩
        · intro i y H7 R hy s7 kR2
          obtain ⟨t, b, e1, e2, e3⟩ := relO y (List.mem_of_getElem? hy)
          have mem : ∃ c, kN y = rowC zs.length c := by
            have m := ordP.mem_iff.mp (List.mem_map.mpr ⟨y, List.mem_of_getElem? hy, rfl⟩)
            rw [rowsN_eq] at m
            obtain ⟨c, _, e⟩ := List.mem_map.mp m
            exact ⟨c, e.symm⟩
          have small : ∀ q ∈ kN y, q < zs.length := fun q hq => by
            obtain ⟨c, e⟩ := mem
            rw [e] at hq
            exact rowC_lt hq
          have kl : (kN y).length ≤ 6 := by
            obtain ⟨c, e⟩ := mem
            rw [e]
            exact Nat.le_trans (rowC_len _ _) z6
          have e3' := s7 _ _ e3
          refine ⟨t, _, e1, SqT.of (s7 _ _ e2), rfl, _, _, rfl, _, _, rfl, rfl, rfl, _, rfl, b, rfl, ⟨_, SqT.of e3'⟩, fun E2 nE2 => ?_⟩
          refine lc_fm (walk_tup (a := b) (xs := ((kN y).map fun p : Nat => (p : Int)).map V.int)) ((kN y).map fun p : Nat => (p : Int)) (fun p => some (V.str (zs.getD p.toNat Str.empty))) (by simp only [List.length_map]) (by simp only [List.length_map]; omega) nE2 (fun H s => sqT_same s (SqT.of e3')) ?_ ?_
          · rintro j u q H8 H8' R2 Rn2 hq s8 ⟨rfl, hu⟩ g1 g2
            obtain rfl : V.int q = u := by
              rw [List.getElem?_map, hq] at hu
              exact Option.some.inj hu
            obtain ⟨m, hm, rfl⟩ := List.mem_map.mp (List.mem_of_getElem? hq)
            have ml := small m hm
            have sH8 := (sA.trans s7).trans s8
            refine ⟨rfl, _, rfl, _, rfl, n, zs.map V.str, (m : Int), _, rfl, rfl, sqT_same sH8 hn, atN (i := m) (v := V.str (zs.getD m Str.empty)) ?_, g1 _ _ (by rw [Int.toNat_natCast]) (Same.refl _)⟩
            rw [List.getElem?_map, List.getD_eq_getElem?_getD, List.getElem?_eq_getElem ml]
            rfl
          · intro H8 s8 e8
            rw [fm_at] at e8
            exact .inl ⟨E2, _, rfl, SqL.of e8, fun T nT => kR2 _ _ (s8.trans (same_new nT)) ⟨T, rfl, upd_same⟩⟩
        · intro H9 ts9 s9 eG pr9
          have s09 := sA.trans s9
          refine k G ts9 (os.map fun y => namesAt zs (kN y)) _ s09 (sA.free nG) eG (Paired.mapP pr9 fun v b ⟨t, e1, e2⟩ => ⟨t, e1, e2⟩) ⟨os.map kN, by rw [List.map_map]; rfl, ?_, SrtO.srtd_map srt⟩
          rw [← rowsN_eq]
          exact ordP
end
end K6
set_option Elab.async false
set_option linter.all false
set_option maxRecDepth 100000
set_option maxHeartbeats 1500000
set_option pp.maxSteps 1200
set_option pp.deepTerms false
namespace K6
open PySem PySem.Spec PyProof.Rows L2 Lk
/-- all answers to a record -/
def rowV (L : Lore) (v : Vec) : List V := L.kps.map fun k => V.str (stv (ansV L k v))
def RelTb (H : Hp) (L : Lore) (kv : L2.Key × V) (v : Vec) : Prop := kv.1 = .inr (stv v) ∧ ∃ a, kv.2 = V.ref a ∧ H a = some (.lst (rowV L v))
def TabAt (H : Hp) (tb : Addr) (L : Lore) : Prop := ∃ kvs, H tb = some (.dK kvs) ∧ Paired (RelTb H L) kvs (vL L.parts.length)
theorem TabAt.same {H H' : Hp} {tb : Addr} {L : Lore} (h : TabAt H tb L) (s : Same H H') : TabAt H' tb L := by
  obtain ⟨kvs, e, p⟩ := h
  exact ⟨kvs, s _ _ e, Paired.mapP p fun kv v ⟨h1, a, h2, h3⟩ => ⟨h1, a, h2, s _ _ h3⟩⟩
theorem rowV_ne {L : Lore} (ok : LoreOk L) (v : Vec) {o b c : Int} : rowV L v ≠ [.int o, .int b, .int c] := by
  unfold rowV
  have := ok.k2
  cases z : L.kps with
  | nil => rw [z] at this; exact absurd this (by decide)
  | cons x xs => intro e; cases e
theorem TabAt.ext {a tb : Addr} {N : Nat} {H H' : Hp} {L : Lore} (ok : LoreOk L) (hp : PotAt a N H) (h : TabAt H tb L) (x : ExtP a H H') : TabAt H' tb L := by
  obtain ⟨kvs, e, p⟩ := h
  obtain ⟨o, b, c, ea, _⟩ := hp
  refine ⟨kvs, x _ _ (fun z => by rw [z, ea] at e; cases e) e, Paired.mapP p fun kv v ⟨h1, q, h2, h3⟩ => ⟨h1, q, h2, x _ _ (fun z => ?_) h3⟩⟩
  rw [z, ea] at h3
  exact rowV_ne ok v (HO.lst.inj (Option.some.inj h3)).symm
theorem TabAt.extN {tb : Addr} {H H' : Hp} {L : Lore} (h : TabAt H tb L) (x : LamX.ExtN H H') : TabAt H' tb L := by
  obtain ⟨kvs, e, p⟩ := h
  exact ⟨kvs, x _ _ e (fun _ z => by cases z), Paired.mapP p fun kv v ⟨h1, q, h2, h3⟩ => ⟨h1, q, h2, x _ _ h3 (fun _ z => by cases z)⟩⟩
theorem put_new {kvs : List (L2.Key × V)} {k : L2.Key} {v : V} (h : ∀ x ∈ kvs, x.1 ≠ k) : putK kvs k v = kvs ++ [(k, v)] := by
  unfold putK
  rw [if_neg]
  intro ha
  obtain ⟨y, hy, he⟩ := List.any_eq_true.mp ha
  exact h y hy (of_decide_eq_true he)
theorem paired_mem {α β : Type} {R : α → β → Prop} : ∀ {xs : List α} {ys : List β}, Paired R xs ys → ∀ x ∈ xs, ∃ y ∈ ys, R x y
  | _, _, .nil, x, h => by cases h
  | _, _, .cons r t, x, h => by
    rcases List.mem_cons.mp h with rfl | h
    · exact ⟨_, List.mem_cons_self, r⟩
    · obtain ⟨y, h1, h2⟩ := paired_mem t x h
      exact ⟨y, List.mem_cons_of_mem _ h1, h2⟩
section
variable {P : Program} {w : World} {K : PySem.W.Frag} {mg : Str → Option Value} {base : Heap} {f : Addr} {fd : FuncData}
def spRows : Sp := fun vs H Q _ => ∃ (lo : Addr) (L : Lore), vs = [.ref lo] ∧ LoreAt H lo L ∧ LoreOk L ∧ ∀ tb H', Same H H' → TabAt H' tb L → Q (.ref tb) H'
/-! ### _law_strings -/
def spStrings : Sp := fun vs H Q _ => ∃ (lo : Addr) (L : Lore) (j : Nat) (kq : KP), vs = [.ref lo, .str kq.1] ∧ LoreAt H lo L ∧ LoreOk L ∧ L.kps[j]? = some kq ∧
  ∀ (us : List Vec) p H', us.Perm (vL kq.2.length) → us.length ≤ 4 → Same H H' → H p = none → H' p = some (.lst ((us.map stv).map V.str)) → Q (.ref p) H'
end
end K6
set_option Elab.async false
set_option linter.all false
set_option maxRecDepth 100000
set_option maxHeartbeats 1500000
set_option pp.maxSteps 1200
set_option pp.deepTerms false
namespace K6
open PySem PySem.Spec PyProof.Rows L2 Lk
abbrev sInside : Stmt := top 90
abbrev sLeastL : Stmt := top 92
theorem fm_rowsE (q : List Str → Bool) : ∀ zs : List (V × List Str), (zs.filterMap fun z => if q z.2 = true then some z.1 else none) = (zs.filter fun z => q z.2).map (·.1)
  | [] => rfl
  | z :: zs => by
    have ih := fm_rowsE q zs
    rw [List.filterMap_cons]
    by_cases h : q z.2 = true
    · rw [if_pos h, List.filter_cons_of_pos (p := fun z : V × List Str => q z.2) h, List.map_cons, ih]
    · rw [if_neg h, List.filter_cons_of_neg (p := fun z : V × List Str => q z.2) h, ih]
theorem paired_ofE {α β : Type} {R : α → β → Prop} : ∀ {zs : List (α × β)}, (∀ z ∈ zs, R z.1 z.2) → Paired R (zs.map (·.1)) (zs.map (·.2))
  | [], _ => .nil
  | z :: zs, h => .cons (h z List.mem_cons_self) (paired_ofE fun y hy => h y (List.mem_cons_of_mem _ hy))
section
variable {P : Program} {w : World} {K : PySem.W.Frag} {mg : Str → Option Value} {base : Heap} {f : Addr} {fd : FuncData}
def spInside (K : PySem.W.Frag) : Sp := fun vs H Q _ => ∃ (p q : Addr) (ys zs : List Str), vs = [.ref p, .ref q] ∧ SqT K H p (ys.map V.str) ∧ SqT K H q (zs.map V.str) ∧ ys.length ≤ 1000 ∧ ∀ H', Same H H' → Q (.bl (ys.all fun y => decide (y ∈ zs))) H'
theorem scInside : FnScope ["one", "other", "name"] ["one", "other"] (defScope sInside) := ⟨rfl, rfl, rfl, by decide +kernel, rfl, by decide +kernel, by decide +kernel⟩
theorem ok_inside (F : Fun K "_law_is_inside" "_law_is_inside" sInside f fd) (T : Bl mg) : FnOk P w K mg base CX0 1 f fd ["one", "other"] (spInside K) := by
  refine F.ok scInside (fun vs H Q E h => ?_) (fun cdv A outer s H vs Q E hr h => ?_)
  · obtain ⟨p, q, ys, zs, rfl, _⟩ := h
    rfl
  · obtain ⟨p, q, ys, zs, rfl, hp, hq, few, k⟩ := h
    have nd := scInside.nd
    refine ⟨_, pss_one (ps_ret (pe_callB (cr_all rfl) (by rfl) T.all boot_all (pa_cons (pe_lc (own := [("name", 2)]) (g := gName 2) (tt := tYes) (te := tOp (rIn K false) (tVar 2) (tVar 1)) rfl nd (pi_tup (pv 0)) (blkOk_by (N := ["one", "other", "name"]) (sc := defScope sInside) (by decide +kernel))
        (fun _ _ _ _ _ => pg_name (i := 2) nd rfl (.inl rfl)) (fun _ _ _ _ _ => pts_nil) (fun _ _ _ _ _ => pe_cmpR op_in_seq (pv 2) (pv 1) rfl)) pa_nil))), ?_⟩
    refine ⟨_, rfl, p, rfl, ⟨_, hp⟩, fun D nD => lc_fm (walk_tup (a := p) (xs := ys.map V.str)) ys (fun y => some (V.bl (decide (y ∈ zs)))) (by rw [List.length_map]) (by rw [List.length_map]; omega) nD (fun H s => sqT_same s hp) ?_ ?_⟩
    · rintro i u y H2 H2' R Rn hy s2 ⟨rfl, hu⟩ k1 k2
      obtain rfl : V.str y = u := by
        rw [List.getElem?_map, hy] at hu
        exact Option.some.inj hu
      refine ⟨rfl, _, rfl, _, rfl, q, _, rfl, .inr (sqT_same s2 hq), rfl, flat_strs _, ?_⟩
      rw [inV_str]
      exact k1 _ _ rfl (Same.refl _)
    · intro H2 s2 eD
      rw [fm_some] at eD
      have e : (ys.map fun y => V.bl (decide (y ∈ zs))) = (ys.map fun y => decide (y ∈ zs)).map V.bl := by rw [List.map_map]; rfl
      rw [e] at eD
      refine ⟨D, _, rfl, SqL.of eD, ?_⟩
      have e2 : ((ys.map fun y => decide (y ∈ zs)).all id) = ys.all fun y => decide (y ∈ zs) := by rw [List.all_map]; rfl
      rw [e2]
      exact k _ s2

/-! ### _law_least_lots -/
def spLeastL (K : PySem.W.Frag) : Sp := fun vs H Q _ => ∃ (n l : Addr) (zs : List Str) (ts : List V) (sel : List (List Str)), vs = [.ref n, .ref l] ∧ SqT K H n (zs.map V.str) ∧ NmOk zs ∧ H l = some (.lst ts) ∧ Paired (RelT H) ts sel ∧ (∀ r ∈ sel, r.Sublist zs) ∧ sel.length ≤ 64 ∧
  ∀ q us rws H', Same H H' → H' q = some (.tup us) → Paired (RelT H') us (leastF (fun r => decide (r ∈ sel)) rws) → LotsOk zs rws → Q (.ref q) H'
abbrev nmLL : List Str := ["names", "some", "found", "lot", "other"]
theorem scLeastL : FnScope nmLL ["names", "some"] (defScope sLeastL) := ⟨rfl, rfl, rfl, by decide +kernel, rfl, by decide +kernel, by decide +kernel⟩
theorem ok_leastL {f1 f2 : Addr} {fd1 fd2 : FuncData} (F : Fun K "_law_least_lots" "_law_least_lots" sLeastL f fd) (T : Bl mg) (Cc : Cn mg)
    (G1 : FnOk P w K mg base CX0 1 f1 fd1 ["names"] (spAllLots K)) (a1 : At K mg "_law_all_lots" f1 fd1 ["names"])
    (G2 : FnOk P w K mg base CX0 1 f2 fd2 ["one", "other"] (spInside K)) (a2 : At K mg "_law_is_inside" f2 fd2 ["one", "other"]) :
    FnOk P w K mg base CX0 2 f fd ["names", "some"] (spLeastL K) := by
  refine F.ok scLeastL (fun vs H Q E h => ?_) (fun cdv A outer s H vs Q E hr h => ?_)
  · obtain ⟨n, l, zs, ts, sel, rfl, _⟩ := h
    rfl
  · obtain ⟨n, l, zs, ts, sel, rfl, hn, nk, el, pr, hsub, s64, k⟩ := h
    have nd := scLeastL.nd
    have z6 := nk.k6
    refine ⟨_, pss_cons (ps_set (i := 2) nd rfl (.inl rfl) (pe_lst pa_nil))
      (pss_cons (ps_for PassesOwn.never rfl (pi_list (pe_lc (own := [("lot", 3)]) (g := gName 3) (tt := tTest (tOp (rInD K) (tVar 3) (tVar 1))) (te := tVar 3) rfl nd (pi_list (pe_call G1 hr (by rfl) a1.m a1.kp a1.b .nil pass0 (pa_cons (pv 0) pa_nil)))
              (blkOk_by (N := nmLL) (sc := defScope sLeastL) (by decide +kernel)) (fun _ _ _ _ _ => pg_name (i := 3) nd rfl (.inl rfl)) (fun _ _ _ _ _ => pts_one (pt_cmpR (op_inD (room65 hr)) (pv 3) (pv 1) rfl)) (fun _ _ _ _ _ => pv 3))) (pg_name (i := 3) nd rfl (.inr rfl))
          (pss_one (ps_if (pt_not (pt_val (pe_callB (cr_any rfl) (by rfl) T.any boot_any (pa_cons (pe_lc (own := [("other", 4)]) (g := gName 4) (tt := tYes) (te := tCall (spInside K) [] E0 (tCons (tVar 4) (tCons (tVar 3) tNil))) rfl nd (pi_list (pv 2))
              (blkOk_by (N := nmLL) (sc := defScope sLeastL) (by decide +kernel)) (fun _ _ _ _ _ => pg_name (i := 4) nd rfl (.inl rfl)) (fun _ _ _ _ _ => pts_nil) (fun _ _ _ _ _ => pe_call G2 hr (by rfl) a2.m a2.kp a2.b .nil pass0 (pa_cons (pv 4) (pa_cons (pv 3) pa_nil)))) pa_nil))))
            (pss_one (ps_expr (pe_bm PySem.F.plainAttrs_list PySem.F.slot_list_append PySem.F.type_list_append mt_append (pv 2) (pa_cons (pv 3) pa_nil)))) pss_nil)))
      (pss_one (ps_ret (pe_tupleOf (by rfl) Cc.tuple (pv 2))))), ?_⟩
    refine ⟨few_ok rfl, fun D nD => ?_⟩
    have s1 : Same H (upd H D (.lst [])) := same_new nD
    have eD0 := upd_same (H := H) (a := D) (o := HO.lst [])
    generalize upd H D (.lst []) = H1 at s1 eD0 ⊢
    refine ⟨_, rfl, n, zs, rfl, sqT_same s1 hn, z6, fun E us rws H2 s2 nE eE pu lo => ?_⟩
    have r64 := lots_64 lo z6
    have s12 := s1.trans s2
    have rsub : ∀ x ∈ rws, x.Sublist zs := fun x hx => lots_sub lo hx
    obtain ⟨ws, w1, w2, w3⟩ := paired_zip pu
    have wl : ws.length = rws.length := by rw [← w2, List.length_map]
    have pr2 := rows_keep pr (.of s12)
    have el2 := s12 _ _ el
    have eD2 := s2 _ _ eD0
    refine ⟨E, rfl, ⟨_, SqL.of eE⟩, fun G nG => lc_fm (walk_list (a := E) (xs := us)) ws (fun z => if decide (z.2 ∈ sel) = true then some z.1 else none) (by rw [← w1, List.length_map]) (by rw [← w1, List.length_map]; omega) nG (fun H s => s.seq (SqL.of eE)) ?_ ?_⟩
    · rintro i u ⟨zv0, row⟩ H7 H7' R Rn hz s7 ⟨rfl, hu2⟩ k1 k2
      obtain ⟨t, et, eh⟩ := w3 _ (List.mem_of_getElem? hz)
      dsimp only at et eh
      subst et
      obtain rfl : V.ref t = u := by
        rw [← w1, List.getElem?_map, hz] at hu2
        exact Option.some.inj hu2
      have rm : row ∈ rws := by rw [← w2]; exact List.mem_map.mpr ⟨_, List.mem_of_getElem? hz, rfl⟩
      have nr := nice_lot nk (rsub row rm)
      refine ⟨rfl, _, rfl, _, rfl, .tuple (strsD row), sel.map fun z => .tuple (strsD z), .tup (SqT.of (s7 _ _ eh)) (dp_strs _), .lst (SqL.of (s7 _ _ el2)) (dp_rows (rows_keep pr2 (.of s7))), nr.shaped (by decide), ?_, _, rfl, ?_⟩
      · exact (Nice.lst (c := 6 * (8 + 1)) (k := 1) (m := 64) (fun d hd => by
          obtain ⟨z, hz, rfl⟩ := List.mem_map.mp hd
          exact nice_lot nk (hsub z hz)) (by rw [List.length_map]; exact s64)).shaped (by decide)
      rw [in_rows]
      cases hb : decide (row ∈ sel) with
      | true => exact iteT ⟨_, rfl, k1 _ _ (if_pos hb) (Same.refl _)⟩
      | false => exact iteB rfl (k2 _ (if_neg (by rw [hb]; decide)) (Same.refl _))
    intro H3 s3 eG
    rw [fm_rowsE (fun r => decide (r ∈ sel))] at eG
    have pG : Paired (RelT H3) ((ws.filter fun z => decide (z.2 ∈ sel)).map (·.1)) (rws.filter fun r => decide (r ∈ sel)) := by
      have e : rws.filter (fun r => decide (r ∈ sel)) = (ws.filter fun z => decide (z.2 ∈ sel)).map (·.2) := by
        rw [← w2, List.filter_map]
        rfl
      rw [e]
      exact paired_ofE fun z hz => RelT.keepP (.of s3) _ _ (w3 z (List.mem_filter.mp hz).1)
    generalize (ws.filter fun z => decide (z.2 ∈ sel)).map (·.1) = gs at eG pG
    obtain ⟨rs, hrs⟩ : ∃ rs, rs = rws.filter fun r => decide (r ∈ sel) := ⟨_, rfl⟩
    rw [← hrs] at pG
    have rs64 : rs.length ≤ 64 := by rw [hrs]; exact Nat.le_trans (List.length_filter_le _ _) r64
    have rssub : ∀ x ∈ rs, x.Sublist zs := fun x hx => rsub x (by rw [hrs] at hx; exact (List.mem_filter.mp hx).1)
    have eD3 := s3 _ _ eD2
    have GD : G ≠ D := fun z => by rw [z, eD2] at nG; cases nG
    have s13 := s12.trans s3
    have gl : gs.length = rs.length := paired_len pG
    have far : ∀ {H4 : Hp}, KeepB D H3 H4 → Same H H4 := fun kb b o q => kb _ _ (ne_of_none q nD) (s13 _ _ q)
    clear eE pu w1 w2 w3 wl pr2 el2 nE nG s2 s3 s1 s12 eD0 eD2
    refine ⟨G, rfl, ⟨_, SqL.of eG⟩, for_list (xs := gs) (fun i σ H4 => ∃ (u v : Option V) (ks : List V), σ = [some (.ref n), some (.ref l), some (.ref D), u, v] ∧ H4 D = some (.lst ks) ∧ Paired (RelT H4) ks ((rs.take i).foldl (stepF fun _ => true) []) ∧
      (∀ x ∈ (rs.take i).foldl (stepF fun _ => true) [], x.Sublist zs) ∧ ((rs.take i).foldl (stepF fun _ => true) []).length ≤ i ∧ KeepB D H3 H4) ?_ ?_ ?_ ?_⟩
    · exact ⟨none, none, [], rfl, eD3, .nil, (fun _ h => by cases h), Nat.le_refl _, fun _ _ _ q => q⟩
    · rintro i σ H4 _ ⟨_, _, _, _, _, _, _, _, kb⟩
      exact SqL.of (kb _ _ GD eG)
    · rintro i y σ H4 hy ⟨u, v, ks, rfl, eD, pk, ksub, kl, kb⟩
      obtain ⟨row, hrow⟩ : ∃ row, rs[i]? = some row := ⟨_, List.getElem?_eq_getElem (by rw [← gl]; exact (List.getElem?_eq_some_iff.mp hy).1)⟩
      obtain ⟨v2, hv2, p, rfl, ep⟩ := paired_get pG hrow
      obtain rfl : V.ref p = y := Option.some.inj (hv2.symm.trans hy)
      have i64 : i < 64 := by have := (List.getElem?_eq_some_iff.mp hrow).1; omega
      have pD : p ≠ D := fun z => by rw [z, eD3] at ep; cases ep
      have ep4 := kb _ _ pD ep
      have rs' := rssub row (List.mem_of_getElem? hrow)
      obtain ⟨kept, hkept⟩ : ∃ kept, kept = (rs.take i).foldl (stepF fun _ => true) [] := ⟨_, rfl⟩
      have tk : (rs.take (i + 1)).foldl (stepF fun _ => true) [] = stepF (fun _ => true) kept row := by
        rw [List.take_add_one, hrow, Option.toList_some, List.foldl_append, hkept]
        rfl
      rw [← hkept] at pk ksub kl
      obtain ⟨xs, x1, x2, x3⟩ := paired_zip pk
      have xl : xs.length = kept.length := by rw [← x2, List.length_map]
      refine ⟨_, rfl, D, rfl, ⟨_, SqL.of eD⟩, fun B nB => lc_fm (walk_list (a := D) (xs := ks)) xs (fun z => some (V.bl (z.2.all fun y => decide (y ∈ row)))) (by rw [← x1, List.length_map]) (by rw [← x1, List.length_map]; omega) nB (fun H s => s.seq (SqL.of eD)) ?_ ?_⟩
      · rintro j u ⟨zv0, r0⟩ H7 H7' R Rn hz s7 ⟨rfl, hu2⟩ k1 k2
        obtain ⟨t, et, eh⟩ := x3 _ (List.mem_of_getElem? hz)
        dsimp only at et eh
        subst et
        obtain rfl : V.ref t = u := by
          rw [← x1, List.getElem?_map, hz] at hu2
          exact Option.some.inj hu2
        have rm : r0 ∈ kept := by rw [← x2]; exact List.mem_map.mpr ⟨_, List.mem_of_getElem? hz, rfl⟩
        have := (ksub r0 rm).length_le
        exact ⟨rfl, _, rfl, _, rfl, t, p, r0, row, rfl, SqT.of (s7 _ _ eh), SqT.of (s7 _ _ ep4), by omega, fun H8 s8 => k1 _ _ rfl s8⟩
      intro H5 s5 eB
      rw [fm_some] at eB
      obtain ⟨bs, hbs⟩ : ∃ bs : List Bool, bs = xs.map fun z => z.2.all fun y => decide (y ∈ row) := ⟨_, rfl⟩
      have eb : (xs.map fun z => V.bl (z.2.all fun y => decide (y ∈ row))) = bs.map V.bl := by rw [hbs, List.map_map]; rfl
      rw [eb] at eB
      have hany : bs.any id = hasB kept row := by
        rw [hbs, List.any_map, ← x2]
        unfold hasB
        rw [List.any_map]
        rfl
      refine ⟨B, bs, rfl, SqL.of eB, _, rfl, ?_⟩
      rw [hany]
      have eD5 := s5 _ _ eD
      have kb5 : KeepB D H3 H5 := fun b o nb q => s5 _ _ (kb b o nb q)
      have pk5 := rows_keep pk (.of s5)
      have st : stepF (fun _ => true) kept row = if (!hasB kept row) = true then kept ++ [row] else kept := by
        unfold stepF hasB
        rw [Bool.true_and]
      cases hb : hasB kept row with
      | true =>
        refine iteB rfl ⟨_, _, ks, rfl, eD5, ?_, ?_, ?_, kb5⟩
        · rw [tk, st, hb]; exact pk5
        · rw [tk, st, hb]; exact ksub
        · rw [tk, st, hb]
          show kept.length ≤ _
          omega
      | false =>
        refine iteT ?_
        have ksl : ks.length = kept.length := paired_len pk
        refine ⟨_, rfl, .inl ⟨rfl, _, SqL.of eD5⟩, _, rfl, D, _, _, rfl, rfl, eD5, by rw [sizeLine_eq]; omega, ?_⟩
        have kp : Keep H5 (upd H5 D (.lst (ks ++ [.ref p]))) := .upd eD5
        refine ⟨_, _, ks ++ [.ref p], rfl, upd_same, ?_, ?_, ?_, fun b o nb q => by rw [upd_ne nb]; exact kb5 b o nb q⟩
        · rw [tk, st, hb]
          exact Paired.add (rows_keep pk5 kp) ⟨p, rfl, kp _ _ (s5 _ _ ep4) fun _ z => by cases z⟩
        · rw [tk, st, hb]
          intro x hx
          rcases List.mem_append.mp hx with hx | hx
          · exact ksub x hx
          · rw [List.mem_singleton.mp hx]; exact rs'
        · rw [tk, st, hb]
          show (kept ++ [row]).length ≤ _
          rw [List.length_append]
          show kept.length + 1 ≤ _
          omega
    · rintro σ H4 ⟨u, v, ks, rfl, eD, pk, ksub, kl, kb⟩
      rw [gl, List.take_length] at pk
      have e : rs.foldl (stepF fun _ => true) [] = leastF (fun r => decide (r ∈ sel)) rws := by
        rw [hrs]
        exact leastF_filter _ _
      rw [e] at pk
      refine ⟨_, rfl, .inl ⟨D, _, rfl, SqL.of eD, fun q nq => ?_⟩⟩
      have s4 := same_new (o := HO.tup ks) nq
      exact k q ks rws _ ((far kb).trans s4) upd_same (rows_keep pk (.of s4)) lo
end
end K6
set_option Elab.async false
set_option linter.all false
set_option maxRecDepth 100000
set_option maxHeartbeats 1500000
/-! Part Rp: repr of data that is read deep (lists, tuples of any kind). -/
namespace Lk
open PySem PySem.Spec PyProof.Rows L2
theorem call_reprP {X : Cx} (noG : NoG X.A) (hu : X.A.units + 64 < cLine) : CallR X (.builtin "repr") (fun xs H Q => ∃ v d, xs = [v] ∧ Dp X.K H v d ∧ Nice 1000000 50 d ∧ Q (.str d.shown) H) := by
  intro pins s σ H xs us Q I r h
  obtain ⟨v, d, rfl, hd, n, q⟩ := h
  obtain ⟨u, rfl, ru⟩ := r.one
  have fin : ∀ t (s' : Shared), Inv X pins σ H s' → EP X pins σ Q (.str d.shown t) s' := fun t s' J => ⟨.str d.shown, H, J, ⟨t, rfl⟩, q⟩
  have hl := n.fits (by decide) (by decide)
  have refs : ∀ a, u = .ref a → wpAny (model X.prog X.w) X.A (call (.builtin "repr") [u]) (EP X pins σ Q) X.xe s := by
    rintro a rfl
    obtain ⟨as, q1⟩ := Dp.reads I d v (.ref a) hd ru
    have := n.dep
    exact repr_of_reads' q1 n.sw (PyData.noDict_hsm (PyData.hasDict_of_canLay d n.lay)) noG (by omega) (fun _ _ e => e) (fun h' t tk k => fin _ _ (I.kept (t' := tk) k)) hl
  cases hd with
  | non => cases (show u = Value.none from ru); exact PySem.P.repr_of_none (fin _ _ (I.tok _))
  | bl b => cases (show u = Value.bool b from ru); cases b <;> exact PySem.P.repr_of_bool (fin _ _ (I.tok _))
  | int i => obtain ⟨t, rfl⟩ := ru; exact PySem.P.repr_of_int (by simpa [PyData.showable] using n.sw) (fin _ _ (I.tok _))
  | str x => obtain ⟨t, rfl⟩ := ru; exact PySem.P.repr_of_str (fin _ _ (I.tok _)) hl
  | lst _ _ => exact refs _ ru
  | tup _ _ => exact refs _ ru
end Lk
set_option Elab.async false
set_option linter.all false
set_option maxRecDepth 100000
set_option maxHeartbeats 1500000
set_option pp.maxSteps 1200
set_option pp.deepTerms false
namespace K6
open PySem PySem.Spec PyProof.Rows L2 Lk
abbrev sLSof : Stmt := top 113
abbrev sLRaised : Stmt := top 114
abbrev sLHR : Stmt := top 115
/-- as FnG.of, the code told -/
theorem fnG_ofC {P : Program} {w : World} {K : PySem.W.Frag} {mg : Str → Option Value} {base : Heap} {lev : Nat} {fA : Addr} {pars N : List Str} {sp : Sp} {nm ql : Str} {st : Stmt} {fD : FuncData}
    (F : Fun K nm ql st fA fD) (S : FnScope N pars (defScope st)) (many : ∀ vs H Q, sp vs H Q E0 → vs.length = pars.length)
    (body : ∀ (A : Around) (around : List Env) (s : Shared) (H : Hp) (vs : List V) (Q : VK), Room lev (A.deeper (envOfC ql (defScope st) s.heap.objs.size fA fD.code)) → NoG A → sp vs H Q E0 →
      ∃ t, PSs (cxOf CX0 P w K mg base N ql (defScope st) fA fD.code A around s H E0).nox (defBody st) t ∧ t { nx := fun _ H' => Q .non H', rt := Q } (start N vs) H) :
    FnG P w K mg base (lev + 1) fA fD pars sp := by
  obtain ⟨oc, od, kV, doc, pm, an, cdv, ct, osl, rfl, look, code⟩ := F.ex
  constructor
  · exact many
  intro A around s H args us vs Q room noG e0 binds rel want
  have same := many _ _ _ want
  have inK : K.In s.heap := e0.mod.kin.keeps fun b o e => (e0.bs b o e).1
  have free := e0.mod.nolimit.keeps fun b o e => (e0.bs b o e).1
  have kinds : ∀ y ∈ pars.zip us, (defScope st).names.lookup y.1 = some .local ∨
      ((defScope st).names.lookup y.1 = some .cell ∧ ((cellsFrom (s.heap.objs.size + 1) (defScope st).names []).lookup y.1).isSome = true) := by
    rintro ⟨n, v⟩ hy
    rcases S.par n (List.of_mem_zip hy).1 with q | q
    · exact Or.inl q
    · exact Or.inr ⟨q, PySem.W.cellsFrom_some _ _ _ (Or.inl q)⟩
  refine codeAny_call_function room.depth (inK _ _ look) rfl S.co S.gen rfl (PySem.W.codeRec_of inK code) (binds _ _ _ _ ?_)
  refine wpAny_newFunctionEnv_cells S.kind kinds ?_
  intro env he s1 x
  subst he
  refine ⟨free.keeps x.toInCall.keep, codeAny_func ?_⟩
  obtain ⟨t, ht, hq⟩ := body A around s H vs Q (room.deeper _) noG want
  have I := inv_start (CX := CX0) (E := E0) S room.hd e0 same rel x
  have run := ht.nox.run [] s1 (start N vs) H _ I hq
  refine wpAny_mono run ?_ fun e s' hs => hs
  intro fl s' hs
  cases fl with
  | ret u =>
    obtain ⟨v, σ', H', J, rv, q⟩ := hs
    exact ⟨v, H', J.os, J.bare, J.base, J.hok, rv, q⟩
  | next =>
    obtain ⟨σ', H', J, q⟩ := hs
    exact ⟨V.non, H', J.os, J.bare, J.base, J.hok, rfl, q⟩
  | brk => obtain ⟨_, _, _, q⟩ := hs; exact False.elim q
  | cont => obtain ⟨_, _, _, q⟩ := hs; exact False.elim q
theorem ShAt.keep {H H' : Hp} {C CS x : Addr} {L : Lore} (h : ShAt H C CS x L) (k : Keep H H') : ShAt H' C CS x L := by
  obtain ⟨dx, fs, e, ⟨⟨pa, p1, p2⟩, ⟨c, c1, c2⟩, ⟨q, q1, q2⟩⟩, tx, p, ts, lp, ep, pr, D, kvs, lD, eD, vD⟩ := h
  have tk : Tups H H' := fun b xs h => k b _ h fun xs z => by cases z
  refine ⟨dx, fs, k _ _ e (fun xs z => by cases z), ⟨⟨pa, p1, p2.keep k⟩, ⟨c, c1, ?_⟩, ⟨q, q1, q2.tups tk⟩⟩, tx, p, ts, lp, tk _ _ ep, Paired.mapP pr fun v s r => RelS.keep _ _ _ _ k r, D, kvs, lD, k _ _ eD (fun xs z => by cases z), vD⟩
  obtain ⟨cd, nm, e1, t⟩ := c2
  exact ⟨cd, nm, k _ _ e1 (fun xs z => by cases z), t.keep k⟩
section
variable {P : Program} {w : World} {K : PySem.W.Frag} {mg : Str → Option Value} {base : Heap} {f : Addr} {fd : FuncData}
def lamN : Str := (("_law_is_helping_right" : Str) ++ (".<locals>." : Str)) ++ ("<lambda>" : Str)
theorem lam_eq {X : Cx} (h : X.env.qual = ("_law_is_helping_right" : Str) ++ (".<locals>." : Str)) : lamN = lamQ X := (congrArg (fun q : Str => q ++ ("<lambda>" : Str)) h).symm
theorem lam_mem {X : Cx} {Tb : Addr} (h : X.env.qual = ("_law_is_helping_right" : Str) ++ (".<locals>." : Str)) : (Tb, lamQ X) ∈ [(Tb, lamN)] := by
  rw [← lam_eq h]
  exact List.mem_singleton.mpr rfl
theorem lam_sole {X : Cx} {Tb Q : Addr} (h : X.env.qual = ("_law_is_helping_right" : Str) ++ (".<locals>." : Str)) : ∀ p ∈ [(Tb, lamN)], p.1 = Q → p.2 = lamQ X := fun p hp _ => by
  rw [List.mem_singleton.mp hp, ← lam_eq h]
/-! ### _law_shelf_of -/
def spLSof (C CS : Addr) : Sp := fun vs H Q _ => ∃ (lo : Addr) (L : Lore), vs = [.ref lo] ∧ LoreAt H lo L ∧ LoreOk L ∧ ∀ x H', Same H H' → ShAt H' C CS x L → Q (.ref x) H'
theorem scLSof : FnScope ["lore"] ["lore"] (defScope sLSof) := ⟨rfl, rfl, rfl, by decide +kernel, rfl, by decide +kernel, by decide +kernel⟩
theorem ok_lsof {C CS fTx fS : Addr} {dTx dS : FuncData} (F : Fun K "_law_shelf_of" "_law_shelf_of" sLSof f fd) (SC : ShC K CS fS) (mS : mg "Shelf" = some (.ref CS))
    (GTx : FnOk P w K mg base CX0 1 fTx dTx ["lore"] spText) (aTx : At K mg "_law_shelf_text" fTx dTx ["lore"])
    (GS : FnOk P w K mg base CX0 6 fS dS ["self", "text"] (spShelfI C CS)) (bS : Binds K dS ["self", "text"] []) :
    FnOk P w K mg base CX0 8 f fd ["lore"] (spLSof C CS) := by
  refine F.ok scLSof (fun vs H Q E h => ?_) (fun cdv A outer s H vs Q E hr h => ?_)
  · obtain ⟨lo, L, rfl, _⟩ := h
    rfl
  · obtain ⟨lo, L, rfl, la, ok, k⟩ := h
    have hr1 : Room 1 _ := hr.mono (by decide)
    refine ⟨_, pss_one (ps_ret (pe_make SC.mkr GS hr (by rfl) mS bS .nil pass0 (pa_cons (pe_call GTx hr1 (by rfl) aTx.m aTx.kp aTx.b .nil pass0 (pa_cons (pv 0) pa_nil)) pa_nil))), ?_⟩
    refine ⟨_, rfl, lo, L, rfl, la, ok, fun H2' s2' => ?_⟩
    intro x dx nx ndx nex
    have sM : Same H2' (upd (upd H2' dx (.own x)) x (.ins CS dx [])) := fun b o e => by rw [upd_ne (ne_of_none e nx), upd_ne (ne_of_none e ndx)]; exact e
    refine ⟨x, dx, L, rfl, ok, upd_same, fun H3 fs kb ex sf tx ss => ⟨rfl, ?_⟩⟩
    have s3 : Same H2' H3 := fun b o e => kb b o (ne_of_none e nx) (sM _ _ e)
    exact k x H3 (s2'.trans s3) ⟨dx, fs, ex, sf, tx, ss⟩
/-! ### _law_is_raised -/
def spLRaised (CN : Addr) : Sp := fun vs H Q _ => ∃ (a d : Addr) (m : Nat), vs = [.ref a, .bl true, .int (m : Int)] ∧ m ≤ 10 ∧ CauAt H CN a d (.int (m : Int)) ∧ Q (.bl true) H
theorem scLRaised : FnScope ["caught", "is_kind", "value"] ["caught", "is_kind", "value"] (defScope sLRaised) := ⟨rfl, rfl, rfl, by decide +kernel, rfl, by decide +kernel, by decide +kernel⟩
theorem ok_lraised {CN fI : Addr} (F : Fun K "_law_is_raised" "_law_is_raised" sLRaised f fd) (T : Bl mg) (ec : ErC K CN fI) : FnG P w K mg base 1 f fd ["caught", "is_kind", "value"] (spLRaised CN) := by
  refine FnG.of F scLRaised (fun vs H Q h => ?_) (fun cdv A outer s H vs Q hr hG h => ?_)
  · obtain ⟨a, d, m, rfl, _⟩ := h
    rfl
  · obtain ⟨a, d, m, rfl, m10, ca, k⟩ := h
    have hu64 := room64 hr
    refine ⟨_, pss_one (ps_ret (pe_and (pe_cmpR op_notN (pv 0) pe_non (nomark _)) (pe_and (pv 1) (pe_one (pe_cmpR op_eq (pe_callB (call_reprP hG hu64) (by rfl) T.repr boot_repr (pa_cons (pe_cauV (pv 0)) pa_nil)) (pe_callB (call_reprP hG hu64) (by rfl) T.repr boot_repr (pa_cons (pv 2) pa_nil)) (nomark _)))))), ?_⟩
    have nI : Nice 1000000 50 (.int (m : Int)) := (Nice.nat (by omega)).mono (by decide) (by decide)
    refine ⟨_, rfl, rfl, _, rfl, iteT ⟨_, rfl, _, rfl, iteT ?_⟩⟩
    refine ⟨_, rfl, a, CN, d, _, fI, rfl, ec, ca, _, .int (m : Int), rfl, .int _, nI, _, rfl, _, .int (m : Int), rfl, .int _, nI, rfl, ?_⟩
    rw [decide_eq_true rfl]
    exact k
/-! ### _law_is_helping_right -/
def spLHR (C CS Tb : Addr) : Sp := fun vs H Q _ => ∃ (lo x : Addr) (L : Lore) (kq : KP), vs = [.ref lo, .ref x, .str kq.1] ∧ LoreAt H lo L ∧ LoreOk L ∧ ShAt H C CS x L ∧ kq ∈ L.kps ∧ LamX.Tabs [(Tb, lamN)] H ∧
  ∀ H', LamX.ExtN H H' → LamX.Tabs [(Tb, lamN)] H' → Q (.bl true) H'
abbrev nmHR : List Str := ["lore", "shelf", "name", "others", "caught", "said", "lost", "some", "lot"]
theorem scLHR : FnScope nmHR ["lore", "shelf", "name"] (defScope sLHR) := ⟨rfl, rfl, rfl, by decide +kernel, rfl, by decide +kernel, by decide +kernel⟩
theorem ok_lHR {C CS CN CL c Tb fHp fLs fFL fRa fAl fLL fH fI : Addr} {dHp dLs dFL dRa dAl dLL dH : FuncData} (F : Fun K "_law_is_helping_right" "_law_is_helping_right" sLHR f fd) (T : Bl mg) (Cc : Cn mg)
    (hc : fd.code = .ref c) (TB : LamX.TabB base mg c Tb) (ec : ErC K CN fI) (ek : ErK K fI) (mU : mg "NoHelp" = some (.ref CN)) (mL : mg "LotError" = some (.ref CL)) (em : PySem.W.exmOne K (.ref CN) (.ref CL) = some true)
    (FH : Fun K "_law_heard" "_law_heard" sHeard fH dH) (aH : At K mg "_law_heard" fH dH ["call"])
    (GHp : FnOk P w K mg base (L2.CX P w) 5 fHp dHp ["shelf", "keeper"] (spHelping C CS CN)) (aHp : At K mg "helping" fHp dHp ["shelf", "keeper"])
    (GLs : FnOk P w K mg base CX0 1 fLs dLs ["names", "gone"] (spPLess K)) (aLs : At K mg "_law_less" fLs dLs ["names", "gone"])
    (GFL : FnOk P w K mg base CX0 5 fFL dFL ["lore", "name", "lot"] (spLFirst K)) (aFL : At K mg "_law_first_lost" fFL dFL ["lore", "name", "lot"])
    (GRa : FnG P w K mg base 1 fRa dRa ["caught", "is_kind", "value"] (spLRaised CN)) (aRa : At K mg "_law_is_raised" fRa dRa ["caught", "is_kind", "value"])
    (GAl : FnOk P w K mg base CX0 1 fAl dAl ["names"] (spAllLots K)) (aAl : At K mg "_law_all_lots" fAl dAl ["names"])
    (GLL : FnOk P w K mg base CX0 2 fLL dLL ["names", "some"] (spLeastL K)) (aLL : At K mg "_law_least_lots" fLL dLL ["names", "some"]) :
    FnG P w K mg base 8 f fd ["lore", "shelf", "name"] (spLHR C CS Tb) := by
  refine fnG_ofC F scLHR (fun vs H Q h => ?_) (fun A outer s H vs Q hr hG h => ?_)
  · obtain ⟨lo, x, L, kq, rfl, _⟩ := h
    rfl
  · obtain ⟨lo, x, L, kq, rfl, la, ok, sh, hk, tbs, k⟩ := h
    have nd := scLHR.nd
    have hu := hu_of hr
    have hu64 := room64 hr
    have hr1 : Room 1 _ := hr.mono (by decide)
    have hr2 : Room 2 _ := hr.mono (by decide)
    have hr5 : Room 5 _ := hr.mono (by decide)
    obtain ⟨oc, od, kV, doc, pm, an, cdv, ct, osl, rfl, lookH, codeH⟩ := FH.ex
    refine ⟨_, pss_cons (ps_set (i := 3) nd rfl (by first | exact .inl rfl | exact .inr rfl) (pe_call GLs hr1 (by rfl) aLs.m aLs.kp aLs.b .nil pass0 (pa_cons (pe_dget hu (pv 0) pe_str (fun _ _ => rfl)) (pa_cons (pe_tup (pa_cons (pv 2) pa_nil)) pa_nil))))
      (pss_cons (ps_asg (pe_hear (TT := ttHeard K CL) (T := [(Tb, lamN)]) (t := fun E => tCall (spHelping C CS CN) [] E (tCons (tVar 1) (tCons (tVar 2) tNil))) (k := 5) (by rfl) aH.m aH.kp lookH codeH aH.b scHeard rfl (.inl rfl) (heard_gives mL) TB hc (lam_mem (by rfl))
              (lam_sole (by rfl)) hr (LamX.lamS_by (sc := defScope sLHR) (by decide +kernel)) rfl (fun _ _ _ _ _ => rfl)
              (fun A o s H E f cl hr' => pe_call GHp hr' (by rfl) aHp.m aHp.kp aHp.b .nil (passes_call (W := fun cls d _ H => E cls d H) (takes_of rfl rfl rfl rfl) (fun _ _ _ _ h => h)) (pa_cons (pv 1) (pa_cons (pv 2) pa_nil))))
            (pg_tup rfl (pgs_cons (pg_name (i := 4) nd rfl (.inl rfl)) (pgs_cons (pg_name (i := 5) nd rfl (.inl rfl)) pgs_nil))))
      (pss_cons (ps_set (i := 6) nd rfl (by first | exact .inl rfl | exact .inr rfl) (pe_call GFL hr5 (by rfl) aFL.m aFL.kp aFL.b .nil pass0 (pa_cons (pv 0) (pa_cons (pv 2) (pa_cons (pv 3) pa_nil)))))
      (pss_cons (ps_if (pt_cmpR op_notN (pv 6) pe_non (nomark _))
          (pss_one (ps_ret (pe_gcall GRa hr1 hG (by rfl) aRa.m aRa.kp aRa.b (pa_cons (pv 4) (pa_cons (pe_callB call_cauIs (by rfl) T.isin boot_isinstance (pa_cons (pv 4) (pa_cons (pe_glob (v := .ref CN) (by rfl) mU rfl) pa_nil))) (pa_cons (pv 6) pa_nil)))))) pss_nil)
      (pss_cons (ps_setLc (i := 7) (own := [("lot", 8)]) (g := gName 8) (tt := tTest (tOp rIsN (tCall (spLFirst K) [] E0 (tCons (tVar 0) (tCons (tVar 2) (tCons (tVar 8) tNil)))) (tC .non))) (te := tVar 8) rfl nd rfl rfl (sw_true rfl rfl rfl (by decide +kernel)) (pi_list (pe_call GAl hr1 (by rfl) aAl.m aAl.kp aAl.b .nil pass0 (pa_cons (pv 3) pa_nil)))
              (blkOk_by (N := nmHR) (sc := defScope sLHR) (by decide +kernel)) (fun _ _ _ _ _ => pg_name (i := 8) nd rfl (by first | exact .inl rfl | exact .inr rfl)) (fun _ _ _ _ _ => pts_one (pt_cmpR op_isN1 (pe_call GFL hr5 (by rfl) aFL.m aFL.kp aFL.b .nil pass0 (pa_cons (pv 0) (pa_cons (pv 2) (pa_cons (pv 8) pa_nil)))) pe_non (nomark _))) (fun _ _ _ _ _ => pv 8))
      (pss_one (ps_ret (pe_and (pe_cmpR op_isN (pv 4) pe_non (nomark _)) (pe_one (pe_cmpR op_eq (pe_callB (call_reprP hG hu64) (by rfl) T.repr boot_repr (pa_cons (pv 5) pa_nil)) (pe_callB (call_reprP hG hu64) (by rfl) T.repr boot_repr (pa_cons (pe_call GLL hr2 (by rfl) aLL.m aLL.kp aLL.b .nil pass0 (pa_cons (pv 3) (pa_cons (pv 7) pa_nil))) pa_nil)) (nomark _)))))))))), ?_⟩
    have k6 := ok.k6
    obtain ⟨pa, nm, pt, rows, e1, e2, e3, e4, e5⟩ := id la
    refine ⟨_, rfl, lo, _, rfl, (dget3 e1).2.1, _, rfl, few_ok rfl, fun q nq => ?_⟩
    have s1 : Same H (upd H q (.tup [.str kq.1])) := same_new nq
    refine ⟨nm, q, L.kps.map (·.1), [kq.1], rfl, .inr (e3.same s1).sq, .inr (SqT.of upd_same), by rw [List.length_map]; omega, fun o H2 s2 no eo => ?_⟩
    have s02 := s1.trans s2
    clear s1 s2 nq no
    have eo : H2 o = some (.tup ((othersL L kq.1).map V.str)) := eo
    have tb2 : LamX.Tabs [(Tb, lamN)] H2 := tbs.ext fun b o q => s02 b o q
    have x2 : LamX.ExtN H H2 := .of s02
    refine ⟨tb2, fun H8 gr8 tb8 H9 s9 R hR => ?_⟩
    have x29 : LamX.ExtN H2 H9 := gr8.trans (.of s9)
    have x9 : LamX.ExtN H H9 := x2.trans x29
    refine ⟨_, rfl, _, rfl, x, L, kq, rfl, sh.keep (Keep.extN x9), ok, hk, fun m hm d1 H10 s10 nd1 ed1 => ⟨em, fun a1 t1 na1 n1a nt1 => ?_⟩, fun hn q1 us rws H10 s10 eq1 lo1 pu1 => hR _ _ fun t1 nt1 => ?_⟩
    · refine ⟨t1, _, rfl, .inl (.inl upd_same), rfl, _, _, rfl, _, _, rfl, rfl, ?_⟩
      have s11 : Same H10 (upd (upd H10 a1 (exq a1 (.ref CN) (some d1))) t1 (.tup [.ref a1, .non])) := fun b o q => by
        rw [upd_ne (ne_of_none q nt1), upd_ne (ne_of_none q na1)]
        exact q
      have c11 : CauAt (upd (upd H10 a1 (exq a1 (.ref CN) (some d1))) t1 (.tup [.ref a1, .non])) CN a1 d1 (.int (m : Int)) := ⟨by rw [upd_ne n1a.symm, upd_same], s11 _ _ ed1⟩
      have tb11 : LamX.Tabs [(Tb, lamN)] _ := tb8.ext fun b o q => s11 _ _ (s10 _ _ (s9 _ _ q))
      have x11 : LamX.ExtN H2 _ := x29.trans (.of (s10.trans s11))
      generalize upd (upd H10 a1 (exq a1 (.ref CN) (some d1))) t1 (.tup [.ref a1, .non]) = H11 at c11 tb11 x11 ⊢
      clear s11 ed1 na1 n1a nt1 s10 nd1 gr8 tb8 s9 hR x9 x29
      have x011 := x2.trans x11
      refine ⟨_, rfl, _, rfl, _, rfl, lo, o, L, kq, othersL L kq.1, rfl, la.keep (Keep.extN x011), ok, hk, .inr (SqT.of (x11 _ _ eo fun _ z => by cases z)), fun H12 s12 => ?_⟩
      rw [hm]
      refine ⟨_, rfl, rfl, _, rfl, iteA rfl ?_⟩
      have m10 : m ≤ 10 := by
        have := (firstN_some hm).1
        have := (ok.q kq hk).2.1
        omega
      have kit : PySem.W.kitOne K (.ref CN) (.ref CN) = some true := by unfold PySem.W.kitOne; rw [if_pos (by simp)]
      have c12 := c11.same s12
      refine ⟨_, rfl, _, rfl, a1, CN, d1, fI, .int (m : Int), .ref CN, .ref CN, true, rfl, ec, ek, c12, .own CN, kit, _, rfl, a1, d1, m, rfl, m10, c12, ?_⟩
      exact k _ (x011.trans (.of s12)) (tb11.ext fun b o q => s12 _ _ q)
    · have nok := nmOk ok
      have nokO : NmOk (othersL L kq.1) := ⟨nok.nd.sublist List.filter_sublist, Nat.le_trans (List.length_filter_le _ _) nok.k6, fun z hz => nok.ok z (List.mem_filter.mp hz).1⟩
      have kn : kq.1 ∈ L.kps.map (·.1) := List.mem_map.mpr ⟨kq, hk, rfl⟩
      refine ⟨t1, _, rfl, .inl (.inl upd_same), rfl, _, _, rfl, _, _, rfl, rfl, ?_⟩
      have s11 : Same H10 (upd H10 t1 (.tup [.non, .ref q1])) := same_new nt1
      have tb11 : LamX.Tabs [(Tb, lamN)] _ := tb8.ext fun b o q => s11 _ _ (s10 _ _ (s9 _ _ q))
      have x11 : LamX.ExtN H2 _ := x29.trans (.of (s10.trans s11))
      have eq11 := s11 _ _ eq1
      have pu11 := rows_keep pu1 (.of s11)
      generalize upd H10 t1 (.tup [.non, .ref q1]) = H11 at tb11 x11 eq11 pu11 ⊢
      clear s11 nt1 s10 gr8 tb8 s9 hR x9 x29 eq1 pu1
      have x011 := x2.trans x11
      have la11 := la.keep (Keep.extN x011)
      have eo11 := x11 _ _ eo fun _ z => by cases z
      refine ⟨_, rfl, _, rfl, _, rfl, lo, o, L, kq, othersL L kq.1, rfl, la11, ok, hk, .inr (SqT.of eo11), fun H12 s12 => ?_⟩
      rw [hn]
      refine ⟨_, rfl, rfl, _, rfl, iteB rfl ?_⟩
      refine ⟨_, rfl, o, othersL L kq.1, rfl, SqT.of (s12 _ _ eo11), nokO.k6, fun D us2 rw2 H13 s13 nD eD pu2 lo2 => ?_⟩
      have fe : (rws.filter fun r => !decide (kq.1 ∈ r)) = rw2 := lots_less nok.nd kn lo1 lo2
      rw [fe] at pu11
      clear fe lo1
      have r64 := lots_64 lo2 nokO.k6
      obtain ⟨ws, w1, w2, w3⟩ := paired_zip pu2
      have wl : ws.length = rw2.length := by rw [← w2, List.length_map]
      have s123 := s12.trans s13
      refine ⟨D, rfl, ⟨_, SqL.of eD⟩, fun G nG => lc_fm (walk_list (a := D) (xs := us2)) ws (fun z => if (firstN L z.2 kq).isNone = true then some z.1 else none) (by rw [← w1, List.length_map]) (by rw [← w1, List.length_map]; omega) nG (fun H s => s.seq (SqL.of eD)) ?_ ?_⟩
      · rintro i u ⟨zv0, row⟩ H17 H17' R2 Rn2 hz s7 ⟨rfl, hu2⟩ k1 k2
        obtain ⟨t, et, eh⟩ := w3 _ (List.mem_of_getElem? hz)
        dsimp only at et eh
        subst et
        obtain rfl : V.ref t = u := by
          rw [← w1, List.getElem?_map, hz] at hu2
          exact Option.some.inj hu2
        have sH := s123.trans s7
        refine ⟨rfl, _, rfl, _, rfl, _, rfl, lo, t, L, kq, row, rfl, la11.same sH, ok, hk, .inr (SqT.of (s7 _ _ eh)), fun H8 s8 => ⟨rfl, _, rfl, ?_⟩⟩
        have e : decide (optV (firstN L row kq) = V.non) = (firstN L row kq).isNone := by
          cases firstN L row kq with
          | none => rfl
          | some m => rfl
        rw [e]
        cases hb : (firstN L row kq).isNone with
        | true => exact iteT ⟨_, rfl, k1 _ _ (if_pos hb) s8⟩
        | false => exact iteB rfl (k2 _ (if_neg (by rw [hb]; decide)) s8)
      intro H14 s14 eG
      rw [fm_rowsR (fun r => (firstN L r kq).isNone)] at eG
      have pG : Paired (RelT H14) ((ws.filter fun z => (firstN L z.2 kq).isNone).map (·.1)) (rw2.filter fun r => (firstN L r kq).isNone) := by
        have e : rw2.filter (fun r => (firstN L r kq).isNone) = (ws.filter fun z => (firstN L z.2 kq).isNone).map (·.2) := by
          rw [← w2, List.filter_map]
          rfl
        rw [e]
        exact paired_of fun z hz => RelT.keepP (.of s14) _ _ (w3 z (List.mem_filter.mp hz).1)
      generalize (ws.filter fun z => (firstN L z.2 kq).isNone).map (·.1) = gs at eG pG
      have s124 := s123.trans s14
      refine ⟨_, rfl, rfl, _, rfl, iteT ?_⟩
      have nR : Nice 1000000 50 (.tuple ((leastF (fun r => (firstN L r kq).isNone) rw2).map fun r => PyData.tuple (strsD r))) := (Nice.tup (c := 6 * (8 + 1)) (k := 1) (m := 64) (fun d hd => by
        obtain ⟨z, hz, rfl⟩ := List.mem_map.mp hd
        exact nice_lot nokO (lots_sub lo2 (leastF_mem z hz))) (by rw [List.length_map]; exact Nat.le_trans (leastF_len _ _) r64)).mono (by decide) (by decide)
      refine ⟨_, rfl, _, _, rfl, .tup (SqT.of (s124 _ _ eq11)) (dp_rows (rows_keep pu11 (.of s124))), nR, _, rfl, _, rfl, o, G, othersL L kq.1, gs, _, rfl, SqT.of (s124 _ _ (eo11)), nokO, eG, pG, fun r hr => lots_sub lo2 (List.mem_filter.mp hr).1, Nat.le_trans (List.length_filter_le _ _) r64, fun q2 us3 rws3 H15 s15 eq2 pu3 lo3 => ?_⟩
      obtain rfl := lots_uniq lo2 lo3
      have ec' : leastF (fun r => decide (r ∈ rw2.filter fun r => (firstN L r kq).isNone)) rw2 = leastF (fun r => (firstN L r kq).isNone) rw2 := leastF_congr fun r hr => by
        cases hs : (firstN L r kq).isNone with
        | true => exact decide_eq_true (List.mem_filter.mpr ⟨hr, hs⟩)
        | false =>
          refine decide_eq_false fun h => ?_
          have := (List.mem_filter.mp h).2
          rw [hs] at this
          cases this
      rw [ec'] at pu3
      have s125 := s124.trans s15
      have dR := (Dp.tup (K := K) (SqT.of eq2) (dp_rows pu3))
      generalize hdR : PyData.tuple ((leastF (fun r => (firstN L r kq).isNone) rw2).map fun r => PyData.tuple (strsD r)) = dd at nR dR ⊢
      refine ⟨_, dd, rfl, dR, nR, rfl, ?_⟩
      rw [decide_eq_true rfl]
      exact k _ (x011.trans (.of s125)) (tb11.ext fun b o q => s125 _ _ q)
end
end K6
set_option Elab.async false
set_option linter.all false
set_option maxRecDepth 100000
set_option maxHeartbeats 2000000
set_option pp.maxSteps 1200
set_option pp.deepTerms false
namespace K6
open PySem PySem.Spec PyProof.Rows L2 Lk
abbrev sRight : Stmt := top 116
/-- all but the draws and the tables stands -/
def ExtPN (a : Addr) (H H' : Hp) : Prop := ∀ b o, b ≠ a → H b = some o → (∀ ps, o ≠ .tbl ps) → H' b = some o
theorem ExtPN.of {a : Addr} {H H' : Hp} (x : ExtP a H H') : ExtPN a H H' := fun b o n q _ => x b o n q
theorem ExtPN.ofN {a : Addr} {H H' : Hp} (x : LamX.ExtN H H') : ExtPN a H H' := fun b o _ q n => x b o q n
theorem ExtPN.refl (a : Addr) (H : Hp) : ExtPN a H H := fun _ _ _ q _ => q
theorem ExtPN.trans {a : Addr} {H H1 H2 : Hp} (x : ExtPN a H H1) (y : ExtPN a H1 H2) : ExtPN a H H2 := fun b o n q m => y b o n (x b o n q m) m
theorem ExtPN.keep {a : Addr} {N : Nat} {H H' : Hp} (hp : PotAt a N H) (x : ExtPN a H H') : Keep H H' := fun b o q n => x b o (fun z => by
  obtain ⟨_, _, _, h, _⟩ := hp
  rw [z, h] at q
  cases q
  exact n () (.lst _)) q fun ps z => by
    subst z
    exact n () (.tbl _)
theorem PotAt.extN {a : Addr} {N : Nat} {H H' : Hp} (hp : PotAt a N H) (x : LamX.ExtN H H') : PotAt a N H' := by
  obtain ⟨o, b, c, e, r⟩ := hp
  exact ⟨o, b, c, x _ _ e (fun _ z => by cases z), r⟩
theorem tabs_extP {T : List (Addr × Str)} {a : Addr} {N : Nat} {H H' : Hp} (hp : PotAt a N H) (t : LamX.Tabs T H) (x : ExtP a H H') : LamX.Tabs T H' := fun p hq => by
  obtain ⟨o, b, c, e, _⟩ := hp
  obtain ⟨ps, h1, h2, h3⟩ := t p hq
  refine ⟨ps, x _ _ (fun z => by rw [z, e] at h1; cases h1) h1, h2, fun pos cv hc => ?_⟩
  obtain ⟨c', e1, e2⟩ := h3 pos cv hc
  refine ⟨c', e1, x _ _ (fun z => ?_) e2⟩
  rw [z, e] at e2
  unfold LamX.CodeO at e2
  cases e2
theorem sub_kps {L : Lore} {zs : List Str} (h : zs.Sublist (L.kps.map (·.1))) : ∃ ks : List KP, ks.Sublist L.kps ∧ zs = ks.map (·.1) := List.sublist_map_iff.mp h
theorem others_nin (L : Lore) (z : Str) : z ∉ othersL L z := fun h => by
  have := (List.mem_filter.mp h).2
  simp at this
section
variable {P : Program} {w : World} {K : PySem.W.Frag} {mg : Str → Option Value} {base : Heap} {f : Addr} {fd : FuncData}
def spRight (Tb : Addr) : Sp := fun vs H Q _ => ∃ (a : Addr) (N : Nat), vs = [.ref a] ∧ PotAt a N H ∧ N ≤ 5000 ∧ LamX.Tabs [(Tb, lamN)] H ∧ ∀ H', ExtPN a H H' → LamX.Tabs [(Tb, lamN)] H' → Q (.bl true) H'
abbrev nmR : List Str := ["pot", "lore", "shelf", "name", "others", "lot", "said", "record", "answers", "one"]
theorem scRight : FnScope nmR ["pot"] (defScope sRight) := ⟨rfl, rfl, rfl, by decide +kernel, rfl, by decide +kernel, by decide +kernel⟩
theorem ok_right {C CS Tb fSh fLs fSo fSm fAL fMe fMt fShM fMd fOf fRc fAn fHR : Addr} {dSh dLs dSo dSm dAL dMe dMt dShM dMd dOf dRc dAn dHR : FuncData} (F : Fun K "_law_right" "_law_right" sRight f fd) (T : Bl mg) (Cc : Cn mg)
    (GSh : FnOk P w K mg base CX0 4 fSh dSh ["pot", "few", "upmost", "most_parts"] spShelf) (aSh : At K mg "_law_shelf" fSh dSh ["pot", "few", "upmost", "most_parts"])
    (GSo : FnOk P w K mg base CX0 8 fSo dSo ["lore"] (spLSof C CS)) (aSo : At K mg "_law_shelf_of" fSo dSo ["lore"])
    (GSm : FnOk P w K mg base CX0 2 fSm dSm ["pot", "pool", "amount"] (spSome K)) (aSm : At K mg "_law_some" fSm dSm ["pot", "pool", "amount"])
    (GLs : FnOk P w K mg base CX0 1 fLs dLs ["names", "gone"] (spPLess K)) (aLs : At K mg "_law_less" fLs dLs ["names", "gone"])
    (GAL : FnOk P w K mg base CX0 3 fAL dAL ["pot", "names", "few"] (spALot K)) (aAL : At K mg "_law_a_lot" fAL dAL ["pot", "names", "few"])
    (GMe : FnOk P w K mg base CX0 7 fMe dMe ["shelf", "keeper", "helpers"] (spMends C CS)) (aMe : At K mg "mends" fMe dMe ["shelf", "keeper", "helpers"])
    (GMt : FnOk P w K mg base CX0 3 fMt dMt ["lore", "name", "lot", "value"] (spLTold K)) (aMt : At K mg "_law_is_mends_told" fMt dMt ["lore", "name", "lot", "value"])
    (GSM : FnOk P w K mg base CX0 7 fShM dShM ["shelf", "keeper", "helpers", "value"] (spShowsM C CS)) (aSM : At K mg "shows_mends" fShM dShM ["shelf", "keeper", "helpers", "value"])
    (GMd : FnOk P w K mg base CX0 5 fMd dMd ["shelf", "keeper", "sums", "answers"] (spMade C CS)) (aMd : At K mg "made" fMd dMd ["shelf", "keeper", "sums", "answers"])
    (GOf : FnOk P w K mg base CX0 2 fOf dOf ["pot", "some"] spOf) (aOf : At K mg "_law_of" fOf dOf ["pot", "some"])
    (GRc : FnOk P w K mg base CX0 1 fRc dRc ["lore"] spRecords) (aRc : At K mg "_law_records" fRc dRc ["lore"])
    (GAn : FnOk P w K mg base CX0 2 fAn dAn ["lore", "name", "record"] spLAnswer) (aAn : At K mg "_law_answer" fAn dAn ["lore", "name", "record"])
    (GHR : FnG P w K mg base 8 fHR dHR ["lore", "shelf", "name"] (spLHR C CS Tb)) (aHR : At K mg "_law_is_helping_right" fHR dHR ["lore", "shelf", "name"]) :
    FnG P w K mg base 9 f fd ["pot"] (spRight Tb) := by
  refine FnG.of F scRight (fun vs H Q h => ?_) (fun cdv A outer s H vs Q hr hG h => ?_)
  · obtain ⟨a, N, rfl, _⟩ := h
    rfl
  · obtain ⟨a, N, rfl, hp, hN, tbs, k⟩ := h
    have nd := scRight.nd
    have hu := hu_of hr
    have hu64 := room64 hr
    have hr1 : Room 1 _ := hr.mono (by decide)
    have hr2 : Room 2 _ := hr.mono (by decide)
    have hr3 : Room 3 _ := hr.mono (by decide)
    have hr4 : Room 4 _ := hr.mono (by decide)
    have hr5 : Room 5 _ := hr.mono (by decide)
    have hr7 : Room 7 _ := hr.mono (by decide)
    refine ⟨_, pss_cons (ps_set (i := 1) nd rfl (by first | exact .inl rfl | exact .inr rfl) (pe_call GSh hr4 (by rfl) aSh.m aSh.kp aSh.b .nil pass0 (pa_cons (pv 0) (pa_cons pe_int (pa_cons pe_int (pa_cons pe_int pa_nil))))))
      (pss_cons (ps_set (i := 2) nd rfl (by first | exact .inl rfl | exact .inr rfl) (pe_call GSo hr (by rfl) aSo.m aSo.kp aSo.b .nil pass0 (pa_cons (pv 1) pa_nil)))
      (pss_cons (ps_for PassesOwn.never rfl (pi_list (pe_call GSm hr2 (by rfl) aSm.m aSm.kp aSm.b .nil pass0 (pa_cons (pv 0) (pa_cons (pe_dget hu (pv 1) pe_str (fun _ _ => rfl)) (pa_cons pe_int pa_nil))))) (pg_name (i := 3) nd rfl (by first | exact .inl rfl | exact .inr rfl))
          (pss_cons (ps_set (i := 4) nd rfl (by first | exact .inl rfl | exact .inr rfl) (pe_call GLs hr1 (by rfl) aLs.m aLs.kp aLs.b .nil pass0 (pa_cons (pe_dget hu (pv 1) pe_str (fun _ _ => rfl)) (pa_cons (pe_tup (pa_cons (pv 3) pa_nil)) pa_nil))))
          (pss_cons (ps_for PassesOwn.never rfl (pi_tup (pe_tup (pa_cons (pv 4) (pa_cons (pe_call GAL hr3 (by rfl) aAL.m aAL.kp aAL.b .nil pass0 (pa_cons (pv 0) (pa_cons (pv 4) (pa_cons pe_int pa_nil)))) pa_nil)))) (pg_name (i := 5) nd rfl (by first | exact .inl rfl | exact .inr rfl))
              (pss_cons (ps_set (i := 6) nd rfl (by first | exact .inl rfl | exact .inr rfl) (pe_call GMe hr7 (by rfl) aMe.m aMe.kp aMe.b .nil pass0 (pa_cons (pv 2) (pa_cons (pv 3) (pa_cons (pv 5) pa_nil)))))
              (pss_cons (ps_if (PW.pt (pw_or (pt_not (pt_val (pe_call GMt hr3 (by rfl) aMt.m aMt.kp aMt.b .nil pass0 (pa_cons (pv 1) (pa_cons (pv 3) (pa_cons (pv 5) (pa_cons (pv 6) pa_nil)))))))
                  (pw_or1 (pt_cmpR op_isnot_bl (pe_call GSM hr7 (by rfl) aSM.m aSM.kp aSM.b .nil pass0 (pa_cons (pv 2) (pa_cons (pv 3) (pa_cons (pv 5) (pa_cons (pv 6) pa_nil))))) pe_bl (nomark _))))) pss_no pss_nil)
              (pss_one (ps_if (pt_cmpR op_eq (pe_ix ix_tup (pv 6) pe_int (fun _ _ => rfl)) pe_str (nomark _))
                  (pss_cons (ps_set (i := 7) nd rfl (by first | exact .inl rfl | exact .inr rfl) (pe_call GOf hr2 (by rfl) aOf.m aOf.kp aOf.b .nil pass0 (pa_cons (pv 0) (pa_cons (pe_call GRc hr1 (by rfl) aRc.m aRc.kp aRc.b .nil pass0 (pa_cons (pv 1) pa_nil)) pa_nil))))
                  (pss_cons (ps_set (i := 8) nd rfl (by first | exact .inl rfl | exact .inr rfl) (pe_tupleOf (by rfl) Cc.tuple (pe_lc (own := [("one", 9)]) (g := gName 9) (tt := tYes) (te := tTup (tCons (tVar 9) (tCons (tCall spLAnswer [] E0 (tCons (tVar 1) (tCons (tVar 9) (tCons (tVar 7) tNil)))) tNil))) rfl nd (pi_tup (pv 5))
                      (blkOk_by (N := nmR) (sc := defScope sRight) (by decide +kernel)) (fun _ _ _ _ _ => pg_name (i := 9) nd rfl (by first | exact .inl rfl | exact .inr rfl)) (fun _ _ _ _ _ => pts_nil)
                      (fun _ _ _ _ _ => pe_tup (pa_cons (pv 9) (pa_cons (pe_call GAn hr2 (by rfl) aAn.m aAn.kp aAn.b .nil pass0 (pa_cons (pv 1) (pa_cons (pv 9) (pa_cons (pv 7) pa_nil)))) pa_nil))))))
                  (pss_one (ps_if (pt_cmpR op_ne (pe_call GMd hr5 (by rfl) aMd.m aMd.kp aMd.b .nil pass0 (pa_cons (pv 2) (pa_cons (pv 3) (pa_cons (pe_ix ix_tup (pv 6) pe_int (fun _ _ => rfl)) (pa_cons (pv 8) pa_nil))))) (pe_call GAn hr2 (by rfl) aAn.m aAn.kp aAn.b .nil pass0 (pa_cons (pv 1) (pa_cons (pv 3) (pa_cons (pv 7) pa_nil)))) (nomark _)) pss_no pss_nil)))) pss_nil)))))
          (pss_one (ps_if (pt_not (pt_val (pe_gcall GHR hr hG (by rfl) aHR.m aHR.kp aHR.b (pa_cons (pv 1) (pa_cons (pv 2) (pa_cons (pv 3) pa_nil)))))) pss_no pss_nil)))))
      (pss_one (ps_ret pe_bl)))), ?_⟩
    refine ⟨_, rfl, a, 2, 6, 4, N, rfl, hp, by omega, by decide, by decide, by decide, by decide, by decide, fun L lo H1 ok x1 p1 la => ?_⟩
    have la1 := la.at_
    refine ⟨_, rfl, lo, L, rfl, la1, ok, fun x H2 s2 sh2 => ?_⟩
    have la2 := la1.same s2
    have p2 := p1.same s2
    have X2 : ExtP a H H2 := x1.trans (.of s2)
    obtain ⟨pa, nm, pt, rows, e1, e2, e3, e4, e5⟩ := id la2
    have k2 := ok.k2
    have k6 := ok.k6
    refine ⟨_, rfl, _, rfl, lo, _, rfl, (dget3 e1).2.1, a, nm, 2, _, (L.kps.map (·.1)).map V.str, rfl, p2, by show N + 200 + 2 ≤ 1000000; omega, .inr e3.sq, by decide, by rw [List.length_map, List.length_map]; omega, by rw [List.length_map, List.length_map]; omega, fun ys p H3 sel yl x3 p3 np _ ep => ?_⟩
    have p3 : PotAt a (N + 202) H3 := p3
    have yl : ys.length = 2 := yl
    have X3 : ExtP a H H3 := X2.trans x3
    have tb3 := tabs_extP hp tbs X3
    have k23 := Keep.ext p2 x3
    have la3 := la2.keep k23
    have sh3 := sh2.keep k23
    have pa3 : p ≠ a := fun z => p2.ne (by rw [← z]; exact np)
    clear e1 e2 e3 e4 e5 la la1 la2 sh2 s2 x1 p1 p2 X2 x3 k23 np
    refine ⟨p, rfl, ⟨_, SqL.of ep⟩, for_list (xs := ys) (fun i σ H' => ∃ (u3 u4 u5 u6 u7 u8 u9 : Option V) (M : Nat), σ = [some (V.ref a), some (.ref lo), some (.ref x), u3, u4, u5, u6, u7, u8, u9] ∧ PotAt a M H' ∧ M ≤ N + 202 + 30 * i ∧ ExtPN a H3 H' ∧ LamX.Tabs [(Tb, lamN)] H') ?_ ?_ ?_ ?_⟩
    · exact ⟨none, none, none, none, none, none, none, N + 202, rfl, p3, by omega, ExtPN.refl _ _, tb3⟩
    · rintro i σ H' _ ⟨_, _, _, _, _, _, _, _, _, _, _, x', _⟩
      exact SqL.of (x' _ _ pa3 ep (fun _ z => by cases z))
    · rintro i y σ H4 hy ⟨u3, u4, u5, u6, u7, u8, u9, M, rfl, p4, M4, x34, tb4⟩
      have i2 : i < 2 := by rw [← yl]; exact (List.getElem?_eq_some_iff.mp hy).1
      obtain ⟨kq, hk, rfl⟩ : ∃ kq, kq ∈ L.kps ∧ y = .str kq.1 := by
        have := sel.sub y (List.mem_of_getElem? hy)
        obtain ⟨z, hz, rfl⟩ := List.mem_map.mp this
        obtain ⟨k, hk, rfl⟩ := List.mem_map.mp hz
        exact ⟨k, hk, rfl⟩
      have k34 := ExtPN.keep p3 x34
      have la4 := la3.keep k34
      have sh4 := sh3.keep k34
      obtain ⟨pa, nm, pt, rows, e1, e2, e3, e4, e5⟩ := id la4
      refine ⟨_, rfl, lo, _, rfl, (dget3 e1).2.1, _, rfl, few_ok rfl, fun q nq => ?_⟩
      have s5 : Same H4 (upd H4 q (.tup [.str kq.1])) := same_new nq
      refine ⟨nm, q, L.kps.map (·.1), [kq.1], rfl, .inr (e3.same s5).sq, .inr (SqT.of upd_same), by rw [List.length_map]; omega, fun o H5 s5' no eo => ?_⟩
      have s45 := s5.trans s5'
      have eo : H5 o = some (.tup ((othersL L kq.1).map V.str)) := eo
      have p5 := p4.same s45
      have x35 : ExtPN a H3 H5 := x34.trans (.of (.of s45))
      have tb5 : LamX.Tabs [(Tb, lamN)] H5 := tb4.ext fun b o q => s45 _ _ q
      have la5 := la4.same s45
      have sh5 := sh4.same s45
      have oa : o ≠ a := fun z => by
        obtain ⟨ob, b, c, e, _⟩ := p5
        rw [z, e] at eo
        cases eo
      clear e1 e2 e3 e4 e5 s5 s5' s45 nq no la4 sh4
      have osub : (othersL L kq.1).Sublist (L.kps.map (·.1)) := List.filter_sublist
      have ol : (othersL L kq.1).length ≤ 6 := by have := osub.length_le; rw [List.length_map] at this; omega
      refine ⟨_, rfl, _, rfl, _, rfl, a, o, 0, M, othersL L kq.1, rfl, p5, by omega, oa, .inr (SqT.of eo), ok.kn.sublist osub, by omega, by decide, by omega, fun zs p6 H6 zsub _ x6 p6' nq6 eq6 => ⟨few_ok rfl, fun T1 nT => ?_⟩⟩
      have s7 : Same H6 (upd H6 T1 (.tup [.ref o, .ref p6])) := same_new nT
      have eT : upd H6 T1 (.tup [.ref o, .ref p6]) T1 = some (.tup [.ref o, .ref p6]) := upd_same
      generalize upd H6 T1 (.tup [.ref o, .ref p6]) = H7 at s7 eT ⊢
      have x57 : ExtP a H5 H7 := x6.trans (.of s7)
      have p7 := p6'.same s7
      have eo7 := x57 _ _ oa eo
      have ep7 := s7 _ _ eq6
      have lots7 : ∀ (j : Nat) (y : V), [V.ref o, V.ref p6][j]? = some y → ∃ (t : Addr) (ks : List KP), y = V.ref t ∧ H7 t = some (.tup ((ks.map (·.1)).map V.str)) ∧ ks.Sublist L.kps ∧ kq.1 ∉ ks.map fun k : KP => k.1 := by
        intro j y hj
        match j, hj with
        | 0, h =>
          obtain ⟨ks, k1, k2⟩ := sub_kps osub
          refine ⟨o, ks, (Option.some.inj h).symm, by rw [← k2]; exact eo7, k1, ?_⟩
          rw [← k2]
          exact others_nin L kq.1
        | 1, h =>
          obtain ⟨ks, k1, k2⟩ := sub_kps (zsub.trans osub)
          refine ⟨p6, ks, (Option.some.inj h).symm, by rw [← k2]; exact ep7, k1, ?_⟩
          rw [← k2]
          exact fun h => others_nin L kq.1 (zsub.subset h)
        | _ + 2, h => simp at h
      have k57 := Keep.ext p5 x57
      have la7 := la5.keep k57
      have sh7 := sh5.keep k57
      have Ta : T1 ≠ a := fun z => by
        obtain ⟨ob, b, c, e, _⟩ := p7
        rw [z, e] at eT
        cases eT
      clear nq6 eq6 ep7 eo7 nT s7 x6 p6' k57 zsub
      refine ⟨T1, rfl, ⟨_, SqT.of eT⟩, for_tup (xs := [.ref o, .ref p6]) (fun j σ H' => ∃ (u5 u6 u7 u8 u9 : Option V) (M2 : Nat), σ = [some (.ref a), some (.ref lo), some (.ref x), some (.str kq.1), some (.ref o), u5, u6, u7, u8, u9] ∧ PotAt a M2 H' ∧ M2 ≤ M + 20 + j ∧ ExtP a H7 H') ?_ ?_ ?_ ?_⟩
      · exact ⟨_, _, _, _, _, M + 20, rfl, p7, by omega, fun _ _ _ q => q⟩
      · rintro j σ H' _ ⟨_, _, _, _, _, _, _, _, _, x'⟩
        exact SqT.of (x' _ _ Ta eT)
      · rintro j y σ H8 hy2 ⟨u5, u6, u7, u8, u9, M2, rfl, p8, M28, x78⟩
        obtain ⟨t, ks, rfl, et, ksub, kn⟩ := lots7 j y hy2
        have j2 : j < 2 := (List.getElem?_eq_some_iff.mp hy2).1
        have k78 := Keep.ext p7 x78
        have la8 := la7.keep k78
        have sh8 := sh7.keep k78
        have et8 : H8 t = some (.tup ((ks.map (·.1)).map V.str)) := k78 _ _ et fun _ z => by cases z
        refine ⟨_, rfl, _, rfl, _, rfl, x, t, L, kq, ks, rfl, sh8, ok, hk, et8, ksub, kn, fun q H9 s9 me => ?_⟩
        refine ⟨_, rfl, _, rfl, _, rfl, _, rfl, lo, t, q, L, kq, ks.map (·.1), rfl, la8.same s9, ok, hk, .inr (SqT.of (s9 _ _ et8)), me, fun H10 s10 => ⟨_, rfl, iteB rfl ?_⟩⟩
        have s8A := s9.trans s10
        refine ⟨_, rfl, _, rfl, _, rfl, _, rfl, x, t, q, L, kq, ks, rfl, sh8.same s8A, ok, hk, s8A _ _ et8, ksub, kn, me.keep (.of s10), fun H11 s11 => ⟨true, true, rfl, rfl, _, rfl, iteB rfl ?_⟩⟩
        have s8B := s8A.trans s11
        have p11 := p8.same s8B
        have x7B : ExtP a H7 H11 := x78.trans (.of s8B)
        rcases me.keep (.of (s10.trans s11)) with ⟨m, v, h1, h2, h3, h4, h5⟩ | ⟨h1, pS, us, h2, h3, h4⟩
        · refine ⟨_, rfl, q, _, _, _, rfl, rfl, SqT.of h5, at0 rfl, rfl, _, rfl, iteB (by decide +kernel) ?_⟩
          exact ⟨_, _, _, _, _, M2, rfl, p11, by omega, x7B⟩
        · refine ⟨_, rfl, q, _, _, _, rfl, rfl, SqT.of h2, at0 rfl, rfl, _, rfl, iteA (by decide +kernel) ?_⟩
          have la11 := la8.same s8B
          have sh11 := sh8.same s8B
          have et11 := s8B _ _ et8
          clear s8A s8B s9 s10 s11 me et8 sh8 la8 k78 et p8 x78
          refine ⟨_, rfl, _, rfl, lo, L, rfl, la11, ok.p4, fun g H12 s12 ng eg => ?_⟩
          have p12 := p11.same s12
          have ga : g ≠ a := fun z => p11.ne (by rw [← z]; exact ng)
          have rl : (recsL L).length ≤ 16 ∧ 0 < (recsL L).length := by
            unfold recsL
            rw [List.length_map, vL_len]
            exact ⟨Nat.le_trans (Nat.pow_le_pow_right (by decide) ok.p4) (by decide), Nat.pow_pos (by decide)⟩
          refine ⟨a, g, M2, _, rfl, p12, by omega, ga, eg, by rw [List.length_map]; exact rl.2, by rw [List.length_map]; omega, fun i0 x0 H13 hx0 x13 p13 => ?_⟩
          obtain ⟨v, vl, rfl⟩ : ∃ v, v.length = L.parts.length ∧ x0 = V.str (stv v) := by
            unfold recsL at hx0
            rw [List.getElem?_map, List.getElem?_map] at hx0
            cases z : (vL L.parts.length)[i0]? with
            | none => rw [z] at hx0; cases hx0
            | some v =>
              rw [z] at hx0
              exact ⟨v, mem_vL.mp (List.mem_of_getElem? z), (Option.some.inj hx0).symm⟩
          have xBD : ExtP a H11 H13 := (ExtP.of s12).trans x13
          have kBD := Keep.ext p11 xBD
          have la13 := la11.keep kBD
          have sh13 := sh11.keep kBD
          have et13 : H13 t = some (.tup ((ks.map (·.1)).map V.str)) := kBD _ _ et11 fun _ z => by cases z
          have h2' := kBD _ _ h2 fun _ z => by cases z
          have h3' := kBD _ _ h3 fun _ z => by cases z
          have h4' : Paired (RelSm H13) us _ := Paired.mapP h4 fun v s r => RelSm.keep _ _ _ _ kBD r
          have x7D : ExtP a H7 H13 := x7B.trans xBD
          clear la11 sh11 et11 h2 h3 h4 s12 ng eg ga p12 x13 xBD kBD x7B p11 hx0
          have kl : ks.length ≤ 6 := Nat.le_trans ksub.length_le k6
          refine ⟨_, rfl, t, rfl, ⟨_, SqT.of et13⟩, fun D nD => lc_relQ (walk_tup (a := t) (xs := (ks.map (·.1)).map V.str)) nD ks (fun k => V.str k.1) (fun k => (k, ansV L k v)) RelA RelA.keep (by rw [List.map_map]; rfl) (by omega) (fun H s => sqT_same s (SqT.of et13)) ?_ ?_⟩
          · rintro i1 k0 H14 R hk0 s14 kk
            obtain ⟨jj, hjj⟩ := List.mem_iff_getElem?.mp (ksub.subset (List.mem_of_getElem? hk0))
            refine ⟨rfl, _, rfl, _, rfl, _, rfl, _, rfl, lo, L, jj, k0, stv v, rfl, la13.same s14, ok, hjj, recOk_stv vl, fun H15 s15 => ⟨few_ok rfl, fun u nu => kk _ _ (s15.trans (same_new nu)) ⟨u, rfl, ?_⟩⟩⟩
            rw [upd_same, answer_stv vl]
          · intro H14 ts s14 eD pA
            refine .inl ⟨D, _, rfl, SqL.of eD, fun r nr => ?_⟩
            have s15 : Same H14 (upd H14 r (.tup ts)) := same_new nr
            have er : upd H14 r (.tup ts) r = some (.tup ts) := upd_same
            generalize upd H14 r (.tup ts) = H15 at s15 er ⊢
            have sDF := s14.trans s15
            have aa : AnsAt H15 r (ks.map fun k => (k, ansV L k v)) := ⟨ts, .inl er, Paired.mapP pA fun v a r => RelA.keep _ _ _ _ (.of s15) r⟩
            refine ⟨_, rfl, _, rfl, _, rfl, q, _, _, _, rfl, rfl, SqT.of (sDF _ _ h2'), at1 rfl, _, rfl, x, pS, r, L, kq, ks, us, _, v, rfl, sh13.same sDF, ok, hk, ksub, kn, sDF _ _ h3', Paired.mapP h4' (fun v s r => RelSm.keep _ _ _ _ (.of sDF) r), sums_ok ok hk h1, aa, vl, fun H17 s17 => ?_⟩
            obtain ⟨jq, hjq⟩ := List.mem_iff_getElem?.mp hk
            have sDH := sDF.trans s17
            refine ⟨_, rfl, _, rfl, _, rfl, lo, L, jq, kq, stv v, rfl, la13.same sDH, ok, hjq, recOk_stv vl, fun H18 s18 => ?_⟩
            rw [answer_stv vl]
            refine ⟨rfl, _, rfl, iteB (by simp) ?_⟩
            have sDI := sDH.trans s18
            exact ⟨_, _, _, _, _, M2 + 1, rfl, p13.same sDI, by omega, x7D.trans (.of sDI)⟩
      · rintro σ H8 ⟨u5, u6, u7, u8, u9, M2, rfl, p8, M28, x78⟩
        have M28 : M2 ≤ M + 20 + 2 := M28
        have x58 : ExtP a H5 H8 := x57.trans x78
        have k78 := Keep.ext p7 x78
        refine ⟨_, rfl, _, rfl, _, rfl, lo, x, L, kq, rfl, la7.keep k78, ok, sh7.keep k78, hk, tabs_extP p5 tb5 x58, fun H9 x9 tb9 => ⟨_, rfl, iteB rfl ?_⟩⟩
        exact ⟨_, _, _, _, _, _, _, M2, rfl, PotAt.extN p8 x9, by omega, x35.trans ((ExtPN.of x58).trans (.ofN x9)), tb9⟩
    · rintro σ H4 ⟨u3, u4, u5, u6, u7, u8, u9, M, rfl, p4, M4, x34, tb4⟩
      exact k H4 ((ExtPN.of X3).trans x34) tb4
end
end K6
set_option Elab.async false
set_option linter.all false
set_option maxRecDepth 100000
set_option maxHeartbeats 2000000
set_option pp.maxSteps 1200
set_option pp.deepTerms false
namespace K6
open PySem PySem.Spec PyProof.Rows L2 Lk
abbrev sLaw : Stmt := top 117
section
variable {P : Program} {w : World} {K : PySem.W.Frag} {mg : Str → Option Value} {base : Heap} {f : Addr} {fd : FuncData}
/-! ### law -/
def spLaw (K : PySem.W.Frag) (Tb : Addr) : Sp := fun vs H Q _ => ∃ (a : Addr) (ns : List Int), vs = [.ref a] ∧ SqL K H a (ns.map V.int) ∧ ns.length ≤ 63 ∧ LamX.Tabs [(Tb, lamN)] H ∧ ∀ H', Q (.bl true) H'
theorem scLaw : FnScope ["script", "place"] ["script"] (defScope sLaw) := ⟨rfl, rfl, rfl, by decide +kernel, rfl, by decide +kernel, by decide +kernel⟩
theorem ok_law {Tb fR fC fP : Addr} {fdR fdC fdP : FuncData} (F : Fun K "law" "law" sLaw f fd) (T : Bl mg)
    (GR : FnG P w K mg base 9 fR fdR ["pot"] (spRight Tb)) (kR : PySem.W.keepIn K (.ref fR) = true) (bR : Binds K fdR ["pot"] []) (mR : mg "_law_right" = some (.ref fR))
    (FC : Fun K "_law_cells" "_law_cells" sCells fC fdC) (bC : Binds K fdC ["script", "limit"] []) (mC : mg "_law_cells" = some (.ref fC))
    (FP : Fun K "_law_pot" "_law_pot" sPot fP fdP) (bP : Binds K fdP ["script", "place"] []) (mP : mg "_law_pot" = some (.ref fP)) :
    FnG P w K mg base 10 f fd ["script"] (spLaw K Tb) := by
  have GC : FnOk P w K mg base CX0 1 fC fdC ["script", "limit"] (spCells K) := ok_cells FC T
  have GP : FnOk P w K mg base CX0 1 fP fdP ["script", "place"] (spPot K) := ok_pot FP T
  refine FnG.of F scLaw (fun vs H Q h => ?_) (fun cdv A outer s H vs Q hr hG h => ?_)
  · obtain ⟨a, ns, rfl, _⟩ := h
    rfl
  · obtain ⟨a, ns, rfl, hs, hl, tb, k⟩ := h
    have nd := scLaw.nd
    have hr1 : Room 1 _ := hr.mono (by decide)
    refine ⟨_, pss_one (ps_ret (pe_callB (cr_all rfl) (by rfl) T.all boot_all (pa_cons (pe_lc (own := [("place", 1)]) (g := gName 1) (tt := tYes) rfl nd (pi_list (pe_call GC hr1 (by rfl) mC FC.kp bC .nil pass0 (pa_cons (pv 0) (pa_cons pe_int pa_nil))))
          (blkOk_by (N := ["script", "place"]) (sc := defScope sLaw) (by decide +kernel)) (fun _ _ _ _ _ => pg_name (i := 1) nd rfl (.inl rfl)) (fun _ _ _ _ _ => pts_nil)
          (fun _ _ _ _ _ => pe_gcall GR hr hG (by rfl) mR kR bR (pa_cons (pe_call GP hr1 (by rfl) mP FP.kp bP .nil pass0 (pa_cons (pv 0) (pa_cons (pv 1) pa_nil))) pa_nil))) pa_nil))), ?_⟩
    refine ⟨_, rfl, a, ns, 4, rfl, hs, hl, by decide, by decide, fun l n hn nl => ?_⟩
    have sl : Same H (upd H l (.lst (rgV 0 (n : Int)))) := same_new nl
    have el : upd H l (.lst (rgV 0 (n : Int))) l = some (.lst (rgV 0 (n : Int))) := upd_same
    generalize upd H l (.lst (rgV 0 (n : Int))) = H1 at sl el ⊢
    have rl : (rgV 0 (n : Int)).length = n := by
      unfold rgV
      rw [List.length_map, List.length_range]
      omega
    refine ⟨l, rfl, ⟨_, SqL.of el⟩, fun D nD => ?_⟩
    refine lc_it (walk_list (a := l) (xs := rgV 0 (n : Int))) (fun q Hq => Hq D = some (.lst (List.replicate q (V.bl true))) ∧ LamX.ExtN H1 Hq ∧ LamX.Tabs [(Tb, lamN)] Hq) ⟨upd_same, .of (same_new nD), (tb.ext fun b o q => sl _ _ q).ext fun b o q => same_new nD _ _ q⟩ (fun q Hq _ ⟨_, s, _⟩ => SqL.of (s _ _ el fun _ z => by cases z)) ?_ ?_
    · rintro i x Hq Hq' hi ⟨eD, sq, tq⟩ ⟨rfl, hx⟩
      rw [rl] at hi
      obtain rfl : x = V.int (0 + (i : Nat)) := by
        unfold rgV at hx
        rw [List.getElem?_map, List.getElem?_range (by omega)] at hx
        exact (Option.some.inj hx).symm
      refine ⟨rfl, ?_⟩
      unfold tYes
      refine iteT ?_
      have hsq : SqL K Hq' a (ns.map V.int) := by
        rcases sl.seq hs with (h | ⟨o, h⟩) | h
        · exact .inl (.inl (sq _ _ h fun _ z => by cases z))
        · exact .inl (.inr ⟨o, sq _ _ h fun _ z => by cases z⟩)
        · exact .inr h
      refine ⟨_, rfl, _, rfl, a, ns, _, rfl, hsq, hl, by omega, by omega, fun p H2 np s2 hp => ?_⟩
      have t2 : LamX.Tabs [(Tb, lamN)] H2 := tq.ext fun b o q => s2 _ _ q
      refine ⟨p, 0, rfl, hp, by decide, t2, fun H3 x3 t3 => ?_⟩
      have s3 : ∀ b o, Hq' b = some o → (∀ ps, o ≠ .tbl ps) → H3 b = some o := fun b o e n => x3 b o (ne_of_none e np) (s2 _ _ e) n
      refine ⟨_, s3 _ _ eD (fun _ z => by cases z), by rw [List.length_replicate, sizeLine_eq]; omega, ?_, fun b o e n => ?_, ?_⟩
      · rw [upd_same, List.replicate_succ']
      · rw [upd_ne (ne_of_none e nD)]
        exact s3 _ _ (sq _ _ e n) n
      · intro pp hpp
        obtain ⟨ps, h1, h2, h3⟩ := t3 pp hpp
        have eD3 := s3 _ _ eD (fun _ z => by cases z)
        refine ⟨ps, by rw [upd_ne (fun z => by rw [z, eD3] at h1; cases h1)]; exact h1, h2, fun pos cv hc => ?_⟩
        obtain ⟨c', q1, q2⟩ := h3 pos cv hc
        refine ⟨c', q1, ?_⟩
        rw [upd_ne (fun z => by rw [z, eD3] at q2; unfold LamX.CodeO at q2; cases q2)]
        exact q2
    · rintro Hq ⟨eD, sq, tq⟩
      rw [rl] at eD
      have eq3 : Hq D = some (.lst ((List.replicate n true).map V.bl)) := by rw [eD, List.map_replicate]
      refine ⟨D, List.replicate n true, rfl, SqL.of eq3, ?_⟩
      have al : (List.replicate n true).all id = true := by
        rw [List.all_eq_true]
        intro b hb
        rw [(List.mem_replicate.mp hb).2]
        rfl
      rw [al]
      exact k Hq
end
end K6
set_option Elab.async false
set_option linter.all false
set_option maxRecDepth 100000
set_option maxHeartbeats 0
namespace K6
open PySem PySem.Spec PyProof.Rows L2 Lk
theorem fun_of {K : PySem.W.Frag} {x q : Str} {st : Stmt} {f : Addr} {fd : FuncData} (F : FunD K x q (defArgs st) (defBody st) (defScope st) [] [] f fd) : Fun K x q st f fd := by
  obtain ⟨⟨oc, od, dV, kV, doc, pm, an, cdv, ct, osl, e, lk, hcd, hd, _⟩, kp⟩ := F
  rcases hd with ⟨_, rfl⟩ | ⟨h, _⟩
  · exact ⟨⟨oc, od, kV, doc, pm, an, cdv, ct, osl, e, lk, hcd⟩, kp⟩
  · exact absurd rfl h
theorem facts {P : Program} {w : World} {K : PySem.W.Frag} {h : Heap} {mg : Str → Option Value} {f : Addr} (X : K.In h) (G : h.Ns mainGlobals mg) (hfa : mg ("law" : Str) = some (.ref f)) (cY : SaysY h K) :
    ∃ fd : FuncData, (∀ (s : Shared) (v : Value), BindsTo s fd ⟨[v], []⟩ [("script", v)]) ∧ ∃ c Tb : Addr, h.get? Tb = some { cls := .none, data := .fields #[] } ∧ K.lookup Tb = none ∧ PySem.W.CodeHd h c Tb ∧
      ∀ base : Heap, K.In base → base.Ns mainGlobals mg → LamX.TabB base mg c Tb → FnG P w K mg base 10 f fd ["script"] (spLaw K Tb) := by
  have cD : He.SaysD fa fn K := cY.d
  obtain ⟨fdx0, Dx0⟩ := cD.def_ 0 (d := dx0) rfl
  have Fx0 : Fun K "law" "law" sLaw (He.fAd K dx0.at_) fdx0 := fun_of Dx0
  have mx0 : mg "law" = some (.ref (He.fAd K dx0.at_)) := He.glo_ok X G (cD.fact 0 (f := .glo "law") rfl)
  obtain ⟨fdx1, Dx1⟩ := cD.def_ 1 (d := dx1) rfl
  have bx1 := FunD.bindsN (ps := ["pot"]) Dx1 fun _ _ _ _ _ _ us hl => match us, hl with | [_], _ => rfl
  have Fx1 : Fun K "_law_right" "_law_right" sRight (He.fAd K dx1.at_) fdx1 := fun_of Dx1
  have mx1 : mg "_law_right" = some (.ref (He.fAd K dx1.at_)) := He.glo_ok X G (cD.fact 1 (f := .glo "_law_right") rfl)
  obtain ⟨fdx2, Dx2⟩ := cD.def_ 2 (d := dx2) rfl
  have bx2 := FunD.bindsN (ps := ["pot", "few", "upmost", "most_parts"]) Dx2 fun _ _ _ _ _ _ us hl => match us, hl with | [_, _, _, _], _ => rfl
  have Fx2 : Fun K "_law_shelf" "_law_shelf" sShelf (He.fAd K dx2.at_) fdx2 := fun_of Dx2
  have mx2 : mg "_law_shelf" = some (.ref (He.fAd K dx2.at_)) := He.glo_ok X G (cD.fact 2 (f := .glo "_law_shelf") rfl)
  obtain ⟨fdx3, Dx3⟩ := cD.def_ 3 (d := dx3) rfl
  have bx3 := FunD.bindsN (ps := ["pot", "upto"]) Dx3 fun _ _ _ _ _ _ us hl => match us, hl with | [_, _], _ => rfl
  have Fx3 : Fun K "_law_take" "_law_take" sTake (He.fAd K dx3.at_) fdx3 := fun_of Dx3
  have mx3 : mg "_law_take" = some (.ref (He.fAd K dx3.at_)) := He.glo_ok X G (cD.fact 3 (f := .glo "_law_take") rfl)
  obtain ⟨fdx4, Dx4⟩ := cD.def_ 4 (d := dx4) rfl
  have bx4 := FunD.bindsN (ps := ["pot", "pool", "amount"]) Dx4 fun _ _ _ _ _ _ us hl => match us, hl with | [_, _, _], _ => rfl
  have Fx4 : Fun K "_law_some" "_law_some" sSome (He.fAd K dx4.at_) fdx4 := fun_of Dx4
  have mx4 : mg "_law_some" = some (.ref (He.fAd K dx4.at_)) := He.glo_ok X G (cD.fact 4 (f := .glo "_law_some") rfl)
  obtain ⟨fdx5, Dx5⟩ := cD.def_ 5 (d := dx5) rfl
  have bx5 := FunD.bindsN (ps := ["names", "some"]) Dx5 fun _ _ _ _ _ _ us hl => match us, hl with | [_, _], _ => rfl
  have Fx5 : Fun K "_law_lot_of" "_law_lot_of" sLotOf (He.fAd K dx5.at_) fdx5 := fun_of Dx5
  have mx5 : mg "_law_lot_of" = some (.ref (He.fAd K dx5.at_)) := He.glo_ok X G (cD.fact 5 (f := .glo "_law_lot_of") rfl)
  obtain ⟨fdx6, Dx6⟩ := cD.def_ 6 (d := dx6) rfl
  have bx6 := FunD.bindsN (ps := ["pot", "few", "upmost"]) Dx6 fun _ _ _ _ _ _ us hl => match us, hl with | [_, _, _], _ => rfl
  have Fx6 : Fun K "_law_names" "_law_names" sNames (He.fAd K dx6.at_) fdx6 := fun_of Dx6
  have mx6 : mg "_law_names" = some (.ref (He.fAd K dx6.at_)) := He.glo_ok X G (cD.fact 6 (f := .glo "_law_names") rfl)
  obtain ⟨fdx7, Dx7⟩ := cD.def_ 7 (d := dx7) rfl
  have bx7 := FunD.bindsN (ps := ["pot", "parts"]) Dx7 fun _ _ _ _ _ _ us hl => match us, hl with | [_, _], _ => rfl
  have Fx7 : Fun K "_law_piece" "_law_piece" sPiece (He.fAd K dx7.at_) fdx7 := fun_of Dx7
  have mx7 : mg "_law_piece" = some (.ref (He.fAd K dx7.at_)) := He.glo_ok X G (cD.fact 7 (f := .glo "_law_piece") rfl)
  obtain ⟨fdx8, Dx8⟩ := cD.def_ 8 (d := dx8) rfl
  have bx8 := FunD.bindsN (ps := ["pot", "upmost"]) Dx8 fun _ _ _ _ _ _ us hl => match us, hl with | [_, _], _ => rfl
  have Fx8 : Fun K "_law_parts" "_law_parts" sParts (He.fAd K dx8.at_) fdx8 := fun_of Dx8
  have mx8 : mg "_law_parts" = some (.ref (He.fAd K dx8.at_)) := He.glo_ok X G (cD.fact 8 (f := .glo "_law_parts") rfl)
  obtain ⟨fdx9, Dx9⟩ := cD.def_ 9 (d := dx9) rfl
  have bx9 := FunD.bindsN (ps := ["lore"]) Dx9 fun _ _ _ _ _ _ us hl => match us, hl with | [_], _ => rfl
  have Fx9 : Fun K "_law_shelf_of" "_law_shelf_of" sLSof (He.fAd K dx9.at_) fdx9 := fun_of Dx9
  have mx9 : mg "_law_shelf_of" = some (.ref (He.fAd K dx9.at_)) := He.glo_ok X G (cD.fact 9 (f := .glo "_law_shelf_of") rfl)
  obtain ⟨fdx10, Dx10⟩ := cD.def_ 10 (d := dx10) rfl
  have bx10 := FunD.bindsN (ps := ["self", "text"]) Dx10 fun _ _ _ _ _ _ us hl => match us, hl with | [_, _], _ => rfl
  have Fx10 : Fun K "__init__" "Shelf.__init__" sShelfInit (He.fAd K dx10.at_) fdx10 := fun_of Dx10
  obtain ⟨fdx11, Dx11⟩ := cD.def_ 11 (d := dx11) rfl
  have bx11 := FunD.bindsN (ps := ["lore"]) Dx11 fun _ _ _ _ _ _ us hl => match us, hl with | [_], _ => rfl
  have Fx11 : Fun K "_law_shelf_text" "_law_shelf_text" sText (He.fAd K dx11.at_) fdx11 := fun_of Dx11
  have mx11 : mg "_law_shelf_text" = some (.ref (He.fAd K dx11.at_)) := He.glo_ok X G (cD.fact 10 (f := .glo "_law_shelf_text") rfl)
  obtain ⟨fdx12, Dx12⟩ := cD.def_ 12 (d := dx12) rfl
  have bx12 := FunD.bindsN (ps := ["self", "names"]) Dx12 fun _ _ _ _ _ _ us hl => match us, hl with | [_, _], _ => rfl
  have Fx12 : Fun K "__init__" "Circle.__init__" sCircInit (He.fAd K dx12.at_) fdx12 := fun_of Dx12
  obtain ⟨fdx13, Dx13⟩ := cD.def_ 13 (d := dx13) rfl
  have bx13 := FunD.bindsN (ps := ["text", "can_stand", "is_whole"]) Dx13 fun _ _ _ _ _ _ us hl => match us, hl with | [_, _, _], _ => rfl
  have Fx13 : Fun K "wrong_line" "wrong_line" sWrong (He.fAd K dx13.at_) fdx13 := fun_of Dx13
  have mx13 : mg "wrong_line" = some (.ref (He.fAd K dx13.at_)) := He.glo_ok X G (cD.fact 11 (f := .glo "wrong_line") rfl)
  obtain ⟨fdx14, Dx14⟩ := cD.def_ 14 (d := dx14) rfl
  have bx14 := FunD.bindsN (ps := ["ahead", "line"]) Dx14 fun _ _ _ _ _ _ us hl => match us, hl with | [_, _], _ => rfl
  have Fx14 : Fun K "stands_in_shelf" "stands_in_shelf" sStands (He.fAd K dx14.at_) fdx14 := fun_of Dx14
  have mx14 : mg "stands_in_shelf" = some (.ref (He.fAd K dx14.at_)) := He.glo_ok X G (cD.fact 12 (f := .glo "stands_in_shelf") rfl)
  obtain ⟨fdx15, Dx15⟩ := cD.def_ 15 (d := dx15) rfl
  have bx15 := FunD.bindsN (ps := ["value"]) Dx15 fun _ _ _ _ _ _ us hl => match us, hl with | [_], _ => rfl
  have Fx15 : Fun K "is_name" "is_name" sIsName (He.fAd K dx15.at_) fdx15 := fun_of Dx15
  have mx15 : mg "is_name" = some (.ref (He.fAd K dx15.at_)) := He.glo_ok X G (cD.fact 13 (f := .glo "is_name") rfl)
  obtain ⟨fdx16, Dx16⟩ := cD.def_ 16 (d := dx16) rfl
  have bx16 := FunD.bindsN (ps := ["some"]) Dx16 fun _ _ _ _ _ _ us hl => match us, hl with | [_], _ => rfl
  have Fx16 : Fun K "are_names" "are_names" sAreNames (He.fAd K dx16.at_) fdx16 := fun_of Dx16
  have mx16 : mg "are_names" = some (.ref (He.fAd K dx16.at_)) := He.glo_ok X G (cD.fact 14 (f := .glo "are_names") rfl)
  obtain ⟨fdx17, Dx17⟩ := cD.def_ 17 (d := dx17) rfl
  have bx17 := FunD.bindsN (ps := ["line"]) Dx17 fun _ _ _ _ _ _ us hl => match us, hl with | [_], _ => rfl
  have Fx17 : Fun K "is_parts_line" "is_parts_line" sPartsLine (He.fAd K dx17.at_) fdx17 := fun_of Dx17
  have mx17 : mg "is_parts_line" = some (.ref (He.fAd K dx17.at_)) := He.glo_ok X G (cD.fact 15 (f := .glo "is_parts_line") rfl)
  obtain ⟨fdx18, Dx18⟩ := cD.def_ 18 (d := dx18) rfl
  have bx18 := FunD.bindsN (ps := ["parts", "word"]) Dx18 fun _ _ _ _ _ _ us hl => match us, hl with | [_, _], _ => rfl
  have Fx18 : Fun K "is_piece_word" "is_piece_word" sPieceWord (He.fAd K dx18.at_) fdx18 := fun_of Dx18
  have mx18 : mg "is_piece_word" = some (.ref (He.fAd K dx18.at_)) := He.glo_ok X G (cD.fact 16 (f := .glo "is_piece_word") rfl)
  obtain ⟨fdx19, Dx19⟩ := cD.def_ 19 (d := dx19) rfl
  have bx19 := FunD.bindsN (ps := ["lines"]) Dx19 fun _ _ _ _ _ _ us hl => match us, hl with | [_], _ => rfl
  have Fx19 : Fun K "is_whole_shelf" "is_whole_shelf" sWhole (He.fAd K dx19.at_) fdx19 := fun_of Dx19
  have mx19 : mg "is_whole_shelf" = some (.ref (He.fAd K dx19.at_)) := He.glo_ok X G (cD.fact 17 (f := .glo "is_whole_shelf") rfl)
  obtain ⟨fdx20, Dx20⟩ := cD.def_ 20 (d := dx20) rfl
  have bx20 := FunD.bindsN (ps := ["words"]) Dx20 fun _ _ _ _ _ _ us hl => match us, hl with | [_], _ => rfl
  have Fx20 : Fun K "read_pieces" "read_pieces" sReadPieces (He.fAd K dx20.at_) fdx20 := fun_of Dx20
  have mx20 : mg "read_pieces" = some (.ref (He.fAd K dx20.at_)) := He.glo_ok X G (cD.fact 18 (f := .glo "read_pieces") rfl)
  obtain ⟨fdx21, Dx21⟩ := cD.def_ 21 (d := dx21) rfl
  have bx21 := FunD.bindsN (ps := ["circle", "pieces"]) Dx21 fun _ _ _ _ _ _ us hl => match us, hl with | [_, _], _ => rfl
  have Fx21 : Fun K "all_spots" "all_spots" sAllSpots (He.fAd K dx21.at_) fdx21 := fun_of Dx21
  have mx21 : mg "all_spots" = some (.ref (He.fAd K dx21.at_)) := He.glo_ok X G (cD.fact 19 (f := .glo "all_spots") rfl)
  obtain ⟨fdx22, Dx22⟩ := cD.def_ 22 (d := dx22) rfl
  have bx22 := FunD.bindsN (ps := ["shelf", "spot"]) Dx22 fun _ _ _ _ _ _ us hl => match us, hl with | [_, _], _ => rfl
  have Fx22 : Fun K "piece_at" "piece_at" sPieceAt (He.fAd K dx22.at_) fdx22 := fun_of Dx22
  have mx22 : mg "piece_at" = some (.ref (He.fAd K dx22.at_)) := He.glo_ok X G (cD.fact 20 (f := .glo "piece_at") rfl)
  obtain ⟨fdx23, Dx23⟩ := cD.def_ 23 (d := dx23) rfl
  have bx23 := FunD.bindsN (ps := ["parts", "piece"]) Dx23 fun _ _ _ _ _ _ us hl => match us, hl with | [_, _], _ => rfl
  have Fx23 : Fun K "piece_code" "piece_code" sPieceCode (He.fAd K dx23.at_) fdx23 := fun_of Dx23
  have mx23 : mg "piece_code" = some (.ref (He.fAd K dx23.at_)) := He.glo_ok X G (cD.fact 21 (f := .glo "piece_code") rfl)
  obtain ⟨fdx24, Dx24⟩ := cD.def_ 24 (d := dx24) rfl
  have bx24 := FunD.bindsN (ps := ["names", "gone"]) Dx24 fun _ _ _ _ _ _ us hl => match us, hl with | [_, _], _ => rfl
  have Fx24 : Fun K "_law_less" "_law_less" sLLess (He.fAd K dx24.at_) fdx24 := fun_of Dx24
  have mx24 : mg "_law_less" = some (.ref (He.fAd K dx24.at_)) := He.glo_ok X G (cD.fact 22 (f := .glo "_law_less") rfl)
  obtain ⟨fdx25, Dx25⟩ := cD.def_ 25 (d := dx25) rfl
  have bx25 := FunD.bindsN (ps := ["pot", "names", "few"]) Dx25 fun _ _ _ _ _ _ us hl => match us, hl with | [_, _, _], _ => rfl
  have Fx25 : Fun K "_law_a_lot" "_law_a_lot" sALot (He.fAd K dx25.at_) fdx25 := fun_of Dx25
  have mx25 : mg "_law_a_lot" = some (.ref (He.fAd K dx25.at_)) := He.glo_ok X G (cD.fact 23 (f := .glo "_law_a_lot") rfl)
  obtain ⟨fdx26, Dx26⟩ := cD.def_ 26 (d := dx26) rfl
  have bx26 := FunD.bindsN (ps := ["shelf", "keeper", "helpers"]) Dx26 fun _ _ _ _ _ _ us hl => match us, hl with | [_, _, _], _ => rfl
  have Fx26 : Fun K "mends" "mends" sMends (He.fAd K dx26.at_) fdx26 := fun_of Dx26
  have mx26 : mg "mends" = some (.ref (He.fAd K dx26.at_)) := He.glo_ok X G (cD.fact 24 (f := .glo "mends") rfl)
  obtain ⟨fdx27, Dx27⟩ := cD.def_ 27 (d := dx27) rfl
  have bx27 := FunD.bindsN (ps := ["shelf", "value"]) Dx27 fun _ _ _ _ _ _ us hl => match us, hl with | [_, _], _ => rfl
  have Fx27 : Fun K "refuse_keeper" "refuse_keeper" sRefKeeper (He.fAd K dx27.at_) fdx27 := fun_of Dx27
  have mx27 : mg "refuse_keeper" = some (.ref (He.fAd K dx27.at_)) := He.glo_ok X G (cD.fact 25 (f := .glo "refuse_keeper") rfl)
  obtain ⟨fdx28, Dx28⟩ := cD.def_ 28 (d := dx28) rfl
  have bx28 := FunD.bindsN (ps := ["self", "value"]) Dx28 fun _ _ _ _ _ _ us hl => match us, hl with | [_, _], _ => rfl
  have Fx28 : Fun K "__contains__" "Circle.__contains__" sCircIn (He.fAd K dx28.at_) fdx28 := fun_of Dx28
  obtain ⟨fdx29, Dx29⟩ := cD.def_ 29 (d := dx29) rfl
  have bx29 := FunD.bindsN (ps := ["shelf", "keeper", "value"]) Dx29 fun _ _ _ _ _ _ us hl => match us, hl with | [_, _, _], _ => rfl
  have Fx29 : Fun K "refuse_helpers" "refuse_helpers" sRefHelp (He.fAd K dx29.at_) fdx29 := fun_of Dx29
  have mx29 : mg "refuse_helpers" = some (.ref (He.fAd K dx29.at_)) := He.glo_ok X G (cD.fact 26 (f := .glo "refuse_helpers") rfl)
  obtain ⟨fdx30, Dx30⟩ := cD.def_ 30 (d := dx30) rfl
  have bx30 := FunD.bindsN (ps := ["circle", "value"]) Dx30 fun _ _ _ _ _ _ us hl => match us, hl with | [_, _], _ => rfl
  have Fx30 : Fun K "is_lot" "is_lot" sIsLot (He.fAd K dx30.at_) fdx30 := fun_of Dx30
  have mx30 : mg "is_lot" = some (.ref (He.fAd K dx30.at_)) := He.glo_ok X G (cD.fact 27 (f := .glo "is_lot") rfl)
  obtain ⟨fdx31, Dx31⟩ := cD.def_ 31 (d := dx31) rfl
  have bx31 := FunD.bindsN (ps := ["shelf", "keeper", "helpers"]) Dx31 fun _ _ _ _ _ _ us hl => match us, hl with | [_, _, _], _ => rfl
  have Fx31 : Fun K "first_lost" "first_lost" sFirstLost (He.fAd K dx31.at_) fdx31 := fun_of Dx31
  have mx31 : mg "first_lost" = some (.ref (He.fAd K dx31.at_)) := He.glo_ok X G (cD.fact 28 (f := .glo "first_lost") rfl)
  obtain ⟨fdx32, Dx32⟩ := cD.def_ 32 (d := dx32) rfl
  have bx32 := FunD.bindsN (ps := ["shelf", "lot"]) Dx32 fun _ _ _ _ _ _ us hl => match us, hl with | [_, _], _ => rfl
  have Fx32 : Fun K "spots_of" "spots_of" sSpotsOf (He.fAd K dx32.at_) fdx32 := fun_of Dx32
  have mx32 : mg "spots_of" = some (.ref (He.fAd K dx32.at_)) := He.glo_ok X G (cD.fact 29 (f := .glo "spots_of") rfl)
  obtain ⟨fdx33, Dx33⟩ := cD.def_ 33 (d := dx33) rfl
  have bx33 := FunD.bindsN (ps := ["shelf", "spots"]) Dx33 fun _ _ _ _ _ _ us hl => match us, hl with | [_, _], _ => rfl
  have Fx33 : Fun K "reach" "reach" sReach (He.fAd K dx33.at_) fdx33 := fun_of Dx33
  have mx33 : mg "reach" = some (.ref (He.fAd K dx33.at_)) := He.glo_ok X G (cD.fact 30 (f := .glo "reach") rfl)
  obtain ⟨fdx34, Dx34⟩ := cD.def_ 34 (d := dx34) rfl
  have bx34 := FunD.bindsN (ps := ["rows"]) Dx34 fun _ _ _ _ _ _ us hl => match us, hl with | [_], _ => rfl
  have Fx34 : Fun K "span" "span" sSpan (He.fAd K dx34.at_) fdx34 := fun_of Dx34
  have mx34 : mg "span" = some (.ref (He.fAd K dx34.at_)) := He.glo_ok X G (cD.fact 31 (f := .glo "span") rfl)
  obtain ⟨fdx35, Dx35⟩ := cD.def_ 35 (d := dx35) rfl
  have bx35 := FunD.bindsN (ps := ["shelf"]) Dx35 fun _ _ _ _ _ _ us hl => match us, hl with | [_], _ => rfl
  have Fx35 : Fun K "records" "records" sRecs (He.fAd K dx35.at_) fdx35 := fun_of Dx35
  have mx35 : mg "records" = some (.ref (He.fAd K dx35.at_)) := He.glo_ok X G (cD.fact 32 (f := .glo "records") rfl)
  obtain ⟨fdx36, Dx36⟩ := cD.def_ 36 (d := dx36) rfl
  have bx36 := FunD.bindsN (ps := ["many"]) Dx36 fun _ _ _ _ _ _ us hl => match us, hl with | [_], _ => rfl
  have Fx36 : Fun K "all_bits" "all_bits" sAllBits (He.fAd K dx36.at_) fdx36 := fun_of Dx36
  have mx36 : mg "all_bits" = some (.ref (He.fAd K dx36.at_)) := He.glo_ok X G (cD.fact 33 (f := .glo "all_bits") rfl)
  obtain ⟨fdx37, Dx37⟩ := cD.def_ 37 (d := dx37) rfl
  have bx37 := FunD.bindsN (ps := ["shelf", "helpers", "spot", "record"]) Dx37 fun _ _ _ _ _ _ us hl => match us, hl with | [_, _, _, _], _ => rfl
  have Fx37 : Fun K "is_hidden" "is_hidden" sHidden (He.fAd K dx37.at_) fdx37 := fun_of Dx37
  have mx37 : mg "is_hidden" = some (.ref (He.fAd K dx37.at_)) := He.glo_ok X G (cD.fact 34 (f := .glo "is_hidden") rfl)
  obtain ⟨fdx38, Dx38⟩ := cD.def_ 38 (d := dx38) rfl
  have bx38 := FunD.bindsN (ps := ["shelf", "piece", "record"]) Dx38 fun _ _ _ _ _ _ us hl => match us, hl with | [_, _, _], _ => rfl
  have Fx38 : Fun K "worth" "worth" sWorth (He.fAd K dx38.at_) fdx38 := fun_of Dx38
  have mx38 : mg "worth" = some (.ref (He.fAd K dx38.at_)) := He.glo_ok X G (cD.fact 35 (f := .glo "worth") rfl)
  obtain ⟨fdx39, Dx39⟩ := cD.def_ 39 (d := dx39) rfl
  have bx39 := FunD.bindsN (ps := ["shelf", "lot", "record"]) Dx39 fun _ _ _ _ _ _ us hl => match us, hl with | [_, _, _], _ => rfl
  have Fx39 : Fun K "is_silent" "is_silent" sIsSilent (He.fAd K dx39.at_) fdx39 := fun_of Dx39
  have mx39 : mg "is_silent" = some (.ref (He.fAd K dx39.at_)) := He.glo_ok X G (cD.fact 36 (f := .glo "is_silent") rfl)
  obtain ⟨fdx40, Dx40⟩ := cD.def_ 40 (d := dx40) rfl
  have bx40 := FunD.bindsN (ps := ["shelf", "keeper", "record"]) Dx40 fun _ _ _ _ _ _ us hl => match us, hl with | [_, _, _], _ => rfl
  have Fx40 : Fun K "answer" "answer" sAnswer (He.fAd K dx40.at_) fdx40 := fun_of Dx40
  have mx40 : mg "answer" = some (.ref (He.fAd K dx40.at_)) := He.glo_ok X G (cD.fact 37 (f := .glo "answer") rfl)
  obtain ⟨fdx41, Dx41⟩ := cD.def_ 41 (d := dx41) rfl
  have bx41 := FunD.bindsN (ps := ["shelf", "value"]) Dx41 fun _ _ _ _ _ _ us hl => match us, hl with | [_, _], _ => rfl
  have Fx41 : Fun K "refuse_record" "refuse_record" sRefRecord (He.fAd K dx41.at_) fdx41 := fun_of Dx41
  have mx41 : mg "refuse_record" = some (.ref (He.fAd K dx41.at_)) := He.glo_ok X G (cD.fact 38 (f := .glo "refuse_record") rfl)
  obtain ⟨fdx42, Dx42⟩ := cD.def_ 42 (d := dx42) rfl
  have bx42 := FunD.bindsN (ps := ["value", "many"]) Dx42 fun _ _ _ _ _ _ us hl => match us, hl with | [_, _], _ => rfl
  have Fx42 : Fun K "are_bits" "are_bits" sAreBits (He.fAd K dx42.at_) fdx42 := fun_of Dx42
  have mx42 : mg "are_bits" = some (.ref (He.fAd K dx42.at_)) := He.glo_ok X G (cD.fact 39 (f := .glo "are_bits") rfl)
  obtain ⟨fdx43, Dx43⟩ := cD.def_ 43 (d := dx43) rfl
  have bx43 := FunD.bindsN (ps := ["shelf", "value"]) Dx43 fun _ _ _ _ _ _ us hl => match us, hl with | [_, _], _ => rfl
  have Fx43 : Fun K "is_record" "is_record" sIsRecord (He.fAd K dx43.at_) fdx43 := fun_of Dx43
  have mx43 : mg "is_record" = some (.ref (He.fAd K dx43.at_)) := He.glo_ok X G (cD.fact 40 (f := .glo "is_record") rfl)
  obtain ⟨fdx44, Dx44⟩ := cD.def_ 44 (d := dx44) rfl
  have bx44 := FunD.bindsN (ps := ["lore", "name", "lot", "value"]) Dx44 fun _ _ _ _ _ _ us hl => match us, hl with | [_, _, _, _], _ => rfl
  have Fx44 : Fun K "_law_is_mends_told" "_law_is_mends_told" sLTold (He.fAd K dx44.at_) fdx44 := fun_of Dx44
  have mx44 : mg "_law_is_mends_told" = some (.ref (He.fAd K dx44.at_)) := He.glo_ok X G (cD.fact 41 (f := .glo "_law_is_mends_told") rfl)
  obtain ⟨fdx45, Dx45⟩ := cD.def_ 45 (d := dx45) rfl
  have bx45 := FunD.bindsN (ps := ["lore", "lot"]) Dx45 fun _ _ _ _ _ _ us hl => match us, hl with | [_, _], _ => rfl
  have Fx45 : Fun K "_law_pieces_of" "_law_pieces_of" sPiecesOf (He.fAd K dx45.at_) fdx45 := fun_of Dx45
  have mx45 : mg "_law_pieces_of" = some (.ref (He.fAd K dx45.at_)) := He.glo_ok X G (cD.fact 42 (f := .glo "_law_pieces_of") rfl)
  obtain ⟨fdx46, Dx46⟩ := cD.def_ 46 (d := dx46) rfl
  have bx46 := FunD.bindsN (ps := ["lore", "lot"]) Dx46 fun _ _ _ _ _ _ us hl => match us, hl with | [_, _], _ => rfl
  have Fx46 : Fun K "_law_spots" "_law_spots" sLSpots (He.fAd K dx46.at_) fdx46 := fun_of Dx46
  have mx46 : mg "_law_spots" = some (.ref (He.fAd K dx46.at_)) := He.glo_ok X G (cD.fact 43 (f := .glo "_law_spots") rfl)
  obtain ⟨fdx47, Dx47⟩ := cD.def_ 47 (d := dx47) rfl
  have bx47 := FunD.bindsN (ps := ["lore", "spot"]) Dx47 fun _ _ _ _ _ _ us hl => match us, hl with | [_, _], _ => rfl
  have Fx47 : Fun K "_law_piece_at" "_law_piece_at" sLPAt (He.fAd K dx47.at_) fdx47 := fun_of Dx47
  have mx47 : mg "_law_piece_at" = some (.ref (He.fAd K dx47.at_)) := He.glo_ok X G (cD.fact 44 (f := .glo "_law_piece_at") rfl)
  obtain ⟨fdx48, Dx48⟩ := cD.def_ 48 (d := dx48) rfl
  have bx48 := FunD.bindsN (ps := ["lore", "lot", "value"]) Dx48 fun _ _ _ _ _ _ us hl => match us, hl with | [_, _, _], _ => rfl
  have Fx48 : Fun K "_law_is_sum" "_law_is_sum" sLSum (He.fAd K dx48.at_) fdx48 := fun_of Dx48
  have mx48 : mg "_law_is_sum" = some (.ref (He.fAd K dx48.at_)) := He.glo_ok X G (cD.fact 45 (f := .glo "_law_is_sum") rfl)
  obtain ⟨fdx49, Dx49⟩ := cD.def_ 49 (d := dx49) rfl
  have Fx49 : FunD K "_law_is_int" "_law_is_int" (defArgs sLIsI) (defBody sLIsI) (defScope sLIsI) [.non] [] (He.fAd K dx49.at_) fdx49 := Dx49
  obtain ⟨dsI, vI, bx49⟩ := FunD.binds1 (ps := ["value", "low", "high"]) Fx49 3 1 (by simp) rfl fun _ _ _ _ _ _ _ us its h1 h2 => match us, its, h1, h2 with | [_, _, _], [_], _, _ => ⟨_, rfl, rfl⟩
  obtain rfl : dsI = [] := by
    cases vI
    rfl
  have mx49 : mg "_law_is_int" = some (.ref (He.fAd K dx49.at_)) := He.glo_ok X G (cD.fact 46 (f := .glo "_law_is_int") rfl)
  obtain ⟨fdx50, Dx50⟩ := cD.def_ 50 (d := dx50) rfl
  have bx50 := FunD.bindsN (ps := ["lore", "some"]) Dx50 fun _ _ _ _ _ _ us hl => match us, hl with | [_, _], _ => rfl
  have Fx50 : Fun K "_law_comes" "_law_comes" sLComes (He.fAd K dx50.at_) fdx50 := fun_of Dx50
  have mx50 : mg "_law_comes" = some (.ref (He.fAd K dx50.at_)) := He.glo_ok X G (cD.fact 47 (f := .glo "_law_comes") rfl)
  obtain ⟨fdx51, Dx51⟩ := cD.def_ 51 (d := dx51) rfl
  have bx51 := FunD.bindsN (ps := ["lore", "value"]) Dx51 fun _ _ _ _ _ _ us hl => match us, hl with | [_, _], _ => rfl
  have Fx51 : Fun K "_law_is_a_record" "_law_is_a_record" sLRec (He.fAd K dx51.at_) fdx51 := fun_of Dx51
  have mx51 : mg "_law_is_a_record" = some (.ref (He.fAd K dx51.at_)) := He.glo_ok X G (cD.fact 48 (f := .glo "_law_is_a_record") rfl)
  obtain ⟨fdx52, Dx52⟩ := cD.def_ 52 (d := dx52) rfl
  have bx52 := FunD.bindsN (ps := ["lore", "spots", "record"]) Dx52 fun _ _ _ _ _ _ us hl => match us, hl with | [_, _, _], _ => rfl
  have Fx52 : Fun K "_law_is_dark" "_law_is_dark" sDark (He.fAd K dx52.at_) fdx52 := fun_of Dx52
  have mx52 : mg "_law_is_dark" = some (.ref (He.fAd K dx52.at_)) := He.glo_ok X G (cD.fact 49 (f := .glo "_law_is_dark") rfl)
  obtain ⟨fdx53, Dx53⟩ := cD.def_ 53 (d := dx53) rfl
  have bx53 := FunD.bindsN (ps := ["lore", "piece", "record"]) Dx53 fun _ _ _ _ _ _ us hl => match us, hl with | [_, _, _], _ => rfl
  have Fx53 : Fun K "_law_piece_value" "_law_piece_value" sValue (He.fAd K dx53.at_) fdx53 := fun_of Dx53
  have mx53 : mg "_law_piece_value" = some (.ref (He.fAd K dx53.at_)) := He.glo_ok X G (cD.fact 50 (f := .glo "_law_piece_value") rfl)
  obtain ⟨fdx54, Dx54⟩ := cD.def_ 54 (d := dx54) rfl
  have bx54 := FunD.bindsN (ps := ["shelf", "keeper", "helpers", "value"]) Dx54 fun _ _ _ _ _ _ us hl => match us, hl with | [_, _, _, _], _ => rfl
  have Fx54 : Fun K "shows_mends" "shows_mends" sShowsM (He.fAd K dx54.at_) fdx54 := fun_of Dx54
  have mx54 : mg "shows_mends" = some (.ref (He.fAd K dx54.at_)) := He.glo_ok X G (cD.fact 51 (f := .glo "shows_mends") rfl)
  obtain ⟨fdx55, Dx55⟩ := cD.def_ 55 (d := dx55) rfl
  have bx55 := FunD.bindsN (ps := ["value", "word", "many"]) Dx55 fun _ _ _ _ _ _ us hl => match us, hl with | [_, _, _], _ => rfl
  have Fx55 : Fun K "is_told" "is_told" sIsTold (He.fAd K dx55.at_) fdx55 := fun_of Dx55
  have mx55 : mg "is_told" = some (.ref (He.fAd K dx55.at_)) := He.glo_ok X G (cD.fact 52 (f := .glo "is_told") rfl)
  obtain ⟨fdx56, Dx56⟩ := cD.def_ 56 (d := dx56) rfl
  have bx56 := FunD.bindsN (ps := ["value", "many"]) Dx56 fun _ _ _ _ _ _ us hl => match us, hl with | [_, _], _ => rfl
  have Fx56 : Fun K "is_row" "is_row" sIsRow (He.fAd K dx56.at_) fdx56 := fun_of Dx56
  have mx56 : mg "is_row" = some (.ref (He.fAd K dx56.at_)) := He.glo_ok X G (cD.fact 53 (f := .glo "is_row") rfl)
  obtain ⟨fdx57, Dx57⟩ := cD.def_ 57 (d := dx57) rfl
  have bx57 := FunD.bindsN (ps := ["shelf", "keeper", "helpers", "value"]) Dx57 fun _ _ _ _ _ _ us hl => match us, hl with | [_, _, _, _], _ => rfl
  have Fx57 : Fun K "are_sums_for" "are_sums_for" sAreSums (He.fAd K dx57.at_) fdx57 := fun_of Dx57
  have mx57 : mg "are_sums_for" = some (.ref (He.fAd K dx57.at_)) := He.glo_ok X G (cD.fact 54 (f := .glo "are_sums_for") rfl)
  obtain ⟨fdx58, Dx58⟩ := cD.def_ 58 (d := dx58) rfl
  have bx58 := FunD.bindsN (ps := ["shelf", "lot", "value"]) Dx58 fun _ _ _ _ _ _ us hl => match us, hl with | [_, _, _], _ => rfl
  have Fx58 : Fun K "is_sum_of" "is_sum_of" sIsSumOf (He.fAd K dx58.at_) fdx58 := fun_of Dx58
  have mx58 : mg "is_sum_of" = some (.ref (He.fAd K dx58.at_)) := He.glo_ok X G (cD.fact 55 (f := .glo "is_sum_of") rfl)
  obtain ⟨fdx59, Dx59⟩ := cD.def_ 59 (d := dx59) rfl
  have bx59 := FunD.bindsN (ps := ["shelf", "value"]) Dx59 fun _ _ _ _ _ _ us hl => match us, hl with | [_, _], _ => rfl
  have Fx59 : Fun K "is_sum" "is_sum" sIsSum (He.fAd K dx59.at_) fdx59 := fun_of Dx59
  have mx59 : mg "is_sum" = some (.ref (He.fAd K dx59.at_)) := He.glo_ok X G (cD.fact 56 (f := .glo "is_sum") rfl)
  obtain ⟨fdx60, Dx60⟩ := cD.def_ 60 (d := dx60) rfl
  have bx60 := FunD.bindsN (ps := ["value"]) Dx60 fun _ _ _ _ _ _ us hl => match us, hl with | [_], _ => rfl
  have Fx60 : Fun K "is_integer" "is_integer" sIsInt (He.fAd K dx60.at_) fdx60 := fun_of Dx60
  have mx60 : mg "is_integer" = some (.ref (He.fAd K dx60.at_)) := He.glo_ok X G (cD.fact 57 (f := .glo "is_integer") rfl)
  obtain ⟨fdx61, Dx61⟩ := cD.def_ 61 (d := dx61) rfl
  have bx61 := FunD.bindsN (ps := ["shelf", "spots"]) Dx61 fun _ _ _ _ _ _ us hl => match us, hl with | [_, _], _ => rfl
  have Fx61 : Fun K "comes_to" "comes_to" sComesTo (He.fAd K dx61.at_) fdx61 := fun_of Dx61
  have mx61 : mg "comes_to" = some (.ref (He.fAd K dx61.at_)) := He.glo_ok X G (cD.fact 58 (f := .glo "comes_to") rfl)
  obtain ⟨fdx62, Dx62⟩ := cD.def_ 62 (d := dx62) rfl
  have bx62 := FunD.bindsN (ps := ["parts", "pieces"]) Dx62 fun _ _ _ _ _ _ us hl => match us, hl with | [_, _], _ => rfl
  have Fx62 : Fun K "odd_parts" "odd_parts" sOdd (He.fAd K dx62.at_) fdx62 := fun_of Dx62
  have mx62 : mg "odd_parts" = some (.ref (He.fAd K dx62.at_)) := He.glo_ok X G (cD.fact 59 (f := .glo "odd_parts") rfl)
  obtain ⟨fdx63, Dx63⟩ := cD.def_ 63 (d := dx63) rfl
  have bx63 := FunD.bindsN (ps := ["value", "some"]) Dx63 fun _ _ _ _ _ _ us hl => match us, hl with | [_, _], _ => rfl
  have Fx63 : Fun K "is_number_of" "is_number_of" sNumOf (He.fAd K dx63.at_) fdx63 := fun_of Dx63
  have mx63 : mg "is_number_of" = some (.ref (He.fAd K dx63.at_)) := He.glo_ok X G (cD.fact 60 (f := .glo "is_number_of") rfl)
  obtain ⟨fdx64, Dx64⟩ := cD.def_ 64 (d := dx64) rfl
  have bx64 := FunD.bindsN (ps := ["value", "low", "high"]) Dx64 fun _ _ _ _ _ _ us hl => match us, hl with | [_, _, _], _ => rfl
  have Fx64 : Fun K "is_from_to" "is_from_to" sFromTo (He.fAd K dx64.at_) fdx64 := fun_of Dx64
  have mx64 : mg "is_from_to" = some (.ref (He.fAd K dx64.at_)) := He.glo_ok X G (cD.fact 61 (f := .glo "is_from_to") rfl)
  obtain ⟨fdx65, Dx65⟩ := cD.def_ 65 (d := dx65) rfl
  have bx65 := FunD.bindsN (ps := ["shelf", "keeper", "sums", "answers"]) Dx65 fun _ _ _ _ _ _ us hl => match us, hl with | [_, _, _, _], _ => rfl
  have Fx65 : Fun K "made" "made" sMade (He.fAd K dx65.at_) fdx65 := fun_of Dx65
  have mx65 : mg "made" = some (.ref (He.fAd K dx65.at_)) := He.glo_ok X G (cD.fact 62 (f := .glo "made") rfl)
  obtain ⟨fdx66, Dx66⟩ := cD.def_ 66 (d := dx66) rfl
  have bx66 := FunD.bindsN (ps := ["shelf", "value"]) Dx66 fun _ _ _ _ _ _ us hl => match us, hl with | [_, _], _ => rfl
  have Fx66 : Fun K "refuse_answers" "refuse_answers" sRefAns (He.fAd K dx66.at_) fdx66 := fun_of Dx66
  have mx66 : mg "refuse_answers" = some (.ref (He.fAd K dx66.at_)) := He.glo_ok X G (cD.fact 63 (f := .glo "refuse_answers") rfl)
  obtain ⟨fdx67, Dx67⟩ := cD.def_ 67 (d := dx67) rfl
  have bx67 := FunD.bindsN (ps := ["shelf", "value"]) Dx67 fun _ _ _ _ _ _ us hl => match us, hl with | [_, _], _ => rfl
  have Fx67 : Fun K "are_answers" "are_answers" sAreAns (He.fAd K dx67.at_) fdx67 := fun_of Dx67
  have mx67 : mg "are_answers" = some (.ref (He.fAd K dx67.at_)) := He.glo_ok X G (cD.fact 64 (f := .glo "are_answers") rfl)
  obtain ⟨fdx68, Dx68⟩ := cD.def_ 68 (d := dx68) rfl
  have bx68 := FunD.bindsN (ps := ["shelf", "value"]) Dx68 fun _ _ _ _ _ _ us hl => match us, hl with | [_, _], _ => rfl
  have Fx68 : Fun K "is_answer" "is_answer" sIsAns (He.fAd K dx68.at_) fdx68 := fun_of Dx68
  have mx68 : mg "is_answer" = some (.ref (He.fAd K dx68.at_)) := He.glo_ok X G (cD.fact 65 (f := .glo "is_answer") rfl)
  obtain ⟨fdx69, Dx69⟩ := cD.def_ 69 (d := dx69) rfl
  have bx69 := FunD.bindsN (ps := ["answers"]) Dx69 fun _ _ _ _ _ _ us hl => match us, hl with | [_], _ => rfl
  have Fx69 : Fun K "answered" "answered" sAnswered (He.fAd K dx69.at_) fdx69 := fun_of Dx69
  have mx69 : mg "answered" = some (.ref (He.fAd K dx69.at_)) := He.glo_ok X G (cD.fact 66 (f := .glo "answered") rfl)
  obtain ⟨fdx70, Dx70⟩ := cD.def_ 70 (d := dx70) rfl
  have bx70 := FunD.bindsN (ps := ["answers"]) Dx70 fun _ _ _ _ _ _ us hl => match us, hl with | [_], _ => rfl
  have Fx70 : Fun K "valued" "valued" sValued (He.fAd K dx70.at_) fdx70 := fun_of Dx70
  have mx70 : mg "valued" = some (.ref (He.fAd K dx70.at_)) := He.glo_ok X G (cD.fact 67 (f := .glo "valued") rfl)
  obtain ⟨fdx71, Dx71⟩ := cD.def_ 71 (d := dx71) rfl
  have bx71 := FunD.bindsN (ps := ["self", "lot"]) Dx71 fun _ _ _ _ _ _ us hl => match us, hl with | [_, _], _ => rfl
  have Fx71 : Fun K "rest" "Circle.rest" sCRest (He.fAd K dx71.at_) fdx71 := fun_of Dx71
  obtain ⟨fdx72, Dx72⟩ := cD.def_ 72 (d := dx72) rfl
  have bx72 := FunD.bindsN (ps := ["circle", "value"]) Dx72 fun _ _ _ _ _ _ us hl => match us, hl with | [_, _], _ => rfl
  have Fx72 : Fun K "refuse_lot" "refuse_lot" sRefLot (He.fAd K dx72.at_) fdx72 := fun_of Dx72
  have mx72 : mg "refuse_lot" = some (.ref (He.fAd K dx72.at_)) := He.glo_ok X G (cD.fact 68 (f := .glo "refuse_lot") rfl)
  obtain ⟨fdx73, Dx73⟩ := cD.def_ 73 (d := dx73) rfl
  have bx73 := FunD.bindsN (ps := ["lot", "other"]) Dx73 fun _ _ _ _ _ _ us hl => match us, hl with | [_, _], _ => rfl
  have Fx73 : Fun K "less" "less" sPLess (He.fAd K dx73.at_) fdx73 := fun_of Dx73
  have mx73 : mg "less" = some (.ref (He.fAd K dx73.at_)) := He.glo_ok X G (cD.fact 69 (f := .glo "less") rfl)
  obtain ⟨fdx74, Dx74⟩ := cD.def_ 74 (d := dx74) rfl
  have bx74 := FunD.bindsN (ps := ["pot", "some"]) Dx74 fun _ _ _ _ _ _ us hl => match us, hl with | [_, _], _ => rfl
  have Fx74 : Fun K "_law_of" "_law_of" sOf (He.fAd K dx74.at_) fdx74 := fun_of Dx74
  have mx74 : mg "_law_of" = some (.ref (He.fAd K dx74.at_)) := He.glo_ok X G (cD.fact 70 (f := .glo "_law_of") rfl)
  obtain ⟨fdx75, Dx75⟩ := cD.def_ 75 (d := dx75) rfl
  have bx75 := FunD.bindsN (ps := ["lore"]) Dx75 fun _ _ _ _ _ _ us hl => match us, hl with | [_], _ => rfl
  have Fx75 : Fun K "_law_records" "_law_records" sRecords (He.fAd K dx75.at_) fdx75 := fun_of Dx75
  have mx75 : mg "_law_records" = some (.ref (He.fAd K dx75.at_)) := He.glo_ok X G (cD.fact 71 (f := .glo "_law_records") rfl)
  obtain ⟨fdx76, Dx76⟩ := cD.def_ 76 (d := dx76) rfl
  have bx76 := FunD.bindsN (ps := ["lore", "name", "record"]) Dx76 fun _ _ _ _ _ _ us hl => match us, hl with | [_, _, _], _ => rfl
  have Fx76 : Fun K "_law_answer" "_law_answer" sLAnswer (He.fAd K dx76.at_) fdx76 := fun_of Dx76
  have mx76 : mg "_law_answer" = some (.ref (He.fAd K dx76.at_)) := He.glo_ok X G (cD.fact 72 (f := .glo "_law_answer") rfl)
  obtain ⟨fdx77, Dx77⟩ := cD.def_ 77 (d := dx77) rfl
  have bx77 := FunD.bindsN (ps := ["lore", "shelf", "name"]) Dx77 fun _ _ _ _ _ _ us hl => match us, hl with | [_, _, _], _ => rfl
  have Fx77 : Fun K "_law_is_helping_right" "_law_is_helping_right" sLHR (He.fAd K dx77.at_) fdx77 := fun_of Dx77
  have mx77 : mg "_law_is_helping_right" = some (.ref (He.fAd K dx77.at_)) := He.glo_ok X G (cD.fact 73 (f := .glo "_law_is_helping_right") rfl)
  obtain ⟨fdx78, Dx78⟩ := cD.def_ 78 (d := dx78) rfl
  have bx78 := FunD.bindsN (ps := ["self", "value"]) Dx78 fun _ _ _ _ _ _ us hl => match us, hl with | [_, _], _ => rfl
  have Fx78 : Fun K "__init__" "LotError.__init__" sInit (He.fAd K dx78.at_) fdx78 := fun_of Dx78
  obtain ⟨fdx79, Dx79⟩ := cD.def_ 79 (d := dx79) rfl
  have bx79 := FunD.bindsN (ps := ["call"]) Dx79 fun _ _ _ _ _ _ us hl => match us, hl with | [_], _ => rfl
  have Fx79 : Fun K "_law_heard" "_law_heard" sHeard (He.fAd K dx79.at_) fdx79 := fun_of Dx79
  have mx79 : mg "_law_heard" = some (.ref (He.fAd K dx79.at_)) := He.glo_ok X G (cD.fact 74 (f := .glo "_law_heard") rfl)
  obtain ⟨fdx80, Dx80⟩ := cD.def_ 80 (d := dx80) rfl
  have bx80 := FunD.bindsN (ps := ["shelf", "keeper"]) Dx80 fun _ _ _ _ _ _ us hl => match us, hl with | [_, _], _ => rfl
  have Fx80 : Fun K "helping" "helping" sHelping (He.fAd K dx80.at_) fdx80 := fun_of Dx80
  have mx80 : mg "helping" = some (.ref (He.fAd K dx80.at_)) := He.glo_ok X G (cD.fact 75 (f := .glo "helping") rfl)
  obtain ⟨fdx81, Dx81⟩ := cD.def_ 81 (d := dx81) rfl
  have bx81 := FunD.bindsN (ps := ["shelf", "keeper", "helpers"]) Dx81 fun _ _ _ _ _ _ us hl => match us, hl with | [_, _, _], _ => rfl
  have Fx81 : Fun K "refuse_no_help" "refuse_no_help" sRefNo (He.fAd K dx81.at_) fdx81 := fun_of Dx81
  have mx81 : mg "refuse_no_help" = some (.ref (He.fAd K dx81.at_)) := He.glo_ok X G (cD.fact 76 (f := .glo "refuse_no_help") rfl)
  obtain ⟨fdx82, Dx82⟩ := cD.def_ 82 (d := dx82) rfl
  have bx82 := FunD.bindsN (ps := ["circle"]) Dx82 fun _ _ _ _ _ _ us hl => match us, hl with | [_], _ => rfl
  have Fx82 : Fun K "lots" "lots" sLots (He.fAd K dx82.at_) fdx82 := fun_of Dx82
  have mx82 : mg "lots" = some (.ref (He.fAd K dx82.at_)) := He.glo_ok X G (cD.fact 77 (f := .glo "lots") rfl)
  obtain ⟨fdx83, Dx83⟩ := cD.def_ 83 (d := dx83) rfl
  have bx83 := FunD.bindsN (ps := ["self"]) Dx83 fun _ _ _ _ _ _ us hl => match us, hl with | [_], _ => rfl
  have Fx83 : Fun K "__len__" "Circle.__len__" sCircLen (He.fAd K dx83.at_) fdx83 := fun_of Dx83
  obtain ⟨fdx84, Dx84⟩ := cD.def_ 84 (d := dx84) rfl
  have bx84 := FunD.bindsN (ps := ["shelf", "keeper", "helpers"]) Dx84 fun _ _ _ _ _ _ us hl => match us, hl with | [_, _, _], _ => rfl
  have Fx84 : Fun K "makes" "makes" sMakes (He.fAd K dx84.at_) fdx84 := fun_of Dx84
  have mx84 : mg "makes" = some (.ref (He.fAd K dx84.at_)) := He.glo_ok X G (cD.fact 78 (f := .glo "makes") rfl)
  obtain ⟨fdx85, Dx85⟩ := cD.def_ 85 (d := dx85) rfl
  have bx85 := FunD.bindsN (ps := ["circle", "some"]) Dx85 fun _ _ _ _ _ _ us hl => match us, hl with | [_, _], _ => rfl
  have Fx85 : Fun K "least_of" "least_of" sLeast (He.fAd K dx85.at_) fdx85 := fun_of Dx85
  have mx85 : mg "least_of" = some (.ref (He.fAd K dx85.at_)) := He.glo_ok X G (cD.fact 79 (f := .glo "least_of") rfl)
  obtain ⟨fdx86, Dx86⟩ := cD.def_ 86 (d := dx86) rfl
  have bx86 := FunD.bindsN (ps := ["some", "lot"]) Dx86 fun _ _ _ _ _ _ us hl => match us, hl with | [_, _], _ => rfl
  have Fx86 : Fun K "has_one" "has_one" sHasOne (He.fAd K dx86.at_) fdx86 := fun_of Dx86
  have mx86 : mg "has_one" = some (.ref (He.fAd K dx86.at_)) := He.glo_ok X G (cD.fact 80 (f := .glo "has_one") rfl)
  obtain ⟨fdx87, Dx87⟩ := cD.def_ 87 (d := dx87) rfl
  have bx87 := FunD.bindsN (ps := ["some", "lot"]) Dx87 fun _ _ _ _ _ _ us hl => match us, hl with | [_, _], _ => rfl
  have Fx87 : Fun K "first_within" "first_within" sFirst (He.fAd K dx87.at_) fdx87 := fun_of Dx87
  have mx87 : mg "first_within" = some (.ref (He.fAd K dx87.at_)) := He.glo_ok X G (cD.fact 81 (f := .glo "first_within") rfl)
  obtain ⟨fdx88, Dx88⟩ := cD.def_ 88 (d := dx88) rfl
  have bx88 := FunD.bindsN (ps := ["lot", "other"]) Dx88 fun _ _ _ _ _ _ us hl => match us, hl with | [_, _], _ => rfl
  have Fx88 : Fun K "is_within" "is_within" sWithin (He.fAd K dx88.at_) fdx88 := fun_of Dx88
  have mx88 : mg "is_within" = some (.ref (He.fAd K dx88.at_)) := He.glo_ok X G (cD.fact 82 (f := .glo "is_within") rfl)
  obtain ⟨fdx89, Dx89⟩ := cD.def_ 89 (d := dx89) rfl
  have bx89 := FunD.bindsN (ps := ["lore", "name", "lot"]) Dx89 fun _ _ _ _ _ _ us hl => match us, hl with | [_, _, _], _ => rfl
  have Fx89 : Fun K "_law_first_lost" "_law_first_lost" sLFirst (He.fAd K dx89.at_) fdx89 := fun_of Dx89
  have mx89 : mg "_law_first_lost" = some (.ref (He.fAd K dx89.at_)) := He.glo_ok X G (cD.fact 83 (f := .glo "_law_first_lost") rfl)
  obtain ⟨fdx90, Dx90⟩ := cD.def_ 90 (d := dx90) rfl
  have bx90 := FunD.bindsN (ps := ["lore", "spots", "pieces"]) Dx90 fun _ _ _ _ _ _ us hl => match us, hl with | [_, _, _], _ => rfl
  have Fx90 : Fun K "_law_do_make" "_law_do_make" sDoMake (He.fAd K dx90.at_) fdx90 := fun_of Dx90
  have mx90 : mg "_law_do_make" = some (.ref (He.fAd K dx90.at_)) := He.glo_ok X G (cD.fact 84 (f := .glo "_law_do_make") rfl)
  obtain ⟨fdx91, Dx91⟩ := cD.def_ 91 (d := dx91) rfl
  have bx91 := FunD.bindsN (ps := ["lore", "spots"]) Dx91 fun _ _ _ _ _ _ us hl => match us, hl with | [_, _], _ => rfl
  have Fx91 : Fun K "_law_dark_records" "_law_dark_records" sDarks (He.fAd K dx91.at_) fdx91 := fun_of Dx91
  have mx91 : mg "_law_dark_records" = some (.ref (He.fAd K dx91.at_)) := He.glo_ok X G (cD.fact 85 (f := .glo "_law_dark_records") rfl)
  obtain ⟨fdx92, Dx92⟩ := cD.def_ 92 (d := dx92) rfl
  have bx92 := FunD.bindsN (ps := ["caught", "is_kind", "value"]) Dx92 fun _ _ _ _ _ _ us hl => match us, hl with | [_, _, _], _ => rfl
  have Fx92 : Fun K "_law_is_raised" "_law_is_raised" sLRaised (He.fAd K dx92.at_) fdx92 := fun_of Dx92
  have mx92 : mg "_law_is_raised" = some (.ref (He.fAd K dx92.at_)) := He.glo_ok X G (cD.fact 86 (f := .glo "_law_is_raised") rfl)
  obtain ⟨fdx93, Dx93⟩ := cD.def_ 93 (d := dx93) rfl
  have bx93 := FunD.bindsN (ps := ["names"]) Dx93 fun _ _ _ _ _ _ us hl => match us, hl with | [_], _ => rfl
  have Fx93 : Fun K "_law_all_lots" "_law_all_lots" sAllLots (He.fAd K dx93.at_) fdx93 := fun_of Dx93
  have mx93 : mg "_law_all_lots" = some (.ref (He.fAd K dx93.at_)) := He.glo_ok X G (cD.fact 87 (f := .glo "_law_all_lots") rfl)
  obtain ⟨fdx94, Dx94⟩ := cD.def_ 94 (d := dx94) rfl
  have bx94 := FunD.bindsN (ps := ["names", "some"]) Dx94 fun _ _ _ _ _ _ us hl => match us, hl with | [_, _], _ => rfl
  have Fx94 : Fun K "_law_least_lots" "_law_least_lots" sLeastL (He.fAd K dx94.at_) fdx94 := fun_of Dx94
  have mx94 : mg "_law_least_lots" = some (.ref (He.fAd K dx94.at_)) := He.glo_ok X G (cD.fact 88 (f := .glo "_law_least_lots") rfl)
  obtain ⟨fdx95, Dx95⟩ := cD.def_ 95 (d := dx95) rfl
  have bx95 := FunD.bindsN (ps := ["one", "other"]) Dx95 fun _ _ _ _ _ _ us hl => match us, hl with | [_, _], _ => rfl
  have Fx95 : Fun K "_law_is_inside" "_law_is_inside" sInside (He.fAd K dx95.at_) fdx95 := fun_of Dx95
  have mx95 : mg "_law_is_inside" = some (.ref (He.fAd K dx95.at_)) := He.glo_ok X G (cD.fact 89 (f := .glo "_law_is_inside") rfl)
  obtain ⟨fdx96, Dx96⟩ := cD.def_ 96 (d := dx96) rfl
  have bx96 := FunD.bindsN (ps := ["script", "limit"]) Dx96 fun _ _ _ _ _ _ us hl => match us, hl with | [_, _], _ => rfl
  have Fx96 : Fun K "_law_cells" "_law_cells" sCells (He.fAd K dx96.at_) fdx96 := fun_of Dx96
  have mx96 : mg "_law_cells" = some (.ref (He.fAd K dx96.at_)) := He.glo_ok X G (cD.fact 90 (f := .glo "_law_cells") rfl)
  obtain ⟨fdx97, Dx97⟩ := cD.def_ 97 (d := dx97) rfl
  have bx97 := FunD.bindsN (ps := ["script", "place"]) Dx97 fun _ _ _ _ _ _ us hl => match us, hl with | [_, _], _ => rfl
  have Fx97 : Fun K "_law_pot" "_law_pot" sPot (He.fAd K dx97.at_) fdx97 := fun_of Dx97
  have mx97 : mg "_law_pot" = some (.ref (He.fAd K dx97.at_)) := He.glo_ok X G (cD.fact 91 (f := .glo "_law_pot") rfl)
  have mCi : mg "Circle" = some (.ref (gC K)) := He.glo_ok X G (cD.fact 92 (f := .glo "Circle") rfl)
  have mSh : mg "Shelf" = some (.ref (gS K)) := He.glo_ok X G (cD.fact 93 (f := .glo "Shelf") rfl)
  have T : Bl mg := ⟨He.free_ok X G (cD.fact 94 (f := .free "int") rfl), He.free_ok X G (cD.fact 95 (f := .free "abs") rfl), He.free_ok X G (cD.fact 96 (f := .free "len") rfl), He.free_ok X G (cD.fact 97 (f := .free "list") rfl), He.free_ok X G (cD.fact 98 (f := .free "range") rfl), He.free_ok X G (cD.fact 99 (f := .free "max") rfl), He.free_ok X G (cD.fact 100 (f := .free "min") rfl), He.free_ok X G (cD.fact 101 (f := .free "all") rfl), He.free_ok X G (cD.fact 102 (f := .free "any") rfl), He.free_ok X G (cD.fact 103 (f := .free "repr") rfl), He.free_ok X G (cD.fact 104 (f := .free "isinstance") rfl), He.free_ok X G (cD.fact 105 (f := .free "enumerate") rfl), He.free_ok X G (cD.fact 106 (f := .free "ValueError") rfl)⟩
  have Cc : Cn mg := ⟨He.free_ok X G (cD.fact 107 (f := .free "str") rfl), He.free_ok X G (cD.fact 108 (f := .free "tuple") rfl), He.free_ok X G (cD.fact 109 (f := .free "set") rfl), He.free_ok X G (cD.fact 110 (f := .free "sum") rfl), He.free_ok X G (cD.fact 111 (f := .free "sorted") rfl), He.free_ok X G (cD.fact 112 (f := .free "zip") rfl), He.free_ok X G (cD.fact 113 (f := .free "dict") rfl), He.str_ok X G (cD.fact 115 (f := .str "LETTERS" "abcdefghijklmnopqrstuvwxyz") rfl), He.int_ok X G (cD.fact 116 (f := .int "MOST_PARTS" 4) rfl), He.int_ok X G (cD.fact 117 (f := .int "LEAST_KEEPERS" 2) rfl), He.int_ok X G (cD.fact 118 (f := .int "MOST_KEEPERS" 6) rfl), He.int_ok X G (cD.fact 119 (f := .int "MOST_PIECES" 2) rfl)⟩
  have hB : mg "bool" = none := He.free_ok X G (cD.fact 114 (f := .free "bool") rfl)
  have clC : Cls K (gC K) := He.cls_ok (cD.fact 120 (f := .cls "Circle") rfl)
  have clS : Cls K (gS K) := He.cls_ok (cD.fact 121 (f := .cls "Shelf") rfl)
  have CC : CircC K (gC K) (He.fAd K dx12.at_) := ⟨clC, He.noat_ok (cD.fact 122 (f := .noat "Circle" "names") rfl), He.mkr_ok (cD.fact 129 (f := .mkr "Circle") rfl)⟩
  have SC : ShC K (gS K) (He.fAd K dx10.at_) := ⟨clS, He.noat_ok (cD.fact 123 (f := .noat "Shelf" "text") rfl), He.noat_ok (cD.fact 124 (f := .noat "Shelf" "parts") rfl), He.noat_ok (cD.fact 125 (f := .noat "Shelf" "circle") rfl), He.noat_ok (cD.fact 126 (f := .noat "Shelf" "pieces") rfl), He.noat_ok (cD.fact 127 (f := .noat "Shelf" "spots") rfl), He.noat_ok (cD.fact 128 (f := .noat "Shelf" "codes") rfl), He.mkr_ok (cD.fact 130 (f := .mkr "Shelf") rfl)⟩
  obtain ⟨pcontains, rcontains, _⟩ := ba3 (cD.fact 131 (f := .meth "Circle" "__contains__") rfl)
  have Mcontains : MethC K (gC K) "__contains__" (He.fAd K dx28.at_) := ⟨He.eqO_ok pcontains, rcontains⟩
  obtain ⟨plen, rlen, _⟩ := ba3 (cD.fact 132 (f := .meth "Circle" "__len__") rfl)
  have Mlen : MethC K (gC K) "__len__" (He.fAd K dx83.at_) := ⟨He.eqO_ok plen, rlen⟩
  obtain ⟨prest, rrest, _⟩ := ba3 (cD.fact 133 (f := .meth "Circle" "rest") rfl)
  have Mrest : MethC K (gC K) "rest" (He.fAd K dx71.at_) := ⟨He.eqO_ok prest, rrest⟩
  have e := hfa.symm.trans mx0
  cases e
  have b := FunD.bindsA (ps := ["script"]) Dx0 fun _ _ _ _ _ _ us hl => match us, hl with | [_], _ => rfl
  obtain ⟨x1, xx⟩ := He.ba cY.ex
  obtain ⟨x2, xx⟩ := He.ba xx
  obtain ⟨x3, xx⟩ := He.ba xx
  obtain ⟨x4, xx⟩ := He.ba xx
  obtain ⟨x5, x6⟩ := He.ba xx
  have rL := rowB_ok X G (by decide +kernel) x1
  have rU := rowB_ok X G (ms := .ref (lowA K) :: veMro) (show PySem.HandSPX.refsVE veMro = true by decide +kernel) x2
  have eK : ErK K (iniA K) := ⟨beq_iff_eq.mp x3, He.eqO_ok x4, of_decide_eq_true x5⟩
  have eM : PySem.W.exmOne K (.ref (erA K)) (.ref (lowA K)) = some true := of_decide_eq_true x6
  obtain ⟨ocJ, odJ, dVJ, kVJ, docJ, pmJ, anJ, cdvJ, ctJ, oslJ, eJ, lkJ, hcdJ, _, _⟩ := Dx77.ex
  obtain ⟨cJ, rfl⟩ := He.codeIn_ref hcdJ
  have hcJ : fdx77.code = .ref (He.cT K ("_law_is_helping_right", none)).1 := by
    have e2 : He.codeOf K ("_law_is_helping_right", none) = cJ := He.codeOf_eq lkJ (by rw [eJ])
    show fdx77.code = .ref (He.codeOf K ("_law_is_helping_right", none))
    rw [e2, eJ]
  refine ⟨fdx0, fun s v => b s [v] rfl, (He.cT K ("_law_is_helping_right", none)).1, (He.cT K ("_law_is_helping_right", none)).2, cY.empty, cY.out, PySem.W.codeHd_of_K X cY.hd, fun base _ _ TB => ?_⟩
  generalize hTb : (He.cT K ("_law_is_helping_right", none)).2 = Tb at TB
  clear hTb
  have Gshelf := ok_shelf (P := P) (w := w) (K := K) (mg := mg) (base := base) Fx2 T Cc.tuple Fx3 bx3 mx3 Fx4 bx4 mx4 Fx5 bx5 mx5 Fx6 bx6 mx6 Fx7 bx7 mx7 Fx8 bx8 mx8
  have Gtext := ok_text (P := P) (w := w) (K := K) (mg := mg) (base := base) Fx11 T Cc.zip
  have Gstands := ok_stands (P := P) (w := w) (K := K) (mg := mg) (base := base) Fx14 T Cc Fx15 bx15 mx15 Fx16 bx16 mx16 Fx17 bx17 mx17 Fx18 bx18 mx18
  have Gwhole := ok_whole (P := P) (w := w) (K := K) (mg := mg) (base := base) Fx19 T Cc
  have Gwrong := ok_wrong (P := P) (w := w) (K := K) (mg := mg) (base := base) Fx13 T Cc Gstands Fx14.kp bx14 Gwhole Fx19.kp bx19
  have GcircI := ok_circI (P := P) (w := w) (K := K) (mg := mg) (base := base) (C := gC K) Fx12 T Cc CC Fx15 bx15 mx15 Fx16 bx16 mx16
  have GreadPieces := ok_readPieces (P := P) (w := w) (K := K) (mg := mg) (base := base) Fx20 T Cc
  have GallSpots := ok_allSpots (P := P) (w := w) (K := K) (mg := mg) (base := base) (C := gC K) Fx21 T Cc CC
  have GpieceAt := ok_pieceAt (P := P) (w := w) (K := K) (mg := mg) (base := base) (C := gC K) (CS := gS K) Fx22 CC SC
  have GpieceCode := ok_pieceCode (P := P) (w := w) (K := K) (mg := mg) (base := base) Fx23 Cc
  have GshelfI := ok_shelfI (P := P) (w := w) (K := K) (mg := mg) (base := base) (C := gC K) (CS := gS K) (fN := 0) Fx10 T Cc CC SC Gwrong Fx13.kp bx13 mx13 mx14 mx19 GcircI bx12 mCi GreadPieces Fx20.kp bx20 mx20 GallSpots Fx21.kp bx21 mx21 GpieceAt Fx22.kp bx22 mx22 GpieceCode Fx23.kp bx23 mx23
  have Glsof := ok_lsof (P := P) (w := w) (K := K) (mg := mg) (base := base) (C := gC K) (CS := gS K) Fx9 SC mSh Gtext ⟨Fx11.kp, bx11, mx11⟩ GshelfI bx10
  have Gsome := ok_some (P := P) (w := w) (K := K) (mg := mg) (base := base) Fx4 T Fx3 bx3 mx3
  have Glless := ok_lless (P := P) (w := w) (K := K) (mg := mg) (base := base) Fx24 Cc.tuple
  have GaLot := ok_aLot (P := P) (w := w) (K := K) (mg := mg) (base := base) Fx25 T Cc.tuple Fx3 bx3 mx3 Fx4 bx4 mx4 Fx5 bx5 mx5
  have GrefKeeper := ok_refKeeper (P := P) (w := w) (K := K) (mg := mg) (base := base) (C := gC K) (CS := gS K) Fx27 CC SC Mcontains Fx28 bx28
  have GisLot := ok_isLot (P := P) (w := w) (K := K) (mg := mg) (base := base) (C := gC K) Fx30 T Cc CC
  have GrefHelp := ok_refHelp (P := P) (w := w) (K := K) (mg := mg) (base := base) (C := gC K) (CS := gS K) Fx29 SC GisLot ⟨Fx30.kp, bx30, mx30⟩
  have GspotsOf := ok_spotsOf (P := P) (w := w) (K := K) (mg := mg) (base := base) (C := gC K) (CS := gS K) Fx32 T Cc SC
  have Greach := ok_reach (P := P) (w := w) (K := K) (mg := mg) (base := base) (C := gC K) (CS := gS K) Fx33 T Cc SC Fx34 bx34 mx34
  have GfirstLost := ok_firstLost (P := P) (w := w) (K := K) (mg := mg) (base := base) (C := gC K) (CS := gS K) Fx31 SC GspotsOf ⟨Fx32.kp, bx32, mx32⟩ Greach ⟨Fx33.kp, bx33, mx33⟩
  have Grecs := ok_recs (P := P) (w := w) (K := K) (mg := mg) (base := base) (C := gC K) (CS := gS K) Fx35 T SC Fx36 bx36 mx36
  have Gworth := ok_worth (P := P) (w := w) (K := K) (mg := mg) (base := base) (C := gC K) (CS := gS K) Fx38 T Cc SC
  have GrefRecord := ok_refRecord (P := P) (w := w) (K := K) (mg := mg) (base := base) (C := gC K) (CS := gS K) Fx41 T Cc SC Fx42 bx42 mx42 Fx43 bx43 mx43
  have Ganswer := ok_answer (P := P) (w := w) (K := K) (mg := mg) (base := base) (C := gC K) (CS := gS K) Fx40 CC SC GrefKeeper Fx27.kp bx27 mx27 GrefRecord Fx41.kp bx41 mx41 Gworth Fx38.kp bx38 mx38
  have GisSilent := ok_isSilent (P := P) (w := w) (K := K) (mg := mg) (base := base) (C := gC K) (CS := gS K) Fx39 Ganswer Fx40.kp bx40 mx40
  have Ghidden := ok_hidden (P := P) (w := w) (K := K) (mg := mg) (base := base) (C := gC K) (CS := gS K) Fx37 GpieceAt ⟨Fx22.kp, bx22, mx22⟩ Gworth ⟨Fx38.kp, bx38, mx38⟩ GisSilent ⟨Fx39.kp, bx39, mx39⟩
  have Gmends := ok_mends (P := P) (w := w) (K := K) (mg := mg) (base := base) (C := gC K) (CS := gS K) Fx26 Cc SC GrefKeeper ⟨Fx27.kp, bx27, mx27⟩ GrefHelp ⟨Fx29.kp, bx29, mx29⟩ GfirstLost ⟨Fx31.kp, bx31, mx31⟩ Grecs ⟨Fx35.kp, bx35, mx35⟩ Ghidden ⟨Fx37.kp, bx37, mx37⟩ GspotsOf ⟨Fx32.kp, bx32, mx32⟩ Greach ⟨Fx33.kp, bx33, mx33⟩
  have Glspots := ok_lspots (P := P) (w := w) (K := K) (mg := mg) (base := base) Fx46 T Cc.zip
  have Glpat := ok_lpat (P := P) (w := w) (K := K) (mg := mg) (base := base) Fx47
  have Gpcs := ok_pcs (P := P) (w := w) (K := K) (mg := mg) (base := base) Fx45 Glspots ⟨Fx46.kp, bx46, mx46⟩ Glpat ⟨Fx47.kp, bx47, mx47⟩
  have GlisN := ok_lisN (P := P) (w := w) (K := K) (mg := mg) (base := base) Fx49 T hB
  have Glsum := ok_lsum (P := P) (w := w) (K := K) (mg := mg) (base := base) Fx48 T Cc Fx49 GlisN ⟨Fx49.kp, bx49, mx49⟩ Glspots ⟨Fx46.kp, bx46, mx46⟩
  have Glcomes := ok_lcomes (P := P) (w := w) (K := K) (mg := mg) (base := base) Fx50 T Cc Glpat ⟨Fx47.kp, bx47, mx47⟩
  have GlisI := ok_lisI (P := P) (w := w) (K := K) (mg := mg) (base := base) Fx49 T hB
  have Glrec := ok_lrec (P := P) (w := w) (K := K) (mg := mg) (base := base) Fx51 T Cc
  have Gvalue := ok_value (P := P) (w := w) (K := K) (mg := mg) (base := base) Fx53 T Cc
  have Gdark := ok_dark (P := P) (w := w) (K := K) (mg := mg) (base := base) Fx52 T Glpat ⟨Fx47.kp, bx47, mx47⟩ Gvalue ⟨Fx53.kp, bx53, mx53⟩
  have Gltold := ok_ltold (P := P) (w := w) (K := K) (mg := mg) (base := base) Fx44 T Cc Gpcs ⟨Fx45.kp, bx45, mx45⟩ Glsum ⟨Fx48.kp, bx48, mx48⟩ Glcomes ⟨Fx50.kp, bx50, mx50⟩ GlisI ⟨Fx49.kp, bx49, mx49⟩ Glrec ⟨Fx51.kp, bx51, mx51⟩ Gdark ⟨Fx52.kp, bx52, mx52⟩ Glspots ⟨Fx46.kp, bx46, mx46⟩ Gvalue ⟨Fx53.kp, bx53, mx53⟩
  have GisTold := ok_isTold (P := P) (w := w) (K := K) (mg := mg) (base := base) Fx55 T Cc Fx56 bx56 mx56
  have GisRow := ok_isRow (P := P) (w := w) (K := K) (mg := mg) (base := base) Fx56 T Cc
  have GisSum := ok_isSum (P := P) (w := w) (K := K) (mg := mg) (base := base) (C := gC K) (CS := gS K) Fx59 T Cc hB SC Fx60 bx60 mx60 Fx56 bx56 mx56
  have GisSumOf := ok_isSumOf (P := P) (w := w) (K := K) (mg := mg) (base := base) (C := gC K) (CS := gS K) Fx58 T GisSum Fx59.kp bx59 mx59
  have Godd := ok_odd (P := P) (w := w) (K := K) (mg := mg) (base := base) Fx62 T Cc
  have GcomesTo := ok_comesTo (P := P) (w := w) (K := K) (mg := mg) (base := base) (C := gC K) (CS := gS K) Fx61 CC SC GisSum Fx59.kp bx59 mx59 Godd Fx62.kp bx62 mx62 GpieceAt Fx22.kp bx22 mx22
  have GareSums := ok_areSums (P := P) (w := w) (K := K) (mg := mg) (base := base) (C := gC K) (CS := gS K) (fC := 0) (fS := 0) Fx57 T Cc GspotsOf ⟨Fx32.kp, bx32, mx32⟩ GisRow ⟨Fx56.kp, bx56, mx56⟩ GisSumOf ⟨Fx58.kp, bx58, mx58⟩ GcomesTo ⟨Fx61.kp, bx61, mx61⟩ GpieceAt ⟨Fx22.kp, bx22, mx22⟩
  have GisInt := ok_isInt (P := P) (w := w) (K := K) (mg := mg) (base := base) Fx60 T hB
  have GfromTo := ok_fromTo (P := P) (w := w) (K := K) (mg := mg) (base := base) Fx64 T GisInt ⟨Fx60.kp, bx60, mx60⟩
  have GnumOf := ok_numOf (P := P) (w := w) (K := K) (mg := mg) (base := base) Fx63 T GfromTo ⟨Fx64.kp, bx64, mx64⟩
  have GisRecord := ok_isRecord (P := P) (w := w) (K := K) (mg := mg) (base := base) (C := gC K) (CS := gS K) Fx43 T Cc SC Fx42 bx42 mx42
  have GshowsM := ok_showsM (P := P) (w := w) (K := K) (mg := mg) (base := base) (C := gC K) (CS := gS K) Fx54 GrefKeeper ⟨Fx27.kp, bx27, mx27⟩ GrefHelp ⟨Fx29.kp, bx29, mx29⟩ GisTold ⟨Fx55.kp, bx55, mx55⟩ GareSums ⟨Fx57.kp, bx57, mx57⟩ GnumOf ⟨Fx63.kp, bx63, mx63⟩ GspotsOf ⟨Fx32.kp, bx32, mx32⟩ GisRecord ⟨Fx43.kp, bx43, mx43⟩ Ghidden ⟨Fx37.kp, bx37, mx37⟩
  have GisAns := ok_isAns (P := P) (w := w) (K := K) (mg := mg) (base := base) (C := gC K) (CS := gS K) Fx68 T Cc CC SC Mcontains Fx28 bx28 Fx56 bx56 mx56 Fx42 bx42 mx42
  have Ganswered := ok_answered (P := P) (w := w) (K := K) (mg := mg) (base := base) Fx69 Cc
  have GareAns := ok_areAns (P := P) (w := w) (K := K) (mg := mg) (base := base) (C := gC K) (CS := gS K) Fx67 T Cc CC SC GisAns Fx68.kp bx68 mx68 GisLot Fx30.kp bx30 mx30 Ganswered Fx69.kp bx69 mx69
  have GrefAns := ok_refAns (P := P) (w := w) (K := K) (mg := mg) (base := base) (C := gC K) (CS := gS K) Fx66 GareAns Fx67.kp bx67 mx67
  have Gvalued := ok_valued (P := P) (w := w) (K := K) (mg := mg) (base := base) Fx70 T
  have GrefLot := ok_refLot (P := P) (w := w) (K := K) (mg := mg) (base := base) (C := gC K) Fx72 T Cc CC Fx30 bx30 mx30
  have Gpless := ok_pless (P := P) (w := w) (K := K) (mg := mg) (base := base) Fx73 Cc.tuple
  have GcRest := ok_cRest (P := P) (w := w) (K := K) (mg := mg) (base := base) (C := gC K) Fx71 CC GrefLot ⟨Fx72.kp, bx72, mx72⟩ Gpless ⟨Fx73.kp, bx73, mx73⟩
  have Gmade := ok_made (P := P) (w := w) (K := K) (mg := mg) (base := base) (C := gC K) (CS := gS K) Fx65 T CC SC GrefKeeper ⟨Fx27.kp, bx27, mx27⟩ GareSums ⟨Fx57.kp, bx57, mx57⟩ GrefAns ⟨Fx66.kp, bx66, mx66⟩ Ganswered ⟨Fx69.kp, bx69, mx69⟩ Gvalued ⟨Fx70.kp, bx70, mx70⟩ GcRest Fx71.kp bx71 Mrest
  have Gof := ok_of (P := P) (w := w) (K := K) (mg := mg) (base := base) Fx74 T Fx3 bx3 mx3
  have Grecords := ok_records (P := P) (w := w) (K := K) (mg := mg) (base := base) Fx75
  have Glanswer := ok_lanswer (P := P) (w := w) (K := K) (mg := mg) (base := base) Fx76 T Cc Fx53 bx53 mx53
  have Ginit := ok_init (P := P) (w := w) (K := K) (mg := mg) (base := base) Fx78
  have GrefNo := ok_refNo (P := P) (w := w) (K := K) (mg := mg) (base := base) (C := gC K) (CS := gS K) (CN := erA K) Fx81 rU.er eK rU.at_ Ginit bx78 GfirstLost ⟨Fx31.kp, bx31, mx31⟩
  have Glots := ok_lots (P := P) (w := w) (K := K) (mg := mg) (base := base) (C := gC K) Fx82 T Cc CC Mlen Fx83 bx83
  have Gmakes := ok_makes (P := P) (w := w) (K := K) (mg := mg) (base := base) (C := gC K) (CS := gS K) Fx84 GfirstLost ⟨Fx31.kp, bx31, mx31⟩
  have Gwithin := ok_within (P := P) (w := w) (K := K) (mg := mg) (base := base) Fx88 T
  have Gfirst := ok_first (P := P) (w := w) (K := K) (mg := mg) (base := base) Fx87 T Gwithin ⟨Fx88.kp, bx88, mx88⟩
  have GhasOne := ok_hasOne (P := P) (w := w) (K := K) (mg := mg) (base := base) Fx86 Gfirst ⟨Fx87.kp, bx87, mx87⟩
  have Gleast := ok_least (P := P) (w := w) (K := K) (mg := mg) (base := base) (C := gC K) Fx85 T Cc Glots ⟨Fx82.kp, bx82, mx82⟩ GhasOne ⟨Fx86.kp, bx86, mx86⟩
  have Ghelping := ok_helping (P := P) (w := w) (K := K) (mg := mg) (base := base) (C := gC K) (CS := gS K) (CN := erA K) Fx80 CC SC GrefKeeper ⟨Fx27.kp, bx27, mx27⟩ GrefNo ⟨Fx81.kp, bx81, mx81⟩ Glots ⟨Fx82.kp, bx82, mx82⟩ Gmakes ⟨Fx84.kp, bx84, mx84⟩ Gleast ⟨Fx85.kp, bx85, mx85⟩ GcRest Fx71.kp bx71 Mrest
  have Gdarks := ok_darks (P := P) (w := w) (K := K) (mg := mg) (base := base) Fx91 Grecords ⟨Fx75.kp, bx75, mx75⟩ Gdark ⟨Fx52.kp, bx52, mx52⟩
  have GdoMake := ok_doMake (P := P) (w := w) (K := K) (mg := mg) (base := base) Fx90 T Gdarks ⟨Fx91.kp, bx91, mx91⟩ Gvalue ⟨Fx53.kp, bx53, mx53⟩
  have Glfirst := ok_lfirst (P := P) (w := w) (K := K) (mg := mg) (base := base) Fx89 T Gpcs ⟨Fx45.kp, bx45, mx45⟩ Glspots ⟨Fx46.kp, bx46, mx46⟩ GdoMake ⟨Fx90.kp, bx90, mx90⟩
  have Glraised := ok_lraised (P := P) (w := w) (K := K) (mg := mg) (base := base) (CN := erA K) Fx92 T rU.er
  have GallLots := ok_allLots (P := P) (w := w) (K := K) (mg := mg) (base := base) Fx93 T Cc
  have Ginside := ok_inside (P := P) (w := w) (K := K) (mg := mg) (base := base) Fx95 T
  have GleastL := ok_leastL (P := P) (w := w) (K := K) (mg := mg) (base := base) Fx94 T Cc GallLots ⟨Fx93.kp, bx93, mx93⟩ Ginside ⟨Fx95.kp, bx95, mx95⟩
  have GlHR := ok_lHR (P := P) (w := w) (K := K) (mg := mg) (base := base) (C := gC K) (CS := gS K) (CN := erA K) (CL := lowA K) (Tb := Tb) Fx77 T Cc hcJ TB rU.er eK rU.at_ rL.at_ eM Fx79 ⟨Fx79.kp, bx79, mx79⟩ Ghelping ⟨Fx80.kp, bx80, mx80⟩ Glless ⟨Fx24.kp, bx24, mx24⟩ Glfirst ⟨Fx89.kp, bx89, mx89⟩ Glraised ⟨Fx92.kp, bx92, mx92⟩ GallLots ⟨Fx93.kp, bx93, mx93⟩ GleastL ⟨Fx94.kp, bx94, mx94⟩
  have Gright := ok_right (P := P) (w := w) (K := K) (mg := mg) (base := base) (C := gC K) (CS := gS K) (Tb := Tb) Fx1 T Cc Gshelf ⟨Fx2.kp, bx2, mx2⟩ Glsof ⟨Fx9.kp, bx9, mx9⟩ Gsome ⟨Fx4.kp, bx4, mx4⟩ Glless ⟨Fx24.kp, bx24, mx24⟩ GaLot ⟨Fx25.kp, bx25, mx25⟩ Gmends ⟨Fx26.kp, bx26, mx26⟩ Gltold ⟨Fx44.kp, bx44, mx44⟩ GshowsM ⟨Fx54.kp, bx54, mx54⟩ Gmade ⟨Fx65.kp, bx65, mx65⟩ Gof ⟨Fx74.kp, bx74, mx74⟩ Grecords ⟨Fx75.kp, bx75, mx75⟩ Glanswer ⟨Fx76.kp, bx76, mx76⟩ GlHR ⟨Fx77.kp, bx77, mx77⟩
  exact ok_law (P := P) (w := w) (K := K) (mg := mg) (base := base) (Tb := Tb) Fx0 T Gright Fx1.kp bx1 mx1 Fx96 bx96 mx96 Fx97 bx97 mx97
theorem walkT {l : PySem.W.OpenLaw} {n lev : Nat} {q : Program} {loose : List Str} {XP : (Str → Option Value) → Heap → Prop} {YP : World → Heap → Prop} {d : DefRec} {sp : PySem.W.Frag → Addr → Sp} {x : Str}
    (hn : l.most = some n) (hn2 : n ≤ sizeLine) (hdf : d.params.defaults = []) (room : Room lev callerA)
    (F : ∀ (w : World) (mg : Str → Option Value) (fa : Addr) (h : Heap), YP w h → h.Ns mainGlobals mg → mg d.name = some (.ref fa) →
      ∃ (K : PySem.W.Frag) (fD : FuncData) (c Tb : Addr), K.In h ∧ (∀ (s : Shared) (u : Value), BindsTo s fD ⟨[u], []⟩ [(x, u)]) ∧ h.get? Tb = some { cls := .none, data := .fields #[] } ∧ K.lookup Tb = none ∧ PySem.W.CodeHd h c Tb ∧
        ∀ base : Heap, K.In base → base.Ns mainGlobals mg → LamX.TabB base mg c Tb → FnG l.prog w K mg base lev fa fD [x] (sp K Tb))
    (hsp : ∀ (K : PySem.W.Frag) (H : Hp) (a Tb : Addr) (ns : List Int), ns.length ≤ n → H Tb = some (.tbl #[]) → SqL K H a (ns.map V.int) → sp K Tb [.ref a] H (fun v _ => v = .bl true) E0) :
    PySem.W.WalkO q loose XP YP l.row.toRowW d [] (fun f vs => PySem.call f vs) := by
  refine Att.attach_call hn hdf ?_
  intro w s₀ s₁ mg mb fa o pm cd doc a vs ns G Y ho hd hcd hmg hobj hints hlen hg
  obtain ⟨K, fD, c, Tb, KX, hb, e, u, C, hF⟩ := F w mg fa _ Y G.T.g hmg
  exact gcallT KX G.T.g G.T.b G.T.builtins G.T.nolimit hg e u C G.T.bmain hobj hints (Nat.le_trans hlen hn2) room hF hb fun H hO hS => hsp _ H a Tb ns hlen hO hS
end K6
set_option Elab.async false
set_option linter.all false
set_option maxRecDepth 100000
set_option maxHeartbeats 0
open PySem PySem.W PySem.Calls PyProof.Rows in
theorem PySem.Challenge.cw_lotkeepers_k34_whole_pieces_made_anew_holds : PySem.Challenge.rw_lotkeepers_k34_whole_pieces_made_anew.Holds := by
  w_on; o_law
  refine HandSHeadRun.head_any (r := OpenLaw.row PySem.Challenge.rw_lotkeepers_k34_whole_pieces_made_anew) (q := view (OpenLaw.row PySem.Challenge.rw_lotkeepers_k34_whole_pieces_made_anew).prog [117]) (H := K6.hk) (ob := K6.ob) (M := 13200) (loose := K6.others) (d := HandSHeadRun.topDef (OpenLaw.row PySem.Challenge.rw_lotkeepers_k34_whole_pieces_made_anew).prog 117) (kwd := []) K6.ob_eq
    (by kernel_rfl) (fun s => by kernel_rfl) K6.run (by kernel_rfl) (by kernel_rfl) (by kernel_rfl) (by rfl) (by first | assumption | decide +kernel) (by decide +kernel) ⟨rfl, rfl, rfl, rfl, rfl, by decide +kernel⟩ ?hw ?hc
  case hw => w_witness2
  case hc =>
    refine K6.walkT (l := PySem.Challenge.rw_lotkeepers_k34_whole_pieces_made_anew) (n := 63) (lev := 10) (x := "script") (sp := K6.spLaw) rfl (by decide) (by kernel_rfl) ⟨rfl, by decide, by decide⟩ ?F fun K H a Tb ns hl hT hS => ⟨a, ns, rfl, hS, hl, fun p hp => by rw [List.mem_singleton.mp hp]; exact LamX.TabS.nil hT, fun _ => rfl⟩
    intro w mg fa h Y G hmg0
    obtain ⟨K, KX, c⟩ := Y
    have hmg : mg ("law" : PySem.Str) = some (.ref fa) := by
      have e : (HandSHeadRun.topDef (OpenLaw.row PySem.Challenge.rw_lotkeepers_k34_whole_pieces_made_anew).prog 117).name = ("law" : PySem.Str) := by kernel_rfl
      rw [← e]
      exact hmg0
    obtain ⟨fd, hb, cc, Tb, h1, h2, h3, hF⟩ := K6.facts (P := (PySem.Challenge.rw_lotkeepers_k34_whole_pieces_made_anew).prog) (w := w) KX G hmg c
    exact ⟨K, fd, cc, Tb, KX, hb, h1, h2, h3, hF⟩
