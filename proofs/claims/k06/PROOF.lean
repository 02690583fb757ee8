import PyProof.Rows.All
import Wide.All
import OpenK.AllK
import Wide.FinOn
import HandS.ForMost
import HandS.Dict
import HandS.ExcInit
import HandS.IsInst
import KE.KExcIs
import HandS.Wide
import HandS.Walk
import HandS.Strs
import HandS.DictComp
import HandS.Conv
import HandS.OwnEq
import PyProof.InstNe
import HandS.Zip
import KE.GoesZip
import KE.GoesMore
import HandS.Deep
import PyProof.AutoSeq1
import PyProof.Rows.RegFStrParts
import PySem.Challenge.RW_lotkeepers_k06_shelves_as_they_are_told
import HandS.Text
import HandS.Iter
import HandS.CallLocal
import HandS.StrMore
import HandS.WideBits
import HandS.Style
import KE.KStateDown
import HandS.Head0
import HandS.Head1
import HandS.Head2
import HandS.HeadEnd
import HandS.HeadHook1
import HandS.HeadHook2
set_option Elab.async false
set_option linter.all false
set_option maxRecDepth 100000
set_option maxHeartbeats 4000000
/-! Part A: defs that are called while no repr is under way; reading nested data; repr of it. -/
namespace Lk
open PySem PySem.Spec PyProof.Rows L2

/-! ### a def's promise, where the guards around are known to be none -/
abbrev NoG (A : Around) : Prop := A.guards = some []
structure FnG (P : Program) (w : World) (K : PySem.W.Frag) (mg : Str → Option Value) (base : Heap)
    (lev : Nat) (fA : Addr) (fD : FuncData) (pars : List Str) (sp : Sp) : Prop where
  many : ∀ vs H Q, sp vs H Q E0 → vs.length = pars.length
  goes : ∀ (A : Around) (around : List Env) (s : Shared) (H : Hp) (args : Args) (us : List Value) (vs : List V) (Q : VK),
    Room lev A → NoG A → Env0 P w K mg base A around s H → BindsTo s fD args (pars.zip us) → Vals vs us → sp vs H Q E0 →
    codeAny (model P w) A (.call (.ref fA) args) (CR CX0 around P w H s Q E0) s

theorem FnG.of {P : Program} {w : World} {K : PySem.W.Frag} {mg : Str → Option Value} {base : Heap} {lev : Nat} {fA : Addr}
    {pars N : List Str} {sp : Sp} {nm ql : Str} {st : Stmt} {fD : FuncData}
    (F : Fun K nm ql st fA fD) (S : FnScope N pars (defScope st))
    (many : ∀ vs H Q, sp vs H Q E0 → vs.length = pars.length)
    (body : ∀ (cdv : Value) (A : Around) (around : List Env) (s : Shared) (H : Hp) (vs : List V) (Q : VK),
      Room lev (A.deeper (envOfC ql (defScope st) s.heap.objs.size fA cdv)) → NoG A → sp vs H Q E0 →
      ∃ t, PSs (cxOf CX0 P w K mg base N ql (defScope st) fA cdv A around s H E0).nox (defBody st) t ∧
        t { nx := fun _ H' => Q .non H', rt := Q } (start N vs) H) :
    FnG P w K mg base (lev + 1) fA fD pars sp := by
  obtain ⟨oc, od, kV, doc, pm, an, cdv, ct, osl, rfl, look, code⟩ := F.ex
  constructor
  · exact many
  intro A around s H args us vs Q room noG e0 binds rel want
  have same := many _ _ _ want
  have inK : K.In s.heap := e0.mod.kin.keeps fun b o e => (e0.bs b o e).1
  have free := e0.mod.nolimit.keeps fun b o e => (e0.bs b o e).1
  have kinds : ∀ y ∈ pars.zip us, (defScope st).names.lookup y.1 = some .local ∨
      ((defScope st).names.lookup y.1 = some .cell ∧ ((cellsFrom (s.heap.objs.size + 1) (defScope st).names []).lookup y.1).isSome = true) := by
    rintro ⟨n, v⟩ hy
    rcases S.par n (List.of_mem_zip hy).1 with q | q
    · exact Or.inl q
    · exact Or.inr ⟨q, PySem.W.cellsFrom_some _ _ _ (Or.inl q)⟩
  refine codeAny_call_function room.depth (inK _ _ look) rfl S.co S.gen rfl (PySem.W.codeRec_of inK code) (binds _ _ _ _ ?_)
  refine wpAny_newFunctionEnv_cells S.kind kinds ?_
  intro env he s1 x
  subst he
  refine ⟨free.keeps x.toInCall.keep, codeAny_func ?_⟩
  obtain ⟨t, ht, hq⟩ := body cdv A around s H vs Q (room.deeper _) noG want
  have I := inv_start (CX := CX0) (E := E0) S room.hd e0 same rel x
  have run := ht.nox.run [] s1 (start N vs) H _ I hq
  refine wpAny_mono run ?_ fun e s' hs => hs
  intro fl s' hs
  cases fl with
  | ret u =>
    obtain ⟨v, σ', H', J, rv, q⟩ := hs
    exact ⟨v, H', J.os, J.bare, J.base, J.hok, rv, q⟩
  | next =>
    obtain ⟨σ', H', J, q⟩ := hs
    exact ⟨V.non, H', J.os, J.bare, J.base, J.hok, rfl, q⟩
  | brk => obtain ⟨_, _, _, q⟩ := hs; exact False.elim q
  | cont => obtain ⟨_, _, _, q⟩ := hs; exact False.elim q

/-- a plain promise serves, too -/
theorem FnG.ofOk {P : Program} {w : World} {K : PySem.W.Frag} {mg : Str → Option Value} {base : Heap} {lev : Nat} {fA : Addr}
    {fD : FuncData} {pars : List Str} {sp : Sp} (F : FnOk P w K mg base CX0 lev fA fD pars sp) : FnG P w K mg base lev fA fD pars sp :=
  ⟨fun vs H Q h => F.len vs H Q E0 h, fun A around s H args us vs Q r _ e b v h => F.run A around s H args us vs Q E0 r e b v h⟩

section
variable {X : Cx} {lev : Nat} {fA : Addr} {fD : FuncData} {pars : List Str} {sp : Sp} {x : Str} {e : Expr} {es : List Expr} {t : TA} {p pos : Pos}
theorem pe_gcall (F : FnG X.prog X.w X.K X.mg X.base lev fA fD pars sp) (room : Room lev X.A) (noG : NoG X.A) (hg : Gl X x)
    (hm : X.mg x = some (.ref fA)) (hk : PySem.W.keepIn X.K (.ref fA) = true) (hb : Binds X.K fD pars []) (ha : PA X (e :: es) t)
    (hdb : (x == ("__debug__" : Str)) = false := by decide) (hst : starEach (e :: es) X.env = (false, eval e X.env) :: starEach es X.env := by rfl)
    (hpl : (backTo pos (starEach es X.env)).any (·.1) = false := by rfl) : PE X (.Call (.Name x p) (e :: es) [] pos) (tCall sp [] E0 t) := by
  constructor
  intro pins s σ H Q I want
  refine wpAny_Call_Name_kw (ld_glob I hg hm ?_ hdb)
  refine PySem.W.callWith_K (h₀ := X.base) I.ok.mod.kin hk (thn (ha.run pos pins s σ H _ I want) ?_) hst hpl
  rintro us s1 ⟨vs, H1, I1, rel, q⟩
  refine ⟨I1.kIn, ?_⟩
  have rel2 : Vals (vs ++ []) us := by rw [List.append_nil]; exact rel
  have same : us.length = pars.length := by rw [← rel2.length]; exact F.many _ _ _ q
  have binds : BindsTo s1 fD ⟨us, []⟩ (pars.zip us) := by
    have z := hb s1 us I1.kIn (by simpa using same)
    simpa using z
  refine wpAny_call (codeAny_mono (F.goes X.A X.stack s1 H1 ⟨us, []⟩ us _ Q room noG I1.env0 binds rel2 q) ?_)
  intro r s' hq
  cases r with
  | error er => exact hq.elim
  | ok fl =>
    cases fl with
    | ret u => exact I1.after hq
    | next => exact False.elim hq
    | brk => exact False.elim hq
    | cont => exact False.elim hq
end

/-! ### the end of a law: from its promise to the row -/
theorem gcall {P : Program} {w : World} {K : PySem.W.Frag} {mg mb : Str → Option Value} {lev : Nat} {fa a : Addr} {fD : FuncData} {x : Str} {sp : Sp}
    {s0 : Shared} {vs : List Value} {ns : List Int} (KX : K.In s0.heap) (hns : s0.heap.Ns mainGlobals mg) (hb : s0.heap.Ns builtinsNs mb)
    (hbb : ∀ x : Str, x ≠ "__name__" → mb x = bootBuiltins x) (hlim : s0.heap.NoLimit) (hg : s0.gens = #[])
    (ha : s0.heap.get? a = some { cls := .type "list", data := .seq vs.toArray }) (hi : IntsAre vs ns) (hl : ns.length ≤ sizeLine) (room : Room lev callerA)
    (F : ∀ base : Heap, K.In base → base.Ns mainGlobals mg → FnG P w K mg base lev fa fD [x] sp)
    (hbind : ∀ (s : Shared) (u : Value), BindsTo s fD ⟨[u], []⟩ [(x, u)])
    (hsp : ∀ H : Hp, Only H → SqL K H a (ns.map V.int) → sp [.ref a] H (fun v _ => v = .bl true) E0) :
    codeAny (model P w) callerA (.call (.ref fa) ⟨[.ref a], []⟩) (fun r s' => r = .ok (.ret (.bool true)) ∧ OldK s0.heap s'.heap ∧ s'.os = s0.os ∧ AllBare s'.gens) s0 := by
  have rv := vals_ints hi
  have lenV := hi.length
  have main : ∀ H : Hp, Only H → SqL K H a (ns.map V.int) → HOk P w H s0.heap → (∀ b, H b ≠ none → b = a) → (H a ≠ none → K.lookup a = none) →
      codeAny (model P w) callerA (.call (.ref fa) ⟨[.ref a], []⟩) (fun r s' => r = .ok (.ret (.bool true)) ∧ OldK s0.heap s'.heap ∧ s'.os = s0.os ∧ AllBare s'.gens) s0 := by
    intro H hO hS hok hA hK
    have look : ∀ {b : Addr} {o : Obj}, s0.heap.get? b = some o → H b = none → (hidT s0.heap H).get? b = some o := by
      intro b o e n
      exact hidT_get e n
    have noD : ∀ {b : Addr} {o : Obj} {es : Array DictEntry} {ep : Nat}, s0.heap.get? b = some o → o.data = .dict es ep → H b = none := by
      intro b o es ep e d
      cases q : H b with
      | none => rfl
      | some u =>
        have e' : b = a := hA b (by rw [q]; simp)
        subst e'
        rw [ha] at e
        cases e
        cases (show Data.seq vs.toArray _ = Data.dict es ep from d)
    have ns2 : ∀ {b : Addr} {m : Str → Option Value}, s0.heap.Ns b m → (hidT s0.heap H).Ns b m := by
      rintro b m ⟨o, es, ep, e, d, r⟩
      exact ⟨o, es, ep, look e (noD e d), d, r⟩
    have inB : K.In (hidT s0.heap H) := by
      intro b o e
      refine look (KX b o e) ?_
      cases q : H b with
      | none => rfl
      | some u =>
        have e' : b = a := hA b (by rw [q]; simp)
        subst e'
        rw [hK (by rw [q]; simp)] at e
        cases e
    have lim2 : (hidT s0.heap H).NoLimit := by
      obtain ⟨mc, h1, h2⟩ := hlim
      exact ⟨mc, ns2 h1, h2⟩
    have e0 : Env0 P w K mg (hidT s0.heap H) callerA [] s0 H :=
      ⟨rfl, ⟨inB, ns2 hns, ⟨mb, ns2 hb, hbb⟩, lim2⟩, fun b o e => of_hidT e, Nat.le_of_eq (hidT_size _ _), trivial,
        fun b hb => absurd (show b ∈ ([] : List Addr) from hb) (by simp), hok, .of_eq hg⟩
    refine codeAny_mono ((F _ inB (ns2 hns)).goes callerA [] s0 H ⟨[.ref a], []⟩ [.ref a] [.ref a] _ room rfl e0 (hbind s0 (.ref a)) (.cons rfl .nil) (hsp H hO hS)) ?_
    intro r s' h
    cases r with
    | error e => exact h.elim
    | ok fl =>
      cases fl with
      | next => exact False.elim h
      | brk => exact False.elim h
      | cont => exact False.elim h
      | ret u =>
        obtain ⟨v, H', os, bare, un, hok', r', q⟩ := h
        cases (show v = .bl true from q)
        cases (show u = Value.bool true from r')
        refine ⟨rfl, OldK.of_keep ?_, os, bare⟩
        intro b o e
        cases q : H b with
        | none => exact un.keep b o e q (fun z => absurd (show b ∈ ([] : List Addr) from z) (by simp)) (by simp)
        | some u =>
          rcases hO b with z | ⟨ob, xs, z⟩
          · rw [q] at z; cases z
          · obtain ⟨e1, _⟩ := hok b _ z
            obtain ⟨e2, _⟩ := hok' b _ (un.frzs b ob _ z)
            rw [e] at e1
            cases e1
            exact e2
  cases hk : K.lookup a with
  | some o =>
    have e := KX a o hk
    rw [ha] at e
    cases e
    exact main (fun _ => none) (fun _ => .inl rfl) (.inr ⟨_, vs.toArray, _, hk, rfl, rfl, rfl, by rw [List.size_toArray, lenV]; exact hl, by simpa using rv⟩)
      (fun b u z => nomatch (show (none : Option HO) = some u from z)) (fun b z => absurd rfl z) (fun z => absurd rfl z)
  | none =>
    refine main (fun b => if b = a then some (.frz { cls := .type "list", data := .seq vs.toArray } (.lst (ns.map V.int))) else none) ?_ (.inl (.inr ⟨_, if_pos rfl⟩)) ?_ ?_ (fun _ => hk)
    · intro b
      by_cases hb : b = a
      · exact .inr ⟨_, _, if_pos hb⟩
      · exact .inl (if_neg hb)
    · intro b u z
      by_cases hb : b = a
      · have z' := (if_pos hb).symm.trans z
        cases z'
        subst hb
        exact ⟨ha, by rw [List.length_map]; exact hl, vs, _, rv, ha⟩
      · cases (if_neg hb).symm.trans z
    · intro b z
      by_cases hb : b = a
      · exact hb
      · exact absurd (if_neg hb) z
end Lk

namespace Lk
open PySem PySem.Spec PyProof.Rows L2
/-- from the promise of `law` to the row -/
theorem walkG {l : PySem.W.OpenLaw} {n lev : Nat} {q : Program} {loose : List Str} {XP : (Str → Option Value) → Heap → Prop} {YP : World → Heap → Prop}
    {d : DefRec} {K : Params → PySem.W.Frag} {sp : PySem.W.Frag → Sp} {x : Str}
    (hn : l.most = some n) (hn2 : n ≤ sizeLine) (hdf : d.params.defaults = []) (room : Room lev callerA)
    (hY : ∀ (w : World) (h : Heap), YP w h → (K w.params).In h)
    (F : ∀ (w : World) (mg : Str → Option Value) (fa : Addr) (h : Heap), (K w.params).In h → h.Ns mainGlobals mg → mg d.name = some (.ref fa) →
      ∃ fD : FuncData, (∀ (s : Shared) (u : Value), BindsTo s fD ⟨[u], []⟩ [(x, u)]) ∧
        ∀ base : Heap, (K w.params).In base → base.Ns mainGlobals mg → FnG l.prog w (K w.params) mg base lev fa fD [x] (sp (K w.params)))
    (hsp : ∀ (K : PySem.W.Frag) (H : Hp) (a : Addr) (ns : List Int), ns.length ≤ n → Only H → SqL K H a (ns.map V.int) → sp K [.ref a] H (fun v _ => v = .bl true) E0) :
    PySem.W.WalkO q loose XP YP l.row.toRowW d [] (fun f vs => PySem.call f vs) := by
  refine Att.attach_call hn hdf ?_
  intro w s₀ s₁ mg mb fa o pm cd doc a vs ns G Y ho hd hcd hmg hobj hints hlen hg
  have KX := hY w _ Y
  obtain ⟨fD, hb, hF⟩ := F w mg fa _ KX G.T.g hmg
  exact gcall KX G.T.g G.T.b G.T.builtins G.T.nolimit hg hobj hints (Nat.le_trans hlen hn2) room hF hb fun H hO hS => hsp _ H a ns hlen hO hS
end Lk
set_option Elab.async false
set_option linter.all false
set_option maxRecDepth 100000
set_option maxHeartbeats 4000000
/-! Part B: values that are data through and through, and their repr. -/
namespace Lk
open PySem PySem.Spec PyProof.Rows L2

def keyD : Key → PyData
  | .inl i => .int i
  | .inr x => .str x

mutual
/-- v stands for the data d: lists, tuples and dicts that are tracked, ints, texts -/
inductive DW (H : Hp) : V → PyData → Prop
  | non : DW H .non .none
  | bl (b : Bool) : DW H (.bl b) (.bool b)
  | int (i : Int) : DW H (.int i) (.int i)
  | str (x : Str) : DW H (.str x) (.str x)
  | lst {a : Addr} {xs : List V} {ds : List PyData} : H a = some (.lst xs) → a ≠ sysModules → DWs H xs ds → DW H (.ref a) (.list ds)
  | tup {a : Addr} {xs : List V} {ds : List PyData} : H a = some (.tup xs) → DWs H xs ds → DW H (.ref a) (.tuple ds)
  | dic {a : Addr} {kvs : List (Key × V)} {ps : List (PyData × PyData)} : H a = some (.dK kvs) → DWk H kvs ps → DW H (.ref a) (.dict ps)
inductive DWs (H : Hp) : List V → List PyData → Prop
  | nil : DWs H [] []
  | cons {v : V} {vs : List V} {d : PyData} {ds : List PyData} : DW H v d → DWs H vs ds → DWs H (v :: vs) (d :: ds)
inductive DWk (H : Hp) : List (Key × V) → List (PyData × PyData) → Prop
  | nil : DWk H [] []
  | cons {k : Key} {v : V} {kvs : List (Key × V)} {d : PyData} {ps : List (PyData × PyData)} : DW H v d → DWk H kvs ps → DWk H ((k, v) :: kvs) ((keyD k, d) :: ps)
end

mutual
theorem DW.same {H H' : Hp} (k : Same H H') : ∀ {v : V} {d : PyData}, DW H v d → DW H' v d
  | _, _, .non => .non
  | _, _, .bl b => .bl b
  | _, _, .int i => .int i
  | _, _, .str x => .str x
  | _, _, .lst h n r => .lst (k _ _ h) n (DWs.same k r)
  | _, _, .tup h r => .tup (k _ _ h) (DWs.same k r)
  | _, _, .dic h r => .dic (k _ _ h) (DWk.same k r)
theorem DWs.same {H H' : Hp} (k : Same H H') : ∀ {vs : List V} {ds : List PyData}, DWs H vs ds → DWs H' vs ds
  | _, _, .nil => .nil
  | _, _, .cons h r => .cons (DW.same k h) (DWs.same k r)
theorem DWk.same {H H' : Hp} (k : Same H H') : ∀ {vs : List (Key × V)} {ds : List (PyData × PyData)}, DWk H vs ds → DWk H' vs ds
  | _, _, .nil => .nil
  | _, _, .cons h r => .cons (DW.same k h) (DWk.same k r)
end
theorem DWs.length {H : Hp} : ∀ {vs : List V} {ds : List PyData}, DWs H vs ds → vs.length = ds.length
  | _, _, .nil => rfl
  | _, _, .cons _ r => congrArg (· + 1) (DWs.length r)
theorem DWs.get {H : Hp} : ∀ {vs : List V} {ds : List PyData} {i : Nat} {d : PyData}, DWs H vs ds → ds[i]? = some d → ∃ v, vs[i]? = some v ∧ DW H v d
  | _, _, _, _, .nil, e => by simp at e
  | _, _, 0, _, .cons h _, e => by simp at e; subst e; exact ⟨_, rfl, h⟩
  | _, _, i + 1, _, .cons _ r, e => by
    obtain ⟨v, h1, h2⟩ := DWs.get (i := i) r (by simpa using e)
    exact ⟨v, by simpa using h1, h2⟩
theorem DWs.get' {H : Hp} : ∀ {vs : List V} {ds : List PyData} {i : Nat} {v : V}, DWs H vs ds → vs[i]? = some v → ∃ d, ds[i]? = some d ∧ DW H v d
  | _, _, _, _, .nil, e => by simp at e
  | _, _, 0, _, .cons h _, e => by simp at e; subst e; exact ⟨_, rfl, h⟩
  | _, _, i + 1, _, .cons _ r, e => by
    obtain ⟨v, h1, h2⟩ := DWs.get' (i := i) r (by simpa using e)
    exact ⟨v, by simpa using h1, h2⟩
theorem DWs.append {H : Hp} : ∀ {vs ws : List V} {ds es : List PyData}, DWs H vs ds → DWs H ws es → DWs H (vs ++ ws) (ds ++ es)
  | _, _, _, _, .nil, r => r
  | _, _, _, _, .cons h t, r => .cons h (DWs.append t r)

section
variable {X : Cx} {pins : List (Addr × Obj)} {σ : L2.St} {H : Hp} {s : Shared}
theorem reads_key {P : Program} {w : World} {k : Key} {v : Value} (h : (mixKind P w).is k v = true) : Reads s.heap v (keyD k) [] := by
  rcases keyIs_shape (k := k) (v := v) h with ⟨i, t, rfl, rfl⟩ | ⟨x, t, rfl, rfl⟩
  · exact .int i t
  · exact .str x t
theorem pairs_read {P : Program} {w : World} : ∀ {es : List DictEntry} {vs : List (Key × Value)}, Pairs (mixKind P w) es vs →
    ReadsAll s.heap (es.map (·.key)) (vs.map fun p => keyD p.1) []
  | _, _, .nil => .nil
  | _, _, .cons h _ r => ReadsAll.cons (as := []) (reads_key h) (pairs_read r)
mutual
theorem DW.reads (I : Inv X pins σ H s) : ∀ {v : V} {d : PyData} {u : Value}, DW H v d → RelV v u → ∃ as, Reads s.heap u d as ∧ sysModules ∉ as
  | _, _, _, .non, r => by cases r; exact ⟨_, .none, by simp⟩
  | _, _, _, .bl b, r => by cases r; exact ⟨_, .bool b, by simp⟩
  | _, _, _, .int i, r => by obtain ⟨t, rfl⟩ := r; exact ⟨_, .int i t, by simp⟩
  | _, _, _, .str x, r => by obtain ⟨t, rfl⟩ := r; exact ⟨_, .str x t, by simp⟩
  | _, _, _, .lst (a := a) h n rs, r => by
    cases r
    obtain ⟨_, its, m, rv, e⟩ := (show ObjOk X.prog X.w H s.heap a (.lst _) from I.hok a _ h)
    obtain ⟨as, q, z⟩ := DWs.reads I rs rv
    refine ⟨_, Reads.list e rfl rfl (by simpa using q), ?_⟩
    rw [List.mem_cons]
    rintro (e | e)
    · exact n e.symm
    · exact z e
  | _, _, _, .tup (a := a) h rs, r => by
    cases r
    obtain ⟨_, its, rv, o, e, hc, m, hd⟩ := (show ObjOk X.prog X.w H s.heap a (.tup _) from I.hok a _ h)
    obtain ⟨as, q, z⟩ := DWs.reads I rs rv
    exact ⟨_, Reads.tuple e hc hd (by simpa using q), z⟩
  | _, _, _, .dic (a := a) h rs, r => by
    cases r
    obtain ⟨_, n, vs, kv, o, es, ep, e, ex, hd, _, pr, _⟩ := (show ObjOk X.prog X.w H s.heap a (.dK _) from I.hok a _ h)
    have q := pairs_read (s := s) pr
    obtain ⟨bs, q2, q3, z⟩ := DWk.reads I rs kv pr
    refine ⟨_, Reads.dict (as := []) (bs := bs) e ex.1 hd ?_ q2, ?_⟩
    · rw [← q3]; exact q
    · have n' : a ≠ sysModules := by simpa using n
      show ¬ sysModules ∈ a :: bs
      rw [List.mem_cons]
      rintro (e | e)
      · exact n' e.symm
      · exact z e
theorem DWs.reads (I : Inv X pins σ H s) : ∀ {vs : List V} {ds : List PyData} {us : List Value}, DWs H vs ds → Vals vs us → ∃ as, ReadsAll s.heap us ds as ∧ sysModules ∉ as
  | _, _, _, .nil, r => by cases r; exact ⟨_, .nil, by simp⟩
  | _, _, _, .cons h rs, r => by
    cases r with
    | cons r1 r2 =>
      obtain ⟨as, q1, z1⟩ := DW.reads I h r1
      obtain ⟨bs, q2, z2⟩ := DWs.reads I rs r2
      exact ⟨_, .cons q1 q2, by rw [List.mem_append]; exact fun z => z.elim z1 z2⟩
theorem DWk.reads (I : Inv X pins σ H s) : ∀ {kvs : List (Key × V)} {ps : List (PyData × PyData)} {vs : List (Key × Value)} {es : List DictEntry}, DWk H kvs ps → KV kvs vs →
    Pairs (mixKind X.prog X.w) es vs → ∃ bs, ReadsAll s.heap (es.map (·.val)) (ps.map (·.2)) bs ∧ vs.map (fun p => keyD p.1) = ps.map (·.1) ∧ sysModules ∉ bs
  | _, _, _, _, .nil, r, p => by cases r; cases p; exact ⟨_, .nil, rfl, by simp⟩
  | _, _, _, _, .cons (k := k) h rs, r, p => by
    unfold KV at r
    cases r with
    | cons r1 r2 =>
      cases p with
      | cons p1 p2 p3 =>
        obtain ⟨as, q1, z1⟩ := DW.reads I h r1.2
        obtain ⟨bs, q2, q3, z2⟩ := DWk.reads I rs r2 p3
        rw [← p2] at q1
        refine ⟨_, .cons q1 q2, ?_, by rw [List.mem_append]; exact fun z => z.elim z1 z2⟩
        rw [List.map_cons, List.map_cons, ← r1.1, q3]
end
end

/-- repr of such data -/
theorem call_reprD {X : Cx} (noG : NoG X.A) (hu : X.A.units + 64 < cLine) : CallR X (.builtin "repr") (fun xs H Q => ∃ v d, xs = [v] ∧ DW H v d ∧
    d.showable = true ∧ d.depth ≤ 50 ∧ d.shown.length ≤ sizeLine ∧ Q (.str d.shown) H) := by
  intro pins s σ H xs us Q I r h
  obtain ⟨v, d, rfl, dw, hs, hd, hl, q⟩ := h
  obtain ⟨u, rfl, ru⟩ := r.one
  have fin : ∀ t (s' : Shared), Inv X pins σ H s' → EP X pins σ Q (.str d.shown t) s' := fun t s' J => ⟨.str d.shown, H, J, ⟨t, rfl⟩, q⟩
  have refs : ∀ a, u = .ref a → wpAny (model X.prog X.w) X.A (call (.builtin "repr") [u]) (EP X pins σ Q) X.xe s := by
    rintro a rfl
    obtain ⟨as, q1, z⟩ := DW.reads I dw ru
    exact repr_of_reads' q1 hs (fun _ => z) noG (by omega) (fun _ _ e => e) (fun h' t tk k => fin _ _ (I.kept (t' := tk) k)) hl
  cases dw with
  | non => cases (show u = Value.none from ru); exact PySem.P.repr_of_none (fin _ _ (I.tok _))
  | bl b => cases (show u = Value.bool b from ru); cases b <;> exact PySem.P.repr_of_bool (fin _ _ (I.tok _))
  | int i => obtain ⟨t, rfl⟩ := ru; exact PySem.P.repr_of_int (by simpa [PyData.showable] using hs) (fin _ _ (I.tok _))
  | str x => obtain ⟨t, rfl⟩ := ru; exact PySem.P.repr_of_str (fin _ _ (I.tok _)) hl
  | lst h n r => exact refs _ ru
  | tup h r => exact refs _ ru
  | dic h r => exact refs _ ru
end Lk
set_option Elab.async false
set_option linter.all false
set_option maxRecDepth 100000
set_option maxHeartbeats 4000000
/-! Part C: displays as data; the draws of a law. -/
namespace Lk
open PySem PySem.Spec PyProof.Rows L2
abbrev St := L2.St

/-- what is in H' and was not in H -/
def sub (H H' : Hp) : Hp := fun b => if (H b).isSome = true then none else H' b
theorem sub_of {H H' : Hp} {b : Addr} {o : HO} (h : H b = none) (h' : H' b = some o) : sub H H' b = some o := by
  unfold sub
  rw [h, if_neg (by simp)]
  exact h'
theorem of_sub {H H' : Hp} {b : Addr} {o : HO} (h : sub H H' b = some o) : H b = none ∧ H' b = some o := by
  unfold sub at h
  split at h
  · cases h
  · rename_i n
    refine ⟨?_, h⟩
    cases q : H b with
    | none => rfl
    | some u => rw [q] at n; exact absurd rfl n
theorem sub_same (H H' : Hp) : Same (sub H H') H' := fun _ _ e => (of_sub e).2
/-- a fresh value that stands for d; what was tracked stays -/
def tFr (d : PyData) : TE := fun _ H Q => ∀ v H', Same H H' → DW (sub H H') v d → Q v H'
def tFrs (ds : List PyData) : TA := fun _ H Q => ∀ vs H', Same H H' → DWs (sub H H') vs ds → Q vs H'
theorem same_new {H : Hp} {p : Addr} {o : HO} (h : H p = none) : Same H (upd H p o) := fun b u e => by
  rw [upd_ne (ne_of_none e h)]
  exact e
theorem sub_more {H H1 H2 : Hp} (s : Same H1 H2) : Same (sub H H1) (sub H H2) := fun _ _ e => sub_of (of_sub e).1 (s _ _ (of_sub e).2)
theorem sub_less {H H1 H2 : Hp} (s : Same H H1) : Same (sub H1 H2) (sub H H2) := fun _ _ e => sub_of (s.free (of_sub e).1) (of_sub e).2
theorem sub_new {H H1 : Hp} {p : Addr} {o : HO} (s : Same H H1) (h : H1 p = none) : sub H (upd H1 p o) p = some o := sub_of (s.free h) upd_same

section
variable {X : Cx} {e : Expr} {es : List Expr} {t t' : TE} {d : PyData} {ds : List PyData} {pos : Pos} {j : Nat}
theorem pe_imp (h : PE X e t) (k : ∀ σ H Q, t' σ H Q → t σ H Q) : PE X e t' := ⟨fun pins s σ H Q I q => h.run pins s σ H Q I (k σ H Q q)⟩
theorem pa_imp {t t' : TA} (h : PA X es t) (k : ∀ σ H Q, t' σ H Q → t σ H Q) : PA X es t' := ⟨fun pos pins s σ H Q I q => h.run pos pins s σ H Q I (k σ H Q q)⟩
theorem pd_int {i : Int} : PE X (.Constant (.int i) j pos) (tFr (.int i)) := pe_imp pe_int fun _ H _ q => q _ _ (Same.refl H) (.int i)
theorem pd_bl {b : Bool} : PE X (.Constant (.bool b) j pos) (tFr (.bool b)) := pe_imp pe_bl fun _ H _ q => q _ _ (Same.refl H) (.bl b)
theorem pd_non : PE X (.Constant .none j pos) (tFr .none) := pe_imp pe_non fun _ H _ q => q _ _ (Same.refl H) .non
theorem pd_str {x : Str} : PE X (.Constant (.str x) j pos) (tFr (.str x)) := pe_imp pe_str fun _ H _ q => q _ _ (Same.refl H) (.str x)
theorem pd_neg {i : Int} {p1 : Pos} : PE X (.UnaryOp .USub (.Constant (.int i) j p1) pos) (tFr (.int (-i))) :=
  pe_imp (pe_un un_neg pe_int) fun _ H _ q => ⟨i, rfl, q _ _ (Same.refl H) (.int _)⟩
theorem pds_nil : PA X [] (tFrs []) := pa_imp pa_nil fun _ H _ q => q _ _ (Same.refl H) .nil
theorem pds_cons (ha : PE X e (tFr d)) (hr : PA X es (tFrs ds)) (hs : starEach (e :: es) X.env = (false, eval e X.env) :: starEach es X.env := by rfl) : PA X (e :: es) (tFrs (d :: ds)) :=
  pa_imp (pa_cons ha hr hs) fun _ H _ q => fun v H1 s1 d1 vs H2 s2 d2 => q _ _ (s1.trans s2) (.cons (d1.same (sub_more s2)) (d2.same (sub_less s1)))
theorem few_ok {n : Nat} (h : decide (n ≤ 1000) = true) : n ≤ sizeLine := by
  rw [sizeLine_eq]
  have := of_decide_eq_true h
  omega
theorem pd_tup {c : Nat} (h : PA X es (tFrs ds)) (hl : decide (ds.length ≤ 1000) = true := by rfl) : PE X (.Tuple es c pos) (tFr (.tuple ds)) :=
  pe_imp (pe_tup h) fun _ H _ q => fun vs H1 s1 d1 => ⟨by rw [d1.length]; exact few_ok hl, fun p hp => q _ _ (s1.trans (same_new hp)) (.tup (sub_new s1 hp) (d1.same (sub_more (same_new hp))))⟩
/-- a list that is displayed, its address told not to be that of sys.modules -/
def tLstN (t : TA) : TE := fun σ H Q => t σ H fun xs H1 => xs.length ≤ sizeLine ∧ ∀ p, H1 p = none → p ≠ sysModules → Q (.ref p) (upd H1 p (.lst xs))
theorem pe_lstN {t : TA} (h : PA X es t) : PE X (.List es pos) (tLstN t) := by
  constructor
  intro pins s σ H Q I hq
  refine wpAny_List_spliced (thn (h.run pos pins s σ H _ I hq) ?_)
  rintro us s1 ⟨xs, H1, I1, r, z, q⟩
  refine ⟨by rw [← r.length]; exact z, ?_⟩
  have free : H1 s1.heap.objs.size = none := I1.hok.fresh (Nat.le_refl _)
  have J := I1.laid (t' := s1.toks) (a := s1.heap.objs.size) (o := .lst xs) (h' := s1.heap.push { cls := .type "list", data := .seq us.toArray })
    (fun b u e => Heap.get?_push_of_some _ e) (Nat.le_refl _) ⟨z, us, 0, r, Heap.get?_push_size _ rfl⟩
  exact ⟨.ref s1.heap.objs.size, _, J, rfl, q _ free (Nat.ne_of_gt I1.big)⟩
theorem pd_lst (h : PA X es (tFrs ds)) (hl : decide (ds.length ≤ 1000) = true := by rfl) : PE X (.List es pos) (tFr (.list ds)) :=
  pe_imp (pe_lstN h) fun _ H _ q => fun vs H1 s1 d1 => ⟨by rw [d1.length]; exact few_ok hl, fun p hp n => q _ _ (s1.trans (same_new hp)) (.lst (sub_new s1 hp) n (d1.same (sub_more (same_new hp))))⟩
theorem pd_dict0 : PE X (.Dict [] [] pos) (tFr (.dict [])) :=
  pe_imp pe_dnewK fun _ H _ q => fun p hp => q _ _ (same_new hp) (.dic (sub_new (Same.refl H) hp) .nil)
theorem pd_dict1 {k : Str} {p1 : Pos} (h : PE X e (tFr d)) : PE X (.Dict [some (.Constant (.str k) j p1)] [e] pos) (tFr (.dict [(.str k, d)])) :=
  pe_imp (pe_disp (pps_cons pe_str h pps_nil) rfl rfl (by simp) (by simp)) fun _ H _ q => fun p hp v H1 s1 d1 => by
    have e1 := s1 _ _ (upd_same (H := H) (a := p) (o := .dK []))
    refine ⟨e1, [(.inr k, v)], rfl, by simp, ?_⟩
    have same : Same H (upd H1 p (.dK (mergeK [] [(.inr k, v)]))) := fun b u e => by
      have nb := ne_of_none e hp
      rw [upd_ne nb]
      exact s1 b u (by rw [upd_ne nb]; exact e)
    refine q _ _ same (.dic (kvs := [(.inr k, v)]) (sub_of hp upd_same) (.cons (d1.same ?_) .nil))
    intro b u e
    obtain ⟨n1, n2⟩ := of_sub e
    have nb : b ≠ p := fun z => by rw [z, upd_same] at n1; cases n1
    exact sub_of (by rw [upd_ne nb] at n1; exact n1) (by rw [upd_ne nb]; exact n2)
end

/-! ### the draws -/
/-- H' has what H has, but for a; a may be written -/
def ExtP (a : Addr) (H H' : Hp) : Prop := ∀ b o, b ≠ a → H b = some o → H' b = some o
theorem ExtP.refl (a : Addr) (H : Hp) : ExtP a H H := fun _ _ _ e => e
theorem ExtP.trans {a : Addr} {H H1 H2 : Hp} (x : ExtP a H H1) (y : ExtP a H1 H2) : ExtP a H H2 := fun b o n e => y b o n (x b o n e)
theorem ExtP.of {a : Addr} {H H' : Hp} (s : Same H H') : ExtP a H H' := fun b o _ e => s b o e
theorem ExtP.upd (a : Addr) (H : Hp) (o : HO) : ExtP a H (upd H a o) := fun b u n e => by rw [upd_ne n]; exact e
/-- the draws' list: what is left of the cell, the mixed number, how often it was asked -/
def PotAt (a : Addr) (N : Nat) (H : Hp) : Prop := ∃ o b c : Int, H a = some (.lst [.int o, .int b, .int c]) ∧ 0 ≤ o ∧ 0 ≤ b ∧ b < 2305843009213693951 ∧ 0 ≤ c ∧ c ≤ N
theorem PotAt.mono {a : Addr} {N M : Nat} {H : Hp} (h : PotAt a N H) (k : N ≤ M) : PotAt a M H := by
  obtain ⟨o, b, c, e, h0, h1, h2, h3, h4⟩ := h
  exact ⟨o, b, c, e, h0, h1, h2, h3, by omega⟩
theorem PotAt.same {a : Addr} {N : Nat} {H H' : Hp} (h : PotAt a N H) (k : Same H H') : PotAt a N H' := by
  obtain ⟨o, b, c, e, r⟩ := h
  exact ⟨o, b, c, k _ _ e, r⟩
/-- ** to a written power, of great numbers -/
def CPowW (i j : Int) : Prop := 0 ≤ j ∧ j ≤ 1000 ∧ i.natAbs < 2 ^ 4096
theorem op_powW {X : Cx} : OpR X (binaryOp .Pow) (rI CPowW fun i j => .int (i ^ j.toNat)) := opI fun i j _ _ _ _ _ hc q => by
  obtain ⟨h1, h2, h3⟩ := hc
  refine pow_int h1 ?_ q
  have e : Builtin.Int.intBits i ≤ 4096 := by
    unfold Builtin.Int.intBits
    split
    · omega
    · have := PySem.Flt.log2_lt_of (show 0 < 4096 by decide) h3
      omega
  have : (Builtin.Int.intBits i : Int) * j ≤ 4096 * 1000 := Int.mul_le_mul (by omega) h2 h1 (by decide)
  omega
theorem pow_lt {i : Int} {n k : Nat} (h : i.natAbs < n) (hn : 0 < k) : (i ^ k).natAbs < n ^ k := by
  rw [Int.natAbs_pow]
  exact Nat.pow_lt_pow_left h (by omega)
theorem sub_ext {a : Addr} {H H1 H2 : Hp} (ha : H a ≠ none) (x : ExtP a H1 H2) : Same (sub H H1) (sub H H2) := fun b o e => by
  obtain ⟨e0, e1⟩ := of_sub e
  exact sub_of e0 (x b o (fun z => ha (z ▸ e0)) e1)
theorem sub_lessP {a : Addr} {H H1 H2 : Hp} (h1 : H1 a ≠ none) (x : ExtP a H H1) : Same (sub H1 H2) (sub H H2) := fun b o e => by
  obtain ⟨e0, e1⟩ := of_sub e
  refine sub_of ?_ e1
  cases q : H b with
  | none => rfl
  | some u =>
    have nb : b ≠ a := fun z => h1 (z ▸ e0)
    rw [x b u nb q] at e0
    cases e0
theorem PotAt.ne {a : Addr} {N : Nat} {H : Hp} (h : PotAt a N H) : H a ≠ none := by
  obtain ⟨_, _, _, e, _⟩ := h
  rw [e]
  exact fun z => by cases z
end Lk
set_option Elab.async false
set_option linter.all false
set_option maxRecDepth 100000
set_option maxHeartbeats 4000000
/-! Part D: comprehensions whose items are known; code that is never come to. -/
namespace Lk
open PySem PySem.Spec PyProof.Rows L2
theorem range_fm {α β : Type} (f : α → Option β) : ∀ xs : List α, (List.range xs.length).filterMap (fun i => (xs[i]?).bind f) = xs.filterMap f
  | [] => rfl
  | x :: xs => by
    rw [List.length_cons, List.range_succ_eq_map, List.filterMap_cons, List.filterMap_cons, List.filterMap_map]
    have ih := range_fm f xs
    have e : ((fun i => ((x :: xs)[i]?).bind f) ∘ Nat.succ) = fun i => (xs[i]?).bind f := by
      funext i
      simp
    rw [e, ih]
    rfl
/-- [e for t in it if ..]: which items go in, and as what, is told by f; nothing that was tracked changes -/
theorem lc_fm {α : Type} {J : It} {n : Nat} {G : Hp → Prop} {Y : Nat → Hp → V → Hp → Prop} (w : Walk J n G Y) {g : TG} {tt : TT} {te : TE} {vs : List Nat} {σ : L2.St} {H1 : Hp} {D : Addr} {Qd : Hp → Prop}
    (xs : List α) (f : α → Option V) (hn : xs.length = n) (few : n ≤ 100000) (nD : H1 D = none) (hG : ∀ H, Same H1 H → G H)
    (hs : ∀ i x a H H' (R : VK) (Rn : Hp → Prop), xs[i]? = some a → Same H1 H → Y i H x H' → (∀ H4 y, f a = some y → Same H H4 → R y H4) → (∀ H4, f a = none → Same H H4 → Rn H4) →
      g x (wipe σ vs) H' fun σ2 H2 => wipe σ2 vs = wipe σ vs ∧ tt σ2 H2 fun b H3 => if b = true then te σ2 H3 R else Rn H3)
    (hd : ∀ H, Same H1 H → H D = some (.lst (xs.filterMap f)) → Qd H) :
    ∃ W : Nat → Nat → Hp → Prop, (∃ m, W 0 m (upd H1 D (.lst []))) ∧ ∀ i m H, W i m H →
      (J.stop i H ∧ Qd H) ∨ (J.go i H ∧ ∃ Nx : Hp → Prop, (∀ H', Nx H' → ∃ m', m' < m ∧ W (i + 1) m' H') ∧ ∀ x H', J.yld i H x H' → g x (wipe σ vs) H' fun σ2 H2 => wipe σ2 vs = wipe σ vs ∧ tt σ2 H2 fun b H3 =>
        if b = true then te σ2 H3 fun y H4 => ∃ acc, H4 D = some (.lst acc) ∧ acc.length < sizeLine ∧ Nx (upd H4 D (.lst (acc ++ [y]))) else Nx H3) := by
  have len : ∀ i, ((List.range i).filterMap fun j => (xs[j]?).bind f).length ≤ i := fun i => by
    have := List.length_filterMap_le (fun j => (xs[j]?).bind f) (List.range i)
    rw [List.length_range] at this
    exact this
  refine lc_it w (fun i H => Same H1 H ∧ H D = some (.lst ((List.range i).filterMap fun j => (xs[j]?).bind f))) ⟨same_new nD, upd_same⟩ (fun i H _ p => hG H p.1) ?_ ?_
  · rintro i x H H' hi ⟨s, e⟩ y
    obtain ⟨a, ha⟩ : ∃ a, xs[i]? = some a := ⟨_, List.getElem?_eq_getElem (by omega)⟩
    refine hs i x a H H' _ _ ha s y (fun H4 z hz s4 => ?_) (fun H4 hz s4 => ?_)
    · refine ⟨_, s4 _ _ e, ?_, fun b o q => ?_, ?_⟩
      · have := len i
        rw [sizeLine_eq]
        omega
      · rw [upd_ne (ne_of_none q nD)]
        exact s4 _ _ (s _ _ q)
      · rw [upd_same, List.range_succ, List.filterMap_append]
        simp [ha, hz]
    · refine ⟨s.trans s4, ?_⟩
      rw [s4 _ _ e, List.range_succ, List.filterMap_append]
      simp [ha, hz]
  · rintro H ⟨s, e⟩
    refine hd H s ?_
    rw [e, ← hn, range_fm]
/-- what a comprehension over J asks -/
def LcR (J : It) (g : TG) (tt : TT) (te : TE) (vs : List Nat) (σ : L2.St) (H1 : Hp) (Q : VK) : Prop := ∀ D, H1 D = none → ∃ W : Nat → Nat → Hp → Prop, (∃ m, W 0 m (upd H1 D (.lst []))) ∧ ∀ i m H, W i m H →
  (J.stop i H ∧ Q (.ref D) H) ∨ (J.go i H ∧ ∃ Nx : Hp → Prop, (∀ H', Nx H' → ∃ m', m' < m ∧ W (i + 1) m' H') ∧ ∀ x H', J.yld i H x H' → g x (wipe σ vs) H' fun σ2 H2 => wipe σ2 vs = wipe σ vs ∧ tt σ2 H2 fun b H3 =>
    if b = true then te σ2 H3 fun y H4 => ∃ acc, H4 D = some (.lst acc) ∧ acc.length < sizeLine ∧ Nx (upd H4 D (.lst (acc ++ [y]))) else Nx H3)
/-- a list or a tuple -/
def Sq (K : PySem.W.Frag) (H : Hp) (a : Addr) (xs : List V) : Prop := SqL K H a xs ∨ SqT K H a xs
theorem sqT_same {K : PySem.W.Frag} {H H' : Hp} {a : Addr} {xs : List V} (e : Same H H') (h : SqT K H a xs) : SqT K H' a xs := by
  rcases h with (h | ⟨o, h⟩) | h
  · exact .inl (.inl (e _ _ h))
  · exact .inl (.inr ⟨o, e _ _ h⟩)
  · exact .inr h
theorem Sq.same {K : PySem.W.Frag} {H H' : Hp} {a : Addr} {xs : List V} (h : Sq K H a xs) (e : Same H H') : Sq K H' a xs := h.elim (fun h => .inl (e.seq h)) fun h => .inr (sqT_same e h)
theorem sqL_ext {K : PySem.W.Frag} {a l : Addr} {xs : List V} {H H' : Hp} (h : SqL K H l xs) (n : l ≠ a) (x : ExtP a H H') : SqL K H' l xs := by
  rcases h with (h | ⟨o, h⟩) | h
  · exact .inl (.inl (x _ _ n h))
  · exact .inl (.inr ⟨o, x _ _ n h⟩)
  · exact .inr h
theorem sqT_ext {K : PySem.W.Frag} {a l : Addr} {xs : List V} {H H' : Hp} (h : SqT K H l xs) (n : l ≠ a) (x : ExtP a H H') : SqT K H' l xs := by
  rcases h with (h | ⟨o, h⟩) | h
  · exact .inl (.inl (x _ _ n h))
  · exact .inl (.inr ⟨o, x _ _ n h⟩)
  · exact .inr h
theorem Sq.ext {K : PySem.W.Frag} {a l : Addr} {xs : List V} {H H' : Hp} (h : Sq K H l xs) (n : l ≠ a) (x : ExtP a H H') : Sq K H' l xs := h.elim (fun h => .inl (sqL_ext h n x)) fun h => .inr (sqT_ext h n x)
/-- for .. in x, x a name that holds a list or a tuple -/
def iSeq (K : PySem.W.Frag) (i : Nat) : TI := fun σ H R => ∃ a, σ[i]? = some (some (.ref a)) ∧ (((∃ xs, SqL K H a xs) ∧ R (Itl K a) H) ∨ ((∃ xs, SqT K H a xs) ∧ R (Itt K a) H))
theorem pi_seq {X : Cx} {tg e : Expr} {i : Nat} (h1 : PI X tg e (iList X.K (tVar i))) (h2 : PI X tg e (iTup X.K (tVar i))) : PI X tg e (iSeq X.K i) := by
  constructor
  rintro pins s σ H R I ⟨a, e, ⟨hx, hr⟩ | ⟨hx, hr⟩⟩
  · exact h1.run pins s σ H R I ⟨_, e, a, rfl, hx, hr⟩
  · exact h2.run pins s σ H R I ⟨_, e, a, rfl, hx, hr⟩
theorem lc_over {α : Type} {J : It} {G : Hp → Prop} {vs0 : List V} (w : Walk J vs0.length G (YAt vs0)) {g : TG} {tt : TT} {te : TE} {vs : List Nat} {σ : L2.St} {H1 : Hp} {Q : VK}
    (xs : List α) (e : α → V) (f : α → Option V) (hv : vs0 = xs.map e) (few : xs.length ≤ 100000) (hG : ∀ H, Same H1 H → G H)
    (hs : ∀ (i : Nat) b H (R : VK) (Rn : Hp → Prop), xs[i]? = some b → Same H1 H → (∀ H4 y, f b = some y → Same H H4 → R y H4) → (∀ H4, f b = none → Same H H4 → Rn H4) →
      g (e b) (wipe σ vs) H fun σ2 H2 => wipe σ2 vs = wipe σ vs ∧ tt σ2 H2 fun c H3 => if c = true then te σ2 H3 R else Rn H3)
    (hd : ∀ D H, H1 D = none → Same H1 H → H D = some (.lst (xs.filterMap f)) → Q (.ref D) H) : LcR J g tt te vs σ H1 Q := by
  intro D nD
  have hl : vs0.length = xs.length := by rw [hv, List.length_map]
  refine lc_fm w xs f (by rw [hl]) (by rw [hl]; exact few) nD hG ?_ (fun H s e => hd D H nD s e)
  rintro i x b H H' R Rn hb s ⟨rfl, hx⟩ k1 k2
  have : x = e b := by
    rw [hv, List.getElem?_map, hb] at hx
    exact (Option.some.inj hx).symm
  subst this
  exact hs i b _ R Rn hb s k1 k2
/-- a comprehension over a list or a tuple -/
theorem seq_lc {α : Type} {K : PySem.W.Frag} {a : Addr} {g : TG} {tt : TT} {te : TE} {vs : List Nat} {σ : L2.St} {H1 : Hp} {Q : VK}
    (xs : List α) (e : α → V) (f : α → Option V) (hq : Sq K H1 a (xs.map e)) (few : xs.length ≤ 100000)
    (hs : ∀ (i : Nat) b H (R : VK) (Rn : Hp → Prop), xs[i]? = some b → Same H1 H → (∀ H4 y, f b = some y → Same H H4 → R y H4) → (∀ H4, f b = none → Same H H4 → Rn H4) →
      g (e b) (wipe σ vs) H fun σ2 H2 => wipe σ2 vs = wipe σ vs ∧ tt σ2 H2 fun c H3 => if c = true then te σ2 H3 R else Rn H3)
    (hd : ∀ D H, H1 D = none → Same H1 H → H D = some (.lst (xs.filterMap f)) → Q (.ref D) H) :
    ((∃ zs, SqL K H1 a zs) ∧ LcR (Itl K a) g tt te vs σ H1 Q) ∨ ((∃ zs, SqT K H1 a zs) ∧ LcR (Itt K a) g tt te vs σ H1 Q) := by
  rcases hq with hq | hq
  · exact .inl ⟨⟨_, hq⟩, lc_over walk_list xs e f rfl few (fun H s => s.seq hq) hs hd⟩
  · exact .inr ⟨⟨_, hq⟩, lc_over walk_tup xs e f rfl few (fun H s => sqT_same s hq) hs hd⟩
/-- what is never come to -/
theorem ps_no {X : Cx} {st : Stmt} : PS X st (fun _ _ _ => False) := ⟨fun _ _ _ _ _ _ h => h.elim⟩
theorem pss_no {X : Cx} {st : List Stmt} : PSs X st (fun _ _ _ => False) := ⟨fun _ _ _ _ _ _ h => h.elim⟩
theorem pe_no {X : Cx} {e : Expr} : PE X e (fun _ _ _ => False) := ⟨fun _ _ _ _ _ _ h => h.elim⟩
theorem pt_no {X : Cx} {e : Expr} : PT X e (fun _ _ _ => False) := ⟨fun _ _ _ _ _ _ h => h.elim⟩
theorem pw_no {X : Cx} {e : Expr} : PW X e (fun _ _ _ => False) := ⟨fun _ _ _ _ _ _ _ h => h.elim⟩
theorem iteB {A B : Prop} {c : Bool} (h : c = false) (hb : B) : if c = true then A else B := by
  rw [h]
  exact iteF hb
theorem iteA {A B : Prop} {c : Bool} (h : c = true) (ha : A) : if c = true then A else B := by
  rw [h]
  exact iteT ha
end Lk
set_option Elab.async false
set_option linter.all false
set_option maxRecDepth 100000
set_option maxHeartbeats 4000000
/-! Part S: set(x) of unlike texts, its length. -/
namespace LkS
open PySem PySem.Spec PyProof.Rows
section
variable {p : Program} {w : World} {A : Around} {R : Result → Shared → Prop} {I : Addr} {fp wr : List Addr} {G : Array GenState → Array GenState → Prop} {n : Nat} {P : Nat → Value → Prop} {St : Nat → Shared → Prop}
theorem any_take_not {zs : List Str} (nd : zs.Nodup) {i : Nat} (hi : i < zs.length) : (zs.take i).any (· == zs.getD i Str.empty) = false := by
  have e : zs.getD i Str.empty = zs[i] := by simp [List.getD_eq_getElem?_getD, hi]
  rw [e, List.any_eq_false]
  intro z hz q
  have q2 : z = zs[i] := by simpa using q
  obtain ⟨j, hj, ej⟩ := List.mem_iff_getElem.mp hz
  rw [List.getElem_take] at ej
  have hj2 : j < i := by rw [List.length_take] at hj; omega
  exact (List.pairwise_iff_getElem.mp nd) j i (by omega) hi hj2 (ej.trans q2)
theorem strs_put (W : WalksS p w A.in1 I fp wr G n P St) (S : Addr) (out : S ∉ fp) (zs : List Str) (sz : zs.length = n) (nd : zs.Nodup) (few : n + 1 < scanBound) (val : ∀ i v, P i v → ∃ t, v = .str (zs.getD i Str.empty) t) :
    ∀ (d i : Nat) (s : Shared), n - i = d → i ≤ n → St i s → s.heap.SetOf (strKind p w) S (fun y => (zs.take i).any (· == y)) i →
      (∀ s2, Moved (S :: wr) G s s2 → s2.heap.SetOf (strKind p w) S (fun y => zs.any (· == y)) n → R (.ok (.ret .none)) s2) → codeAny (model p w) A (.builtin "set.update.loop" ⟨[.ref S, .ref I], []⟩) R s := by
  have out2 : S ∉ wr := fun q => out (W.sub _ q)
  have wide : ∀ b ∈ wr, b ∈ S :: wr := fun b q => List.mem_cons_of_mem _ q
  intro d
  induction d with
  | zero =>
    intro i s ed hi st has fin
    obtain rfl : i = n := by omega
    refine codeAny_builtin F.entry_set_update_loop ?_; rw [Around.under_plainId F.plain_set_update_loop _]
    show wpAny _ A.in1 (pyNext (.ref I) >>= _) _ _ s; refine wpAny_bind (W.done s _ _ st fun s2 mv => ?_)
    show wpAny _ A.in1 (ret Value.none) _ _ s2
    have e : zs.take i = zs := List.take_of_length_le (by omega)
    rw [e] at has
    obtain ⟨o, es, ep, t, ho, more⟩ := has
    exact wpAny_pure (fin s2 (mv.mono wide) ⟨o, es, ep, t, mv.heap S _ out2 ho, more⟩)
  | succ d ih =>
    intro i s ed hi st has fin
    have lt : i < n := by omega
    refine codeAny_builtin F.entry_set_update_loop ?_; rw [Around.under_plainId F.plain_set_update_loop _]
    show wpAny _ A.in1 (pyNext (.ref I) >>= _) _ _ s; refine wpAny_bind (W.item i s _ _ lt st fun v s2 pv st2 mv => ?_)
    obtain ⟨t, rfl⟩ := val i v pv
    have has2 : s2.heap.SetOf (strKind p w) S (fun y => (zs.take i).any (· == y)) i := by
      obtain ⟨o, es, ep, tb, ho, more⟩ := has
      exact ⟨o, es, ep, tb, mv.heap S _ out2 ho, more⟩
    show wpAny _ A.in1 (holding [Value.str (zs.getD i Str.empty) t] (setAdd S (.str (zs.getD i Str.empty) t)) >>= _) _ _ s2
    refine wpAny_bind (wpAny_holding ?_); unfold setAdd; refine wpAny_holding (wpAny_bind ((strKind p w).pyHash (k := zs.getD i Str.empty) (strKind_is _ _ _ _) ?_))
    refine wpAny_setAddHashed_of (knd := strKind p w) (s := { s2 with toks := s2.toks + 1 }) (strKind_is _ _ _ _) rfl has2 (by omega) fun g same has3 => ?_
    have has4 : g.SetOf (strKind p w) S (fun y => (zs.take (i + 1)).any (· == y)) (i + 1) := by
      have no := any_take_not nd (i := i) (by omega)
      have lt2 : i < zs.length := by omega
      refine SetOf_congr has3 (fun y => ?_) (by rw [no]; rfl)
      rw [List.take_add_one, List.any_append, List.getD_eq_getElem?_getD, List.getElem?_eq_getElem lt2]
      simp only [Option.getD_some, Option.toList_some, List.any_cons, List.any_nil, Bool.or_false]
      congr 1
      by_cases q : y = zs[i]
      · simp [q]
      · have q2 : ¬ zs[i] = y := fun z => q z.symm
        simp [q, q2]
    refine wpAny_pure ⟨plainId_quiet F.plain_set_update_loop _, ih (i + 1) _ (by omega) lt (W.frame _ s2 _ _ st2 (Nat.le_succ _) fun b hb o e => ?_) has4 fun s3 mv3 has5 => ?_⟩
    · rw [same.2 b (fun q : b = S => out (by rw [← q]; exact hb))] <;> exact e
    · refine fin s3 (Moved.trans W.gtrans ((mv.mono wide).then_heap (Nat.le_succ _) fun b o nb e => ?_) mv3) has5
      rw [same.2 b (fun q : b = S => nb (by rw [q]; exact List.mem_cons_self))] <;> exact e
end
abbrev emptyS (led : Bool) : Obj := { cls := .type "set", dict := none, data := .set #[] 0 (.fresh 0 0 led) }
section
variable {p : Program} {w : World} {A : Around} {E : Value → Shared → Prop} {s : Shared}

set_option maxHeartbeats 8000000 in
/-- set(x), x a list of unlike texts -/
theorem set_of_list {l : Addr} {its : Array Value} {zs : List Str} {Q : Value → Shared → Prop} (calm : A.handled = none) (at_ : s.heap.IsList l its) (are : StrsAre its.toList zs) (nd : zs.Nodup) (few : zs.length + 1 < scanBound)
    (k : ∀ (g : Heap) (tk : Nat), g.SetOf (strKind p w) s.heap.objs.size (fun y => zs.any (· == y)) its.size → (∀ b o, s.heap.get? b = some o → g.get? b = some o) → Q (.ref s.heap.objs.size) { s with heap := g, toks := tk }) : wpAny (model p w) A (call (.type "set") [.ref l]) Q E s := by
  obtain ⟨c0, c1, eMro⟩ := F.called_set.mro; have eMade := F.called_set.made; have eSub := F.called_set.sub
  refine wpAny_call (codeAny_of_tree ?_); show wpAny _ _ (callAny (.type "set") _) _ _ _
  refine wpAny_pure ⟨Code.quiet_builtin _ (by decide +kernel), codeAny_builtin F.entry_type_call ?_⟩; rw [Around.under_plain (weight_type_call_type "set" [.ref l] []) rfl]
  have e1 := F.called_set.notType; have e2 := F.called_set.canCreate; have e3 := F.typeCall_set_1 (.ref l)
  repeat (any_goals (first | assumption | wp_step))
  refine codeAny_mono (code_set_new_1 (.ref l) (E := E) (Q₁ := fun o s₁ => ∃ led, o = .ref s.heap.objs.size ∧ s₁ = { s with heap := s.heap.push (emptyS led) }) fun led => ⟨led, rfl, rfl⟩) fun r s₁ er => ?_
  match r, er with
  | .error _, er => exact er
  | .ok .next, er => exact er.elim
  | .ok .brk, er => exact er.elim
  | .ok .cont, er => exact er.elim
  | .ok (.ret o), ⟨led, e5, e6⟩ =>
    subst e5 e6
    have eS : (s.heap.push (emptyS led)).get? s.heap.objs.size = some (emptyS led) := Heap.get?_push_size _ rfl
    have eT : Shared.TypeIs { s with heap := s.heap.push (emptyS led) } (.ref s.heap.objs.size) "set" := ⟨_, eS, rfl⟩
    have e7 := F.called_set.init.lookup; have e8 := F.called_set.init.bind (.ref s.heap.objs.size)
    repeat (any_goals (first | assumption | wp_step))
    refine codeAny_mono (codeAny_call_builtin (R := wants (fun r s₂ => r = .none ∧ ∃ g tk, s₂ = { s with heap := g, toks := tk } ∧ g.SetOf (strKind p w) s.heap.objs.size (fun y => zs.any (· == y)) its.size ∧ ∀ b o, s.heap.get? b = some o → g.get? b = some o) E) F.called_set.init.plain F.entry_set_init (check_set_init_1 eT ?_)) fun r₂ s₂ er₂ => ?_
    · obtain ⟨⟨cls, odc, odt, osl⟩, here, ecl, m, edt⟩ := at_
      simp only at ecl edt; subst ecl edt
      have here2 : (s.heap.push (emptyS led)).get? l = some { cls := .type "list", dict := odc, data := .seq its m, slots := osl } := Heap.get?_push_of_some _ here
      have f1 := F.sub_list_set; have f2 := F.sub_list_frozenset; have f3 : (Value.type "list" == Value.type "dict") = false := by decide
      have its1 : (s.heap.push (emptyS led)).IsList l its := ⟨_, here2, rfl, m, rfl⟩
      unfold Builtin.«set.__init__» noKeywords Builtin.Frozenset.updateFrom
      generalize eIter : pyIter = It
      wp_walk
      subst eIter
      refine wpAny_pyIter_list its1 (wpAny_bind (wpAny_runValue ?_))
      have lt : l < s.heap.objs.size := Heap.lt_size here
      have calm3 : A.in1.in1.in1.handled = none := by simp [calm]
      have ps : (s.heap.push (emptyS led)).objs.size = s.heap.objs.size + 1 := Heap.size_push ..
      have n1 : l ≠ (s.heap.push (emptyS led)).objs.size := by rw [ps]; exact Nat.ne_of_lt (Nat.lt_succ_of_lt lt)
      have n2 : s.heap.objs.size ∉ [(s.heap.push (emptyS led)).objs.size, l] := by simp only [List.mem_cons, List.not_mem_nil, or_false, not_or, ps]; exact ⟨Nat.ne_of_lt (Nat.lt_succ_self _), Nat.ne_of_gt lt⟩
      have sz : zs.length = its.size := by rw [← StrsAre.len_eq are, Array.length_toList]
      have eS2 : ((s.heap.push (emptyS led)).push { cls := .type "list_iterator", data := .fields #[.ref l, .int 0 0] }).get? s.heap.objs.size = some (emptyS led) := Heap.get?_push_of_some _ eS
      refine strs_put ((Walks.list calm3 _ l n1 its).toS) s.heap.objs.size n2 zs sz nd (by omega) (fun i v ev => SS.strs_at are i v (by rw [Array.getElem?_toList]; exact ev)) its.size 0 _ rfl (Nat.zero_le _) ⟨⟨_, Heap.get?_push_size _ rfl, rfl, rfl⟩, its1.push _⟩
        (SetOf_congr ((setObjOf_fresh (knd := strKind p w) led).setOf eS2 (by unfold scanBound; omega)) (fun _ => rfl) rfl) fun s3 mv S3 => ?_
      obtain ⟨g3, gs3, dr3, tk3, os3⟩ := s3
      obtain rfl : gs3 = s.gens := mv.gens; obtain rfl : dr3 = s.drawn := mv.drawn; obtain rfl : os3 = s.os := mv.os
      show wpAny _ _ _ _ _ _; refine wpAny_pure ?_
      show wpAny _ _ (ret Value.none) _ _ _; refine wpAny_pure ⟨rfl, g3, tk3, rfl, S3, fun b o e => ?_⟩
      have lb : b < s.heap.objs.size := Heap.lt_size e
      exact mv.heap b o (by simp only [List.mem_cons, List.not_mem_nil, or_false, not_or, ps]; exact ⟨Nat.ne_of_lt lb, Nat.ne_of_lt (Nat.lt_succ_of_lt lb)⟩) (Heap.get?_push_of_some _ (Heap.get?_push_of_some _ e))
    · match r₂, er₂ with
      | .error _, er₂ => exact er₂
      | .ok .next, er₂ => exact er₂.elim
      | .ok .brk, er₂ => exact er₂.elim
      | .ok .cont, er₂ => exact er₂.elim
      | .ok (.ret _), ⟨e9, g, tk, e10, S9, k9⟩ =>
        subst e9 e10
        repeat (any_goals (first | assumption | wp_step))
        exact k _ _ S9 k9

set_option maxHeartbeats 8000000 in
/-- set(x), x a tuple of unlike texts -/
theorem set_of_tuple {l : Addr} {its : Array Value} {zs : List Str} {Q : Value → Shared → Prop} (calm : A.handled = none) (at_ : s.heap.IsTuple l its) (are : StrsAre its.toList zs) (nd : zs.Nodup) (few : zs.length + 1 < scanBound)
    (k : ∀ (g : Heap) (tk : Nat), g.SetOf (strKind p w) s.heap.objs.size (fun y => zs.any (· == y)) its.size → (∀ b o, s.heap.get? b = some o → g.get? b = some o) → Q (.ref s.heap.objs.size) { s with heap := g, toks := tk }) : wpAny (model p w) A (call (.type "set") [.ref l]) Q E s := by
  obtain ⟨c0, c1, eMro⟩ := F.called_set.mro; have eMade := F.called_set.made; have eSub := F.called_set.sub
  refine wpAny_call (codeAny_of_tree ?_); show wpAny _ _ (callAny (.type "set") _) _ _ _
  refine wpAny_pure ⟨Code.quiet_builtin _ (by decide +kernel), codeAny_builtin F.entry_type_call ?_⟩; rw [Around.under_plain (weight_type_call_type "set" [.ref l] []) rfl]
  have e1 := F.called_set.notType; have e2 := F.called_set.canCreate; have e3 := F.typeCall_set_1 (.ref l)
  repeat (any_goals (first | assumption | wp_step))
  refine codeAny_mono (code_set_new_1 (.ref l) (E := E) (Q₁ := fun o s₁ => ∃ led, o = .ref s.heap.objs.size ∧ s₁ = { s with heap := s.heap.push (emptyS led) }) fun led => ⟨led, rfl, rfl⟩) fun r s₁ er => ?_
  match r, er with
  | .error _, er => exact er
  | .ok .next, er => exact er.elim
  | .ok .brk, er => exact er.elim
  | .ok .cont, er => exact er.elim
  | .ok (.ret o), ⟨led, e5, e6⟩ =>
    subst e5 e6
    have eS : (s.heap.push (emptyS led)).get? s.heap.objs.size = some (emptyS led) := Heap.get?_push_size _ rfl
    have eT : Shared.TypeIs { s with heap := s.heap.push (emptyS led) } (.ref s.heap.objs.size) "set" := ⟨_, eS, rfl⟩
    have e7 := F.called_set.init.lookup; have e8 := F.called_set.init.bind (.ref s.heap.objs.size)
    repeat (any_goals (first | assumption | wp_step))
    refine codeAny_mono (codeAny_call_builtin (R := wants (fun r s₂ => r = .none ∧ ∃ g tk, s₂ = { s with heap := g, toks := tk } ∧ g.SetOf (strKind p w) s.heap.objs.size (fun y => zs.any (· == y)) its.size ∧ ∀ b o, s.heap.get? b = some o → g.get? b = some o) E) F.called_set.init.plain F.entry_set_init (check_set_init_1 eT ?_)) fun r₂ s₂ er₂ => ?_
    · obtain ⟨⟨cls, odc, odt, osl⟩, here, ecl, m, edt⟩ := at_
      simp only at ecl edt; subst ecl edt
      have here2 : (s.heap.push (emptyS led)).get? l = some { cls := .type "tuple", dict := odc, data := .seq its m, slots := osl } := Heap.get?_push_of_some _ here
      have f1 := F.sub_tuple_set; have f2 := F.sub_tuple_frozenset; have f3 : (Value.type "tuple" == Value.type "dict") = false := by decide
      have its1 : (s.heap.push (emptyS led)).IsTuple l its := ⟨_, here2, rfl, m, rfl⟩
      unfold Builtin.«set.__init__» noKeywords Builtin.Frozenset.updateFrom
      generalize eIter : pyIter = It
      wp_walk
      subst eIter
      refine wpAny_pyIter_tuple its1 (wpAny_bind (wpAny_runValue ?_))
      have lt : l < s.heap.objs.size := Heap.lt_size here
      have calm3 : A.in1.in1.in1.handled = none := by simp [calm]
      have ps : (s.heap.push (emptyS led)).objs.size = s.heap.objs.size + 1 := Heap.size_push ..
      have n1 : l ≠ (s.heap.push (emptyS led)).objs.size := by rw [ps]; exact Nat.ne_of_lt (Nat.lt_succ_of_lt lt)
      have n2 : s.heap.objs.size ∉ [(s.heap.push (emptyS led)).objs.size, l] := by simp only [List.mem_cons, List.not_mem_nil, or_false, not_or, ps]; exact ⟨Nat.ne_of_lt (Nat.lt_succ_self _), Nat.ne_of_gt lt⟩
      have sz : zs.length = its.size := by rw [← StrsAre.len_eq are, Array.length_toList]
      have eS2 : ((s.heap.push (emptyS led)).push { cls := .type "tuple_iterator", data := .fields #[.ref l, .int 0 0] }).get? s.heap.objs.size = some (emptyS led) := Heap.get?_push_of_some _ eS
      refine strs_put ((Walks.tuple calm3 _ l n1 its).toS) s.heap.objs.size n2 zs sz nd (by omega) (fun i v ev => SS.strs_at are i v (by rw [Array.getElem?_toList]; exact ev)) its.size 0 _ rfl (Nat.zero_le _) ⟨⟨_, Heap.get?_push_size _ rfl, rfl, rfl⟩, its1.push _⟩
        (SetOf_congr ((setObjOf_fresh (knd := strKind p w) led).setOf eS2 (by unfold scanBound; omega)) (fun _ => rfl) rfl) fun s3 mv S3 => ?_
      obtain ⟨g3, gs3, dr3, tk3, os3⟩ := s3
      obtain rfl : gs3 = s.gens := mv.gens; obtain rfl : dr3 = s.drawn := mv.drawn; obtain rfl : os3 = s.os := mv.os
      show wpAny _ _ _ _ _ _; refine wpAny_pure ?_
      show wpAny _ _ (ret Value.none) _ _ _; refine wpAny_pure ⟨rfl, g3, tk3, rfl, S3, fun b o e => ?_⟩
      have lb : b < s.heap.objs.size := Heap.lt_size e
      exact mv.heap b o (by simp only [List.mem_cons, List.not_mem_nil, or_false, not_or, ps]; exact ⟨Nat.ne_of_lt lb, Nat.ne_of_lt (Nat.lt_succ_of_lt lb)⟩) (Heap.get?_push_of_some _ (Heap.get?_push_of_some _ e))
    · match r₂, er₂ with
      | .error _, er₂ => exact er₂
      | .ok .next, er₂ => exact er₂.elim
      | .ok .brk, er₂ => exact er₂.elim
      | .ok .cont, er₂ => exact er₂.elim
      | .ok (.ret _), ⟨e9, g, tk, e10, S9, k9⟩ =>
        subst e9 e10
        repeat (any_goals (first | assumption | wp_step))
        exact k _ _ S9 k9
end
end LkS
namespace Lk
open PySem PySem.Spec PyProof.Rows L2
/-- len(set(x)), x a list or a tuple of unlike texts -/
def tLenSetD (K : PySem.W.Frag) (ta : TE) : TE := fun σ H Q => ta σ H fun x H1 => ∃ l, ∃ zs : List Str, x = .ref l ∧ Sq K H1 l (zs.map V.str) ∧ zs.Nodup ∧ zs.length ≤ 1000 ∧ Q (.int zs.length) H1
theorem pe_lenSetD {X : Cx} {a : Expr} {ta : TE} {u1 u2 u3 pos : Pos} (hc : X.calm = true) (hg : Gl X "len") (hm : X.mg "len" = none) (hg2 : Gl X "set") (hm2 : X.mg "set" = none) (ha : PE X a ta)
    (na : starEach [a] X.env = (false, eval a X.env) :: starEach [] X.env := by rfl) : PE X (.Call (.Name "len" u1) [.Call (.Name "set" u2) [a] [] u3] [] pos) (tLenSetD X.K ta) := by
  refine ⟨fun pins s σ H Q I h => Call_ (ld_blt I hg hm boot_len (callWith_builtin1 (args_cons ?_ rfl) rfl rfl))⟩
  refine Call_ (ld_blt I hg2 hm2 boot_set (callWith_type1 (args_cons (thn (ha.run pins s σ H _ I h) fun v s1 ⟨x, H1, I1, r1, q1⟩ => args_nil ?_) na) na rfl))
  obtain ⟨l, zs, rfl, sq, nd, few, q1⟩ := q1
  cases r1
  have lb : zs.length + 1 < scanBound := by unfold scanBound; omega
  have go : ∀ (its : List Value), Vals (zs.map V.str) its → ∀ (g : Heap) (tk : Nat), g.SetOf (strKind X.prog X.w) s1.heap.objs.size (fun y => zs.any (· == y)) its.toArray.size → (∀ b o, s1.heap.get? b = some o → g.get? b = some o) →
      wpAny (model X.prog X.w) X.A (spliced (backTo pos (starEach [] X.env))) (fun vs s₂ => wpAny (model X.prog X.w) X.A (call (.builtin "len") (Value.ref s1.heap.objs.size :: vs)) (EP X pins σ Q) X.xe s₂) X.xe { s1 with heap := g, toks := tk } := fun its r g tk has keep => by
    refine args_nil ?_
    have sz : its.toArray.size = zs.length := by rw [List.size_toArray, ← r.length, List.length_map]
    rw [sz] at has
    obtain ⟨o, es, ep, t, ho, hex, hd, _, _, _, hf, hn⟩ := has
    have I2 : Inv X pins σ H1 { s1 with heap := g, toks := tk } := I1.kept fun b o e => keep b o e
    exact call_len_set ho hex hd hf (by rw [hn] <;> unfold scanBound at lb <;> omega) ⟨.int zs.length, H1, I2.tok _, ⟨_, by rw [hn]⟩, q1⟩
  rcases sq with sq | sq
  · obtain ⟨its, r, pl, _⟩ := I1.list sq
    exact LkS.set_of_list (I1.ok.hd hc) pl.isList (by simpa using strsAre_of r) nd lb fun g tk has keep => go its r g tk has keep
  · obtain ⟨its, r, pl, _⟩ := I1.tuple sq
    exact LkS.set_of_tuple (I1.ok.hd hc) pl (by simpa using strsAre_of r) nd lb fun g tk has keep => go its r g tk has keep
end Lk
set_option Elab.async false
set_option linter.all false
set_option maxRecDepth 100000
set_option maxHeartbeats 4000000
/-! Part G: comprehensions whose items are made anew, each told by a relation. -/
namespace Lk
open PySem PySem.Spec PyProof.Rows L2
/-- all but lists stand -/
def Keep (H H' : Hp) : Prop := ∀ b o, H b = some o → (∀ xs, o ≠ HO.lst xs) → H' b = some o
theorem Keep.of {H H' : Hp} (s : Same H H') : Keep H H' := fun b o e _ => s b o e
theorem Keep.trans {H H1 H2 : Hp} (x : Keep H H1) (y : Keep H1 H2) : Keep H H2 := fun b o e n => y b o (x b o e n) n
theorem Keep.upd {H : Hp} {D : Addr} {xs : List V} {o : HO} (h : H D = some (.lst xs)) : Keep H (upd H D o) := fun b u e n => by
  have : b ≠ D := fun z => by
    rw [z, h] at e
    exact n xs (Option.some.inj e).symm
  rw [upd_ne this]
  exact e
theorem tYes_if (σ2 : L2.St) (H2 : Hp) (A B : Hp → Prop) : (tYes σ2 H2 fun c H3 => if c = true then A H3 else B H3) = A H2 := by
  show (if true = true then A H2 else B H2) = A H2
  rw [if_pos rfl]
theorem Paired.add {α β : Type} {R : α → β → Prop} : ∀ {xs : List α} {ys : List β} {x : α} {y : β}, Paired R xs ys → R x y → Paired R (xs ++ [x]) (ys ++ [y])
  | _, _, _, _, .nil, h => .cons h .nil
  | _, _, _, _, .cons a t, h => .cons a (Paired.add t h)
theorem lc_relQ {α β : Type} {J : It} {G : Hp → Prop} {vs0 : List V} (w : Walk J vs0.length G (YAt vs0)) {g : TG} {te : TE} {vs : List Nat} {σ : L2.St} {H1 : Hp} {D : Addr} {Qd : Hp → Prop} (nD : H1 D = none)
    (xs : List α) (e : α → V) (f : α → β) (Rel : Hp → V → β → Prop) (mono : ∀ H H' v b, Keep H H' → Rel H v b → Rel H' v b) (hv : vs0 = xs.map e) (few : xs.length ≤ 100000) (hG : ∀ H, Same H1 H → G H)
    (hs : ∀ (i : Nat) b H (R : VK), xs[i]? = some b → Same H1 H → (∀ H4 y, Same H H4 → Rel H4 y (f b) → R y H4) → g (e b) (wipe σ vs) H fun σ2 H2 => wipe σ2 vs = wipe σ vs ∧ te σ2 H2 R)
    (hd : ∀ H ts, Same H1 H → H D = some (.lst ts) → Paired (Rel H) ts (xs.map f) → Qd H) :
    ∃ W : Nat → Nat → Hp → Prop, (∃ m, W 0 m (upd H1 D (.lst []))) ∧ ∀ i m H, W i m H → (J.stop i H ∧ Qd H) ∨ (J.go i H ∧ ∃ Nx : Hp → Prop, (∀ H', Nx H' → ∃ m', m' < m ∧ W (i + 1) m' H') ∧ ∀ x H', J.yld i H x H' → g x (wipe σ vs) H' fun σ2 H2 => wipe σ2 vs = wipe σ vs ∧ tYes σ2 H2 fun b H3 =>
        if b = true then te σ2 H3 fun y H4 => ∃ acc, H4 D = some (.lst acc) ∧ acc.length < sizeLine ∧ Nx (upd H4 D (.lst (acc ++ [y]))) else Nx H3) := by
  have hl : vs0.length = xs.length := by rw [hv, List.length_map]
  refine lc_it w (fun j H => ∃ ts, H D = some (.lst ts) ∧ Paired (Rel H) ts ((xs.take j).map f) ∧ ts.length = j ∧ Same H1 H) ⟨[], upd_same, .nil, rfl, same_new nD⟩ (fun i H _ p => hG H (by obtain ⟨_, _, _, _, s⟩ := p; exact s)) ?_ ?_
  · rintro i x H H' hi ⟨ts, eD, pr, tl, s⟩ ⟨rfl, hx⟩
    obtain ⟨b, hb⟩ : ∃ b, xs[i]? = some b := ⟨_, List.getElem?_eq_getElem (by omega)⟩
    have ex : x = e b := by
      rw [hv, List.getElem?_map, hb] at hx
      exact (Option.some.inj hx).symm
    subst ex
    have z := hs i b _ (fun y H4 => ∃ acc, H4 D = some (.lst acc) ∧ acc.length < sizeLine ∧ ∃ ts, upd H4 D (.lst (acc ++ [y])) D = some (.lst ts) ∧ Paired (Rel (upd H4 D (.lst (acc ++ [y])))) ts ((xs.take (i + 1)).map f) ∧ ts.length = i + 1 ∧ Same H1 (upd H4 D (.lst (acc ++ [y])))) hb s fun H4 y s4 ry => by
      refine ⟨ts, s4 _ _ eD, by rw [sizeLine_eq]; omega, ts ++ [y], upd_same, ?_, by rw [List.length_append, tl]; rfl, fun c o ec => ?_⟩
      · have kp : Keep H4 (upd H4 D (.lst (ts ++ [y]))) := .upd (s4 _ _ eD)
        rw [List.take_add_one, hb, Option.toList_some, List.map_append]
        exact Paired.add (Paired.mapP pr fun v c r => mono _ _ _ _ ((Keep.of s4).trans kp) r) (mono _ _ _ _ kp ry)
      · rw [upd_ne (ne_of_none ec nD)]
        exact s4 _ _ (s _ _ ec)
    exact z
  · rintro H ⟨ts, eD, pr, tl, s⟩
    rw [hl, List.take_length] at pr
    exact hd H ts s eD pr
theorem lc_rel {α β : Type} {J : It} {G : Hp → Prop} {vs0 : List V} (w : Walk J vs0.length G (YAt vs0)) {g : TG} {te : TE} {vs : List Nat} {σ : L2.St} {H1 : Hp} {Q : VK}
    (xs : List α) (e : α → V) (f : α → β) (Rel : Hp → V → β → Prop) (mono : ∀ H H' v b, Keep H H' → Rel H v b → Rel H' v b) (hv : vs0 = xs.map e) (few : xs.length ≤ 100000) (hG : ∀ H, Same H1 H → G H)
    (hs : ∀ (i : Nat) b H (R : VK), xs[i]? = some b → Same H1 H → (∀ H4 y, Same H H4 → Rel H4 y (f b) → R y H4) → g (e b) (wipe σ vs) H fun σ2 H2 => wipe σ2 vs = wipe σ vs ∧ te σ2 H2 R)
    (hd : ∀ D H ts, H1 D = none → Same H1 H → H D = some (.lst ts) → Paired (Rel H) ts (xs.map f) → Q (.ref D) H) : LcR J g tYes te vs σ H1 Q := fun D nD =>
  lc_relQ w nD xs e f Rel mono hv few hG hs fun H ts s eD pr => hd D H ts nD s eD pr
end Lk
namespace Lk
open PySem PySem.Spec PyProof.Rows L2
/-- a walk whose turns are told of the heap alone: the clauses of a comprehension, outer or inner -/
theorem in_it {J : It} {n : Nat} {G : Hp → Prop} {Y : Nat → Hp → V → Hp → Prop} (w : Walk J n G Y) {C : (Hp → Prop) → V → Hp → Prop} {H0 : Hp} {E : Hp → Prop} (Pv : Nat → Hp → Prop) (h0 : Pv 0 H0) (hG : ∀ i H, i ≤ n → Pv i H → G H)
    (hs : ∀ i x H H', i < n → Pv i H → Y i H x H' → C (Pv (i + 1)) x H') (hd : ∀ H, Pv n H → E H) :
    ∃ W : Nat → Nat → Hp → Prop, (∃ m, W 0 m H0) ∧ ∀ j k H, W j k H → (J.stop j H ∧ E H) ∨ (J.go j H ∧ ∃ N : Hp → Prop, (∀ H', N H' → ∃ k', k' < k ∧ W (j + 1) k' H') ∧ ∀ x H', J.yld j H x H' → C N x H') := by
  refine ⟨fun i m H => m = n - i ∧ i ≤ n ∧ Pv i H, ⟨n, by simp, Nat.zero_le _, h0⟩, ?_⟩
  rintro i m H ⟨rfl, hi, p⟩
  have q := hG i H hi p
  by_cases lt : i < n
  · exact .inr ⟨w.goes i H lt q, Pv (i + 1), fun H' p' => ⟨n - (i + 1), by omega, rfl, lt, p'⟩, fun x H' y => hs i x H H' lt p (w.yields i H x H' lt q y)⟩
  · obtain rfl : i = n := by omega
    exact .inl ⟨w.stops H q, hd H p⟩
end Lk
namespace Lk
open PySem PySem.Spec PyProof.Rows L2
def KeepB (D : Addr) (H H' : Hp) : Prop := ∀ b o, b ≠ D → H b = some o → H' b = some o
/-- as lc_rel, for items that may be lists, but not the new list itself; Qd by the heap alone -/
theorem lc_relD {α β : Type} {J : It} {G : Hp → Prop} {vs0 : List V} (w : Walk J vs0.length G (YAt vs0)) {g : TG} {te : TE} {vs : List Nat} {σ : L2.St} {H1 : Hp} {D : Addr} {Qd : Hp → Prop}
    (xs : List α) (e : α → V) (f : α → β) (Rel : Hp → V → β → Prop) (nD : H1 D = none) (mono : ∀ H H' v b, KeepB D H H' → Rel H v b → Rel H' v b) (hv : vs0 = xs.map e) (few : xs.length ≤ 100000) (hG : ∀ H, Same H1 H → G H)
    (hs : ∀ (i : Nat) b H (R : VK), xs[i]? = some b → Same H1 H → H D ≠ none → (∀ H4 y, Same H H4 → Rel H4 y (f b) → R y H4) → g (e b) (wipe σ vs) H fun σ2 H2 => wipe σ2 vs = wipe σ vs ∧ te σ2 H2 R)
    (hd : ∀ H ts, Same H1 H → H D = some (.lst ts) → Paired (Rel H) ts (xs.map f) → Qd H) :
    ∃ W : Nat → Nat → Hp → Prop, (∃ m, W 0 m (upd H1 D (.lst []))) ∧ ∀ i m H, W i m H → (J.stop i H ∧ Qd H) ∨ (J.go i H ∧ ∃ Nx : Hp → Prop, (∀ H', Nx H' → ∃ m', m' < m ∧ W (i + 1) m' H') ∧ ∀ x H', J.yld i H x H' → g x (wipe σ vs) H' fun σ2 H2 => wipe σ2 vs = wipe σ vs ∧ tYes σ2 H2 fun b H3 =>
        if b = true then te σ2 H3 fun y H4 => ∃ acc, H4 D = some (.lst acc) ∧ acc.length < sizeLine ∧ Nx (upd H4 D (.lst (acc ++ [y]))) else Nx H3) := by
  have hl : vs0.length = xs.length := by rw [hv, List.length_map]
  refine lc_it w (fun j H => ∃ ts, H D = some (.lst ts) ∧ Paired (Rel H) ts ((xs.take j).map f) ∧ ts.length = j ∧ Same H1 H) ⟨[], upd_same, .nil, rfl, same_new nD⟩ (fun i H _ p => hG H (by obtain ⟨_, _, _, _, s⟩ := p; exact s)) ?_ ?_
  · rintro i x H H' hi ⟨ts, eD, pr, tl, s⟩ ⟨rfl, hx⟩
    obtain ⟨b, hb⟩ : ∃ b, xs[i]? = some b := ⟨_, List.getElem?_eq_getElem (by omega)⟩
    have ex : x = e b := by
      rw [hv, List.getElem?_map, hb] at hx
      exact (Option.some.inj hx).symm
    subst ex
    have z := hs i b _ (fun y H4 => ∃ acc, H4 D = some (.lst acc) ∧ acc.length < sizeLine ∧ ∃ ts, upd H4 D (.lst (acc ++ [y])) D = some (.lst ts) ∧ Paired (Rel (upd H4 D (.lst (acc ++ [y])))) ts ((xs.take (i + 1)).map f) ∧ ts.length = i + 1 ∧ Same H1 (upd H4 D (.lst (acc ++ [y])))) hb s (by rw [eD]; simp) fun H4 y s4 ry => by
      refine ⟨ts, s4 _ _ eD, by rw [sizeLine_eq]; omega, ts ++ [y], upd_same, ?_, by rw [List.length_append, tl]; rfl, fun c o ec => ?_⟩
      · have kp : KeepB D H4 (upd H4 D (.lst (ts ++ [y]))) := fun c o nc ec => by rw [upd_ne nc]; exact ec
        have k4 : KeepB D H' H4 := fun c o _ ec => s4 _ _ ec
        rw [List.take_add_one, hb, Option.toList_some, List.map_append]
        exact Paired.add (Paired.mapP pr fun v c r => mono _ _ _ _ kp (mono _ _ _ _ k4 r)) (mono _ _ _ _ kp ry)
      · rw [upd_ne (ne_of_none ec nD)]
        exact s4 _ _ (s _ _ ec)
    exact z
  · rintro H ⟨ts, eD, pr, tl, s⟩
    rw [hl, List.take_length] at pr
    exact hd H ts s eD pr
end Lk
set_option Elab.async false
set_option linter.all false
set_option maxRecDepth 100000
set_option maxHeartbeats 8000000
/-! Part M: dict comprehensions whose keys are tuples of ints and texts. -/
namespace Lk
open PySem PySem.Spec PyProof.Rows L2
/-- what such a comprehension asks, over what is walked -/
def tDcT (wi : TI) (g : TG) (tt : TT) (tk tv : TE) (vs : List Nat) : TE := fun σ H Q => wi σ H fun J H1 => ∀ D, H1 D = none → ∃ W : Nat → Nat → Hp → Prop, (∃ m, W 0 m (upd H1 D (.dT []))) ∧ ∀ i m H, W i m H → (J.stop i H ∧ Q (.ref D) H) ∨
  (J.go i H ∧ ∃ N : Hp → Prop, (∀ H', N H' → ∃ m', m' < m ∧ W (i + 1) m' H') ∧ ∀ x H', J.yld i H x H' → g x (wipe σ vs) H' fun σ2 H2 => wipe σ2 vs = wipe σ vs ∧ tt σ2 H2 fun b H3 => if b = true then tk σ2 H3 fun y H4 => tv σ2 H4 fun z H5 =>
    ∃ kvs k c, y = .ref c ∧ H5 D = some (.dT kvs) ∧ H5 c = some (.tup (k.map kV)) ∧ kvs.length < sizeLine ∧ N (upd H5 D (.dT (putK kvs k z))) else N H3)
/-- one pair put in -/
theorem put_dT {X : Cx} {pins : List (Addr × Obj)} {σ : L2.St} {H : Hp} {s : Shared} {E : Value → Shared → Prop} {D c : Addr} {kvs : List (List Key × V)} {k : List Key} {v : V} {r : Value} {Q : Unit → Shared → Prop} (room : X.A.units < cLine) (I : Inv X pins σ H s) (eD : H D = some (.dT kvs))
    (ec : H c = some (.tup (k.map kV))) (few : kvs.length < sizeLine) (rv : RelV v r) (go : ∀ s', Inv X pins σ (upd H D (.dT (putK kvs k v))) s' → Q () s') : wpAny (model X.prog X.w) X.A (dictSet D (.ref c) r) Q E s := by
  obtain ⟨z, nsys, xs, rel, dd⟩ := dt_of I.hok eD
  have few2 : xs.length ≤ sizeLine := by rw [← Paired.length rel] <;> exact z
  have few3 : (putK kvs k v).length ≤ sizeLine := by have := length_putK kvs k v; omega
  refine wpAny_dictSet_heap (hsz := few2) room (key_of I.hok ec) dd fun h' dd' but => go _ ?_
  obtain ⟨o, es, ep, at_, q2, q3, q4, _, q5⟩ := dd'
  refine d_write I (by rw [eD]; exact True.intro) but ⟨o, at_⟩ ⟨few3, nsys, _, (rel.put k ec rv).keeps fun b ys eb => ?_, o, es, ep, at_, q2, q3, q4, q5⟩
  rw [upd_ne (ne_of eb eD (fun z => nomatch z))] <;> exact eb
/-- the comprehension's block, run -/
theorem core_dT {X : Cx} {pins : List (Addr × Obj)} {s : Shared} {σ : L2.St} {H : Hp} {Q : VK} {ek ev tg it : Expr} {ifs : List Expr} {sc : Scope} {own : List (Str × Nat)} {pos pos2 : Pos} {wi : TI} {g : TG} {tt : TT} {tk tv : TE} {use : Option (Value → Sem Unit)} {Qf : Value → Shared → Prop}
    (calm : X.calm = true) (nd : X.N.Nodup) (room : X.A.units < cLine) (I : Inv X pins σ H s) (pi : PI X tg it wi) (bo : BlkOk X.N X.env.scope sc own)
    (pg : ∀ s H C cl fp, PG (X.blk s H sc (compEnvC sc cl C X.env) fp) tg g) (pt : ∀ s H C cl fp, PTs (X.blk s H sc (compEnvC sc cl C X.env) fp) ifs tt) (pk : ∀ s H C cl fp, PE (X.blk s H sc (compEnvC sc cl C X.env) fp) ek tk) (pe : ∀ s H C cl fp, PE (X.blk s H sc (compEnvC sc cl C X.env) fp) ev tv)
    (fold : ∀ x, foldedSetIterable it X.env x = pure x) (want : tDcT wi g tt tk tv (own.map (·.2)) σ H Q) (leave : ∀ D C s' m H', Inv X pins σ H' s' → Q (.ref D) H' → s'.heap.Ns C m → FpOk X pins H' C → compPost (model X.prog X.w) X.A X.xe use Qf (.ref D) C (.ok .next) s') :
    wpAny (model X.prog X.w) X.A (comprehension (.DictComp ek ev [⟨tg, it, ifs, 0⟩] sc pos) sc X.env pos2 newDict false (eval it X.env) use) Qf X.xe s := by
  have clo : ∀ y ∈ sc.names, y.2 = .free → ∃ c, X.env.cells.lookup y.1 = some c := fun y hy e => (bo.free y hy e).elim (fun q => I.ok.has _ (.inl q)) fun q => I.ok.has _ (.inr q)
  refine wpAny_comprehension_free (use := use) rfl fold (closure_ok clo) bo.kind (fun y hy e => by rw [bo.uniq y hy, e]) (thn (pi.run pins s σ H _ I want) fun _ s1 go1 => thn go1 fun _ s2 go2 => ?_)
  obtain ⟨itr, fp, tn, J, H2, rfl, I2, T, at2, free2, q⟩ := go2
  refine wpAny_newObj_type (newEnv_comp ?_)
  have nD : H2 s2.heap.objs.size = none := I2.hok.fresh (Nat.le_refl _)
  obtain ⟨W, ⟨m0, w0⟩, turn⟩ := q _ nD
  have big2 : sysModules < s2.heap.objs.size := I2.big
  generalize eD : s2.heap.objs.size = D at nD w0 turn ⊢
  have I3 : Inv X pins σ (upd H2 D (.dT [])) { s2 with heap := s2.heap.push { cls := .type "dict", data := .dict #[] } } :=
    I2.laid (t' := s2.toks) (fun b o e => Heap.get?_push_of_some _ e) (Nat.le_of_eq eD) (by rw [← eD]; exact dt_empty s2.heap big2)
  have old : ∀ b ∈ fp, b < s2.heap.objs.size := fun b hb => by
    obtain ⟨o, e, _⟩ := T.obj _ _ at2 b hb
    exact Heap.lt_size e
  have at3 : tn 0 (s2.heap.push { cls := .type "dict", data := .dict #[] }) := T.keep _ _ _ at2 fun b _ o e => Heap.get?_push_of_some _ e
  have sz3 : (s2.heap.push { cls := .type "dict", data := .dict #[] }).objs.size = s2.heap.objs.size + 1 := Heap.size_push ..
  generalize e3 : ({ s2 with heap := s2.heap.push { cls := .type "dict", data := .dict #[] } } : Shared) = s3 at I3 ⊢
  have h3 : s3.heap = s2.heap.push { cls := .type "dict", data := .dict #[] } := by rw [← e3]
  rw [← h3] at at3 sz3
  have free3 : ∀ b ∈ fp, FpOk X pins (upd H2 D (.dT [])) b ∧ b < s3.heap.objs.size := fun b hb =>
    ⟨⟨by rw [upd_ne (by rw [← eD]; exact Nat.ne_of_lt (old b hb))]; exact (free2 b hb).1, (free2 b hb).2⟩, by rw [sz3]; exact Nat.lt_succ_of_lt (old b hb)⟩
  have I4 := block_start I3 bo nd free3
  generalize eC : cellsFrom (s3.heap.objs.size + 1) sc.names (cloFrom X.env.cells sc.names []) = cl at I4 ⊢
  have g3 := pg s3 (upd H2 D (.dT [])) s3.heap.objs.size cl fp; have t3 := pt s3 (upd H2 D (.dT [])) s3.heap.objs.size cl fp
  have k3 := pk s3 (upd H2 D (.dT [])) s3.heap.objs.size cl fp; have v3 := pe s3 (upd H2 D (.dT [])) s3.heap.objs.size cl fp
  have out3 : ∀ b ∈ fp, upd H2 D (.dT []) b = none := fun b hb => (free3 b hb).1.1
  show codeAny _ _ (.compStart (.DictComp ek ev [⟨tg, it, ifs, 0⟩] sc pos) 0 (.ref itr) (.ref D) (compEnvC sc cl s3.heap.objs.size X.env)) (compPost (model X.prog X.w) X.A X.xe use Qf (.ref D) s3.heap.objs.size) { s3 with heap := pushCells (s3.heap.push { cls := .type "dict", data := .dict #[] }) sc.names }
  generalize eE : compEnvC sc cl s3.heap.objs.size X.env = ce at I4 g3 t3 k3 v3 ⊢
  have loc : ce.locals = s3.heap.objs.size := by rw [← eE] <;> rfl
  generalize eH : upd H2 D (.dT []) = H3 at I3 I4 g3 t3 k3 v3 w0 out3 free3
  generalize e4 : ({ s3 with heap := pushCells (s3.heap.push { cls := .type "dict", data := .dict #[] }) sc.names } : Shared) = s4 at I4 ⊢
  have at4 : tn 0 s4.heap := T.keep _ _ _ at3 fun b _ o e => by rw [← e4]; exact pushCells_keeps _ _ _ _ (Heap.get?_push_of_some _ e)
  have still : ∀ {σ' : L2.St} {H' : Hp} {s' : Shared}, Inv (X.blk s3 H3 sc ce fp) [] σ' H' s' → (∀ b ∈ fp, H' b = none) → ∀ b ∈ fp, FpOk (X.blk s3 H3 sc ce fp) [] H' b := fun {σ' H' s'} J' n b hb =>
    ⟨n b hb, (J'.ok.exf b hb).1, J'.ok.exfs b hb, .inl hb, fun x c e => (J'.ok.exf b hb).2 x c e, fun p hp => absurd (show p ∈ ([] : List (Addr × Obj)) ++ [] from hp) (by simp)⟩
  suffices loop : codeAny (model X.prog X.w) X.A (.compLoop (.DictComp ek ev [⟨tg, it, ifs, 0⟩] sc pos) 0 (.ref itr) (.ref D) ce) (compPost (model X.prog X.w) X.A X.xe use Qf (.ref D) s3.heap.objs.size) s4 from codeAny_compStart_dict loop (T.self X.A 0 _ _ _ at4 loop)
  refine compLoop_anyD (fun n s' => ∃ i H', Inv (X.blk s3 H3 sc ce fp) [] (wipe σ (own.map (·.2))) H' s' ∧ tn i s'.heap ∧ (∀ b ∈ fp, H' b = none) ∧ W i n H') (fun n s5 hI => ?_) m0 ⟨0, H3, I4, at4, out3, w0⟩
  obtain ⟨i, H5, I5, at5, out5, w5⟩ := hI
  rcases turn i n H5 w5 with ⟨stop, fin⟩ | ⟨go, N, less, step⟩
  · refine thnF (T.done (X.blk s3 H3 sc ce fp) rfl rfl rfl calm i [] s5 _ H5 (fun _ _ => False) I5 (still I5 out5) at5 stop) fun r s6 ⟨er, I6⟩ => ?_
    subst er
    have I7 : Inv X pins σ H5 s6 := I3.call' (ch := fp) I6.os I6.base I6.hok I6.bare fun b hb => let z := (free3 b hb).1.2; ⟨z.2.2.1, z.1, z.2.2.2.1, z.2.2.2.2⟩
    obtain ⟨m, ns, _⟩ := I6.loc
    have ns2 : s6.heap.Ns ce.locals m := ns
    have nL : H5 ce.locals = none := I6.free
    rw [loc] at ns2 nL
    exact leave D s3.heap.objs.size s6 m H5 I7 fin ns2 (I3.fpOk (Nat.le_refl _) nL)
  · refine thnF (T.item (X.blk s3 H3 sc ce fp) rfl rfl rfl calm i [] s5 _ H5 (fun _ _ => False) I5 (still I5 out5) at5 go) fun r s6 ⟨u, er, go6⟩ => ?_
    subst er
    refine thnF go6 fun _ s7 ⟨x, H7, I7, r7, y7, at7, out7⟩ => ?_
    refine thnF (g3.run _ s7 _ H7 x u _ (I7.pinned (still I7 out7) (T.obj _ _ at7)) r7 (step x H7 y7)) fun _ s8 ⟨σ8, H8, I8, wi8, q8⟩ => thnF (t3.run _ s8 σ8 H8 _ I8 q8) fun b s9 ⟨H9, I9, q9⟩ => ?_
    have next : ∀ {s' : Shared} {H' : Hp}, Inv (X.blk s3 H3 sc ce fp) ([] ++ pinsAt fp s7.heap) σ8 H' s' → N H' → ∃ m, m < n ∧ ∃ i H', Inv (X.blk s3 H3 sc ce fp) [] (wipe σ (own.map (·.2))) H' s' ∧ tn i s'.heap ∧ (∀ b ∈ fp, H' b = none) ∧ W i m H' := fun {s' H'} J' nx => by
      obtain ⟨m', lt, w'⟩ := less H' nx
      have pinned : ∀ b ∈ fp, ∀ o, s7.heap.get? b = some o → s'.heap.get? b = some o ∧ H' b = none := fun b hb o e => let z := J'.pin (b, o) (List.mem_append_right _ (List.mem_append_right _ (mem_pinsAt hb e))); ⟨z.1, z.2.1⟩
      refine ⟨m', lt, i + 1, H', (J'.unpinned (pins := [])).weak (by rw [← wi8, wipe_length]) (fun j v e => ?_), T.keep _ _ _ at7 fun b hb o e => (pinned b hb o e).1, fun b hb => ?_, w'⟩
      · rw [← wi8] at e; exact (wipe_some e).1
      · obtain ⟨o, e, _⟩ := T.obj _ _ at7 b hb; exact (pinned b hb o e).2
    cases b with
    | false => simp only [Bool.false_eq_true, if_false] at q9 ⊢; exact next I9 q9
    | true =>
      simp only [if_true] at q9 ⊢
      refine thnF (k3.run _ s9 σ8 H9 _ I9 q9) fun z1 sA ⟨y, HA, IA, rA, qA⟩ => thnF (v3.run _ sA σ8 HA _ IA qA) fun z2 sB ⟨z, HB, IB, rB, kvs, k, c, ey, eD', ec, few, nx⟩ => ?_
      subst ey
      cases (show z1 = Value.ref c from rA)
      exact put_dT (X := X.blk s3 H3 sc ce fp) room IB eD' ec few rB fun sC IC => next IC nx
/-- the comprehension as a value -/
theorem pe_dcT {X : Cx} {ek ev tg it : Expr} {ifs : List Expr} {sc : Scope} {own : List (Str × Nat)} {pos : Pos} {wi : TI} {g : TG} {tt : TT} {tk tv : TE} (calm : X.calm = true) (nd : X.N.Nodup) (room : X.A.units < cLine) (pi : PI X tg it wi) (bo : BlkOk X.N X.env.scope sc own)
    (pg : ∀ s H C cl fp, PG (X.blk s H sc (compEnvC sc cl C X.env) fp) tg g) (pt : ∀ s H C cl fp, PTs (X.blk s H sc (compEnvC sc cl C X.env) fp) ifs tt) (pk : ∀ s H C cl fp, PE (X.blk s H sc (compEnvC sc cl C X.env) fp) ek tk) (pe : ∀ s H C cl fp, PE (X.blk s H sc (compEnvC sc cl C X.env) fp) ev tv)
    (fold : ∀ x, foldedSetIterable it X.env x = pure x := by intro _; rfl) : PE X (.DictComp ek ev [⟨tg, it, ifs, 0⟩] sc pos) (tDcT wi g tt tk tv (own.map (·.2))) := by
  refine ⟨fun pins s σ H Q I want => ?_⟩
  rw [arm_eval_DictComp] <;> refine core_dT calm nd room I pi bo pg pt pk pe fold want fun D C s' m H' I' q ns ⟨f0, f1, f2, f3, f4, f5⟩ => ⟨m, ns, fun h'' but => ?_⟩
  exact ⟨.ref D, H', I'.turned (t' := s'.toks) (fun b o nb e => (but.2 b nb).trans e) f0 f1 f3 f4 f5, rfl, q⟩
end Lk
set_option Elab.async false
set_option linter.all false
set_option maxRecDepth 100000
set_option maxHeartbeats 4000000
/-! Part T: new tuples that have no dict of their own; their methods. -/
namespace Lk
open PySem PySem.Spec PyProof.Rows L2
/-- a new tuple that is known as an object: no dict -/
def TupX (H : Hp) (a : Addr) (xs : List V) : Prop := ∃ ob, H a = some (.frz ob (.tup xs)) ∧ ob.cls = .type "tuple" ∧ ob.dict = none
theorem TupX.sq {K : PySem.W.Frag} {H : Hp} {a : Addr} {xs : List V} (h : TupX H a xs) : SqT K H a xs := by
  obtain ⟨ob, e, _⟩ := h
  exact .inl (.inr ⟨ob, e⟩)
theorem TupX.same {H H' : Hp} {a : Addr} {xs : List V} (h : TupX H a xs) (s : Same H H') : TupX H' a xs := by
  obtain ⟨ob, e, r⟩ := h
  exact ⟨ob, s _ _ e, r⟩
/-- tuple(x), x a list: a new tuple without a dict -/
def kTupX (K : PySem.W.Frag) (x : V) (H : Hp) (Q : VK) : Prop := ∃ l xs, x = .ref l ∧ SqL K H l xs ∧ ∀ a H', H a = none → Same H H' → TupX H' a xs → Q (.ref a) H'
theorem pe_tupleX {X : Cx} {a : Expr} {ta : TE} {u pos : Pos} (hg : Gl X "tuple") (hm : X.mg "tuple" = none) (ha : PE X a ta) (na : starEach [a] X.env = (false, eval a X.env) :: starEach [] X.env := by rfl) :
    PE X (.Call (.Name "tuple" u) [a] [] pos) (tThen ta (kTupX X.K)) := by
  refine ⟨fun pins s σ H Q I h => Call_ (ld_blt I hg hm boot_tuple (callWith_type1 (one_arg ha I h (fun v s2 x H2 I2 r q => ?_) na) na rfl))⟩
  obtain ⟨l, xs, rfl, sq, q⟩ := q
  obtain rfl : v = .ref l := r
  obtain ⟨its, rv, pl, few⟩ := I2.list sq
  refine call_tuple_list pl.isList (fun h' keep => ?_) (by rw [List.size_toArray, ← rv.length] <;> exact few)
  have I3 : Inv X pins σ H2 { s2 with heap := h' } := I2.kept (t' := s2.toks) keep
  have at_ : (h'.push { cls := .type "tuple", data := .seq its.toArray }).get? h'.objs.size = some { cls := .type "tuple", data := .seq its.toArray } := Heap.get?_push_size _ rfl
  have I4 : Inv X pins σ (upd H2 h'.objs.size (.frz { cls := .type "tuple", data := .seq its.toArray } (.tup xs))) { s2 with heap := h'.push { cls := .type "tuple", data := .seq its.toArray } } :=
    I3.laid (t' := s2.toks) (fun b o e => Heap.get?_push_of_some _ e) (Nat.le_refl _) (show ObjOk X.prog X.w _ _ _ (.frz _ (.tup xs)) from ⟨at_, few, its, rv, IsTup.new _ _⟩)
  have fr := I3.hok.fresh (Nat.le_refl h'.objs.size)
  exact ⟨.ref h'.objs.size, _, I4, rfl, q _ _ fr (same_new fr) ⟨_, upd_same, rfl, rfl⟩⟩
/-- t.m(e ..), t such a tuple -/
def tBMX (r : V → List V → Hp → VK → Prop) (to : TE) (t : TA) : TE := fun σ H Q => to σ H fun x H1 => (∃ a xs, x = .ref a ∧ TupX H1 a xs) ∧ t σ H1 fun vs H2 => r x vs H2 Q
theorem pe_bmX {X : Cx} {o e : Expr} {es : List Expr} {to : TE} {t : TA} {name : Str} {apos cpos : Pos} {id : String} {r : V → List V → Hp → VK → Prop} (slot : Slot "tuple" name id) (hty : typeOf (.builtin id) = pure (.type "method_descriptor")) (hm : MtR X id r) (ho : PE X o to) (ha : PA X (e :: es) t)
    (hbase : attributeBase o name X.env (eval o X.env) = eval o X.env := by rfl)
    (hfew : ((backTo cpos (starEach (e :: es) X.env)).all (fun y => !y.1) && (backToKw cpos (keywordEach [] X.env)).all (fun y => y.1.isSome) && decide ((e :: es).length + ([] : List Keyword).length + (if ([] : List Keyword).isEmpty then 0 else 1) < 30)) = true := by rfl)
    (hline : (apos.endLine == cpos.line) = true := by rfl) (hs : starEach (e :: es) X.env = (false, eval e X.env) :: starEach es X.env := by rfl) (hpl : (backTo cpos (starEach es X.env)).any (·.1) = false := by rfl) : PE X (.Call (.Attribute o name apos) (e :: es) [] cpos) (tBMX r to t) := by
  refine ⟨fun pins s σ H Q I h => wpAny_Call_method_late hbase hfew hline rfl (thn (ho.run pins s σ H _ I h) fun v s1 ⟨x, H1, I1, r1, ⟨a, xs, ex, ob, ea, ec, ed⟩, q1⟩ => ?_)⟩
  subst ex
  obtain rfl : v = .ref a := r1
  obtain ⟨at_, _⟩ := (show ObjOk X.prog X.w H1 s1.heap a (.frz ob (.tup xs)) from I1.hok a _ ea)
  refine ⟨"tuple", id, PySem.F.plainAttrs_tuple, slot, hty, ⟨ob, at_, ec⟩, fun b e => ?_, ?_⟩
  · cases e
    exact ⟨ob, at_, ed⟩
  have go := ha.run cpos pins s1 σ H1 _ I1 q1
  rw [hs] at go ⊢
  refine Calls.callWith_builtin (by show (false || (backTo cpos (starEach es X.env)).any (·.1)) = false; rw [hpl] <;> rfl) (Calls.evalArgs_plain ?_)
  exact thn go fun us s2 ⟨vs, H2, I2, r2, q2⟩ => hm pins s2 σ H2 (.ref a) vs (.ref a) us Q I2 rfl r2 q2
end Lk
set_option Elab.async false
set_option linter.all false
set_option maxRecDepth 100000
set_option maxHeartbeats 4000000
/-! Part E: == by an own __eq__, whatever it answers and whatever stands on the right. -/
namespace Lk
open PySem PySem.Spec PyProof.Rows L2
/-- x == y, x an instance of the class at C whose __eq__ keeps the promise sp -/
def rEqI (K : PySem.W.Frag) (C : Addr) (sp : Sp) : R2 := fun x y H Q => ∃ a dx fs t, x = .ref a ∧ H a = some (.ins C dx fs) ∧ TyX K H y t ∧ PySem.W.notFirst K C t = true ∧ sp [x, y] H (fun v H' => ∃ b, v = .bl b ∧ Q v H') E0
theorem op_eqI {X : Cx} {C f : Addr} {n : Nat} {fd : FuncData} {ps : List Str} {sp : Sp} (F : FnOk X.prog X.w X.K X.mg X.base CX0 n f fd ps sp) (hs : PySem.W.findIn X.K (.ref C) "__eq__" = some (some (.ref f))) (hf : PySem.W.isFn X.K (.ref f) = true) (hb : Binds X.K fd ps []) (hr : Room n X.A) :
    OpR X (compareOp .Eq) (rEqI X.K C sp) := by
  rintro pins s σ H x y v u Q I rx ry ⟨a, dx, fs, t, rfl, ha, ty, nf, hsp⟩
  obtain rfl : v = .ref a := rx
  obtain ⟨mA, J, _⟩ := ins_get I.hok ha
  obtain ⟨od, J, _⟩ := J.look
  obtain ⟨m, fr⟩ := I.fr
  obtain ⟨Z, kit, hZ, _⟩ := kit_of I ry ty
  show wpAny (model X.prog X.w) X.A (richCompare .Eq (.ref a) u) (EP X pins σ Q) X.xe s
  refine PySem.W.cmp_K (op := .Eq) (tb := t) hr.units0 fr I.ok.mod.kin J (kit.ty _ _ I.kIn hZ) nf hs hf ?_
  have rel : Vals [V.ref a, y] [Value.ref a, u] := .cons rfl (.cons ry .nil)
  have len := F.len _ _ _ _ hsp
  have bind := hb s [Value.ref a, u] I.kIn (by simpa using len)
  rw [List.append_nil] at bind
  refine wpAny_call (codeAny_mono (F.run X.A X.stack s H ⟨[.ref a, u], []⟩ [.ref a, u] [.ref a, y] _ E0 hr I.env0 bind rel hsp) fun r s' hq => ?_)
  cases r with
  | error e => exact hq.elim
  | ok fl =>
    cases fl with
    | ret w =>
      obtain ⟨z, H', J', rz, b, rfl, q⟩ := I.after hq
      cases rz
      exact ⟨.bl b, H', J', rfl, q⟩
    | next => exact False.elim hq
    | brk => exact False.elim hq
    | cont => exact False.elim hq
/-- the class at C has an own __eq__ at f, no __ne__, and no class above it but object -/
def NeC (K : PySem.W.Frag) (C f : Addr) : Prop := ∀ (h : Heap) (x : Addr) (o : Obj), K.In h → h.get? x = some o → o.cls = .ref C → h.OwnEqNoNe x C f "object" [.type "object"]
/-- x != y of two instances of such a class -/
def rNeI (C : Addr) (sp : Sp) : R2 := fun x y H Q => ∃ a b dx dy fs gs, x = .ref a ∧ y = .ref b ∧ H a = some (.ins C dx fs) ∧ H b = some (.ins C dy gs) ∧ sp [x, y] H (fun v H' => ∃ r, v = .bl r ∧ Q (.bl (!r)) H') E0
theorem op_neI {X : Cx} {C f : Addr} {n : Nat} {fd : FuncData} {ps : List Str} {sp : Sp} (F : FnOk X.prog X.w X.K X.mg X.base CX0 n f fd ps sp) (N : NeC X.K C f) (hb : Binds X.K fd ps []) (hr : Room (n + 1) X.A) : OpR X (compareOp .NotEq) (rNeI C sp) := by
  rintro pins s σ H x y v u Q I rx ry ⟨a, b, dx, dy, fs, gs, rfl, rfl, ha, hb2, hsp⟩
  obtain rfl : v = .ref a := rx
  obtain rfl : u = .ref b := ry
  obtain ⟨mA, J, _⟩ := ins_get I.hok ha
  obtain ⟨mB, J2, _⟩ := ins_get I.hok hb2
  obtain ⟨od, J, _⟩ := J.look
  obtain ⟨od2, J2, _⟩ := J2.look
  have sb : Sub X (n + 1) X.A := ⟨hr, rfl⟩
  have e := I.env0
  have e1 : Env0 X.prog X.w X.K X.mg X.base X.A.in1 X.stack s H := ⟨by rw [sb.in1.fr]; exact e.frames, e.mod, e.bs, e.bsz, e.funs, e.frf, e.hok, e.bare⟩
  have rel : Vals [V.ref a, V.ref b] [Value.ref a, Value.ref b] := .cons rfl (.cons rfl .nil)
  have len := F.len _ _ _ _ hsp
  have bind := hb s [Value.ref a, Value.ref b] I.kIn (by simpa using len)
  rw [List.append_nil] at bind
  obtain ⟨hp, g, d, t, os⟩ := s
  refine compareOp_ne_ownEq PySem.F.cmp_object (N hp a _ I.kIn J.at_ J.cls) J2.at_ J2.cls (by have := hr.units; omega) ?_
  refine wpAny_call (codeAny_mono (F.run X.A.in1 X.stack _ H ⟨[.ref a, .ref b], []⟩ [.ref a, .ref b] [.ref a, .ref b] _ E0 sb.in1.room e1 bind rel hsp) fun r s' hq => ?_)
  cases r with
  | error e => exact hq.elim
  | ok fl =>
    cases fl with
    | ret w =>
      obtain ⟨z, H', J', rz, r, rfl, q⟩ := I.after hq
      cases rz
      exact ⟨r, rfl, .bl (!r), H', J', rfl, q⟩
    | next => exact False.elim hq
    | brk => exact False.elim hq
    | cont => exact False.elim hq
/-- run such a method, at A: what it answers comes back in the abstract -/
theorem run_own {X : Cx} {f : Addr} {n : Nat} {fd : FuncData} {ps : List Str} {sp : Sp} {pins : List (Addr × Obj)} {s : Shared} {σ : L2.St} {H : Hp} {xs : List V} {us : List Value} {R : VK} {A : Around} (F : FnOk X.prog X.w X.K X.mg X.base CX0 n f fd ps sp) (hb : Binds X.K fd ps []) (sb : Sub X n A)
    (I : Inv X pins σ H s) (rel : Vals xs us) (hsp : sp xs H R E0) {Q : Value → Shared → Prop} {E : Value → Shared → Prop} (go : ∀ z v H' s', Inv X pins σ H' s' → RelV z v → R z H' → Q v s') : wpAny (model X.prog X.w) A (call (.ref f) us) Q E s := by
  have e := I.env0
  have e1 : Env0 X.prog X.w X.K X.mg X.base A X.stack s H := ⟨by rw [sb.fr]; exact e.frames, e.mod, e.bs, e.bsz, e.funs, e.frf, e.hok, e.bare⟩
  have len := F.len _ _ _ _ hsp
  have bind := hb s us I.kIn (by rw [List.append_nil, ← rel.length]; exact len)
  rw [List.append_nil] at bind
  refine wpAny_call (codeAny_mono (F.run A X.stack s H ⟨us, []⟩ us xs _ E0 sb.room e1 bind rel hsp) fun r s' hq => ?_)
  cases r with
  | error e => exact hq.elim
  | ok fl =>
    cases fl with
    | ret w =>
      obtain ⟨z, H', J', rz, q⟩ := I.after hq
      exact go z w H' s' J' rz q
    | next => exact False.elim hq
    | brk => exact False.elim hq
    | cont => exact False.elim hq
/-- x in y, x not in y: y an instance of the class at C with its own __contains__ -/
def rInI (C : Addr) (sp : Sp) (neg : Bool) : R2 := fun x y H Q => ∃ a dx fs, y = .ref a ∧ H a = some (.ins C dx fs) ∧ sp [y, x] H (fun v H' => ∃ b, v = .bl b ∧ Q (.bl (if neg then !b else b)) H') E0
theorem op_inI {X : Cx} {C f : Addr} {n : Nat} {fd : FuncData} {ps : List Str} {sp : Sp} (F : FnOk X.prog X.w X.K X.mg X.base CX0 n f fd ps sp) (hs : PySem.W.findIn X.K (.ref C) "__contains__" = some (some (.ref f))) (hf : PySem.W.isFn X.K (.ref f) = true) (hb : Binds X.K fd ps []) (hr : Room n X.A) :
    OpR X (compareOp .In) (rInI C sp false) := by
  rintro pins s σ H x y v u Q I rx ry ⟨a, dx, fs, rfl, ha, hsp⟩
  obtain rfl : u = .ref a := ry
  obtain ⟨mA, J, _⟩ := ins_get I.hok ha
  obtain ⟨od, J, _⟩ := J.look
  obtain ⟨m, fr⟩ := I.fr
  refine PySem.W.in_K fr I.ok.mod.kin J hs hf (run_own F hb ⟨hr, rfl⟩ I (show Vals [V.ref a, x] [Value.ref a, v] from .cons rfl (.cons rx .nil)) hsp fun z w H' s' J' rz ⟨b, ez, q⟩ => ?_)
  subst ez
  cases rz
  exact wpAny_truthy_bool ⟨.bl b, H', J', rfl, q⟩
theorem op_notInI {X : Cx} {C f : Addr} {n : Nat} {fd : FuncData} {ps : List Str} {sp : Sp} (F : FnOk X.prog X.w X.K X.mg X.base CX0 n f fd ps sp) (hs : PySem.W.findIn X.K (.ref C) "__contains__" = some (some (.ref f))) (hf : PySem.W.isFn X.K (.ref f) = true) (hb : Binds X.K fd ps []) (hr : Room n X.A) :
    OpR X (compareOp .NotIn) (rInI C sp true) := by
  rintro pins s σ H x y v u Q I rx ry ⟨a, dx, fs, rfl, ha, hsp⟩
  obtain rfl : u = .ref a := ry
  obtain ⟨mA, J, _⟩ := ins_get I.hok ha
  obtain ⟨od, J, _⟩ := J.look
  obtain ⟨m, fr⟩ := I.fr
  refine PySem.W.notIn_K fr I.ok.mod.kin J hs hf (run_own F hb ⟨hr, rfl⟩ I (show Vals [V.ref a, x] [Value.ref a, v] from .cons rfl (.cons rx .nil)) hsp fun z w H' s' J' rz ⟨b, ez, q⟩ => ?_)
  subst ez
  cases rz
  exact wpAny_truthy_bool ⟨.bl (!b), H', J', rfl, q⟩
/-- len(x), x an instance of the class at C with its own __len__ -/
def rLenI (C : Addr) (sp : Sp) : List V → Hp → VK → Prop := fun xs H Q => ∃ a dx fs, xs = [.ref a] ∧ H a = some (.ins C dx fs) ∧ sp xs H (fun v H' => ∃ k : Int, v = .int k ∧ 0 ≤ k ∧ k < 1000000 ∧ Q (.int k) H') E0
theorem call_lenI {X : Cx} {C f : Addr} {n : Nat} {fd : FuncData} {ps : List Str} {sp : Sp} (F : FnOk X.prog X.w X.K X.mg X.base CX0 n f fd ps sp) (hs : PySem.W.findIn X.K (.ref C) "__len__" = some (some (.ref f))) (hf : PySem.W.isFn X.K (.ref f) = true) (hb : Binds X.K fd ps []) (hr : Room (n + 1) X.A) :
    CallR X (.builtin "len") (rLenI C sp) := by
  rintro pins s σ H xs us Q I rel ⟨a, dx, fs, rfl, ha, hsp⟩
  obtain ⟨u, rfl, ru⟩ := vals1 rel
  obtain rfl : u = .ref a := ru
  obtain ⟨mA, J, _⟩ := ins_get I.hok ha
  obtain ⟨od, J, _⟩ := J.look
  obtain ⟨m, fr⟩ := I.fr
  have sb : Sub X (n + 1) X.A := ⟨hr, rfl⟩
  refine PySem.W.len_K fr I.ok.mod.kin J hs hf (run_own F hb sb.in1 I rel hsp fun z w H' s' J' rz ⟨k, ez, k0, k1, q⟩ => ?_)
  subst ez
  obtain ⟨t, rfl⟩ := rz
  exact ⟨⟨k0, by omega⟩, ⟨.int k, H', J'.tok _, ⟨_, rfl⟩, q⟩⟩
end Lk
set_option Elab.async false
set_option linter.all false
set_option maxRecDepth 100000
set_option maxHeartbeats 4000000
/-! Part Z: zip of two things of which each is a list, a tuple or a text. -/
namespace Lk
open PySem PySem.Spec PyProof.Rows L2
/-- what a zip walks -/
inductive Src where
  | tup (a : Addr) | lst (a : Addr) | txt (z : Str)
def Src.v : Src → V
  | .tup a => .ref a
  | .lst a => .ref a
  | .txt z => .str z
def Src.addr : Src → Option Addr
  | .tup a => some a
  | .lst a => some a
  | .txt _ => none
def SrcAt (K : PySem.W.Frag) : Src → Hp → List V → Prop
  | .tup a, H, xs => SqT K H a xs
  | .lst a, H, xs => SqL K H a xs
  | .txt z, _, xs => xs = z.cps.toList.map fun c => V.str ⟨#[c]⟩
/-- its iterator at the i-th item -/
def ItrAt (it : Addr) (t : Tok) : Src → Nat → Heap → Prop
  | .tup a, i, h => h.IsTupleIter it a i
  | .lst a, i, h => h.IsListIter it a i
  | .txt z, i, h => h.IsStrIter it (strIterType z) z t i
theorem ItrAt.obj {it : Addr} {t : Tok} {i : Nat} {h : Heap} : ∀ {sr : Src}, ItrAt it t sr i h → ∃ o, h.get? it = some o ∧ ∀ v, o.data ≠ .cell v
  | .tup _, ⟨o, e, _, d⟩ => ⟨o, e, fun v q => by rw [d] at q; cases q⟩
  | .lst _, ⟨o, e, _, d⟩ => ⟨o, e, fun v q => by rw [d] at q; cases q⟩
  | .txt _, ⟨o, e, _, d⟩ => ⟨o, e, fun v q => by rw [d] at q; cases q⟩
theorem ItrAt.keep {it : Addr} {t : Tok} {i : Nat} {h h' : Heap} (k : ∀ o, h.get? it = some o → h'.get? it = some o) : ∀ {sr : Src}, ItrAt it t sr i h → ItrAt it t sr i h'
  | .tup _, ⟨o, e, r⟩ => ⟨o, k o e, r⟩
  | .lst _, ⟨o, e, r⟩ => ⟨o, k o e, r⟩
  | .txt _, ⟨o, e, r⟩ => ⟨o, k o e, r⟩
theorem SrcAt.one {X : Cx} {pins : List (Addr × Obj)} {σ : L2.St} {H : Hp} {s : Shared} (I : Inv X pins σ H s) : ∀ {sr : Src} {xs ys : List V}, SrcAt X.K sr H xs → SrcAt X.K sr H ys → xs = ys
  | .tup _, _, _, h, g => I.tuple_inj h g
  | .lst _, _, _, h, g => I.list_inj h g
  | .txt _, _, _, h, g => Eq.trans h (Eq.symm g)
theorem vals_back : ∀ {xs : List V} {us : List Value} {i : Nat} {u : Value}, Vals xs us → us[i]? = some u → ∃ x, xs[i]? = some x ∧ RelV x u
  | _, _, _, _, .nil, e => by simp at e
  | _, _, 0, _, .cons r _, e => by simp at e; subst e; exact ⟨_, rfl, r⟩
  | _, _, i + 1, u, .cons _ t, e => by
    obtain ⟨x, h1, h2⟩ := vals_back t (by simpa using e)
    exact ⟨x, by simpa using h1, h2⟩
/-- the items drawn, one after the other -/
theorem src_draws {X : Cx} {pins : List (Addr × Obj)} {σ : L2.St} {H : Hp} {s : Shared} {A : Around} (I : Inv X pins σ H s) (calm : A.handled = none) {it : Addr} {t : Tok} {i : Nat} : ∀ {sr : Src} {xs : List V}, SrcAt X.K sr H xs → ItrAt it t sr i s.heap → (∀ a, sr.addr = some a → a ≠ it) →
    ∃ (fp : List Addr) (Pv : Nat → Value → Prop) (Sv : Nat → Heap → Prop), Draws X.prog X.w A it fp xs.length Pv Sv ∧ Sv i s.heap ∧ (∀ j v, Pv j v → ∃ x, xs[j]? = some x ∧ RelV x v) ∧ (∀ j h, Sv j h → ItrAt it t sr j h) ∧ it ∈ fp ∧ ∀ b ∈ fp, b = it ∨ sr.addr = some b
  | .tup a, xs, at_, st, ne => by
    obtain ⟨its, rv, p, _⟩ := I.tuple at_
    have d := Draws.tuple (prog := X.prog) (w := X.w) calm it a (ne a rfl) its.toArray
    rw [List.size_toArray, ← rv.length] at d
    refine ⟨_, _, _, d, ⟨st, p⟩, fun j v e => ?_, fun j h e => e.1, by simp, fun b hb => ?_⟩
    · exact vals_back rv (by simpa using e)
    · rcases List.mem_cons.mp hb with h | h
      · exact .inl h
      · exact .inr (by rw [List.mem_singleton.mp h]; rfl)
  | .lst a, xs, at_, st, ne => by
    obtain ⟨its, rv, p, _⟩ := I.list at_
    have d := Draws.list (prog := X.prog) (w := X.w) calm it a (ne a rfl) its.toArray
    rw [List.size_toArray, ← rv.length] at d
    refine ⟨_, _, _, d, ⟨st, p.isList⟩, fun j v e => ?_, fun j h e => e.1, by simp, fun b hb => ?_⟩
    · exact vals_back rv (by simpa using e)
    · rcases List.mem_cons.mp hb with h | h
      · exact .inl h
      · exact .inr (by rw [List.mem_singleton.mp h]; rfl)
  | .txt z, xs, at_, st, ne => by
    have e0 : xs = z.cps.toList.map fun c => V.str ⟨#[c]⟩ := at_
    subst e0
    have d := Draws.text (prog := X.prog) (w := X.w) calm it z t
    rw [show z.cps.size = (z.cps.toList.map fun c => V.str ⟨#[c]⟩).length by rw [List.length_map, Array.length_toList]] at d
    refine ⟨_, _, _, d, st, fun j v e => ?_, fun j h e => e, by simp, fun b hb => .inl (List.mem_singleton.mp hb)⟩
    obtain ⟨c, u, e, ev⟩ := e
    subst ev
    exact ⟨.str ⟨#[c]⟩, by rw [List.getElem?_map, Array.getElem?_toList, e]; rfl, ⟨u, rfl⟩⟩
/-- pairs of both, each new -/
def ItzS (K : PySem.W.Frag) (s1 s2 : Src) : It :=
  ⟨fun i H => ∃ xs ys x y, SrcAt K s1 H xs ∧ SrcAt K s2 H ys ∧ xs[i]? = some x ∧ ys[i]? = some y,
    fun i H v H' => ∃ T x y, v = .ref T ∧ H T = none ∧ H' = upd H T (.tup [x, y]) ∧ (∀ xs, SrcAt K s1 H xs → xs[i]? = some x) ∧ ∀ ys, SrcAt K s2 H ys → ys[i]? = some y,
    fun i H => ∃ xs ys, SrcAt K s1 H xs ∧ SrcAt K s2 H ys ∧ i ≤ xs.length ∧ i ≤ ys.length ∧ (i = xs.length ∨ i = ys.length)⟩
/-- the zip's cells lie apart, and apart from what is walked -/
structure ZFar (z TI TO i1 i2 : Addr) (s1 s2 : Src) : Prop where
  a1 : TI ≠ z
  a2 : TO ≠ z
  a3 : TI ≠ TO
  a4 : TI ≠ i1
  a5 : TI ≠ i2
  a6 : TO ≠ i1
  a7 : TO ≠ i2
  a8 : z ≠ i1
  a9 : z ≠ i2
  aA : i1 ≠ i2
  far : ∀ b, s1.addr = some b ∨ s2.addr = some b → b ≠ z ∧ b ≠ TO ∧ b ≠ i1 ∧ b ≠ i2
theorem ZFar.sep {z TI TO i1 i2 : Addr} {s1 s2 : Src} (D : ZFar z TI TO i1 i2 s1 s2) {fp1 fp2 : List Addr} (m1 : i1 ∈ fp1) (m2 : i2 ∈ fp2) (f1 : ∀ b ∈ fp1, b = i1 ∨ s1.addr = some b) (f2 : ∀ b ∈ fp2, b = i2 ∨ s2.addr = some b) : ZipSep2 z TI TO i1 i2 fp1 fp2 where
  TIz := D.a1
  TOz := D.a2
  TITO := D.a3
  TIi1 := D.a4
  mem1 := m1
  zf1 := fun h => (f1 _ h).elim D.a8 fun e => (D.far _ (.inl e)).1 rfl
  Tf1 := fun h => (f1 _ h).elim D.a6 fun e => (D.far _ (.inl e)).2.1 rfl
  TIi2 := D.a5
  mem2 := m2
  zf2 := fun h => (f2 _ h).elim D.a9 fun e => (D.far _ (.inr e)).1 rfl
  Tf2 := fun h => (f2 _ h).elim D.a7 fun e => (D.far _ (.inr e)).2.1 rfl
  sep1_2 := fun h => (f2 _ h).elim D.aA fun e => (D.far _ (.inr e)).2.2.1 rfl
  sep2_1 := fun h => (f1 _ h).elim (fun e => D.aA e.symm) fun e => (D.far _ (.inl e)).2.2.2 rfl
theorem turn_zipS {P : Program} {w : World} {K : PySem.W.Frag} {es : List Expr} {kk : Nat} {tp : Pos} {z TI TO i1 i2 : Addr} {t1 t2 : Tok} {s1 s2 : Src} (D : ZFar z TI TO i1 i2 s1 s2) :
    Turn P w K (.Tuple es kk tp) (ItzS K s1 s2) [z, TI, TO, i1, i2] z (fun i h => IsZip h z TI TO .none ∧ IsTupOf2 h TI (.ref i1) (.ref i2) ∧ (∃ x y, IsTupOf2 h TO x y) ∧ ItrAt i1 t1 s1 i h ∧ ItrAt i2 t2 s2 i h) where
  mem := by simp
  obj := fun i h ⟨hz, hTI, ⟨x, y, hTO⟩, h1, h2⟩ c hc => by
    rcases (show c = z ∨ c = TI ∨ c = TO ∨ c = i1 ∨ c = i2 by simpa using hc) with rfl | rfl | rfl | rfl | rfl
    · exact ⟨_, hz, fun v q => nomatch q⟩
    · exact ⟨_, hTI, fun v q => nomatch q⟩
    · exact ⟨_, hTO, fun v q => nomatch q⟩
    · exact h1.obj
    · exact h2.obj
  keep := fun i h h' ⟨hz, hTI, ⟨x, y, hTO⟩, h1, h2⟩ k => ⟨k z (by simp) _ hz, k TI (by simp) _ hTI, ⟨x, y, k TO (by simp) _ hTO⟩, h1.keep fun o e => k i1 (by simp) o e, h2.keep fun o e => k i2 (by simp) o e⟩
  item := by
    intro X hP hw hK calm i pins s σ H E I hf st hg
    subst hP hw hK
    obtain ⟨hz, hTI, ⟨x0, y0, hTO⟩, h1, h2⟩ := st
    obtain ⟨xs, ys, x, y, qx, qy, hx, hy⟩ := hg
    obtain ⟨fp1, P1, S1, d1, st1, v1, b1, m1, f1⟩ := src_draws (A := X.A.in1) I (I.ok.hd calm) qx h1 fun a e => (D.far a (.inl e)).2.2.1
    obtain ⟨fp2, P2, S2, d2, st2, v2, b2, m2, f2⟩ := src_draws (A := X.A.in1) I (I.ok.hd calm) qy h2 fun a e => (D.far a (.inr e)).2.2.2
    have lz : z < s.heap.objs.size := Heap.lt_size hz
    refine wpAny_pyNext_zipD2_item (D.sep m1 m2 f1 f2) d1 d2 hz hTI hTO st1 st2 (List.getElem?_eq_some_iff.mp hx).1 (List.getElem?_eq_some_iff.mp hy).1 fun u1 u2 h' tk p1 p2 z' TO' r1 r2 hT hsz hk => ?_
    obtain ⟨x', hx', rx⟩ := v1 i u1 p1
    obtain ⟨y', hy', ry⟩ := v2 i u2 p2
    obtain rfl : x = x' := Option.some.inj (hx.symm.trans hx')
    obtain rfl : y = y' := Option.some.inj (hy.symm.trans hy')
    refine ⟨_, rfl, wpAny_letOwnedTupleGo_zip (s := { s with heap := h', toks := tk }) z' fun h2' z2 sb => ?_⟩
    have hT2 : h2'.get? s.heap.objs.size = some { cls := .type "tuple", data := .seq #[u1, u2] } := (sb.2 _ (Nat.ne_of_gt lz)).trans hT
    have far4 : ∀ c o, c ∉ [z, TI, TO, i1, i2] → s.heap.get? c = some o → h2'.get? c = some o := fun c o nc e => by
      have e4 : c ≠ z ∧ c ≠ TI ∧ c ≠ TO ∧ c ≠ i1 ∧ c ≠ i2 := by simpa using nc
      exact (sb.2 c e4.1).trans (hk c o e4.1 e4.2.2.1 e4.2.2.2.1 e4.2.2.2.2 e)
    have I1 : Inv X pins σ (upd H s.heap.objs.size (.tup [x, y])) { s with heap := h2', toks := tk } :=
      I.turnedNew (ch := [z, TI, TO, i1, i2]) far4 hf (Nat.le_refl _) (show ObjOk X.prog X.w _ _ _ (.tup [x, y]) from ⟨by show 2 ≤ sizeLine; decide, [u1, u2], .cons rx (.cons ry .nil), ⟨_, hT2, rfl, _, rfl⟩⟩)
    refine ⟨.ref s.heap.objs.size, _, I1, rfl, ⟨_, x, y, rfl, I.hok.fresh (Nat.le_refl _), rfl, fun l hl => by rw [SrcAt.one I hl qx] <;> exact hx, fun l hl => by rw [SrcAt.one I hl qy] <;> exact hy⟩,
      ⟨z2, (sb.2 _ D.a1).trans (hk _ _ D.a1 D.a3 D.a4 D.a5 hTI), ⟨u1, u2, (sb.2 _ D.a2).trans TO'⟩, (b1 _ _ r1).keep fun o e => (sb.2 _ D.a8.symm).trans e, (b2 _ _ r2).keep fun o e => (sb.2 _ D.a9.symm).trans e⟩, fun c hc => ?_⟩
    have lt : c < s.heap.objs.size := by
      rcases (show c = z ∨ c = TI ∨ c = TO ∨ c = i1 ∨ c = i2 by simpa using hc) with rfl | rfl | rfl | rfl | rfl
      · exact lz
      · exact Heap.lt_size hTI
      · exact Heap.lt_size hTO
      · obtain ⟨_, e, _⟩ := h1.obj; exact Heap.lt_size e
      · obtain ⟨_, e, _⟩ := h2.obj; exact Heap.lt_size e
    rw [upd_ne (Nat.ne_of_lt lt)]
    exact (hf c hc).1
  done := by
    intro X hP hw hK calm i pins s σ H E I hf st hg
    subst hP hw hK
    obtain ⟨hz, hTI, ⟨x0, y0, hTO⟩, h1, h2⟩ := st
    obtain ⟨xs, ys, qx, qy, l1, l2, fin⟩ := hg
    obtain ⟨fp1, P1, S1, d1, st1, v1, b1, m1, f1⟩ := src_draws (A := X.A.in1) I (I.ok.hd calm) qx h1 fun a e => (D.far a (.inl e)).2.2.1
    obtain ⟨fp2, P2, S2, d2, st2, v2, b2, m2, f2⟩ := src_draws (A := X.A.in1) I (I.ok.hd calm) qy h2 fun a e => (D.far a (.inr e)).2.2.2
    exact wpAny_pyNext_zipD2_end (D.sep m1 m2 f1 f2) d1 d2 hz hTI hTO st1 st2 l1 l2 fin fun h' tk hk => ⟨rfl, I.turnedL (ch := [z, TI, TO, i1, i2]) (fun c o nc e => by
      have e4 : c ≠ z ∧ c ≠ TI ∧ c ≠ TO ∧ c ≠ i1 ∧ c ≠ i2 := by simpa using nc
      exact hk c o e4.1 e4.2.2.1 e4.2.2.2.1 e4.2.2.2.2 e) hf⟩
  self := fun A i s Q E st h => wpAny_pyIter_zip st.1 h
theorem src_begins {X : Cx} {pins : List (Addr × Obj)} {σ : L2.St} {H : Hp} {s : Shared} (I : Inv X pins σ H s) : ∀ {sr : Src} {xs : List V} {u : Value}, SrcAt X.K sr H xs → RelV sr.v u →
    ∃ (o : Obj) (Hc : Heap → Prop) (t : Tok), Begins u o Hc ∧ Hc s.heap ∧ (∀ (h : Heap) (it : Addr), h.get? it = some o → ItrAt it t sr 0 h) ∧ ∀ b, sr.addr = some b → Nat.blt b s.heap.objs.size = true
  | .tup a, xs, u, at_, ru => by
    obtain rfl : u = .ref a := ru
    obtain ⟨its, rv, p, _⟩ := I.tuple at_
    obtain ⟨o, ho, _⟩ := id p
    exact ⟨_, _, 0, begins_tuple a its.toArray, p, fun h it e => ⟨_, e, rfl, rfl⟩, fun b e => by
      obtain rfl : a = b := Option.some.inj e
      exact Nat.ble_eq_true_of_le (Heap.lt_size ho)⟩
  | .lst a, xs, u, at_, ru => by
    obtain rfl : u = .ref a := ru
    obtain ⟨its, rv, p, _⟩ := I.list at_
    obtain ⟨o, ho, _⟩ := id p.isList
    exact ⟨_, _, 0, begins_list a its.toArray, p.isList, fun h it e => ⟨_, e, rfl, rfl⟩, fun b e => by
      obtain rfl : a = b := Option.some.inj e
      exact Nat.ble_eq_true_of_le (Heap.lt_size ho)⟩
  | .txt z, xs, u, at_, ru => by
    obtain ⟨t, rfl⟩ := ru
    exact ⟨_, _, t, begins_text z t, trivial, fun h it e => ⟨_, e, rfl, rfl⟩, fun b e => by cases e⟩
theorem zfar {s1 s2 : Src} (n : Nat) (low : ∀ b, s1.addr = some b ∨ s2.addr = some b → Nat.blt b n = true) : ZFar (n + 4) (n + 2) (n + 3) n (n + 1) s1 s2 where
  a1 := fun h => absurd (show n + 2 = n + 4 from h) (by omega)
  a2 := fun h => absurd (show n + 3 = n + 4 from h) (by omega)
  a3 := fun h => absurd (show n + 2 = n + 3 from h) (by omega)
  a4 := fun h => absurd (show n + 2 = n from h) (by omega)
  a5 := fun h => absurd (show n + 2 = n + 1 from h) (by omega)
  a6 := fun h => absurd (show n + 3 = n from h) (by omega)
  a7 := fun h => absurd (show n + 3 = n + 1 from h) (by omega)
  a8 := fun h => absurd (show n + 4 = n from h) (by omega)
  a9 := fun h => absurd (show n + 4 = n + 1 from h) (by omega)
  aA := fun h => absurd (show n = n + 1 from h) (by omega)
  far := fun b hb => by
    have lt : @LT.lt Nat _ b n := Nat.le_of_ble_eq_true (low b hb)
    have ne : ∀ k : Nat, b ≠ n + k := fun k h => absurd (show @Eq Nat b (n + k) from h) (by omega)
    exact ⟨ne 4, ne 3, ne 0, ne 1⟩
/-- for .. in zip(e, e2) -/
def iZipS (K : PySem.W.Frag) (ta : TA) : TI := fun σ H R => ta σ H fun vs H1 => ∃ s1 s2 xs ys, vs = [s1.v, s2.v] ∧ SrcAt K s1 H1 xs ∧ SrcAt K s2 H1 ys ∧ R (ItzS K s1 s2) H1
theorem pi_zipS {X : Cx} {e e2 : Expr} {ta : TA} {p pos tp : Pos} {es : List Expr} {kk : Nat} (hg : Gl X "zip") (hm : X.mg "zip" = none) (ha : PA X [e, e2] ta) (hs : starEach [e, e2] X.env = (false, eval e X.env) :: starEach [e2] X.env := by rfl)
    (hpl : (backTo pos (starEach [e2] X.env)).any (·.1) = false := by rfl) : PI X (.Tuple es kk tp) (.Call (.Name "zip" p) [e, e2] [] pos) (iZipS X.K ta) := by
  refine ⟨fun pins s σ H R I h => Call_ (ld_blt I hg hm boot_zip (callWith_type1 (thn (ha.run pos pins s σ H _ I h) fun us s1 ⟨vs, H1, I1, rel, q1⟩ => ?_) hs hpl))⟩
  obtain ⟨r1, r2, xs, ys, rfl, qx, qy, q⟩ := q1
  obtain ⟨u1, u2, rfl, ru1, ru2⟩ := vals2 rel
  obtain ⟨o1, C1, t1, B1, c1, it1, low1⟩ := src_begins I1 qx ru1
  obtain ⟨o2, C2, t2, B2, c2, it2, low2⟩ := src_begins I1 qy ru2
  refine zip_begins2 B1 B2 c1 c2 fun h' hz hTI hTO g1 g2 hsz hk => wpAny_pyIter_zip hz ?_
  have I2 : Inv X pins σ H1 { s1 with heap := h' } := I1.kept (t' := s1.toks) hk
  have fresh : ∀ c, c ∈ [s1.heap.objs.size + 4, s1.heap.objs.size + 2, s1.heap.objs.size + 3, s1.heap.objs.size, s1.heap.objs.size + 1] → FpOk X pins H1 c := fun c hc => by
    have le : s1.heap.objs.size ≤ c := by
      rcases (show c = s1.heap.objs.size + 4 ∨ c = s1.heap.objs.size + 2 ∨ c = s1.heap.objs.size + 3 ∨ c = s1.heap.objs.size ∨ c = s1.heap.objs.size + 1 by simpa using hc) with z | z | z | z | z
      · rw [z]; exact Nat.le_add_right _ _
      · rw [z]; exact Nat.le_add_right _ _
      · rw [z]; exact Nat.le_add_right _ _
      · rw [z]; exact Nat.le_refl _
      · rw [z]; exact Nat.le_add_right _ _
    exact I1.fpOk le (I1.hok.fresh le)
  exact ⟨_, _, _, _, H1, rfl, I2, turn_zipS (t1 := t1) (t2 := t2) (zfar s1.heap.objs.size fun b hb => hb.elim (low1 b) (low2 b)), ⟨hz, hTI, ⟨_, _, hTO⟩, it1 _ _ g1, it2 _ _ g2⟩, fresh, q⟩
/-- the walk -/
theorem walk_zipS {K : PySem.W.Frag} {s1 s2 : Src} {xs ys : List V} {n : Nat} (hn : n = min xs.length ys.length) : Walk (ItzS K s1 s2) n (fun H => SrcAt K s1 H xs ∧ SrcAt K s2 H ys) (YPair (fun i => xs[i]?) (fun i => ys[i]?)) := by
  subst hn
  refine ⟨fun i H hi q => ⟨xs, ys, xs[i]'(by omega), ys[i]'(by omega), q.1, q.2, List.getElem?_eq_getElem (by omega), List.getElem?_eq_getElem (by omega)⟩, fun H q => ⟨xs, ys, q.1, q.2, by omega, by omega, by omega⟩, fun i H v H' _ q y => ?_⟩
  obtain ⟨T, x, z, h1, h2, h3, h4, h5⟩ := y
  exact ⟨T, x, z, h1, h2, h3, h4 xs q.1, h5 ys q.2⟩
end Lk
set_option Elab.async false
set_option linter.all false
set_option maxRecDepth 100000
set_option maxHeartbeats 4000000
/-! Part N: in a tuple of data; a list extended by a tuple. -/
namespace Lk
open PySem PySem.Spec PyProof.Rows L2
/-- x in y, x not in y: y a tuple of data of any depth -/
def rInDT (K : PySem.W.Frag) : R2 := fun x y H Q => ∃ d ds, Dp K H x d ∧ Dp K H y (.tuple ds) ∧ SeqAt.shaped d = true ∧ SeqAt.shaped (.tuple ds) = true ∧ Q (.bl (ds.any fun z => PyData.eqv z d)) H
def rNotInDT (K : PySem.W.Frag) : R2 := fun x y H Q => ∃ d ds, Dp K H x d ∧ Dp K H y (.tuple ds) ∧ SeqAt.shaped d = true ∧ SeqAt.shaped (.tuple ds) = true ∧ Q (.bl (!(ds.any fun z => PyData.eqv z d))) H
theorem op_inDT {X : Cx} (hu : X.A.units + 65 < cLine) : OpR X (compareOp .In) (rInDT X.K) := by
  intro pins s σ H x y v u Q I rx ry h
  obtain ⟨d, ds, hd, he, sd, se, q⟩ := h
  obtain ⟨as, r1⟩ := Dp.reads I d x v hd rx
  obtain ⟨bs, r2⟩ := Dp.reads I (.tuple ds) y u he ry
  exact SeqAt.in_tuple_reads r2 r1 (SeqAt.canLay_of_shaped se) (SeqAt.canLay_of_shaped sd) (room_in_shaped sd hu) ⟨.bl _, H, I, rfl, q⟩
theorem op_notInDT {X : Cx} (hu : X.A.units + 65 < cLine) : OpR X (compareOp .NotIn) (rNotInDT X.K) := by
  intro pins s σ H x y v u Q I rx ry h
  obtain ⟨d, ds, hd, he, sd, se, q⟩ := h
  obtain ⟨as, r1⟩ := Dp.reads I d x v hd rx
  obtain ⟨bs, r2⟩ := Dp.reads I (.tuple ds) y u he ry
  exact SeqAt.notIn_tuple_reads r2 r1 (SeqAt.canLay_of_shaped se) (SeqAt.canLay_of_shaped sd) (room_in_shaped sd hu) ⟨.bl _, H, I, rfl, q⟩
theorem room64 {k : Nat} {A : Around} (r : Room k A) : A.units + 64 < cLine := by have := r.un; omega
theorem room65 {k : Nat} {A : Around} (r : Room k A) : A.units + 65 < cLine := by have := r.un; omega
theorem extend_tup (l : Addr) (items : Array Value) (n : Nat) (b : Addr) (items2 : Array Value) (n2 : Nat) (dd : Option Addr) (sl : Array (Option Value)) (hs0 : ¬(!items.isEmpty && Builtin.List.listTooLong (items.size + items2.size)) = true) (hs1 : items.size ≤ sizeLine) (hs2 : items.size + items2.size ≤ sizeLine + 1) :
    Meets (Builtin.«list.extend» ⟨[.ref l, .ref b], []⟩) (fun _ R s => s.heap.get? l = some { cls := .type "list", dict := none, data := .seq items n, slots := #[] } ∧ s.heap.get? b = some { cls := .type "tuple", dict := dd, data := .seq items2 n2, slots := sl } ∧ R (.ok (.ret Value.none)) { s with heap := s.heap.update l (Obj.mapSeq fun x => x ++ items2), toks := s.toks }) :=
  .of_wp fun prog w A R s h => by
    obtain ⟨hp, g, d, tk, os⟩ := s; obtain ⟨hl, hb, h⟩ := h; have f1 := PySem.AutoSeq1.idx_int; have f2 := PySem.AutoSeq1.sub_tuple_tuple; have f3 := PySem.AutoSeq1.sub_list_list; have f4 := PySem.AutoSeq1.sub_tuple_list; have f5 := PySem.AutoSeq1.sub_list_tuple;
    have hz' : (items ++ items2).size ≤ sizeLine + 1 := by rw [Array.size_append]; exact hs2
    wp_walk using (wpAny_updateSeq hl rfl (hz := hs1) (_hz' := hz')), PySem.AutoSeq1.wpAny_loadPart' hl, PySem.AutoSeq1.wpAny_loadPart' hb; exact ⟨_, rfl, h⟩
/-- l.extend(t), t a tuple that was made here -/
def rExtendT : V → List V → Hp → VK → Prop := fun x vs H Q => ∃ l b xs zs, x = .ref l ∧ vs = [.ref b] ∧ H l = some (.lst xs) ∧ H b = some (.tup zs) ∧ xs.length + zs.length ≤ sizeLine ∧ Q .non (upd H l (.lst (xs ++ zs)))
theorem mt_extendT {X : Cx} : MtM X "list.extend" rExtendT := by
  intro pins s σ H x vs v us Q I rx rv h
  obtain ⟨l, b, xs, zs, rfl, rfl, hH, hB, hz, q⟩ := h
  cases rx
  obtain ⟨u, rfl, ru⟩ := rv.one
  cases ru
  obtain ⟨z, its, n, r, hl, e⟩ := I.lstM hH
  obtain ⟨_, its2, r2, ⟨cls, dd, data, sls⟩, e2, hc, m, hd⟩ := (show ObjOk X.prog X.w H s.heap b (.tup _) from I.hok b _ hB)
  simp only at hc hd
  subst hc hd
  have hsz : its.toArray.size + its2.toArray.size ≤ sizeLine := by rw [List.size_toArray, List.size_toArray, ← hl, ← r2.length]; exact hz
  have hlong : ¬ (!its.toArray.isEmpty && Builtin.List.listTooLong (its.toArray.size + its2.toArray.size)) = true := by
    rw [notLongL hsz, Bool.and_false]
    exact Bool.false_ne_true
  have hl2 := r2.length
  refine call_meets F.slot_list_extend ⟨_, e, rfl⟩ F.entry_list_extend (F.args_list_extend_2 _ _)
    (extend_tup l its.toArray n b its2.toArray m dd sls hlong (by rw [List.size_toArray]; omega) (by omega)) ⟨e, e2, ?_⟩
  refine ⟨.non, _, I.lset (its' := its ++ its2) hH e (by simp) (r.append r2) ?_, rfl, q⟩
  rw [List.length_append]
  omega
end Lk
set_option Elab.async false
set_option linter.all false
set_option maxRecDepth 100000
set_option maxHeartbeats 4000000
/-! Part R: data that is small enough to be compared and shown. -/
namespace Lk
open PySem PySem.Spec PyProof.Rows L2
/-- weight at most n, depth at most k, texts and ints that can be shown -/
structure Nice (n k : Nat) (d : PyData) : Prop where
  lay : d.canLay0 = true
  dep : d.depth ≤ k
  wt : d.weight ≤ n
  sh : d.intsShort 13 = true
  sw : d.showable = true
theorem Nice.mono {n k m j : Nat} {d : PyData} (h : Nice n k d) (hn : n ≤ m) (hk : k ≤ j) : Nice m j d := ⟨h.lay, Nat.le_trans h.dep hk, Nat.le_trans h.wt hn, h.sh, h.sw⟩
theorem Nice.str {x : Str} {n : Nat} (h : PyData.strOk x = true) (hl : x.length ≤ n) : Nice n 0 (.str x) :=
  ⟨by simp [PyData.canLay0, h], by simp [PyData.depth], by simpa [PyData.weight, Str.length] using hl, by simp [PyData.intsShort], by simp [PyData.showable]⟩
theorem nice_all {c k : Nat} : ∀ {ds : List PyData}, (∀ d ∈ ds, Nice c k d) → PyData.canLayAll0 ds = true ∧ PyData.depthAll ds ≤ k ∧ PyData.weightAll ds ≤ ds.length * (c + 1) ∧ PyData.intsShortAll 13 ds = true ∧ PyData.showableAll ds = true
  | [], _ => ⟨by simp [PyData.canLayAll0], by simp [PyData.depthAll], by simp [PyData.weightAll], by simp [PyData.intsShortAll], by simp [PyData.showableAll]⟩
  | d :: ds, h => by
    obtain ⟨a1, a2, a3, a4, a5⟩ := nice_all fun e he => h e (List.mem_cons_of_mem _ he)
    have hd := h d List.mem_cons_self
    refine ⟨by simp [PyData.canLayAll0, hd.lay, a1], ?_, ?_, by simp [PyData.intsShortAll, hd.sh, a4], by simp [PyData.showableAll, hd.sw, a5]⟩
    · have := hd.dep
      simp only [PyData.depthAll]
      omega
    · have := hd.wt
      have e : (d :: ds).length * (c + 1) = ds.length * (c + 1) + (c + 1) := by rw [List.length_cons, Nat.succ_mul]
      simp only [PyData.weightAll]
      omega
theorem Nice.tup {c k m : Nat} {ds : List PyData} (h : ∀ d ∈ ds, Nice c k d) (hl : ds.length ≤ m) : Nice (m * (c + 1)) (k + 1) (.tuple ds) := by
  obtain ⟨a1, a2, a3, a4, a5⟩ := nice_all h
  refine ⟨by simp [PyData.canLay0, a1], ?_, ?_, by simp [PyData.intsShort, a4], by simp [PyData.showable, a5]⟩
  · simp only [PyData.depth]
    omega
  · simp only [PyData.weight]
    exact Nat.le_trans a3 (Nat.mul_le_mul_right _ hl)
theorem Nice.lst {c k m : Nat} {ds : List PyData} (h : ∀ d ∈ ds, Nice c k d) (hl : ds.length ≤ m) : Nice (m * (c + 1)) (k + 1) (.list ds) := by
  obtain ⟨a1, a2, a3, a4, a5⟩ := nice_all h
  refine ⟨by simp [PyData.canLay0, a1], ?_, ?_, by simp [PyData.intsShort, a4], by simp [PyData.showable, a5]⟩
  · simp only [PyData.depth]
    omega
  · simp only [PyData.weight]
    exact Nat.le_trans a3 (Nat.mul_le_mul_right _ hl)
theorem Nice.shaped {n k : Nat} {d : PyData} (h : Nice n k d) (hk : k ≤ 64) : SeqAt.shaped d = true := by
  show (d.canLay0 && decide (d.depth ≤ 64)) = true
  have := h.dep
  rw [Bool.and_eq_true]
  exact ⟨h.lay, decide_eq_true (by omega)⟩
theorem Nice.fits {n k : Nat} {d : PyData} (h : Nice n k d) (hn : n ≤ 1048576) (hk : k ≤ 64) : d.shown.length ≤ sizeLine := by
  have l0 : PyData.layable0 d = true := by
    have h1 := h.dep
    have h2 := h.wt
    show (d.canLay0 && decide (d.depth ≤ 64) && decide (d.weight ≤ 2 ^ 20)) = true
    rw [Bool.and_eq_true, Bool.and_eq_true]
    exact ⟨⟨h.lay, decide_eq_true (by omega)⟩, decide_eq_true (by omega)⟩
  have := shown_le13 l0 h.sh
  rw [sizeLine_eq]
  omega
theorem Nice.eqv {n k : Nat} {d : PyData} (h : Nice n k d) : PyData.eqv d d = true := SeqAt.eqv_refl _ h.lay
/-- small ints -/
theorem nice_ints : ∀ i : Nat, i < 100 → ((PyData.int (i : Int)).intsShort 13 && ((PyData.int (i : Int)).showable && decide ((PyData.int (i : Int)).weight ≤ 8))) = true := by decide +kernel
theorem Nice.nat {i : Nat} (h : i < 100) : Nice 8 0 (.int (i : Int)) := by
  have := nice_ints i h
  rw [Bool.and_eq_true, Bool.and_eq_true] at this
  exact ⟨by simp [PyData.canLay0], by simp [PyData.depth], of_decide_eq_true this.2.2, this.1, this.2.1⟩
/-- the texts of a tuple -/
def strsD (zs : List Str) : List PyData := zs.map PyData.str
theorem dp_strs {K : PySem.W.Frag} {H : Hp} : ∀ zs : List Str, DpAll K H (zs.map V.str) (strsD zs)
  | [] => .nil
  | z :: zs => .cons (.str z) (dp_strs zs)
theorem dw_strs {H : Hp} : ∀ zs : List Str, DWs H (zs.map V.str) (strsD zs)
  | [] => .nil
  | z :: zs => .cons (.str z) (dw_strs zs)
theorem nice_strs {zs : List Str} {n m : Nat} (h : ∀ z ∈ zs, PyData.strOk z = true ∧ z.length ≤ n) (hl : zs.length ≤ m) : Nice (m * (n + 1)) 1 (.tuple (strsD zs)) := by
  refine Nice.tup (fun d hd => ?_) (by unfold strsD; rw [List.length_map]; exact hl)
  obtain ⟨z, hz, rfl⟩ := List.mem_map.mp hd
  exact .str (h z hz).1 (h z hz).2
/-- all but lists stand, where the draws' list alone was written -/
theorem Keep.ext {a : Addr} {N : Nat} {H H' : Hp} (hp : PotAt a N H) (x : ExtP a H H') : Keep H H' := fun b o e n => x b o (fun z => by
  obtain ⟨_, _, _, h, _⟩ := hp
  rw [z, h] at e
  exact n _ (Option.some.inj e).symm) e
theorem TupX.keep {H H' : Hp} {a : Addr} {xs : List V} (h : TupX H a xs) (k : Keep H H') : TupX H' a xs := by
  obtain ⟨ob, e, r⟩ := h
  exact ⟨ob, k _ _ e (fun xs z => by cases z), r⟩
theorem SqT.keep {K : PySem.W.Frag} {H H' : Hp} {a : Addr} {xs : List V} (h : SqT K H a xs) (k : Keep H H') : SqT K H' a xs := by
  rcases h with (h | ⟨o, h⟩) | h
  · exact .inl (.inl (k _ _ h fun xs z => by cases z))
  · exact .inl (.inr ⟨o, k _ _ h fun xs z => by cases z⟩)
  · exact .inr h
end Lk
set_option Elab.async false
set_option linter.all false
set_option maxRecDepth 100000
set_option maxHeartbeats 4000000
namespace K6
open PySem PySem.Spec PyProof.Rows L2 Lk
def top (i : Nat) : Stmt := PySem.Challenge.pw_lotkeepers_k06_shelves_as_they_are_told.main.body.getD i (.Pass ⟨0, 0, 0, 0⟩)
abbrev sPot : Stmt := top 44
abbrev sTake : Stmt := top 45
abbrev sOf : Stmt := top 46
abbrev sCells : Stmt := top 48
abbrev sSome : Stmt := top 47
/-- built-in names that the text leaves alone -/
structure Bl (mg : Str → Option Value) : Prop where
  int : mg "int" = none
  abs : mg "abs" = none
  len : mg "len" = none
  list : mg "list" = none
  range : mg "range" = none
  max : mg "max" = none
  min : mg "min" = none
  all : mg "all" = none
  any : mg "any" = none
  repr : mg "repr" = none
  isin : mg "isinstance" = none
  enum : mg "enumerate" = none
  vErr : mg "ValueError" = none
section
variable {P : Program} {w : World} {K : PySem.W.Frag} {mg : Str → Option Value} {base : Heap} {f : Addr} {fd : FuncData}
def spTake : Sp := fun vs H Q _ => ∃ (a : Addr) (n : Int) (N : Nat), vs = [.ref a, .int n] ∧ PotAt a N H ∧ N ≤ 1000000 ∧ 0 < n ∧ n ≤ 1000 ∧
  ∀ (i : Int) (H' : Hp), 0 ≤ i → i < n → ExtP a H H' → PotAt a (N + 1) H' → Q (.int i) H'
theorem scTake : FnScope ["pot", "upto", "digit", "prime", "blend"] ["pot", "upto"] (defScope sTake) := ⟨rfl, rfl, rfl, by decide +kernel, rfl, by decide +kernel, by decide +kernel⟩
theorem ok_take (F : Fun K "_law_take" "_law_take" sTake f fd) (T : Bl mg) : FnOk P w K mg base CX0 1 f fd ["pot", "upto"] spTake := by
  refine F.ok scTake (fun vs H Q E h => ?_) (fun cdv A outer s H vs Q E hr h => ?_)
  · obtain ⟨a, n, N, rfl, _⟩ := h
    rfl
  · obtain ⟨a, n, N, rfl, ⟨o, b, c, hp, ho, hb, hb2, hc, hcN⟩, hN, hn, hn2, k⟩ := h
    have nd := scTake.nd
    refine ⟨_, pss_cons (ps_if (pt_cmpR op_gt (pe_ix ix_list (pv 0) pe_int (fun _ _ => rfl)) pe_int (nomark _))
        (pss_cons (ps_set (i := 2) nd rfl (.inl rfl) (pe_op op_mod (pe_callTy call_int1 rfl T.int boot_int (pa_cons (pe_ix ix_list (pv 0) pe_int (fun _ _ => rfl)) pa_nil)) (pv 1)))
          (pss_cons (ps_asg (pe_op op_fdiv (pe_ix ix_list (pv 0) pe_int (fun _ _ => rfl)) (pv 1)) (pg_sub (pv 0) pe_int set_list))
            (pss_one (ps_ret (pv 2))))) pss_nil)
      (pss_cons (ps_asg (pe_op op_add (pe_ix ix_list (pv 0) pe_int (fun _ _ => rfl)) pe_int) (pg_sub (pv 0) pe_int set_list))
        (pss_cons (ps_set (i := 3) nd rfl (.inl rfl) (pe_ix ix_list (pe_lst (pa_cons pe_int (pa_cons pe_int (pa_cons pe_int (pa_cons pe_int (pa_cons pe_int pa_nil))))))
            (pe_op op_mod (pe_callTy call_int1 rfl T.int boot_int (pa_cons (pe_ix ix_list (pv 0) pe_int (fun _ _ => rfl)) pa_nil)) pe_int) (fun _ _ => rfl)))
          (pss_cons (ps_set (i := 4) nd rfl (.inl rfl) (pe_op op_mod (pe_callTy call_int1 rfl T.int boot_int (pa_cons (pe_op op_powW (pe_callTy call_int1 rfl T.int boot_int (pa_cons
                (pe_op op_add (pe_op op_add (pe_ix ix_list (pv 0) pe_int (fun _ _ => rfl)) (pe_op op_mul (pe_op op_mul pe_int (pe_ix ix_list (pv 0) pe_int (fun _ _ => rfl))) (pe_ix ix_list (pv 0) pe_int (fun _ _ => rfl)))) pe_int) pa_nil)) pe_int) pa_nil)) (pv 3)))
            (pss_one (ps_ret (pe_op op_mod (pe_callTy call_int1 rfl T.int boot_int (pa_cons (pe_op op_fdiv (pe_op op_mul (pv 4)
                (pe_op op_add (pe_op op_mod (pe_callTy call_int1 rfl T.int boot_int (pa_cons (pv 4) pa_nil)) pe_int) (pe_op op_mul pe_int (pe_ix ix_list (pv 0) pe_int (fun _ _ => rfl))))) pe_int) pa_nil)) (pv 1))))))), ?_⟩
    -- if pot[0] > 0
    refine ⟨_, rfl, a, _, _, _, rfl, rfl, SqL.of hp, rfl, _, _, rfl, rfl, _, rfl, ?_⟩
    refine ite2 (fun hpos => ?_) (fun _ => ?_)
    · refine ⟨_, rfl, a, _, _, _, rfl, rfl, SqL.of hp, rfl, .inl ⟨_, rfl, _, rfl, _, _, rfl, rfl, hn, ?_⟩⟩
      refine ⟨_, rfl, a, _, _, _, rfl, rfl, SqL.of hp, rfl, _, rfl, _, _, rfl, rfl, ⟨hn, by omega⟩, _, rfl, a, _, _, 0, rfl, rfl, hp, rfl, ?_⟩
      refine ⟨_, rfl, ?_⟩
      exact k _ _ (Int.emod_nonneg _ (by omega)) (Int.emod_lt_of_pos _ hn) (ExtP.upd _ _ _)
        ⟨o / n, b, c, upd_same, Int.ediv_nonneg ho (by omega), hb, hb2, hc, by omega⟩
    · -- pot[2] = pot[2] + 1
      refine ⟨_, rfl, a, _, _, _, rfl, rfl, SqL.of hp, rfl, _, _, rfl, rfl, _, rfl, a, _, _, 2, rfl, rfl, hp, rfl, ?_⟩
      have hq : upd H a (.lst [.int o, .int b, .int (c + 1)]) a = some (.lst [.int o, .int b, .int (c + 1)]) := upd_same
      -- prime = [..][int(pot[2]) % 5]
      refine ⟨by rw [sizeLine_eq]; decide, fun p np => ?_⟩
      have nap : a ≠ p := fun z => by rw [← z, upd_same] at np; cases np
      have hq2 : ∀ o', upd (upd H a (.lst [.int o, .int b, .int (c + 1)])) p o' a = some (.lst [.int o, .int b, .int (c + 1)]) := fun o' => by rw [upd_ne nap]; exact hq
      refine ⟨_, rfl, a, _, _, _, rfl, rfl, SqL.of (hq2 _), rfl, .inl ⟨_, rfl, _, _, rfl, rfl, (show (0 : Int) < 5 by decide), ?_⟩⟩
      have r0 : 0 ≤ (c + 1) % 5 := Int.emod_nonneg _ (by decide)
      have r5 : (c + 1) % 5 < 5 := Int.emod_lt_of_pos _ (by decide)
      obtain ⟨pr, hpr, hp0⟩ : ∃ pr : Int, ([V.int 2147483647, .int 2147483629, .int 2147483587, .int 2147483579, .int 2147483563] : List V)[((c + 1) % 5).toNat]? = some (.int pr) ∧ 0 < pr := by
        have : ((c + 1) % 5).toNat = 0 ∨ ((c + 1) % 5).toNat = 1 ∨ ((c + 1) % 5).toNat = 2 ∨ ((c + 1) % 5).toNat = 3 ∨ ((c + 1) % 5).toNat = 4 := by omega
        rcases this with e | e | e | e | e <;> rw [e] <;> exact ⟨_, rfl, by decide⟩
      have hix : atI ([V.int 2147483647, .int 2147483629, .int 2147483587, .int 2147483579, .int 2147483563] : List V) ((c + 1) % 5) = some (.int pr) := by
        have e : (c + 1) % 5 = ((((c + 1) % 5).toNat : Nat) : Int) := by omega
        rw [e]
        exact atI_nat hpr
      refine ⟨p, _, _, _, rfl, rfl, SqL.of upd_same, hix, ?_⟩
      generalize hH : upd _ p _ = H2
      have hq3 : H2 a = some (.lst [.int o, .int b, .int (c + 1)]) := by rw [← hH]; exact hq2 _
      have hx : ExtP a H H2 := fun z u nz e => by
        have nzp : z ≠ p := fun q => by rw [q] at e nz; rw [upd_ne nz] at np; rw [np] at e; cases e
        rw [← hH, upd_ne nzp, upd_ne nz]
        exact e
      -- mixed = int(int(pot[1] + .. * pot[2] * pot[2] + ..) ** 3) % prime
      have c1 : c + 1 ≤ 1000001 := by omega
      refine ⟨_, rfl, a, _, _, _, rfl, rfl, SqL.of hq3, rfl, _, rfl, a, _, _, _, rfl, rfl, SqL.of hq3, rfl, _, _, rfl, rfl, .inl ⟨by decide, by decide⟩, ?_⟩
      refine ⟨_, rfl, a, _, _, _, rfl, rfl, SqL.of hq3, rfl, _, _, rfl, rfl, .inr ⟨by show -(2 ^ 64) < c + 1; omega, by show c + 1 < 2 ^ 64; omega⟩, _, _, rfl, rfl, _, _, rfl, rfl, .inl ⟨_, rfl, ?_⟩⟩
      have z1 : 0 ≤ 93373 * (c + 1) * (c + 1) := Int.mul_nonneg (by omega) (by omega)
      have z2 : 93373 * (c + 1) * (c + 1) ≤ 93373 * 1000001 * 1000001 := Int.mul_le_mul (by omega) c1 (by omega) (by decide)
      refine ⟨_, _, rfl, rfl, ⟨by decide, by decide, ?_⟩, .inl ⟨_, rfl, _, rfl, _, _, rfl, rfl, hp0, ?_⟩⟩
      · have : (b + 93373 * (c + 1) * (c + 1) + 83).natAbs < 2 ^ 64 := by omega
        exact Nat.lt_of_lt_of_le this (Nat.pow_le_pow_right (by decide) (by decide))
      have m0 := Int.emod_nonneg ((b + 93373 * (c + 1) * (c + 1) + 83) ^ (3 : Int).toNat) (show pr ≠ 0 by omega)
      have m1 := Int.emod_lt_of_pos ((b + 93373 * (c + 1) * (c + 1) + 83) ^ (3 : Int).toNat) hp0
      have hpr2 : pr ≤ 2147483647 := by
        have : ((c + 1) % 5).toNat = 0 ∨ ((c + 1) % 5).toNat = 1 ∨ ((c + 1) % 5).toNat = 2 ∨ ((c + 1) % 5).toNat = 3 ∨ ((c + 1) % 5).toNat = 4 := by omega
        rcases this with e | e | e | e | e <;> rw [e] at hpr <;> cases hpr <;> decide
      obtain ⟨m, hm⟩ : ∃ m, m = (b + 93373 * (c + 1) * (c + 1) + 83) ^ (3 : Int).toNat % pr := ⟨_, rfl⟩
      have m2 : -(2 ^ 64) < (b + 93373 * (c + 1) * (c + 1) + 83) ^ (3 : Int).toNat % pr := by rw [← hm] at m0 ⊢; omega
      have m3 : (b + 93373 * (c + 1) * (c + 1) + 83) ^ (3 : Int).toNat % pr < 2 ^ 64 := by rw [← hm] at m1 ⊢; omega
      -- return int(blend * (int(blend) % .. + .. * pot[2]) // ..) % upto
      refine ⟨_, rfl, _, rfl, .inl ⟨_, rfl, _, _, rfl, rfl, (show (0 : Int) < 10159 by decide), ?_⟩⟩
      refine ⟨_, rfl, a, _, _, _, rfl, rfl, SqL.of hq3, rfl, _, _, rfl, rfl, .inl ⟨by decide, by decide⟩, _, _, rfl, rfl, _, _, rfl, rfl, .inl ⟨m2, m3⟩, _, _, rfl, rfl, ⟨by decide, by decide⟩, .inl ⟨_, rfl, _, rfl, _, _, rfl, rfl, hn, ?_⟩⟩
      exact k _ _ (Int.emod_nonneg _ (by omega)) (Int.emod_lt_of_pos _ hn) hx ⟨o, b, c + 1, hq3, ho, hb, hb2, by omega, by omega⟩
end
section
variable {P : Program} {w : World} {K : PySem.W.Frag} {mg : Str → Option Value} {base : Heap} {f : Addr} {fd : FuncData}
/-! ### _law_of -/
def spOf : Sp := fun vs H Q _ => ∃ (a l : Addr) (N : Nat) (xs : List V), vs = [.ref a, .ref l] ∧ PotAt a N H ∧ N ≤ 1000000 ∧ l ≠ a ∧ H l = some (.lst xs) ∧ 0 < xs.length ∧ xs.length ≤ 1000 ∧
  ∀ (i : Nat) (x : V) (H' : Hp), xs[i]? = some x → ExtP a H H' → PotAt a (N + 1) H' → Q x H'
theorem scOf : FnScope ["pot", "some"] ["pot", "some"] (defScope sOf) := ⟨rfl, rfl, rfl, by decide +kernel, rfl, by decide +kernel, by decide +kernel⟩
theorem ok_of {f1 : Addr} {fd1 : FuncData} (F : Fun K "_law_of" "_law_of" sOf f fd) (T : Bl mg) (F1 : Fun K "_law_take" "_law_take" sTake f1 fd1) (b1 : Binds K fd1 ["pot", "upto"] []) (m1 : mg "_law_take" = some (.ref f1)) :
    FnOk P w K mg base CX0 2 f fd ["pot", "some"] spOf := by
  have G1 : FnOk P w K mg base CX0 1 f1 fd1 ["pot", "upto"] spTake := ok_take F1 T
  refine F.ok scOf (fun vs H Q E h => ?_) (fun cdv A outer s H vs Q E hr h => ?_)
  · obtain ⟨a, l, N, xs, rfl, _⟩ := h
    rfl
  · obtain ⟨a, l, N, xs, rfl, hp, hN, nla, hl, h0, h1, k⟩ := h
    refine ⟨_, pss_one (ps_ret (pe_ix ix_list (pv 1) (pe_call G1 hr rfl m1 F1.kp b1 .nil pass0 (pa_cons (pv 0) (pa_cons (pe_callB call_len_seq (by rfl) T.len PySem.boot_len (pa_cons (pv 1) pa_nil)) pa_nil))) (fun _ _ => rfl))), ?_⟩
    refine ⟨_, rfl, _, rfl, _, rfl, l, _, rfl, .inl (SqL.of hl), a, _, N, rfl, hp, hN, by omega, by omega, fun i H' i0 i1 ex hp' => ?_⟩
    have hl' : H' l = some (.lst xs) := ex l _ nla hl
    obtain ⟨x, hx⟩ : ∃ x, xs[i.toNat]? = some x := ⟨_, List.getElem?_eq_getElem (by omega)⟩
    refine ⟨l, xs, i, x, rfl, rfl, SqL.of hl', ?_, k i.toNat x H' hx ex hp'⟩
    have e : i = ((i.toNat : Nat) : Int) := by omega
    rw [e]
    exact atI_nat hx
/-! ### _law_cells -/
def spCells (K : PySem.W.Frag) : Sp := fun vs H Q _ => ∃ (a : Addr) (ns : List Int) (m : Int), vs = [.ref a, .int m] ∧ SqL K H a (ns.map V.int) ∧ ns.length ≤ 63 ∧ 0 ≤ m ∧ m ≤ 60 ∧
  ∀ (l : Addr) (n : Nat), n ≤ 63 → H l = none → Q (.ref l) (upd H l (.lst (rgV 0 (n : Int))))
theorem scCells : FnScope ["script", "most"] ["script", "most"] (defScope sCells) := ⟨rfl, rfl, rfl, by decide +kernel, rfl, by decide +kernel, by decide +kernel⟩
theorem ok_cells (F : Fun K "_law_cells" "_law_cells" sCells f fd) (T : Bl mg) : FnOk P w K mg base CX0 1 f fd ["script", "most"] (spCells K) := by
  refine F.ok scCells (fun vs H Q E h => ?_) (fun cdv A outer s H vs Q E hr h => ?_)
  · obtain ⟨a, ns, m, rfl, _⟩ := h
    rfl
  · obtain ⟨a, ns, m, rfl, hs, hl, m0, m1, k⟩ := h
    refine ⟨_, pss_one (ps_ret (pe_listRg rfl (by rfl) T.list (prg_1 (by rfl) T.range (pe_callB (call_max2 rfl) (by rfl) T.max boot_max (pa_cons pe_int (pa_cons
      (pe_callB (call_min2 rfl) (by rfl) T.min boot_min (pa_cons (pv 1) (pa_cons (pe_callB call_len_seq (by rfl) T.len PySem.boot_len (pa_cons (pv 0) pa_nil)) pa_nil))) pa_nil)))))), ?_⟩
    refine ⟨_, rfl, _, rfl, a, _, rfl, .inl hs, _, _, rfl, _, _, rfl, _, rfl, ?_, ?_⟩
    · rw [List.length_map]
      exact RgOk.of_le (by decide) (by split <;> split <;> omega) (by decide) (by split <;> split <;> omega)
    · intro l hn
      have := k l (if (if ((ns.map V.int).length : Int) < m then ((ns.map V.int).length : Int) else m) > 1 then (if ((ns.map V.int).length : Int) < m then ((ns.map V.int).length : Int) else m) else 1).toNat
        (by rw [List.length_map]; split <;> split <;> omega) hn
      rw [Int.toNat_of_nonneg (by rw [List.length_map]; split <;> split <;> omega)] at this
      exact this
/-! ### _law_pot -/
def spPot (K : PySem.W.Frag) : Sp := fun vs H Q _ => ∃ (a : Addr) (ns : List Int) (i : Int), vs = [.ref a, .int i] ∧ SqL K H a (ns.map V.int) ∧ ns.length ≤ 63 ∧ 0 ≤ i ∧ i ≤ 100 ∧
  ∀ (p : Addr) (H' : Hp), H p = none → Same H H' → PotAt p 0 H' → Q (.ref p) H'
theorem scPot : FnScope ["script", "place", "cell", "own", "small"] ["script", "place"] (defScope sPot) := ⟨rfl, rfl, rfl, by decide +kernel, rfl, by decide +kernel, by decide +kernel⟩
theorem ten_pow : (0 : Int) < ((10 : Int) ^ (60 : Int).toNat) ^ (5 : Int).toNat := by decide +kernel
theorem ten_bits : ((10 : Int) ^ (60 : Int).toNat).natAbs < 2 ^ 4096 := by
  refine Nat.lt_of_lt_of_le (show ((10 : Int) ^ (60 : Int).toNat).natAbs < 2 ^ 256 by decide +kernel) (Nat.pow_le_pow_right (by decide) (by decide))
/-- the cell: some int -/
def tCell (K : PySem.W.Frag) : TE := fun σ H Q => ∃ (a : Addr) (ns : List Int) (i : Int), σ[0]? = some (some (.ref a)) ∧ σ[1]? = some (some (.int i)) ∧ SqL K H a (ns.map V.int) ∧ 0 ≤ i ∧ i ≤ 100 ∧ ∀ n : Int, Q (.int n) H
theorem ok_pot (F : Fun K "_law_pot" "_law_pot" sPot f fd) (T : Bl mg) : FnOk P w K mg base CX0 1 f fd ["script", "place"] (spPot K) := by
  refine F.ok scPot (fun vs H Q E h => ?_) (fun cdv A outer s H vs Q E hr h => ?_)
  · obtain ⟨a, ns, i, rfl, _⟩ := h
    rfl
  · obtain ⟨a, ns, i, rfl, hs, hl, i0, i1, k⟩ := h
    have nd := scPot.nd
    refine ⟨_, pss_cons (ps_set (i := 2) nd rfl (.inl rfl) (pe_imp (t' := tCell K) (pe_ifExp (pt_cmpR op_lt (pv 1) (pe_callB call_len_seq (by rfl) T.len PySem.boot_len (pa_cons (pv 0) pa_nil)) (nomark _))
          (pe_ix ix_list (pv 0) (pv 1) (fun _ _ => rfl)) (pe_op op_add (pe_op op_mul pe_int (pv 1)) pe_int)) ?_))
      (pss_cons (ps_set (i := 3) nd rfl (.inl rfl) (pe_op op_mul (pe_op op_mod (pe_callTy call_int1 rfl T.int boot_int (pa_cons (pe_callB call_abs (by rfl) T.abs boot_abs (pa_cons (pv 2) pa_nil)) pa_nil)) (pe_op op_powW (pe_op op_pow pe_int pe_int) pe_int))
          (pe_callTy call_int1 rfl T.int boot_int (pa_cons (pe_cmpR op_ge (pe_callB call_abs (by rfl) T.abs boot_abs (pa_cons (pv 2) pa_nil)) (pe_op op_pow pe_int pe_int) (nomark _)) pa_nil))))
        (pss_cons (ps_set (i := 4) nd rfl (.inl rfl) (pe_op op_mod (pe_callTy call_int1 rfl T.int boot_int (pa_cons (pv 2) pa_nil)) pe_int))
          (pss_one (ps_ret (pe_lst (pa_cons (pv 3) (pa_cons (pe_op op_mod (pe_callTy call_int1 rfl T.int boot_int (pa_cons
            (pe_op op_add (pe_op op_add (pe_op op_mul (pv 4) pe_int) (pe_op op_mul (pe_op op_mul pe_int (pv 1)) (pv 1))) pe_int) pa_nil)) pe_int) (pa_cons pe_int pa_nil)))))))), ?_⟩
    · rintro σ H' Q' ⟨a, ns, i, e0, e1, hs, i0, i1, q⟩
      refine ⟨_, e1, _, e0, a, _, rfl, .inl hs, _, _, rfl, rfl, _, rfl, ?_⟩
      refine ite2 (fun hlt => ?_) (fun _ => ?_)
      · have hlt' : i.toNat < ns.length := by have := of_decide_eq_true hlt; rw [List.length_map] at this; omega
        obtain ⟨x, hx0⟩ : ∃ x, ns[i.toNat]? = some x := ⟨_, List.getElem?_eq_getElem hlt'⟩
        have hx : atI (ns.map V.int) i = some (.int x) := by
          have e : i = ((i.toNat : Nat) : Int) := by omega
          rw [e]
          exact atI_nat (by rw [List.getElem?_map, hx0]; rfl)
        exact ⟨_, e0, _, e1, a, _, _, _, rfl, rfl, hs, hx, q _⟩
      · exact ⟨_, e1, _, _, rfl, rfl, .inl ⟨by decide, by decide⟩, _, _, rfl, rfl, q _⟩
    · refine ⟨a, ns, i, rfl, rfl, hs, i0, i1, fun n => ?_⟩
      have b2 : ∀ c : Bool, -(2 ^ 64) < (if c = true then (1 : Int) else 0) ∧ (if c = true then (1 : Int) else 0) < 2 ^ 64 := by decide
      have b0 : ∀ c : Bool, 0 ≤ (if c = true then (1 : Int) else 0) := by decide
      refine ⟨_, rfl, _, rfl, .inl ⟨_, rfl, _, _, rfl, rfl, ⟨by decide, by decide, by decide⟩, _, _, rfl, rfl, ⟨by decide, by decide, ten_bits⟩, _, _, rfl, rfl, ten_pow, ?_⟩⟩
      refine ⟨_, rfl, _, rfl, _, _, rfl, rfl, ⟨by decide, by decide, by decide⟩, _, _, rfl, rfl, .inr ⟨_, rfl, _, _, rfl, rfl, .inr (b2 _), ?_⟩⟩
      refine ⟨_, rfl, .inl ⟨_, rfl, _, _, rfl, rfl, (show (0 : Int) < 2305843009213693951 by decide), ?_⟩⟩
      refine ⟨_, rfl, _, rfl, _, _, rfl, rfl, .inr ⟨by decide, by decide⟩, _, rfl, _, _, rfl, rfl, .inl ⟨by decide, by decide⟩, _, rfl, _, _, rfl, rfl,
        .inl ⟨by show -(2 ^ 64) < 8761 * i; omega, by show 8761 * i < 2 ^ 64; omega⟩, _, _, rfl, rfl, _, _, rfl, rfl, .inl ⟨_, rfl, _, _, rfl, rfl, (show (0 : Int) < 2305843009213693921 by decide), ?_⟩⟩
      refine ⟨(show 3 ≤ sizeLine by rw [sizeLine_eq]; decide), fun p np => k p _ np (same_new np) ⟨_, _, _, upd_same, ?_, Int.emod_nonneg _ (by decide), ?_, by decide, by decide⟩⟩
      · exact Int.mul_nonneg (Int.emod_nonneg _ (Int.ne_of_gt ten_pow)) (b0 _)
      · exact Int.lt_trans (Int.emod_lt_of_pos _ (show (0 : Int) < 2305843009213693921 by decide)) (by decide)
end
end K6
set_option Elab.async false
set_option linter.all false
set_option maxRecDepth 100000
set_option maxHeartbeats 4000000
namespace K6
open PySem PySem.Spec PyProof.Rows L2 Lk
section
variable {P : Program} {w : World} {K : PySem.W.Frag} {mg : Str → Option Value} {base : Heap} {f : Addr} {fd : FuncData}
/-! ### _law_some -/
/-- ys are some of xs, each at its own place, in any sequence -/
def Sel {α : Type} (ys xs : List α) : Prop := ∃ zs, (ys ++ zs).Perm xs
theorem Sel.sub {α : Type} {ys xs : List α} (h : Sel ys xs) : ∀ y ∈ ys, y ∈ xs := fun y hy => by
  obtain ⟨zs, p⟩ := h
  exact p.mem_iff.mp (List.mem_append_left _ hy)
theorem Sel.nodup {α : Type} {ys xs : List α} (h : Sel ys xs) (n : xs.Nodup) : ys.Nodup := by
  obtain ⟨zs, p⟩ := h
  exact (p.nodup_iff.mpr n).sublist (List.sublist_append_left _ _)
theorem perm_erase {α : Type} : ∀ {xs : List α} {k : Nat} {y : α}, xs[k]? = some y → (y :: xs.eraseIdx k).Perm xs
  | [], _, _, h => by simp at h
  | x :: xs, 0, y, h => by simp at h; subst h; exact List.Perm.refl _
  | x :: xs, k + 1, y, h => by
    have := perm_erase (xs := xs) (k := k) (y := y) (by simpa using h)
    exact (List.Perm.swap x y _).trans (this.cons x)
def spSome (K : PySem.W.Frag) : Sp := fun vs H Q _ => ∃ (a l : Addr) (m : Int) (N : Nat) (xs : List V), vs = [.ref a, .ref l, .int m] ∧ PotAt a N H ∧ N + m.toNat ≤ 1000000 ∧ (SqL K H l xs ∨ SqT K H l xs) ∧ 0 ≤ m ∧ m ≤ xs.length ∧ xs.length ≤ 1000 ∧
  ∀ (ys : List V) (p : Addr) (H' : Hp), Sel ys xs → ys.length = m.toNat → ExtP a H H' → PotAt a (N + m.toNat) H' → H p = none → p ≠ sysModules → H' p = some (.lst ys) → Q (.ref p) H'
theorem scSome : FnScope ["pot", "pool", "amount", "rest", "found", "lap"] ["pot", "pool", "amount"] (defScope sSome) := ⟨rfl, rfl, rfl, by decide +kernel, rfl, by decide +kernel, by decide +kernel⟩
theorem ok_some {f1 : Addr} {fd1 : FuncData} (F : Fun K "_law_some" "_law_some" sSome f fd) (T : Bl mg) (F1 : Fun K "_law_take" "_law_take" sTake f1 fd1) (b1 : Binds K fd1 ["pot", "upto"] []) (m1 : mg "_law_take" = some (.ref f1)) :
    FnOk P w K mg base CX0 2 f fd ["pot", "pool", "amount"] (spSome K) := by
  have G1 : FnOk P w K mg base CX0 1 f1 fd1 ["pot", "upto"] spTake := ok_take F1 T
  refine F.ok scSome (fun vs H Q E h => ?_) (fun cdv A outer s H vs Q E hr h => ?_)
  · obtain ⟨a, l, m, N, xs, rfl, _⟩ := h
    rfl
  · obtain ⟨a, l, m, N, xs, rfl, hp, hN, hl, h0, h1, h2, k⟩ := h
    have nd := scSome.nd
    refine ⟨_, pss_cons (ps_par (i := 3) (j := 4) rfl nd rfl rfl (by decide) rfl rfl (by exact (pa_cons (pe_callTy call_list_of rfl T.list boot_list (pa_cons (pv 1) pa_nil)) (pa_cons (pe_lstN pa_nil) pa_nil))) rfl)
      (pss_cons (ps_for PassesOwn.never rfl (pi_range1 rfl T.range (pa_cons (pv 2) pa_nil)) (pg_name (i := 5) nd rfl (.inl rfl))
          (pss_one (ps_expr (pe_bm PySem.F.plainAttrs_list PySem.F.slot_list_append PySem.F.type_list_append mt_append (pv 4) (pa_cons (pe_bm PySem.F.plainAttrs_list PySem.F.slot_list_pop PySem.F.type_list_pop mt_popAt (pv 3)
            (pa_cons (pe_call G1 hr rfl m1 F1.kp b1 .nil pass0 (pa_cons (pv 0) (pa_cons (pe_callB call_len_seq (by rfl) T.len PySem.boot_len (pa_cons (pv 3) pa_nil)) pa_nil))) pa_nil)) pa_nil)))))
        (pss_one (ps_ret (pv 4)))), ?_⟩
    refine ⟨_, rfl, l, xs, rfl, hl, fun r nr => ?_⟩
    have s1 : Same H (upd H r (.lst xs)) := same_new nr
    refine ⟨Nat.zero_le _, fun q nq nsq => ⟨_, _, rfl, ?_⟩⟩
    have s2 : Same (upd H r (.lst xs)) (upd (upd H r (.lst xs)) q (.lst [])) := same_new nq
    have rq : r ≠ q := fun z => by rw [← z, upd_same] at nq; cases nq
    have nH : H q = none := by rw [upd_ne rq.symm] at nq; exact nq
    have hp2 := (hp.same s1).same s2
    have ra : r ≠ a := fun z => hp.ne (by rw [← z]; exact nr)
    have qa : q ≠ a := fun z => hp.ne (by rw [← z]; exact nH)
    refine ⟨_, rfl, m, rfl, by omega, by omega, for_range (lo := 0) (n := m.toNat) (fun i σ H' => ∃ (ys zs : List V) (u : Option V), σ = [some (.ref a), some (.ref l), some (.int m), some (.ref r), some (.ref q), u] ∧
        (ys ++ zs).Perm xs ∧ ys.length = i ∧ H' r = some (.lst zs) ∧ H' q = some (.lst ys) ∧ PotAt a (N + i) H' ∧ ∀ b o, b ≠ a → b ≠ r → b ≠ q → H b = some o → H' b = some o) ?_ ?_ ?_⟩
    · refine ⟨[], xs, none, rfl, List.Perm.refl _, rfl, by rw [upd_ne rq, upd_same], upd_same, hp2, fun b o _ nr nq e => by rw [upd_ne nq, upd_ne nr]; exact e⟩
    · rintro i σ H' hi ⟨ys, zs, u, rfl, pm, hy, er, eq, pt, ex⟩
      have lz : zs.length = xs.length - i := by
        have := pm.length_eq
        rw [List.length_append, hy] at this
        omega
      refine ⟨_, rfl, .inl ⟨rfl, _, SqL.of eq⟩, _, rfl, .inl ⟨rfl, _, SqL.of er⟩, _, rfl, _, rfl, r, _, rfl, .inl (SqL.of er), ?_⟩
      refine ⟨a, _, N + i, rfl, pt, by omega, by omega, by omega, fun j H2 j0 j1 x2 p2 => ?_⟩
      have er2 : H2 r = some (.lst zs) := x2 _ _ ra er
      have eq2 : H2 q = some (.lst ys) := x2 _ _ qa eq
      obtain ⟨y, hyj⟩ : ∃ y, zs[j.toNat]? = some y := ⟨_, List.getElem?_eq_getElem (by omega)⟩
      have sx : seqIndex? j zs.length = some j.toNat := by
        unfold seqIndex?
        rw [if_neg (show ¬ j < 0 by omega)]
        simp only [Bool.and_eq_true, decide_eq_true_eq]
        rw [if_pos ⟨by omega, by omega⟩]
      refine ⟨r, zs, j, j.toNat, y, rfl, rfl, er2, by omega, by omega, sx, hyj, ?_⟩
      have eq3 : upd H2 r (.lst (zs.eraseIdx j.toNat)) q = some (.lst ys) := by rw [upd_ne rq.symm]; exact eq2
      refine ⟨q, _, _, rfl, rfl, eq3, ?_, ?_⟩
      · rw [sizeLine_eq]; omega
      refine ⟨ys ++ [y], zs.eraseIdx j.toNat, _, rfl, ?_, by rw [List.length_append, hy]; rfl, ?_, upd_same, ?_, fun b o na nbr nbq e => ?_⟩
      · rw [List.append_assoc]
        exact ((List.Perm.append_left ys (perm_erase hyj)).trans pm)
      · rw [upd_ne rq, upd_same]
      · obtain ⟨o, b, c, e, r0⟩ := p2
        exact ⟨o, b, c, by rw [upd_ne qa.symm, upd_ne ra.symm]; exact e, r0⟩
      · rw [upd_ne nbq, upd_ne nbr]
        exact x2 b o na (ex b o na nbr nbq e)
    · rintro σ H' ⟨ys, zs, u, rfl, pm, hy, er, eq, pt, ex⟩
      refine ⟨_, rfl, k ys q H' ⟨zs, pm⟩ hy (fun b o na e => ex b o na (ne_of_none e nr) (ne_of_none e nH) e) pt nH nsq eq⟩
end
end K6
set_option Elab.async false
set_option linter.all false
set_option maxRecDepth 100000
set_option maxHeartbeats 4000000
namespace K6
open PySem PySem.Spec PyProof.Rows L2 Lk
abbrev sNames : Stmt := top 49
abbrev sPiece : Stmt := top 51
theorem perm_map {α β : Type} {f : α → β} {l1 l2 : List β} (h : l1.Perm l2) : ∀ xs : List α, l2 = xs.map f → ∃ zs : List α, zs.Perm xs ∧ l1 = zs.map f := by
  induction h with
  | nil =>
    intro xs e
    have : xs = [] := List.map_eq_nil_iff.mp e.symm
    subst this
    exact ⟨[], List.Perm.refl _, rfl⟩
  | cons x _ ih =>
    intro xs e
    cases xs with
    | nil => cases e
    | cons a xs =>
      injection e with e1 e2
      obtain ⟨zs, p, q⟩ := ih xs e2
      exact ⟨a :: zs, p.cons a, by rw [List.map_cons, ← q, ← e1]⟩
  | swap x y l =>
    intro xs e
    match xs, e with
    | a :: b :: xs, e =>
      injection e with e1 e2
      injection e2 with e2 e3
      exact ⟨b :: a :: xs, List.Perm.swap a b xs, by rw [List.map_cons, List.map_cons, ← e1, ← e2, ← e3]⟩
  | trans _ _ ih1 ih2 =>
    intro xs e
    obtain ⟨ys, p, q⟩ := ih2 xs e
    obtain ⟨zs, p', q'⟩ := ih1 ys q
    exact ⟨zs, p'.trans p, q'⟩
theorem Sel.map {α β : Type} {f : α → β} {ys : List β} {xs : List α} (h : Sel ys (xs.map f)) : ∃ zs, ys = zs.map f ∧ Sel zs xs := by
  obtain ⟨rs, p⟩ := h
  obtain ⟨ws, q, e⟩ := perm_map p xs rfl
  have e1 : ys = (ws.take ys.length).map f := by rw [List.map_take, ← e, List.take_left]
  refine ⟨ws.take ys.length, e1, ws.drop ys.length, ?_⟩
  rw [List.take_append_drop]
  exact q
theorem inV_str (z : Str) : ∀ zs : List Str, inV (.str z) (zs.map V.str) = decide (z ∈ zs)
  | [] => rfl
  | y :: ys => by
    show (eqV (.str y) (.str z) || inV (.str z) (ys.map V.str)) = _
    rw [inV_str z ys]
    by_cases e : z = y
    · subst e
      simp [eqV]
    · have e' : ¬ y = z := fun q => e q.symm
      simp [eqV, e, e']
theorem flat_strs : ∀ zs : List Str, (zs.map V.str).all flatV = true
  | [] => rfl
  | _ :: ys => by
    show (true && (ys.map V.str).all flatV) = true
    rw [flat_strs ys]
    rfl
section
variable {P : Program} {w : World} {K : PySem.W.Frag} {mg : Str → Option Value} {base : Heap} {f : Addr} {fd : FuncData}
/-! ### _law_names -/
def namePool : List Str := ["a", "b", "c", "d", "e", "m", "parts", "keeper", "zzzzzzzz", "back", "x", "y"]
def spNames : Sp := fun vs H Q _ => ∃ (a : Addr) (m : Int) (N : Nat), vs = [.ref a, .int m] ∧ PotAt a N H ∧ N + m.toNat ≤ 1000000 ∧ 0 ≤ m ∧ m ≤ 12 ∧
  ∀ (ys : List Str) (p : Addr) (H' : Hp), Sel ys namePool → ys.length = m.toNat → ExtP a H H' → PotAt a (N + m.toNat) H' → H p = none → p ≠ sysModules → H' p = some (.lst (ys.map V.str)) → Q (.ref p) H'
theorem scNames : FnScope ["pot", "most", "pool"] ["pot", "most"] (defScope sNames) := ⟨rfl, rfl, rfl, by decide +kernel, rfl, by decide +kernel, by decide +kernel⟩
theorem ok_names {f1 f2 : Addr} {fd1 fd2 : FuncData} (F : Fun K "_law_names" "_law_names" sNames f fd) (T : Bl mg) (F1 : Fun K "_law_take" "_law_take" sTake f1 fd1) (b1 : Binds K fd1 ["pot", "upto"] []) (m1 : mg "_law_take" = some (.ref f1))
    (F2 : Fun K "_law_some" "_law_some" sSome f2 fd2) (b2 : Binds K fd2 ["pot", "pool", "amount"] []) (m2 : mg "_law_some" = some (.ref f2)) : FnOk P w K mg base CX0 3 f fd ["pot", "most"] spNames := by
  have G2 : FnOk P w K mg base CX0 2 f2 fd2 ["pot", "pool", "amount"] (spSome K) := ok_some F2 T F1 b1 m1
  refine F.ok scNames (fun vs H Q E h => ?_) (fun cdv A outer s H vs Q E hr h => ?_)
  · obtain ⟨a, m, N, rfl, _⟩ := h
    rfl
  · obtain ⟨a, m, N, rfl, hp, hN, h0, h1, k⟩ := h
    have nd := scNames.nd
    refine ⟨_, pss_cons (ps_set (i := 2) nd rfl (.inl rfl) (pe_lst (by exact (pa_cons pe_str (pa_cons pe_str (pa_cons pe_str (pa_cons pe_str (pa_cons pe_str (pa_cons pe_str (pa_cons pe_str (pa_cons pe_str (pa_cons pe_str (pa_cons pe_str (pa_cons pe_str (pa_cons pe_str pa_nil))))))))))))))
      ) (pss_one (ps_ret (pe_call G2 hr rfl m2 F2.kp b2 .nil pass0 (pa_cons (pv 0) (pa_cons (pv 2) (pa_cons (pv 1) pa_nil)))))), ?_⟩
    refine ⟨few_ok rfl, fun l nl => ?_⟩
    have s1 : Same H (upd H l (.lst (namePool.map V.str))) := same_new nl
    have hl : (upd H l (.lst (namePool.map V.str))) l = some (.lst (namePool.map V.str)) := upd_same
    refine ⟨_, rfl, _, rfl, _, rfl, a, l, m, N, namePool.map V.str, rfl, hp.same s1, hN, .inl (SqL.of hl), h0, h1, by decide, fun ys p H' sel hy ex pt np ns e => ?_⟩
    obtain ⟨zs, rfl, sz⟩ := sel.map
    exact k zs p H' sz (by rw [List.length_map] at hy; exact hy) ((ExtP.of s1).trans ex) pt (s1.free np) ns e
theorem fm_if (q : Str → Prop) [DecidablePred q] : ∀ ps : List Str, ps.filterMap (fun x => if q x then some (V.str x) else none) = (ps.filter fun x => decide (q x)).map V.str
  | [] => rfl
  | p :: ps => by
    have ih := fm_if q ps
    by_cases h : q p
    · simp [List.filterMap_cons, List.filter_cons, h, ih]
    · simp [List.filterMap_cons, List.filter_cons, h, ih]
/-! ### _law_piece -/
/-- a piece: some parts, in their sequence -/
def PieceOk (ps piece : List Str) : Prop := piece ≠ [] ∧ piece = ps.filter fun p => decide (p ∈ piece)
def spPiece (K : PySem.W.Frag) : Sp := fun vs H Q _ => ∃ (a l : Addr) (wd : Int) (N : Nat) (ps : List Str), vs = [.ref a, .ref l, .int wd] ∧ PotAt a N H ∧ N ≤ 100000 ∧ Sq K H l (ps.map V.str) ∧ l ≠ a ∧
  0 < ps.length ∧ ps.length ≤ 4 ∧ 1 ≤ wd ∧ wd ≤ 4 ∧
  ∀ (piece : List Str) (p : Addr) (H' : Hp), PieceOk ps piece → ExtP a H H' → PotAt a (N + 5) H' → H p = none → H' p = some (.tup (piece.map V.str)) → Q (.ref p) H'
theorem scPiece : FnScope ["pot", "parts", "wide", "some", "part"] ["pot", "parts", "wide"] (defScope sPiece) := ⟨rfl, rfl, rfl, by decide +kernel, rfl, by decide +kernel, by decide +kernel⟩
theorem ok_piece {f1 f2 : Addr} {fd1 fd2 : FuncData} (F : Fun K "_law_piece" "_law_piece" sPiece f fd) (T : Bl mg) (hT : mg "tuple" = none) (F1 : Fun K "_law_take" "_law_take" sTake f1 fd1) (b1 : Binds K fd1 ["pot", "upto"] []) (m1 : mg "_law_take" = some (.ref f1))
    (F2 : Fun K "_law_some" "_law_some" sSome f2 fd2) (b2 : Binds K fd2 ["pot", "pool", "amount"] []) (m2 : mg "_law_some" = some (.ref f2)) : FnOk P w K mg base CX0 3 f fd ["pot", "parts", "wide"] (spPiece K) := by
  have G1 : FnOk P w K mg base CX0 1 f1 fd1 ["pot", "upto"] spTake := ok_take F1 T
  have G2 : FnOk P w K mg base CX0 2 f2 fd2 ["pot", "pool", "amount"] (spSome K) := ok_some F2 T F1 b1 m1
  refine F.ok scPiece (fun vs H Q E h => ?_) (fun cdv A outer s H vs Q E hr h => ?_)
  · obtain ⟨a, l, wd, N, ps, rfl, _⟩ := h
    rfl
  · obtain ⟨a, l, wd, N, ps, rfl, hp, hN, hl, nla, p0, p4, w0, w4, k⟩ := h
    have nd := scPiece.nd
    have hr1 : Room 1 _ := hr.mono (by decide)
    refine ⟨_, pss_cons (ps_set (i := 3) nd rfl (.inr rfl) (pe_call G2 (hr.mono (by decide)) rfl m2 F2.kp b2 .nil pass0 (pa_cons (pv 0) (pa_cons (pv 1) (pa_cons (pe_op op_add pe_int (pe_call G1 hr1 rfl m1 F1.kp b1 .nil pass0 (pa_cons (pv 0)
        (pa_cons (pe_callB (call_min2 rfl) (by rfl) T.min boot_min (pa_cons (pv 2) (pa_cons (pe_callB call_len_seq (by rfl) T.len PySem.boot_len (pa_cons (pv 1) pa_nil)) pa_nil))) pa_nil)))) pa_nil)))))
      (pss_one (ps_ret (pe_tupleOf (by rfl) hT (pe_lc (own := [("part", 4)]) (g := gName 4) (tt := tTest (tOp (rIn K false) (tVar 4) (tVar 3))) rfl nd (pi_seq (pi_list (pv 1)) (pi_tup (pv 1))) (blkOk_by (N := ["pot", "parts", "wide", "some", "part"]) (sc := defScope sPiece) (by decide +kernel))
        (fun _ _ _ _ _ => pg_name (i := 4) nd rfl (Or.inl rfl)) (fun _ _ _ _ _ => pts_one (pt_cmpR op_in_seq (pv 4) (pv 3) rfl)) (fun _ _ _ _ _ => pv 4))))), ?_⟩
    have pl : ((ps.map V.str).length : Int) = ps.length := by rw [List.length_map]
    have ml : (if ((ps.map V.str).length : Int) < wd then ((ps.map V.str).length : Int) else wd) ≤ 4 ∧ 0 < (if ((ps.map V.str).length : Int) < wd then ((ps.map V.str).length : Int) else wd) ∧ (if ((ps.map V.str).length : Int) < wd then ((ps.map V.str).length : Int) else wd) ≤ ps.length := by
      rw [pl]
      split <;> omega
    refine ⟨_, rfl, _, rfl, _, rfl, _, rfl, _, rfl, l, _, rfl, hl, _, _, rfl, a, _, N, rfl, hp, by omega, ml.2.1, by omega, fun i H1 i0 i1 x1 p1 => ?_⟩
    refine ⟨_, _, rfl, rfl, a, l, 1 + i, N + 1, ps.map V.str, rfl, p1, by omega, hl.ext nla x1, by omega, by omega, by omega, fun ys q H2 sel hy x2 p2 nq nsq eq => ?_⟩
    obtain ⟨zs, rfl, sz⟩ := sel.map
    rw [List.length_map] at hy
    have hl2 : Sq K H2 l (ps.map V.str) := (hl.ext nla x1).ext nla x2
    refine ⟨l, rfl, seq_lc (Q := fun x H1 => kTup K x H1 Q) ps V.str (fun p => if p ∈ zs then some (V.str p) else none) hl2 (by omega) ?_ ?_⟩
    · intro j b H' R Rn hb s' k1 k2
      refine ⟨rfl, _, rfl, _, rfl, q, _, rfl, .inl (SqL.of (s' _ _ eq)), rfl, flat_strs _, _, rfl, ?_⟩
      rw [inV_str]
      by_cases hz : b ∈ zs
      · refine iteA (by simp [hz]) ?_
        exact ⟨_, rfl, k1 _ _ (by simp [hz]) (Same.refl _)⟩
      · refine iteB (by simp [hz]) ?_
        exact k2 _ (by simp [hz]) (Same.refl _)
    · intro D H' nD s' e
      rw [fm_if] at e
      refine .inl ⟨D, _, rfl, SqL.of e, fun T nT => ?_⟩
      have all : ExtP a H (upd H' T (.tup ((ps.filter fun p => decide (p ∈ zs)).map V.str))) := ((x1.trans x2).trans (.of s')).trans (.of (same_new nT))
      have nTH : H T = none := by
        cases z : H T with
        | none => rfl
        | some u =>
          have nTa : T ≠ a := fun e => by
            have := (p2.same s').ne
            rw [← e] at this
            exact this nT
          have := ((x1.trans x2).trans (.of s')) T u nTa z
          rw [nT] at this
          cases this
      refine k _ T _ ⟨?_, ?_⟩ all ((((p2.same s').same (same_new nT))).mono (by omega)) nTH upd_same
      · intro z0
        match zs, hy, sz with
        | [], hy, _ => simp at hy; omega
        | y :: ys, _, sz =>
          have hy2 : y ∈ ps := sz.sub y List.mem_cons_self
          have : y ∈ ps.filter fun p => decide (p ∈ y :: ys) := List.mem_filter.mpr ⟨hy2, by simp⟩
          rw [z0] at this
          cases this
      · refine List.filter_congr fun p hp => ?_
        simp [List.mem_filter, hp]
end
end K6
set_option Elab.async false
set_option linter.all false
set_option maxRecDepth 100000
set_option maxHeartbeats 4000000
set_option pp.maxSteps 1200
set_option pp.deepTerms false
namespace K6
open PySem PySem.Spec PyProof.Rows L2 Lk
abbrev sLore : Stmt := top 50
/-! ### what a shelf is drawn as -/
abbrev KP := Str × List (List Str)
structure Lore where
  parts : List Str
  kps : List KP
def partPool : List Str := ["x", "y", "z", "w", "parts", "a"]
structure LoreOk (L : Lore) : Prop where
  p0 : 0 < L.parts.length
  p4 : L.parts.length ≤ 4
  pn : L.parts.Nodup
  pp : ∀ p ∈ L.parts, p ∈ partPool
  k2 : 2 ≤ L.kps.length
  k6 : L.kps.length ≤ 6
  kn : (L.kps.map (·.1)).Nodup
  kp : ∀ k ∈ L.kps, k.1 ∈ namePool
  q : ∀ k ∈ L.kps, 1 ≤ k.2.length ∧ k.2.length ≤ 2 ∧ ∀ p ∈ k.2, PieceOk L.parts p
/-- tuples of texts, each at its own address -/
def Pieces (H : Hp) : List V → List (List Str) → Prop := Paired fun v p => ∃ t, v = V.ref t ∧ H t = some (.tup (p.map V.str))
def Rows (H : Hp) : List V → List KP → Prop := Paired fun v k => ∃ r q ts, v = V.ref r ∧ H r = some (.tup [.str k.1, .ref q]) ∧ H q = some (.tup ts) ∧ Pieces H ts k.2
def LoreAt (a : Addr) (H : Hp) (lo : Addr) (L : Lore) : Prop := ∃ pa ks rows, H lo = some (.dK [(.inr "parts", .ref pa), (.inr "keepers", .ref ks)]) ∧ H pa = some (.tup (L.parts.map V.str)) ∧ H ks = some (.lst rows) ∧ ks ≠ a ∧ Rows H rows L.kps
/-- what is in H and no list stands in H', too -/
def Tups (H H' : Hp) : Prop := ∀ b xs, H b = some (.tup xs) → H' b = some (.tup xs)
theorem Tups.of {H H' : Hp} (s : Same H H') : Tups H H' := fun b xs e => s b _ e
theorem Tups.trans {H H1 H2 : Hp} (x : Tups H H1) (y : Tups H1 H2) : Tups H H2 := fun b xs e => y b xs (x b xs e)
theorem Tups.ext {a : Addr} {N : Nat} {H H' : Hp} (hp : PotAt a N H) (x : ExtP a H H') : Tups H H' := fun b xs e => x b _ (fun z => by
  obtain ⟨_, _, _, h, _⟩ := hp
  rw [z, h] at e
  cases e) e
theorem Tups.upd {H : Hp} {b : Addr} {xs : List V} {o : HO} (h : H b = some (.lst xs)) : Tups H (upd H b o) := fun c ys e => by
  rw [upd_ne (fun z => by rw [z, h] at e; cases e)]
  exact e
theorem Pieces.tups {H H' : Hp} {vs : List V} {ps : List (List Str)} (h : Pieces H vs ps) (k : Tups H H') : Pieces H' vs ps := Paired.mapP h fun _ _ ⟨t, e, h⟩ => ⟨t, e, k _ _ h⟩
theorem Rows.tups {H H' : Hp} {vs : List V} {ks : List KP} (h : Rows H vs ks) (k : Tups H H') : Rows H' vs ks := Paired.mapP h fun _ _ ⟨r, q, ts, e, h1, h2, h3⟩ => ⟨r, q, ts, e, k _ _ h1, k _ _ h2, h3.tups k⟩
theorem paired_append {α β : Type} {R : α → β → Prop} : ∀ {xs : List α} {ys : List β} {xs' : List α} {ys' : List β}, Paired R xs ys → Paired R xs' ys' → Paired R (xs ++ xs') (ys ++ ys')
  | _, _, _, _, .nil, h => h
  | _, _, _, _, .cons a t, h => .cons a (paired_append t h)
theorem LoreAt.ext {a lo : Addr} {N : Nat} {H H' : Hp} {L : Lore} (h : LoreAt a H lo L) (hp : PotAt a N H) (x : ExtP a H H') : LoreAt a H' lo L := by
  obtain ⟨pa, ks, rows, h1, h2, h3, n, h4⟩ := h
  obtain ⟨_, _, _, ha, _⟩ := id hp
  exact ⟨pa, ks, rows, x _ _ (fun z => by rw [z, ha] at h1; cases h1) h1, (Tups.ext hp x) _ _ h2, x _ _ n h3, n, h4.tups (Tups.ext hp x)⟩
theorem LoreAt.same {a lo : Addr} {H H' : Hp} {L : Lore} (h : LoreAt a H lo L) (s : Same H H') : LoreAt a H' lo L := by
  obtain ⟨pa, ks, rows, h1, h2, h3, n, h4⟩ := h
  exact ⟨pa, ks, rows, s _ _ h1, s _ _ h2, s _ _ h3, n, h4.tups (.of s)⟩
section
variable {P : Program} {w : World} {K : PySem.W.Frag} {mg : Str → Option Value} {base : Heap} {f : Addr} {fd : FuncData}
def spLore : Sp := fun vs H Q _ => ∃ (a : Addr) (N : Nat), vs = [.ref a] ∧ PotAt a N H ∧ N ≤ 10000 ∧
  ∀ (L : Lore) (lo : Addr) (H' : Hp), LoreOk L → ExtP a H H' → PotAt a (N + 200) H' → LoreAt a H' lo L → Q (.ref lo) H'
theorem scLore : FnScope ["pot", "parts", "wide", "found", "name", "pieces", "lap"] ["pot"] (defScope sLore) := ⟨rfl, rfl, rfl, by decide +kernel, rfl, by decide +kernel, by decide +kernel⟩
theorem ok_lore {f1 f2 f3 f4 f5 : Addr} {fd1 fd2 fd3 fd4 fd5 : FuncData} (F : Fun K "_law_lore" "_law_lore" sLore f fd) (T : Bl mg) (hT : mg "tuple" = none)
    (F1 : Fun K "_law_take" "_law_take" sTake f1 fd1) (b1 : Binds K fd1 ["pot", "upto"] []) (m1 : mg "_law_take" = some (.ref f1))
    (F2 : Fun K "_law_some" "_law_some" sSome f2 fd2) (b2 : Binds K fd2 ["pot", "pool", "amount"] []) (m2 : mg "_law_some" = some (.ref f2))
    (F3 : Fun K "_law_of" "_law_of" sOf f3 fd3) (b3 : Binds K fd3 ["pot", "some"] []) (m3 : mg "_law_of" = some (.ref f3))
    (F4 : Fun K "_law_names" "_law_names" sNames f4 fd4) (b4 : Binds K fd4 ["pot", "most"] []) (m4 : mg "_law_names" = some (.ref f4))
    (F5 : Fun K "_law_piece" "_law_piece" sPiece f5 fd5) (b5 : Binds K fd5 ["pot", "parts", "wide"] []) (m5 : mg "_law_piece" = some (.ref f5)) :
    FnOk P w K mg base CX0 4 f fd ["pot"] spLore := by
  have G1 : FnOk P w K mg base CX0 1 f1 fd1 ["pot", "upto"] spTake := ok_take F1 T
  have G2 : FnOk P w K mg base CX0 2 f2 fd2 ["pot", "pool", "amount"] (spSome K) := ok_some F2 T F1 b1 m1
  have G3 : FnOk P w K mg base CX0 2 f3 fd3 ["pot", "some"] spOf := ok_of F3 T F1 b1 m1
  have G4 : FnOk P w K mg base CX0 3 f4 fd4 ["pot", "most"] spNames := ok_names F4 T F1 b1 m1 F2 b2 m2
  have G5 : FnOk P w K mg base CX0 3 f5 fd5 ["pot", "parts", "wide"] (spPiece K) := ok_piece F5 T hT F1 b1 m1 F2 b2 m2
  refine F.ok scLore (fun vs H Q E h => ?_) (fun cdv A outer s H vs Q E hr h => ?_)
  · obtain ⟨a, N, rfl, _⟩ := h
    rfl
  · obtain ⟨a, N, rfl, hp, hN, k⟩ := h
    have nd := scLore.nd
    have hr1 : Room 1 _ := hr.mono (by decide)
    have hr2 : Room 2 _ := hr.mono (by decide)
    refine ⟨_, pss_cons (ps_set (i := 1) nd rfl (.inr rfl) (pe_call G2 hr2 (by rfl) m2 F2.kp b2 .nil pass0 (pa_cons (pv 0) (pa_cons (pe_lst (by exact (pa_cons pe_str (pa_cons pe_str (pa_cons pe_str (pa_cons pe_str (pa_cons pe_str (pa_cons pe_str pa_nil))))))))
          (pa_cons (pe_op op_add pe_int (pe_call G1 hr1 (by rfl) m1 F1.kp b1 .nil pass0 (pa_cons (pv 0) (pa_cons pe_int pa_nil)))) pa_nil)))))
      (pss_cons (ps_asg (pe_tup (pa_cons (pe_call G3 hr2 (by rfl) m3 F3.kp b3 .nil pass0 (pa_cons (pv 0) (pa_cons (pe_lst (pa_cons pe_int (pa_cons pe_int (pa_cons pe_int pa_nil)))) pa_nil))) (pa_cons (pe_lst pa_nil) pa_nil)))
          (pg_tup rfl (pgs_cons (pg_name (i := 2) nd rfl (.inr rfl)) (pgs_cons (pg_name (i := 3) nd rfl (.inl rfl)) pgs_nil))))
      (pss_cons (ps_for PassesOwn.never rfl (pi_list (pe_call G4 hr (by rfl) m4 F4.kp b4 .nil pass0 (pa_cons (pv 0) (pa_cons (pe_op op_add pe_int (pe_call G1 hr1 (by rfl) m1 F1.kp b1 .nil pass0 (pa_cons (pv 0) (pa_cons pe_int pa_nil)))) pa_nil))))
          (pg_name (i := 4) nd rfl (.inl rfl))
          (pss_cons (ps_setLc (i := 5) (own := [("lap", 6)]) (g := gName 6) (tt := tYes) (te := tCall (spPiece K) [] E0 (tCons (tVar 0) (tCons (tVar 1) (tCons (tVar 2) tNil)))) rfl nd rfl rfl (sw_true rfl rfl rfl (by decide +kernel))
              (pi_range1 (by rfl) T.range (pa_cons (pe_op op_add pe_int (pe_callTy call_int1 rfl T.int boot_int (pa_cons (pe_cmpR op_eq (pe_call G1 hr1 (by rfl) m1 F1.kp b1 .nil pass0 (pa_cons (pv 0) (pa_cons pe_int pa_nil))) pe_int (nomark _)) pa_nil))) pa_nil))
              (blkOk_by (N := ["pot", "parts", "wide", "found", "name", "pieces", "lap"]) (sc := defScope sLore) (by decide +kernel)) (fun _ _ _ _ _ => pg_name (i := 6) nd rfl (Or.inl rfl)) (fun _ _ _ _ _ => pts_nil)
              (fun _ _ _ _ _ => pe_call G5 hr (by rfl) m5 F5.kp b5 .nil pass0 (pa_cons (pv 0) (pa_cons (pv 1) (pa_cons (pv 2) pa_nil)))))
            (pss_one (ps_expr (pe_bm PySem.F.plainAttrs_list PySem.F.slot_list_append PySem.F.type_list_append mt_append (pv 3) (pa_cons (pe_tup (pa_cons (pv 4) (pa_cons (pe_tupleOf (by rfl) hT (pv 5)) pa_nil))) pa_nil))))))
        (pss_one (ps_ret (pe_disp (pps_cons pe_str (pe_tupleOf (by rfl) hT (pv 1)) (pps_cons pe_str (pv 3) pps_nil)) rfl rfl (by simp) (by simp)))))), ?_⟩
    refine ⟨_, rfl, few_ok rfl, fun l nl => ⟨_, rfl, a, 4, N, rfl, hp.same (same_new nl), by omega, by decide, by decide, fun i H1 i0 i1 x1 p1 => ?_⟩⟩
    have hl1 : H1 l = some (.lst (partPool.map V.str)) := x1 _ _ (fun z => hp.ne (by rw [← z]; exact nl)) upd_same
    refine ⟨_, _, rfl, rfl, a, l, 1 + i, N + 1, partPool.map V.str, rfl, p1, by omega, .inl (SqL.of hl1), by omega, by show (1 : Int) + i ≤ 6; omega, by decide, fun ys pa H2 sel hy x2 p2 npa nspa epa => ?_⟩
    obtain ⟨ps, rfl, sp⟩ := sel.map
    rw [List.length_map] at hy
    have X2 : ExtP a H H2 := ((ExtP.of (same_new nl)).trans x1).trans x2
    -- wide, found
    have na2 : ∀ {b : Addr}, H2 b = none → b ≠ a := fun {b} n z => p2.ne (by rw [← z]; exact n)
    refine ⟨_, rfl, few_ok rfl, fun l2 nl2 => ⟨a, l2, _, [.int 1, .int 2, .int 4], rfl, p2.same (same_new nl2), by omega, na2 nl2, upd_same, by decide, by decide, fun j x H3 hx x3 p3 => ?_⟩⟩
    obtain ⟨wd, rfl, w1, w4⟩ : ∃ wd : Int, x = .int wd ∧ 1 ≤ wd ∧ wd ≤ 4 := by
      match j, hx with
      | 0, hx => cases hx; exact ⟨_, rfl, by decide, by decide⟩
      | 1, hx => cases hx; exact ⟨_, rfl, by decide, by decide⟩
      | 2, hx => cases hx; exact ⟨_, rfl, by decide, by decide⟩
      | _ + 3, hx => simp at hx
    have X3 : ExtP a H H3 := (X2.trans (.of (same_new nl2))).trans x3
    refine ⟨Nat.zero_le _, fun fnd nf => ⟨few_ok rfl, fun t nt => ⟨t, _, rfl, .inl (.inl upd_same), rfl, ?_⟩⟩⟩
    refine ⟨_, _, rfl, _, _, rfl, rfl, ?_⟩
    have s4 : Same H3 (upd (upd H3 fnd (.lst [])) t (.tup [.int wd, .ref fnd])) := (same_new nf).trans (same_new nt)
    generalize hH4 : upd (upd H3 fnd (.lst [])) t (.tup [.int wd, .ref fnd]) = H4 at s4
    have ef4 : H4 fnd = some (.lst []) := by
      rw [← hH4, upd_ne (fun z => by rw [← z, upd_same] at nt; cases nt), upd_same]
    refine ⟨_, rfl, _, rfl, a, 5, _, rfl, p3.same s4, by omega, by decide, by decide, fun i5 H5 i50 i55 x5 p5 => ?_⟩
    refine ⟨_, _, rfl, rfl, a, 2 + i5, _, rfl, p5, by omega, by omega, by show (2 : Int) + i5 ≤ 12; omega, fun zs nm H6 sel6 hy6 x6 p6 nnm snm enm => ?_⟩
    have X4 : ExtP a H H4 := X3.trans (.of s4)
    have X6 : ExtP a H H6 := (X4.trans x5).trans x6
    have na3 : fnd ≠ a := fun z => p3.ne (by rw [← z]; exact nf)
    have nna : nm ≠ a := fun z => p5.ne (by rw [← z]; exact nnm)
    have npaa : pa ≠ a := fun z => p1.ne (by rw [← z]; exact npa)
    have ef6 : H6 fnd = some (.lst []) := x6 _ _ na3 (x5 _ _ na3 ef4)
    have epa3 : H3 pa = some (.lst (ps.map V.str)) := x3 _ _ npaa ((same_new nl2) _ _ epa)
    have epa6 : H6 pa = some (.lst (ps.map V.str)) := x6 _ _ npaa (x5 _ _ npaa (s4 _ _ epa3))
    have nfn : nm ≠ fnd := fun z => by
      rw [z, x5 _ _ na3 ef4] at nnm
      cases nnm
    have npf : pa ≠ fnd := ne_of_none epa3 nf
    have pl : ps.length = (1 + i).toNat := hy
    refine ⟨nm, rfl, ⟨_, SqL.of enm⟩, for_list (xs := zs.map V.str) (fun i σ H' => ∃ (kps : List KP) (rows : List V) (u v w : Option V), σ = [some (.ref a), some (.ref pa), some (.int wd), some (.ref fnd), u, v, w] ∧ kps.map (·.1) = zs.take i ∧
      (∀ k ∈ kps, 1 ≤ k.2.length ∧ k.2.length ≤ 2 ∧ ∀ p ∈ k.2, PieceOk ps p) ∧ H' fnd = some (.lst rows) ∧ Rows H' rows kps ∧ rows.length = i ∧ H' nm = some (.lst (zs.map V.str)) ∧ H' pa = some (.lst (ps.map V.str)) ∧ PotAt a (N + 100 + 12 * i) H' ∧ ExtP a H H' ∧ H fnd = none) ?_ ?_ ?_ ?_⟩
    · exact ⟨[], [], none, none, none, rfl, by simp, by simp, ef6, .nil, rfl, enm, epa6, p6.mono (by omega), X6, by
        cases z : H fnd with
        | none => rfl
        | some o => rw [X3 _ _ na3 z] at nf; cases nf⟩
    · rintro i σ H' _ ⟨_, _, _, _, _, rfl, _, _, _, _, _, h, _⟩
      exact SqL.of h
    · rintro i x σ H' hx ⟨kps, rows, u, v, w, rfl, hk, hq, hf, hrw, hrl, hnm, hpa, pt, ex, hfn⟩
      obtain ⟨z, hz, rfl⟩ : ∃ z, zs[i]? = some z ∧ x = .str z := by
        rw [List.getElem?_map] at hx
        cases e : zs[i]? with
        | none => rw [e] at hx; cases hx
        | some z => rw [e] at hx; exact ⟨z, rfl, (Option.some.inj hx).symm⟩
      have iz : i < zs.length := (List.getElem?_eq_some_iff.mp hz).1
      have z6 : zs.length ≤ 6 := by omega
      refine ⟨_, rfl, a, 3, _, rfl, pt, by omega, by decide, by decide, fun i3 H7 i30 i33 x7 p7 => ?_⟩
      refine ⟨rfl, .inr ⟨_, rfl, _, _, rfl, rfl, ?_⟩⟩
      have nb : ∀ c : Bool, (1 : Int) + (if c = true then 1 else 0) = 1 ∨ (1 : Int) + (if c = true then 1 else 0) = 2 := by decide
      have nb2 := nb (decide (V.int i3 = V.int 0))
      obtain ⟨n, hn⟩ : ∃ n : Int, n = 1 + (if decide (V.int i3 = V.int 0) = true then 1 else 0) := ⟨_, rfl⟩
      rw [← hn] at nb2
      refine ⟨n, by rw [hn], by omega, by omega, fun D nD => ?_⟩
      have n12 : n.toNat = 1 ∨ n.toNat = 2 := by omega
      have hpa7 : H7 pa = some (.lst (ps.map V.str)) := x7 _ _ npaa hpa
      have nDa : D ≠ a := fun z => p7.ne (by rw [← z]; exact nD)
      refine lc_it (walk_range (n := n.toNat)) (fun j H => ∃ (ts : List V) (pcs : List (List Str)), H D = some (.lst ts) ∧ Pieces H ts pcs ∧ ts.length = j ∧ pcs.length = j ∧ (∀ p ∈ pcs, PieceOk ps p) ∧ PotAt a (N + 100 + 12 * i + 1 + 5 * j) H ∧ ExtP a H7 H) ?_ (fun _ _ _ _ => trivial) ?_ ?_
      · exact ⟨[], [], upd_same, .nil, rfl, rfl, by simp, (p7.same (same_new nD)).mono (by omega), .of (same_new nD)⟩
      · rintro j y H8 H8' hj ⟨ts, pcs, hD, hP, hl1, hl2, hall, pt8, ex8⟩ hy
        obtain ⟨rfl, rfl⟩ := hy
        have hpa8 := ex8 _ _ npaa hpa7
        refine ⟨rfl, _, rfl, _, rfl, _, rfl, a, pa, wd, _, ps, rfl, pt8, by omega, .inl (SqL.of hpa8), npaa, by omega, by omega, w1, w4, fun piece q H9 pok x9 p9 nq eq => ?_⟩
        have hD9 := x9 _ _ nDa hD
        refine ⟨ts, hD9, by rw [sizeLine_eq]; omega, ts ++ [.ref q], pcs ++ [piece], upd_same, ?_, by simp [hl1], by simp [hl2], ?_, ?_, ?_⟩
        · exact paired_append ((hP.tups (Tups.ext pt8 x9)).tups (Tups.upd hD9)) (.cons ⟨q, rfl, (Tups.upd hD9) _ _ eq⟩ .nil)
        · intro p hp
          rcases List.mem_append.mp hp with h | h
          · exact hall p h
          · rw [List.mem_singleton.mp h]; exact pok
        · obtain ⟨o, b, c, e, r0, r1, r2, r3, r4⟩ := p9
          exact ⟨o, b, c, by rw [upd_ne nDa.symm]; exact e, r0, r1, r2, r3, by omega⟩
        · intro b o nb e
          rw [upd_ne (ne_of_none e nD)]
          exact x9 _ _ nb (ex8 _ _ nb e)
      · rintro H8 ⟨ts, pcs, hD, hP, hl1, hl2, hall, pt8, ex8⟩
        have hf8 : H8 fnd = some (.lst rows) := ex8 _ _ na3 (x7 _ _ na3 hf)
        have nfD : fnd ≠ D := ne_of_none (x7 _ _ na3 hf) nD
        refine ⟨_, rfl, .inl ⟨rfl, _, SqL.of hf8⟩, _, rfl, _, rfl, .inl ⟨D, _, rfl, SqL.of hD, fun T nT => ?_⟩⟩
        refine ⟨few_ok rfl, fun r nr => ?_⟩
        have s9 : Same H8 (upd (upd H8 T (.tup ts)) r (.tup [.str z, .ref T])) := (same_new nT).trans (same_new nr)
        have eT : upd (upd H8 T (.tup ts)) r (.tup [.str z, .ref T]) T = some (.tup ts) := by
          rw [upd_ne (fun z => by rw [← z, upd_same] at nr; cases nr), upd_same]
        generalize hH9 : upd (upd H8 T (.tup ts)) r (.tup [.str z, .ref T]) = H9 at s9 eT
        have er : H9 r = some (.tup [.str z, .ref T]) := by rw [← hH9, upd_same]
        have hf9 := s9 _ _ hf8
        refine ⟨fnd, rows, _, rfl, rfl, hf9, by rw [sizeLine_eq]; omega, ?_⟩
        have tu : Tups H' (upd H9 fnd (.lst (rows ++ [.ref r]))) := (((Tups.ext pt x7).trans (Tups.ext p7 ex8)).trans (.of s9)).trans (.upd hf9)
        refine ⟨kps ++ [(z, pcs)], rows ++ [.ref r], _, _, _, rfl, ?_, ?_, upd_same, ?_, by simp [hrl], ?_, ?_, ?_, ?_, hfn⟩
        · rw [List.map_append, hk, List.take_add_one, hz]
          rfl
        · intro k0 hk0
          rcases List.mem_append.mp hk0 with h | h
          · exact hq k0 h
          · rw [List.mem_singleton.mp h]
            exact ⟨by show 1 ≤ pcs.length; omega, by show pcs.length ≤ 2; omega, hall⟩
        · exact paired_append (hrw.tups tu) (.cons ⟨r, T, ts, rfl, (Tups.upd hf9) _ _ er, (Tups.upd hf9) _ _ eT, (hP.tups (.of s9)).tups (.upd hf9)⟩ .nil)
        · rw [upd_ne nfn]
          exact s9 _ _ (ex8 _ _ nna (x7 _ _ nna hnm))
        · rw [upd_ne npf]
          exact s9 _ _ (ex8 _ _ npaa (x7 _ _ npaa hpa))
        · obtain ⟨o, b, c, e, r0, r1, r2, r3, r4⟩ := pt8
          exact ⟨o, b, c, by rw [upd_ne na3.symm]; exact s9 _ _ e, r0, r1, r2, r3, by omega⟩
        · intro b o nb e
          rw [upd_ne (ne_of_none e hfn)]
          exact s9 _ _ (ex8 _ _ nb (x7 _ _ nb (ex _ _ nb e)))
    · rintro σ H' ⟨kps, rows, u, v, w, rfl, hk, hq, hf, hrw, hrl, hnm, hpa, pt, ex, hfn⟩
      rw [List.length_map, List.take_length] at hk
      have kl : kps.length = zs.length := by rw [← hk, List.length_map]
      intro lo nlo
      have nloa : lo ≠ a := fun z => pt.ne (by rw [← z]; exact nlo)
      have s1 : Same H' (upd H' lo (.dK [])) := same_new nlo
      refine ⟨_, rfl, .inl ⟨pa, _, rfl, SqL.of (s1 _ _ hpa), fun T nT => ⟨_, rfl, ?_⟩⟩⟩
      have s2 : Same (upd H' lo (.dK [])) (upd (upd H' lo (.dK [])) T (.tup (ps.map V.str))) := same_new nT
      have nlT : lo ≠ T := fun z => by rw [← z, upd_same] at nT; cases nT
      refine ⟨by rw [upd_ne nlT, upd_same], [(.inr "parts", .ref T), (.inr "keepers", .ref fnd)], rfl, by show 2 ≤ 15; decide, ?_⟩
      generalize hH2 : upd (upd H' lo (.dK [])) T (.tup (ps.map V.str)) = H2' at s2
      have s3 : Same H' (upd H2' lo (.dK (mergeK [] [(.inr "parts", .ref T), (.inr "keepers", .ref fnd)]))) := fun b o e => by
        rw [upd_ne (ne_of_none e nlo)]
        exact s2 _ _ (s1 _ _ e)
      refine k ⟨ps, kps⟩ lo _ ⟨by show 0 < ps.length; omega, by show ps.length ≤ 4; omega, sp.nodup (by decide), sp.sub, by show 2 ≤ kps.length; omega, by show kps.length ≤ 6; omega, ?_, ?_, hq⟩ (ex.trans (.of s3)) ((pt.same s3).mono (by rw [List.length_map]; omega)) ?_
      · show (kps.map (·.1)).Nodup
        rw [hk]
        exact sel6.nodup (by decide)
      · intro k0 hk0
        refine sel6.sub _ ?_
        rw [← hk]
        exact List.mem_map.mpr ⟨k0, hk0, rfl⟩
      · refine ⟨T, fnd, rows, upd_same, ?_, s3 _ _ hf, na3, hrw.tups (.of s3)⟩
        rw [upd_ne nlT.symm, ← hH2, upd_same]
end
end K6
set_option Elab.async false
set_option linter.all false
set_option maxRecDepth 100000
set_option maxHeartbeats 4000000
set_option pp.maxSteps 1200
set_option pp.deepTerms false
namespace K6
open PySem PySem.Spec PyProof.Rows L2 Lk
abbrev sText : Stmt := top 52
/-! ### the text, as it is meant -/
def pieceW (p : List Str) : Str := Txt.join "+" p
def lineP (L : Lore) : Str := Txt.join " " ("parts" :: L.parts)
def wordsK (k : KP) : List Str := "keeper" :: k.1 :: k.2.map pieceW
def lineK (k : KP) : Str := Txt.join " " (wordsK k)
def rowsL (L : Lore) : List Str := lineP L :: L.kps.map lineK
def textL (L : Lore) : Str := Txt.join "\n" (rowsL L)
theorem join_le {s : Str} {n c : Nat} {xs : List Str} (hn : xs.length ≤ n) (hc : ∀ x ∈ xs, x.length ≤ c) : (xs.map (·.length)).sum + xs.length * s.length ≤ n * c + n * s.length ∧ (Txt.join s xs).length ≤ n * c + n * s.length := by
  have h1 : (xs.map (·.length)).sum ≤ xs.length * c := by
    clear hn
    induction xs with
    | nil => simp
    | cons x xs ih =>
      have := ih fun y hy => hc y (List.mem_cons_of_mem _ hy)
      have := hc x List.mem_cons_self
      simp only [List.map_cons, List.sum_cons, List.length_cons, Nat.succ_mul]
      omega
  have h2 := Nat.mul_le_mul_right c hn
  have h3 := Nat.mul_le_mul_right s.length hn
  have h4 := StrLaws.join_length_le s xs
  rw [show Txt.join s xs = Str.join s xs from StrLaws.glued_eq_join s xs]
  constructor <;> omega
theorem part_len : ∀ p ∈ partPool, p.length ≤ 5 := by decide +kernel
theorem name_len : ∀ p ∈ namePool, p.length ≤ 8 := by decide +kernel
theorem PieceOk.sub {ps p : List Str} (h : PieceOk ps p) : ∀ x ∈ p, x ∈ ps := fun x hx => by
  rw [h.2] at hx
  exact (List.mem_filter.mp hx).1
theorem PieceOk.len {ps p : List Str} (h : PieceOk ps p) : p.length ≤ ps.length := by
  have := List.length_filter_le (fun x => decide (x ∈ p)) ps
  rw [← h.2] at this
  exact this
theorem parts_len {L : Lore} (ok : LoreOk L) : ∀ x ∈ ("parts" : Str) :: L.parts, x.length ≤ 5 := fun x hx => by
  rcases List.mem_cons.mp hx with rfl | hx
  · decide
  · exact part_len x (ok.pp x hx)
theorem piece_len {L : Lore} (ok : LoreOk L) {k : KP} (km : k ∈ L.kps) : ∀ p ∈ k.2, p.length ≤ 4 ∧ ∀ x ∈ p, x.length ≤ 5 := fun p hp =>
  ⟨Nat.le_trans ((ok.q k km).2.2 p hp).len ok.p4, fun x hx => part_len x (ok.pp x (((ok.q k km).2.2 p hp).sub x hx))⟩
theorem words_len {L : Lore} (ok : LoreOk L) {k : KP} (km : k ∈ L.kps) : ∀ x ∈ wordsK k, x.length ≤ 24 := fun x hx => by
  rcases List.mem_cons.mp hx with rfl | hx
  · decide
  rcases List.mem_cons.mp hx with rfl | hx
  · exact Nat.le_trans (name_len _ (ok.kp k km)) (by decide)
  obtain ⟨p, hp, rfl⟩ := List.mem_map.mp hx
  exact (join_le (s := ("+" : Str)) (piece_len ok km p hp).1 (piece_len ok km p hp).2).2
theorem rows_len {L : Lore} (ok : LoreOk L) : ∀ x ∈ rowsL L, x.length ≤ 100 := fun x hx => by
  rcases List.mem_cons.mp hx with rfl | hx
  · exact Nat.le_trans (join_le (s := (" " : Str)) (n := 5) (by have := ok.p4; show L.parts.length + 1 ≤ 5; omega) (parts_len ok)).2 (by decide)
  · obtain ⟨k, hk, rfl⟩ := List.mem_map.mp hx
    exact Nat.le_trans (join_le (s := (" " : Str)) (n := 4) (by have := (ok.q k hk).2.1; show (k.2.map pieceW).length + 1 + 1 ≤ 4; rw [List.length_map]; omega) (words_len ok hk)).2 (by decide)
theorem paired_zip {α β : Type} {R : α → β → Prop} : ∀ {xs : List α} {ys : List β}, Paired R xs ys → ∃ zs : List (α × β), zs.map (·.1) = xs ∧ zs.map (·.2) = ys ∧ ∀ z ∈ zs, R z.1 z.2
  | _, _, .nil => ⟨[], rfl, rfl, fun _ h => by simp at h⟩
  | _, _, .cons (a := a) (b := b) h t => by
    obtain ⟨zs, e1, e2, e3⟩ := paired_zip t
    refine ⟨(a, b) :: zs, by rw [List.map_cons, e1], by rw [List.map_cons, e2], fun z hz => ?_⟩
    rcases List.mem_cons.mp hz with rfl | hz
    · exact h
    · exact e3 z hz
theorem dget2 {H : Hp} {lo pa ks : Addr} (e : H lo = some (.dK [(.inr "parts", .ref pa), (.inr "keepers", .ref ks)])) : DGet H lo (.str "parts") (some (.ref pa)) ∧ DGet H lo (.str "keepers") (some (.ref ks)) :=
  ⟨.inl ⟨_, .inr "parts", .inl e, rfl, rfl⟩, .inl ⟨_, .inr "keepers", .inl e, rfl, rfl⟩⟩
section
variable {P : Program} {w : World} {K : PySem.W.Frag} {mg : Str → Option Value} {base : Heap} {f : Addr} {fd : FuncData}
def rJoin (K : PySem.W.Frag) : V → List V → Hp → VK → Prop := fun x xs H Q => ∃ a p, ∃ ys : List Str, x = .str a ∧ xs = [.ref p] ∧ (SqL K H p (ys.map V.str) ∨ SqT K H p (ys.map V.str)) ∧ (ys.map (·.length)).sum + ys.length * a.length ≤ 16777216 ∧ Q (.str (Txt.join a ys)) H
/-! ### _law_text -/
def spText : Sp := fun vs H Q _ => ∃ (a lo : Addr) (L : Lore), vs = [.ref lo] ∧ LoreAt a H lo L ∧ LoreOk L ∧ ∀ H', Same H H' → Q (.str (textL L)) H'
theorem scText : FnScope ["lore", "rows", "name", "pieces", "piece"] ["lore"] (defScope sText) := ⟨rfl, rfl, rfl, by decide +kernel, rfl, by decide +kernel, by decide +kernel⟩
theorem ok_text (F : Fun K "_law_text" "_law_text" sText f fd) (T : Bl mg) : FnOk P w K mg base CX0 1 f fd ["lore"] spText := by
  refine F.ok scText (fun vs H Q E h => ?_) (fun cdv A outer s H vs Q E hr h => ?_)
  · obtain ⟨a, lo, L, rfl, _⟩ := h
    rfl
  · obtain ⟨a, lo, L, rfl, hl, ok, k⟩ := h
    have nd := scText.nd
    have hu := hu_of hr
    refine ⟨_, pss_cons (ps_set (i := 1) nd rfl (.inl rfl) (pe_lst (pa_cons (pe_join pe_str (pe_op op_cat (pe_lst (pa_cons pe_str pa_nil)) (pe_callTy call_list_of rfl T.list boot_list (pa_cons (pe_dget hu (pv 0) pe_str (fun _ _ => rfl)) pa_nil)))) pa_nil)))
      (pss_cons (ps_for PassesOwn.never rfl (pi_list (pe_dget hu (pv 0) pe_str (fun _ _ => rfl))) (pg_tup rfl (pgs_cons (pg_name (i := 2) nd rfl (.inl rfl)) (pgs_cons (pg_name (i := 3) nd rfl (.inl rfl)) pgs_nil)))
          (pss_one (ps_expr (pe_bm PySem.F.plainAttrs_list PySem.F.slot_list_append PySem.F.type_list_append mt_append (pv 1) (pa_cons (pe_join pe_str (pe_op op_cat (pe_lst (pa_cons pe_str (pa_cons (pv 2) pa_nil)))
            (pe_lc (own := [("piece", 4)]) (g := gName 4) (tt := tYes) (te := tM1 (rJoin K) (tC (.str "+")) (tVar 4)) rfl nd (pi_tup (pv 3)) (blkOk_by (N := ["lore", "rows", "name", "pieces", "piece"]) (sc := defScope sText) (by decide +kernel))
              (fun _ _ _ _ _ => pg_name (i := 4) nd rfl (Or.inl rfl)) (fun _ _ _ _ _ => pts_nil) (fun _ _ _ _ _ => pe_join pe_str (pv 4))))) pa_nil)))))
        (pss_one (ps_ret (pe_join pe_str (pv 1))))), ?_⟩
    obtain ⟨pa, ks, rows, e1, e2, e3, n0, e4⟩ := hl
    have pl : ∀ p ∈ L.parts, p.length ≤ 5 := fun p hp => part_len p (ok.pp p hp)
    have hp0 : ∀ x ∈ ("parts" : Str) :: L.parts, x.length ≤ 5 := fun x hx => by
      rcases List.mem_cons.mp hx with rfl | hx
      · decide
      · exact pl x hx
    have p4 := ok.p4
    have j0 := join_le (s := (" " : Str)) (n := 5) (by show L.parts.length + 1 ≤ 5; omega) hp0
    refine ⟨⟨_, rfl⟩, few_ok rfl, fun l1 n1 => ?_⟩
    have s1 : Same H (upd H l1 (.lst [.str "parts"])) := same_new n1
    refine ⟨_, rfl, lo, _, rfl, (dget2 (s1 _ _ e1)).1, ?_⟩
    refine ⟨pa, _, rfl, .inr (.inl (.inl (s1 _ _ e2))), fun l2 n2 => ?_⟩
    have s2 : Same H (upd (upd H l1 (.lst [.str "parts"])) l2 (.lst (L.parts.map V.str))) := s1.trans (same_new n2)
    have l12 : l1 ≠ l2 := fun z => by rw [← z, upd_same] at n2; cases n2
    refine ⟨l1, l2, _, _, rfl, rfl, by rw [upd_ne l12, upd_same], upd_same, by rw [List.length_map, sizeLine_eq]; show 1 + L.parts.length ≤ _; omega, fun p np => ?_⟩
    have s3 := s2.trans (same_new (o := .lst ([.str "parts"] ++ L.parts.map V.str)) np)
    refine ⟨_, p, "parts" :: L.parts, rfl, rfl, .inl (SqL.of upd_same), Nat.le_trans j0.1 (by decide), ?_⟩
    refine ⟨few_ok rfl, fun rw0 nrw => ?_⟩
    have s4 := s3.trans (same_new (o := .lst [.str (Txt.join " " ("parts" :: L.parts))]) nrw)
    generalize hH0 : upd (upd (upd (upd H l1 (.lst [.str "parts"])) l2 (.lst (L.parts.map V.str))) p (.lst ([.str "parts"] ++ L.parts.map V.str))) rw0 (.lst [.str (Txt.join " " ("parts" :: L.parts))]) = H0 at s4
    have er0 : H0 rw0 = some (.lst [.str (lineP L)]) := by rw [← hH0, upd_same]; rfl
    have nHr : H rw0 = none := by
      cases z : H rw0 with
      | none => rfl
      | some o => rw [s3 _ _ z] at nrw; cases nrw
    refine ⟨_, rfl, lo, _, rfl, (dget2 (s4 _ _ e1)).2, ks, rfl, ⟨_, SqL.of (s4 _ _ e3)⟩, ?_⟩
    obtain ⟨zs, hz1, hz2, hz3⟩ := paired_zip e4
    refine for_list (xs := rows) (fun i σ H' => ∃ u v w : Option V, σ = [some (.ref lo), some (.ref rw0), u, v, w] ∧ H' rw0 = some (.lst ((lineP L :: (L.kps.take i).map lineK).map V.str)) ∧ Same H H') ?_ ?_ ?_ ?_
    · exact ⟨none, none, none, rfl, er0, s4⟩
    · rintro i σ H' _ ⟨u, v, w, rfl, hr, ss⟩
      exact SqL.of (ss _ _ e3)
    · rintro i x σ H' hx ⟨u, v, w, rfl, hr, ss⟩
      have hi : i < L.kps.length := by
        have := (List.getElem?_eq_some_iff.mp hx).1
        rw [← hz1, List.length_map] at this
        rw [← hz2, List.length_map]
        exact this
      obtain ⟨y, hy⟩ : ∃ y, zs[i]? = some y := ⟨_, List.getElem?_eq_getElem (by rw [← hz2, List.length_map] at hi; exact hi)⟩
      have hx2 : y.1 = x := by rw [← hz1, List.getElem?_map, hy] at hx; exact Option.some.inj hx
      have hk : L.kps[i]? = some y.2 := by rw [← hz2, List.getElem?_map, hy]; rfl
      obtain ⟨r, q, ts, ex, er, eq, ep⟩ := hz3 y (List.mem_of_getElem? hy)
      obtain ⟨yx, kq⟩ := y
      dsimp only at hx2 hk ex er eq ep
      subst hx2
      subst ex
      have km := List.mem_of_getElem? hk
      obtain ⟨q1, q2, q3⟩ := ok.q kq km
      refine ⟨r, _, rfl, SqT.of (ss _ _ er), rfl, _, _, rfl, _, _, rfl, rfl, ?_⟩
      refine ⟨_, rfl, .inl ⟨rfl, _, SqL.of hr⟩, ⟨_, rfl⟩, _, rfl, few_ok rfl, fun l3 n3 => ?_⟩
      have s5 : Same H' (upd H' l3 (.lst [.str "keeper", .str kq.1])) := same_new n3
      have eq5 := s5 _ _ (ss _ _ eq)
      have ep5 : Pieces (upd H' l3 (.lst [.str "keeper", .str kq.1])) ts kq.2 := ep.tups (.of (ss.trans s5))
      have el5 : upd H' l3 (.lst [.str "keeper", .str kq.1]) l3 = some (.lst [.str "keeper", .str kq.1]) := upd_same
      generalize upd H' l3 (.lst [.str "keeper", .str kq.1]) = H5 at s5 eq5 ep5 el5
      obtain ⟨ws, hw1, hw2, hw3⟩ := paired_zip ep5
      have wl : ws.length = kq.2.length := by rw [← hw2, List.length_map]
      have pw : ∀ p ∈ kq.2, p.length ≤ 4 ∧ ∀ x ∈ p, x.length ≤ 5 := fun p hp => ⟨Nat.le_trans (q3 p hp).len p4, fun x hx => pl x ((q3 p hp).sub x hx)⟩
      have jp : ∀ p ∈ kq.2, _ := fun p hp => join_le (s := ("+" : Str)) (pw p hp).1 (pw p hp).2
      have wk : ∀ x ∈ wordsK kq, x.length ≤ 24 := fun x hx => by
        rcases List.mem_cons.mp hx with rfl | hx
        · decide
        rcases List.mem_cons.mp hx with rfl | hx
        · exact Nat.le_trans (name_len _ (ok.kp kq km)) (by decide)
        obtain ⟨p, hp, rfl⟩ := List.mem_map.mp hx
        exact (jp p hp).2
      have jk := join_le (s := (" " : Str)) (n := 4) (by show (kq.2.map pieceW).length + 1 + 1 ≤ 4; rw [List.length_map]; omega) wk
      refine ⟨_, rfl, q, rfl, ⟨_, SqT.of eq5⟩, lc_over (Q := fun x H1 => rCat (.ref l3) x H1 _) walk_tup ws (·.1) (fun z => some (.str (pieceW z.2))) hw1.symm (by omega) (fun H s => sqT_same s (SqT.of eq5)) ?_ ?_⟩
      · intro j b H6 R Rn hb s6 k1 k2
        obtain ⟨t, et, eh⟩ := hw3 b (List.mem_of_getElem? hb)
        have bm : b.2 ∈ kq.2 := by rw [← hw2]; exact List.mem_map.mpr ⟨b, List.mem_of_getElem? hb, rfl⟩
        exact ⟨rfl, ⟨_, rfl⟩, _, rfl, _, t, b.2, rfl, by rw [et], .inr (SqT.of (s6 _ _ eh)), Nat.le_trans (jp _ bm).1 (by decide), k1 _ _ rfl (Same.refl _)⟩
      · intro D H6 nD s6 eD
        have fe : (ws.filterMap fun z => some (V.str (pieceW z.2))) = (kq.2.map pieceW).map V.str := by
          rw [← hw2]
          simp [Function.comp_def]
        rw [fe] at eD
        refine ⟨l3, D, _, _, rfl, rfl, s6 _ _ el5, eD, by rw [List.length_map, List.length_map, sizeLine_eq]; show 2 + kq.2.length ≤ _; omega, fun p np => ?_⟩
        have s7 : Same H6 (upd H6 p (.lst ([.str "keeper", .str kq.1] ++ (kq.2.map pieceW).map V.str))) := same_new np
        refine ⟨_, p, wordsK kq, rfl, rfl, .inl (SqL.of upd_same), Nat.le_trans jk.1 (by decide), ?_⟩
        have sH : Same H' (upd H6 p (.lst ([.str "keeper", .str kq.1] ++ (kq.2.map pieceW).map V.str))) := (s5.trans s6).trans s7
        refine ⟨rw0, _, _, rfl, rfl, sH _ _ hr, by rw [List.length_map, List.length_cons, List.length_map, List.length_take, sizeLine_eq]; have := ok.k6; omega, ?_⟩
        refine ⟨_, _, _, rfl, ?_, fun b o e => ?_⟩
        · rw [upd_same, List.take_add_one, hk]
          simp
          rfl
        · rw [upd_ne (ne_of_none e nHr)]
          exact sH _ _ (ss _ _ e)
    · rintro σ H' ⟨u, v, w, rfl, hr, ss⟩
      have rl : rows.length = L.kps.length := by rw [← hz1, ← hz2, List.length_map, List.length_map]
      rw [rl, List.take_length] at hr
      refine ⟨⟨_, rfl⟩, _, rfl, _, rw0, rowsL L, rfl, rfl, .inl (SqL.of hr), ?_, k H' ss⟩
      exact Nat.le_trans (join_le (s := ("\n" : Str)) (n := 7) (c := 100) (by show (L.kps.map lineK).length + 1 ≤ 7; rw [List.length_map]; have := ok.k6; omega) (rows_len ok)).1 (by decide)
end
end K6
set_option Elab.async false
set_option linter.all false
set_option maxRecDepth 100000
set_option maxHeartbeats 4000000
set_option pp.maxSteps 1200
set_option pp.deepTerms false
namespace K6
open PySem PySem.Spec PyProof.Rows L2 Lk
abbrev sIsName : Stmt := top 12
abbrev sAreNames : Stmt := top 13
def LETTERS : Str := "abcdefghijklmnopqrstuvwxyz"
/-- more names that the text leaves alone, and its constants -/
structure Cn (mg : Str → Option Value) : Prop where
  str : mg "str" = none
  tuple : mg "tuple" = none
  set : mg "set" = none
  sum : mg "sum" = none
  sorted : mg "sorted" = none
  zip : mg "zip" = none
  dict : mg "dict" = none
  letters : ∃ t, mg "LETTERS" = some (.str LETTERS t)
  parts : ∃ t, mg "MOST_PARTS" = some (.int 4 t)
  least : ∃ t, mg "LEAST_KEEPERS" = some (.int 2 t)
  most : ∃ t, mg "MOST_KEEPERS" = some (.int 6 t)
  pieces : ∃ t, mg "MOST_PIECES" = some (.int 2 t)
def LowOk (z : Str) : Prop := 1 ≤ z.length ∧ z.length ≤ 8 ∧ ∀ c ∈ z.cps.toList, c ∈ LETTERS.cps.toList
instance (z : Str) : Decidable (LowOk z) := by unfold LowOk; infer_instance
theorem low_parts : ∀ p ∈ partPool, LowOk p := by decide +kernel
theorem low_names : ∀ p ∈ namePool, LowOk p := by decide +kernel
theorem str_lc {z : Str} {g : TG} {tt : TT} {te : TE} {vs : List Nat} {σ : L2.St} {H1 : Hp} {Q : VK} (f : Nat → Option V) (few : z.cps.toList.length ≤ 100000)
    (hs : ∀ (i : Nat) c H (R : VK) (Rn : Hp → Prop), z.cps.toList[i]? = some c → Same H1 H → (∀ H4 y, f c = some y → Same H H4 → R y H4) → (∀ H4, f c = none → Same H H4 → Rn H4) →
      g (.str ⟨#[c]⟩) (wipe σ vs) H fun σ2 H2 => wipe σ2 vs = wipe σ vs ∧ tt σ2 H2 fun c H3 => if c = true then te σ2 H3 R else Rn H3)
    (hd : ∀ D H, H1 D = none → Same H1 H → H D = some (.lst (z.cps.toList.filterMap f)) → Q (.ref D) H) : LcR (Its z) g tt te vs σ H1 Q := by
  intro D nD
  refine lc_fm walk_str z.cps.toList f (by simp) (by simpa using few) nD (fun _ _ => trivial) ?_ (fun H s e => hd D H nD s e)
  rintro i x b H H' R Rn hb s ⟨rfl, c, hc, rfl⟩ k1 k2
  have : b = c := by
    rw [Array.getElem?_toList, hc] at hb
    exact (Option.some.inj hb).symm
  subst this
  exact hs i b _ R Rn hb s k1 k2
theorem fm_bl {α : Type} (q : α → Bool) (xs : List α) : (xs.filterMap fun x => some (V.bl (q x))) = (xs.map q).map V.bl := by
  induction xs with
  | nil => rfl
  | cons x xs ih => simp [List.filterMap_cons, ih]
/-- all([q(x) for x in xs]) -/
theorem seq_all {α : Type} {K : PySem.W.Frag} {a : Addr} {g : TG} {te : TE} {vs : List Nat} {σ : L2.St} {H1 : Hp} {R : VK} (xs : List α) (e : α → V) (q : α → Bool) (hq : Sq K H1 a (xs.map e)) (few : xs.length ≤ 100000)
    (hs : ∀ (i : Nat) b H (R' : VK), xs[i]? = some b → Same H1 H → (∀ H4, Same H H4 → R' (.bl (q b)) H4) → g (e b) (wipe σ vs) H fun σ2 H2 => wipe σ2 vs = wipe σ vs ∧ te σ2 H2 R')
    (hd : ∀ H, Same H1 H → R (.bl (xs.all q)) H) :
    ((∃ zs, SqL K H1 a zs) ∧ LcR (Itl K a) g tYes te vs σ H1 fun x H2 => tNil σ H2 fun xs H3 => rAll K (x :: xs) H3 R) ∨ ((∃ zs, SqT K H1 a zs) ∧ LcR (Itt K a) g tYes te vs σ H1 fun x H2 => tNil σ H2 fun xs H3 => rAll K (x :: xs) H3 R) := by
  refine seq_lc (Q := fun x H2 => rAll K [x] H2 R) xs e (fun x => some (.bl (q x))) hq few (fun i b H R' Rn hb s k1 k2 => ?_) fun D H nD s ed => ?_
  · have z := hs i b H R' hb s fun H4 s4 => k1 H4 _ rfl s4
    have ty : (fun σ2 H2 => wipe σ2 vs = wipe σ vs ∧ te σ2 H2 R') = (fun (σ2 : L2.St) H2 => wipe σ2 vs = wipe σ vs ∧ tYes σ2 H2 fun c H3 => if c = true then te σ2 H3 R' else Rn H3) := by
      funext σ2 H2
      show _ = (_ ∧ (if true = true then te σ2 H2 R' else Rn H2))
      rw [if_pos rfl]
    rw [ty] at z
    exact z
  · rw [fm_bl] at ed
    refine ⟨D, _, rfl, SqL.of ed, ?_⟩
    have : (xs.map q).all id = xs.all q := by simp [List.all_map]
    rw [this]
    exact hd H s
section
variable {P : Program} {w : World} {K : PySem.W.Frag} {mg : Str → Option Value} {base : Heap} {f : Addr} {fd : FuncData}
theorem isi_str {K : PySem.W.Frag} {H : Hp} {z : Str} {Q : VK} (q : Q (.bl true) H) : rIsi K [.str z, .ty "str"] H Q := ⟨_, _, _, _, true, rfl, .ty _, .base (.str _), by rfl, q⟩
def spIsName : Sp := fun vs H Q _ => ∃ z : Str, vs = [.str z] ∧ LowOk z ∧ ∀ H', Same H H' → Q (.bl true) H'
theorem scIsName : FnScope ["value", "sign"] ["value"] (defScope sIsName) := ⟨rfl, rfl, rfl, by decide +kernel, rfl, by decide +kernel, by decide +kernel⟩
theorem ok_isName (F : Fun K "is_name" "is_name" sIsName f fd) (T : Bl mg) (C : Cn mg) : FnOk P w K mg base CX0 1 f fd ["value"] spIsName := by
  refine F.ok scIsName (fun vs H Q E h => ?_) (fun cdv A outer s H vs Q E hr h => ?_)
  · obtain ⟨z, rfl, _⟩ := h
    rfl
  · obtain ⟨z, rfl, ⟨z1, z8, zl⟩, k⟩ := h
    have nd := scIsName.nd
    obtain ⟨t, ht⟩ := C.letters
    refine ⟨_, pss_cons (ps_if (PW.pt (pw_or (pt_not (pt_val (pe_callB call_isi (by rfl) T.isin boot_isinstance (pa_cons (pv 0) (pa_cons (pe_bltn (v := .ty "str") (by rfl) C.str rfl rfl) pa_nil)))))
        (pw_or1 (pt_not (pt_chain op_le op_le pe_int (pe_callB call_len_str (by rfl) T.len PySem.boot_len (pa_cons (pv 0) pa_nil)) pe_int))))) (pss_no) pss_nil)
      (pss_one (ps_ret (pe_callB (cr_all rfl) (by rfl) T.all boot_all (pa_cons (pe_lc (own := [("sign", 1)]) (g := gName 1) (tt := tYes) (te := tOp (fun x y H Q => ∃ (c : Nat) (z : Str), x = .str ⟨#[c]⟩ ∧ y = .str z ∧ Q (.bl (decide (c ∈ z.cps.toList))) H) (tVar 1) (tC (.str LETTERS))) rfl nd (pi_str (pv 0)) (blkOk_by (N := ["value", "sign"]) (sc := defScope sIsName) (by decide +kernel))
          (fun _ _ _ _ _ => pg_name (i := 1) nd rfl (Or.inl rfl)) (fun _ _ _ _ _ => pts_nil) (fun _ _ _ _ _ => pe_cmpR op_in_sign (pv 1) (pe_glob (v := .str LETTERS) (by rfl) ht ⟨_, rfl⟩) rfl)) pa_nil)))), ?_⟩
    refine ⟨_, rfl, _, _, _, _, true, rfl, .ty _, .base (.str _), by rfl, _, rfl, iteB rfl ?_⟩
    refine ⟨_, rfl, z, rfl, by rw [sizeLine_eq]; omega, _, _, rfl, rfl, _, rfl, iteA (decide_eq_true (by show (1 : Int) ≤ z.length; omega)) ?_⟩
    refine ⟨_, _, rfl, rfl, _, rfl, iteB ?_ ?_⟩
    · show (!decide ((z.length : Int) ≤ 8)) = false
      rw [decide_eq_true (by omega)]
      rfl
    have zz : z.cps.toList.length ≤ 8 := by simpa [Str.length] using z8
    refine ⟨_, rfl, z, rfl, str_lc (Q := fun x H1 => rAll K [x] H1 Q) (fun c => some (.bl (decide (c ∈ LETTERS.cps.toList)))) (by omega) ?_ ?_⟩
    · intro i c H1 R Rn hc s1 k1 k2
      exact ⟨rfl, _, rfl, c, LETTERS, rfl, rfl, k1 _ _ rfl (Same.refl _)⟩
    · intro D H1 nD s1 e
      rw [fm_bl] at e
      refine ⟨D, _, rfl, SqL.of e, ?_⟩
      have : (z.cps.toList.map fun c => decide (c ∈ LETTERS.cps.toList)).all id = true := by
        rw [List.all_eq_true]
        intro b hb
        obtain ⟨c, hc, rfl⟩ := List.mem_map.mp hb
        exact decide_eq_true (zl c hc)
      rw [this]
      exact k _ s1
/-! ### are_names -/
def spAreNames (K : PySem.W.Frag) : Sp := fun vs H Q _ => ∃ (l : Addr) (zs : List Str), vs = [.ref l] ∧ Sq K H l (zs.map V.str) ∧ zs.length ≤ 1000 ∧ (∀ z ∈ zs, LowOk z) ∧ zs.Nodup ∧ ∀ H', Same H H' → Q (.bl true) H'
theorem scAreNames : FnScope ["some", "name"] ["some"] (defScope sAreNames) := ⟨rfl, rfl, rfl, by decide +kernel, rfl, by decide +kernel, by decide +kernel⟩
theorem ok_areNames {f1 : Addr} {fd1 : FuncData} (F : Fun K "are_names" "are_names" sAreNames f fd) (T : Bl mg) (C : Cn mg) (F1 : Fun K "is_name" "is_name" sIsName f1 fd1) (b1 : Binds K fd1 ["value"] []) (m1 : mg "is_name" = some (.ref f1)) :
    FnOk P w K mg base CX0 2 f fd ["some"] (spAreNames K) := by
  have G1 : FnOk P w K mg base CX0 1 f1 fd1 ["value"] spIsName := ok_isName F1 T C
  refine F.ok scAreNames (fun vs H Q E h => ?_) (fun cdv A outer s H vs Q E hr h => ?_)
  · obtain ⟨l, zs, rfl, _⟩ := h
    rfl
  · obtain ⟨l, zs, rfl, hl, few, low, ndz, k⟩ := h
    have nd := scAreNames.nd
    refine ⟨_, pss_one (ps_ret (pe_and (pe_callB (cr_all rfl) (by rfl) T.all boot_all (pa_cons (pe_lc (own := [("name", 1)]) (g := gName 1) (tt := tYes) (te := tCall spIsName [] E0 (tCons (tVar 1) tNil)) rfl nd (pi_seq (pi_list (pv 0)) (pi_tup (pv 0))) (blkOk_by (N := ["some", "name"]) (sc := defScope sAreNames) (by decide +kernel))
          (fun _ _ _ _ _ => pg_name (i := 1) nd rfl (Or.inl rfl)) (fun _ _ _ _ _ => pts_nil) (fun _ _ _ _ _ => pe_call G1 hr (by rfl) m1 F1.kp b1 .nil pass0 (pa_cons (pv 1) pa_nil))) pa_nil))
        (pe_one (pe_cmpR op_eq (pe_lenSetD rfl (by rfl) T.len (by rfl) C.set (pv 0)) (pe_callB call_len_seq (by rfl) T.len PySem.boot_len (pa_cons (pv 0) pa_nil)) (nomark _))))), ?_⟩
    refine ⟨l, rfl, seq_all zs V.str (fun _ => true) hl (by omega) (fun i z H1 R hz s1 k1 => ⟨rfl, _, rfl, z, rfl, low z (List.mem_of_getElem? hz), fun H2 s2 => k1 _ s2⟩) fun H1 s1 => ?_⟩
    have : (zs.all fun _ => true) = true := by simp
    rw [this]
    refine ⟨_, rfl, iteT ⟨_, rfl, l, zs, rfl, hl.same s1, ndz, few, _, rfl, l, _, rfl, hl.same s1, rfl, ?_⟩⟩
    rw [List.length_map, decide_eq_true rfl]
    exact k _ s1
end
end K6
set_option Elab.async false
set_option linter.all false
set_option maxRecDepth 100000
set_option maxHeartbeats 4000000
set_option pp.maxSteps 1200
set_option pp.deepTerms false
/-! what is written is read again -/
namespace K6
open PySem PySem.Spec PyProof.Rows L2 Lk
open TL
theorem mem_joinL {c : Nat} {S : List Nat} : ∀ {ps : List (List Nat)}, c ∈ joinL S ps → c ∈ S ∨ ∃ p ∈ ps, c ∈ p
  | [], h => by simp [joinL] at h
  | [p], h => .inr ⟨p, List.mem_cons_self, h⟩
  | p :: q :: r, h => by
    have h2 : c ∈ p ++ (S ++ joinL S (q :: r)) := h
    rcases List.mem_append.mp h2 with h | h
    · exact .inr ⟨p, List.mem_cons_self, h⟩
    rcases List.mem_append.mp h with h | h
    · exact .inl h
    rcases mem_joinL h with h | ⟨x, hx, h⟩
    · exact .inl h
    · exact .inr ⟨x, List.mem_cons_of_mem _ hx, h⟩
theorem mem_join {c : Nat} {s : Str} {xs : List Str} (h : c ∈ tl (Txt.join s xs)) : c ∈ tl s ∨ ∃ x ∈ xs, c ∈ tl x := by
  rw [join_eq, tl_join] at h
  rcases mem_joinL h with h | ⟨p, hp, h⟩
  · exact .inl h
  · obtain ⟨x, hx, rfl⟩ := List.mem_map.mp hp
    exact .inr ⟨x, hx, h⟩
theorem part_signs : ∀ p ∈ partPool, 43 ∉ tl p ∧ 32 ∉ tl p ∧ 10 ∉ tl p := by decide +kernel
theorem name_signs : ∀ p ∈ namePool, 32 ∉ tl p ∧ 10 ∉ tl p := by decide +kernel
theorem split_piece {L : Lore} (ok : LoreOk L) {p : List Str} (h : PieceOk L.parts p) : Txt.split (pieceW p) "+" = p :=
  split_join (s := 43) (S := []) rfl (by decide +kernel) h.1 fun x hx => (part_signs x (ok.pp x (h.sub x hx))).1
theorem split_lineP {L : Lore} (ok : LoreOk L) : Txt.split (lineP L) " " = ("parts" : Str) :: L.parts :=
  split_join (s := 32) (S := []) rfl (by decide +kernel) (by simp) fun x hx => by
    rcases List.mem_cons.mp hx with rfl | hx
    · decide +kernel
    · exact (part_signs x (ok.pp x hx)).2.1
theorem words_signs {L : Lore} (ok : LoreOk L) {k : KP} (km : k ∈ L.kps) : ∀ x ∈ wordsK k, 32 ∉ tl x ∧ 10 ∉ tl x := fun x hx => by
  rcases List.mem_cons.mp hx with rfl | hx
  · decide +kernel
  rcases List.mem_cons.mp hx with rfl | hx
  · exact name_signs _ (ok.kp k km)
  obtain ⟨p, hp, rfl⟩ := List.mem_map.mp hx
  have e : ∀ c : Nat, c ∉ tl ("+" : Str) → (∀ q ∈ partPool, c ∉ tl q) → c ∉ tl (pieceW p) := fun c h1 h2 h3 => by
    rcases mem_join h3 with h | ⟨y, hy, h⟩
    · exact h1 h
    · exact h2 y (ok.pp y ((((ok.q k km).2.2 p hp)).sub y hy)) h
  exact ⟨e 32 (by decide +kernel) fun q hq => (part_signs q hq).2.1, e 10 (by decide +kernel) fun q hq => (part_signs q hq).2.2⟩
theorem split_lineK {L : Lore} (ok : LoreOk L) {k : KP} (km : k ∈ L.kps) : Txt.split (lineK k) " " = wordsK k :=
  split_join (s := 32) (S := []) rfl (by decide +kernel) (by unfold wordsK; simp) fun x hx => (words_signs ok km x hx).1
theorem split_text {L : Lore} (ok : LoreOk L) : Txt.split (textL L) "\n" = rowsL L :=
  split_join (s := 10) (S := []) rfl (by decide +kernel) (by unfold rowsL; simp) fun x hx => by
    rcases List.mem_cons.mp hx with rfl | hx
    · intro h
      rcases mem_join h with h | ⟨y, hy, h⟩
      · exact absurd h (by decide +kernel)
      rcases List.mem_cons.mp hy with rfl | hy
      · exact absurd h (by decide +kernel)
      · exact (part_signs y (ok.pp y hy)).2.2 h
    · obtain ⟨k, hk, rfl⟩ := List.mem_map.mp hx
      intro h
      rcases mem_join h with h | ⟨y, hy, h⟩
      · exact absurd h (by decide +kernel)
      · exact (words_signs ok hk y hy).2 h
end K6
set_option Elab.async false
set_option linter.all false
set_option maxRecDepth 100000
set_option maxHeartbeats 4000000
set_option pp.maxSteps 1200
set_option pp.deepTerms false
namespace K6
open PySem PySem.Spec PyProof.Rows L2 Lk
abbrev sPartsLine : Stmt := top 30
abbrev sPieceWord : Stmt := top 31
abbrev sWhole : Stmt := top 32
theorem cut1 (xs : List V) (h : 1 ≤ xs.length) : cutV xs (some 1) none = xs.drop 1 := by
  show (xs.drop (min 1 xs.length)).take (xs.length - min 1 xs.length) = _
  rw [Nat.min_eq_left h]
  exact List.take_of_length_le (by rw [List.length_drop]; omega)
theorem at0 {xs : List V} {v : V} (h : xs[0]? = some v) : atI xs 0 = some v := atI_nat h
theorem at1 {xs : List V} {v : V} (h : xs[1]? = some v) : atI xs 1 = some v := atI_nat h
section
variable {P : Program} {w : World} {K : PySem.W.Frag} {mg : Str → Option Value} {base : Heap} {f : Addr} {fd : FuncData}
/-! ### is_parts_line -/
def spPartsLine : Sp := fun vs H Q _ => ∃ L : Lore, vs = [.str (lineP L)] ∧ LoreOk L ∧ ∀ H', Same H H' → Q (.bl true) H'
theorem scPartsLine : FnScope ["line", "words"] ["line"] (defScope sPartsLine) := ⟨rfl, rfl, rfl, by decide +kernel, rfl, by decide +kernel, by decide +kernel⟩
theorem ok_partsLine {f1 f2 : Addr} {fd1 fd2 : FuncData} (F : Fun K "is_parts_line" "is_parts_line" sPartsLine f fd) (T : Bl mg) (C : Cn mg) (F1 : Fun K "is_name" "is_name" sIsName f1 fd1) (b1 : Binds K fd1 ["value"] []) (m1 : mg "is_name" = some (.ref f1))
    (F2 : Fun K "are_names" "are_names" sAreNames f2 fd2) (b2 : Binds K fd2 ["some"] []) (m2 : mg "are_names" = some (.ref f2)) :
    FnOk P w K mg base CX0 3 f fd ["line"] spPartsLine := by
  have G2 : FnOk P w K mg base CX0 2 f2 fd2 ["some"] (spAreNames K) := ok_areNames F2 T C F1 b1 m1
  refine F.ok scPartsLine (fun vs H Q E h => ?_) (fun cdv A outer s H vs Q E hr h => ?_)
  · obtain ⟨L, rfl, _⟩ := h
    rfl
  · obtain ⟨L, rfl, ok, k⟩ := h
    have nd := scPartsLine.nd
    obtain ⟨t4, h4⟩ := C.parts
    refine ⟨_, pss_cons (ps_set (i := 1) nd rfl (.inl rfl) (pe_split (pv 0) pe_str))
      (pss_one (ps_ret (pe_and (pe_cmpR op_eq (pe_ix ix_list (pv 1) pe_int (fun _ _ => rfl)) pe_str (nomark _))
        (pe_and (pe_chain op_le op_le pe_int (pe_callB call_len_seq (by rfl) T.len PySem.boot_len (pa_cons (pv 1) pa_nil)) (pe_op op_add pe_int (pe_glob (v := .int 4) (by rfl) h4 ⟨_, rfl⟩)))
          (pe_one (pe_call G2 hr (by rfl) m2 F2.kp b2 .nil pass0 (pa_cons (pe_slice sl_list (pv 1) (po_some pe_int) po_none) pa_nil))))))), ?_⟩
    have ll : (lineP L).length ≤ 100 := rows_len ok _ List.mem_cons_self
    refine ⟨_, rfl, ⟨_, rfl⟩, _, _, rfl, rfl, rfl, by rw [sizeLine_eq]; omega, fun l nl => ?_⟩
    rw [split_lineP ok]
    have s1 : Same H (upd H l (.lst ((("parts" : Str) :: L.parts).map V.str))) := same_new nl
    have el : upd H l (.lst ((("parts" : Str) :: L.parts).map V.str)) l = some (.lst ((("parts" : Str) :: L.parts).map V.str)) := upd_same
    generalize upd H l (.lst ((("parts" : Str) :: L.parts).map V.str)) = H1 at s1 el
    have p0 := ok.p0
    have p4 := ok.p4
    have len : (List.map V.str (("parts" : Str) :: L.parts)).length = L.parts.length + 1 := by rw [List.length_map]; rfl
    refine ⟨_, rfl, l, _, _, .str "parts", rfl, rfl, SqL.of el, at0 rfl, rfl, _, rfl, iteA (decide_eq_true rfl) ?_⟩
    refine ⟨_, rfl, l, _, rfl, .inl (SqL.of el), _, _, rfl, rfl, _, rfl, iteA (decide_eq_true (by rw [len]; omega)) ?_⟩
    refine ⟨_, _, rfl, rfl, _, _, rfl, rfl, _, rfl, iteA (decide_eq_true (by rw [len]; show ((L.parts.length + 1 : Nat) : Int) ≤ 1 + 4; omega)) ?_⟩
    refine ⟨_, rfl, _, rfl, l, _, rfl, SqL.of el, fun q nq => ?_⟩
    rw [cut1 _ (by rw [len]; omega)]
    refine ⟨q, L.parts, rfl, .inl (SqL.of upd_same), by omega, fun z hz => low_parts z (ok.pp z hz), ok.pn, fun H' s' => k _ ((s1.trans (same_new nq)).trans s')⟩
/-! ### is_piece_word -/
theorem prs_self {zs : List Str} {H : Hp} : Prs DFlat (zs.map V.str) (zs.map V.str) H := ⟨rfl, fun i x y hx hy => by
  rw [hx] at hy
  cases hy
  obtain ⟨z, _, rfl⟩ := List.mem_map.mp (List.mem_of_getElem? hx)
  exact ⟨rfl, rfl, by simp [eqV]⟩⟩
def spPieceWord (K : PySem.W.Frag) : Sp := fun vs H Q _ => ∃ (l : Addr) (L : Lore) (p : List Str), vs = [.ref l, .str (pieceW p)] ∧ LoreOk L ∧ SqL K H l (L.parts.map V.str) ∧ PieceOk L.parts p ∧ ∀ H', Same H H' → Q (.bl true) H'
theorem scPieceWord : FnScope ["parts", "word", "some", "part"] ["parts", "word"] (defScope sPieceWord) := ⟨rfl, rfl, rfl, by decide +kernel, rfl, by decide +kernel, by decide +kernel⟩
theorem ok_pieceWord (F : Fun K "is_piece_word" "is_piece_word" sPieceWord f fd) (T : Bl mg) : FnOk P w K mg base CX0 2 f fd ["parts", "word"] (spPieceWord K) := by
  refine F.ok scPieceWord (fun vs H Q E h => ?_) (fun cdv A outer s H vs Q E hr h => ?_)
  · obtain ⟨l, L, p, rfl, _⟩ := h
    rfl
  · obtain ⟨l, L, p, rfl, ok, hl, po, k⟩ := h
    have nd := scPieceWord.nd
    refine ⟨_, pss_cons (ps_set (i := 2) nd rfl (.inr rfl) (pe_split (pv 1) pe_str))
      (pss_one (ps_ret (pe_cmpR (op_eqG (rcG_list mon_flat eqG_flat) hr) (pv 2) (pe_lc (own := [("part", 3)]) (g := gName 3) (tt := tTest (tOp (rIn K false) (tVar 3) (tVar 2))) rfl nd (pi_list (pv 0)) (blkOk_by (N := ["parts", "word", "some", "part"]) (sc := defScope sPieceWord) (by decide +kernel))
        (fun _ _ _ _ _ => pg_name (i := 3) nd rfl (Or.inl rfl)) (fun _ _ _ _ _ => pts_one (pt_cmpR op_in_seq (pv 3) (pv 2) rfl)) (fun _ _ _ _ _ => pv 3)) (nomark _)))), ?_⟩
    have p4 := ok.p4
    have pl := po.len
    have wl := (join_le (s := ("+" : Str)) (n := 4) (c := 5) (xs := p) (by omega) fun x hx => part_len x (ok.pp x (po.sub x hx))).2
    have wl2 : (pieceW p).length ≤ 100 := Nat.le_trans wl (by decide)
    refine ⟨_, rfl, ⟨_, rfl⟩, _, _, rfl, rfl, rfl, by rw [sizeLine_eq]; omega, fun q nq => ?_⟩
    rw [split_piece ok po]
    have s1 : Same H (upd H q (.lst (p.map V.str))) := same_new nq
    have eq1 : upd H q (.lst (p.map V.str)) q = some (.lst (p.map V.str)) := upd_same
    generalize upd H q (.lst (p.map V.str)) = H1 at s1 eq1
    have hl1 : SqL K H1 l (L.parts.map V.str) := s1.seq hl
    refine ⟨_, rfl, _, rfl, l, rfl, ⟨_, hl1⟩, lc_over (Q := fun x H1 => rEqG (DList DFlat) (.ref q) x H1 Q) walk_list L.parts V.str (fun x => if x ∈ p then some (V.str x) else none) rfl (by omega) (fun H s => s.seq hl1) ?_ ?_⟩
    · intro j b H' R Rn hb s' k1 k2
      refine ⟨rfl, _, rfl, _, rfl, q, _, rfl, .inl (SqL.of (s' _ _ eq1)), rfl, flat_strs _, _, rfl, ?_⟩
      rw [inV_str]
      by_cases hz : b ∈ p
      · refine iteA (by simp [hz]) ?_
        exact ⟨_, rfl, k1 _ _ (by simp [hz]) (Same.refl _)⟩
      · refine iteB (by simp [hz]) ?_
        exact k2 _ (by simp [hz]) (Same.refl _)
    · intro D H' nD s' e
      rw [fm_if, ← po.2] at e
      exact ⟨⟨q, D, _, _, rfl, rfl, s' _ _ eq1, e, prs_self⟩, fun H2 x2 => k H2 ((s1.trans s').trans x2)⟩
/-! ### is_whole_shelf -/
def spWhole (K : PySem.W.Frag) : Sp := fun vs H Q _ => ∃ (l : Addr) (xs : List V), vs = [.ref l] ∧ SqL K H l xs ∧ 3 ≤ xs.length ∧ Q (.bl true) H
theorem scWhole : FnScope ["lines"] ["lines"] (defScope sWhole) := ⟨rfl, rfl, rfl, by decide +kernel, rfl, by decide +kernel, by decide +kernel⟩
theorem ok_whole (F : Fun K "is_whole_shelf" "is_whole_shelf" sWhole f fd) (T : Bl mg) (C : Cn mg) : FnOk P w K mg base CX0 1 f fd ["lines"] (spWhole K) := by
  refine F.ok scWhole (fun vs H Q E h => ?_) (fun cdv A outer s H vs Q E hr h => ?_)
  · obtain ⟨l, xs, rfl, _⟩ := h
    rfl
  · obtain ⟨l, xs, rfl, hl, h3, k⟩ := h
    obtain ⟨t2, h2⟩ := C.least
    refine ⟨_, pss_one (ps_ret (pe_cmpR op_gt (pe_callB call_len_seq (by rfl) T.len PySem.boot_len (pa_cons (pv 0) pa_nil)) (pe_glob (v := .int 2) (by rfl) h2 ⟨_, rfl⟩) (nomark _))), ?_⟩
    refine ⟨_, rfl, l, _, rfl, .inl hl, _, _, rfl, rfl, ?_⟩
    show Q (.bl (decide ((2 : Int) < (xs.length : Int)))) H
    rw [decide_eq_true (by omega)]
    exact k
end
end K6
set_option Elab.async false
set_option linter.all false
set_option maxRecDepth 100000
set_option maxHeartbeats 4000000
set_option pp.maxSteps 1200
set_option pp.deepTerms false
namespace K6
open PySem PySem.Spec PyProof.Rows L2 Lk
abbrev sReadPieces : Stmt := top 33
abbrev sStands : Stmt := top 29
abbrev sWrong : Stmt := top 15
def rSplit : V → List V → Hp → VK → Prop := fun x xs H Q => ∃ a b, x = .str a ∧ xs = [.str b] ∧ (b.length == 0) = false ∧ a.length + 2 ≤ sizeLine ∧ rNewStrs (Txt.split a b) H Q
/-- all([q(x) for x in xs]), over what is walked -/
theorem all_over {α : Type} {K : PySem.W.Frag} {J : It} {G : Hp → Prop} {vs0 : List V} (w : Walk J vs0.length G (YAt vs0)) {g : TG} {te : TE} {vs : List Nat} {σ : L2.St} {H1 : Hp} {R : VK} (xs : List α) (e : α → V) (q : α → Bool)
    (hv : vs0 = xs.map e) (few : xs.length ≤ 100000) (hG : ∀ H, Same H1 H → G H)
    (hs : ∀ (i : Nat) b H (R' : VK), xs[i]? = some b → Same H1 H → (∀ H4, Same H H4 → R' (.bl (q b)) H4) → g (e b) (wipe σ vs) H fun σ2 H2 => wipe σ2 vs = wipe σ vs ∧ te σ2 H2 R')
    (hd : ∀ H, Same H1 H → R (.bl (xs.all q)) H) : LcR J g tYes te vs σ H1 fun x H2 => tNil σ H2 fun xs H3 => rAll K (x :: xs) H3 R := by
  refine lc_over (Q := fun x H2 => rAll K [x] H2 R) w xs e (fun x => some (.bl (q x))) hv few hG (fun i b H R' Rn hb s k1 k2 => ?_) fun D H nD s ed => ?_
  · have z := hs i b H R' hb s fun H4 s4 => k1 H4 _ rfl s4
    have ty : (fun (σ2 : L2.St) H2 => wipe σ2 vs = wipe σ vs ∧ tYes σ2 H2 fun c H3 => if c = true then te σ2 H3 R' else Rn H3) = (fun σ2 H2 => wipe σ2 vs = wipe σ vs ∧ te σ2 H2 R') := by
      funext σ2 H2
      exact congrArg (And _) (tYes_if σ2 H2 (fun H3 => te σ2 H3 _) _)
    rw [ty]
    exact z
  · rw [fm_bl] at ed
    refine ⟨D, _, rfl, SqL.of ed, ?_⟩
    have : (xs.map q).all id = xs.all q := by simp [List.all_map]
    rw [this]
    exact hd H s
section
variable {P : Program} {w : World} {K : PySem.W.Frag} {mg : Str → Option Value} {base : Heap} {f : Addr} {fd : FuncData}
/-! ### read_pieces -/
def RelP (H : Hp) (v : V) (p : List Str) : Prop := ∃ t, v = V.ref t ∧ H t = some (.tup (p.map V.str))
theorem RelP.keep (H H' : Hp) (v : V) (p : List Str) (k : Keep H H') (h : RelP H v p) : RelP H' v p := by
  obtain ⟨t, e, h⟩ := h
  exact ⟨t, e, k _ _ h fun xs z => by cases z⟩
def spReadPieces (K : PySem.W.Frag) : Sp := fun vs H Q _ => ∃ (l : Addr) (L : Lore) (ps : List (List Str)), vs = [.ref l] ∧ LoreOk L ∧ SqL K H l ((ps.map pieceW).map V.str) ∧ ps.length ≤ 1000 ∧ (∀ p ∈ ps, PieceOk L.parts p) ∧
  ∀ q ts H', Same H H' → H' q = some (.tup ts) → Pieces H' ts ps → Q (.ref q) H'
theorem scReadPieces : FnScope ["words", "word"] ["words"] (defScope sReadPieces) := ⟨rfl, rfl, rfl, by decide +kernel, rfl, by decide +kernel, by decide +kernel⟩
theorem ok_readPieces (F : Fun K "read_pieces" "read_pieces" sReadPieces f fd) (T : Bl mg) (C : Cn mg) : FnOk P w K mg base CX0 1 f fd ["words"] (spReadPieces K) := by
  refine F.ok scReadPieces (fun vs H Q E h => ?_) (fun cdv A outer s H vs Q E hr h => ?_)
  · obtain ⟨l, L, p, rfl, _⟩ := h
    rfl
  · obtain ⟨l, L, ps, rfl, ok, hl, few, po, k⟩ := h
    have nd := scReadPieces.nd
    refine ⟨_, pss_one (ps_ret (pe_tupleOf (by rfl) C.tuple (pe_lc (own := [("word", 1)]) (g := gName 1) (tt := tYes) (te := tThen (tM1 rSplit (tVar 1) (tC (.str "+"))) (kTup K)) rfl nd (pi_list (pv 0)) (blkOk_by (N := ["words", "word"]) (sc := defScope sReadPieces) (by decide +kernel))
        (fun _ _ _ _ _ => pg_name (i := 1) nd rfl (Or.inl rfl)) (fun _ _ _ _ _ => pts_nil) (fun _ _ _ _ _ => pe_tupleOf (by rfl) C.tuple (pe_split (pv 1) pe_str))))), ?_⟩
    refine ⟨_, rfl, l, rfl, ⟨_, hl⟩, lc_rel (Q := fun x H1 => kTup K x H1 Q) walk_list ps (fun p => V.str (pieceW p)) id RelP RelP.keep (by rw [List.map_map]; rfl) (by omega) (fun H s => s.seq hl) ?_ ?_⟩
    · intro i p H1 R hp s1 kk
      have pm := List.mem_of_getElem? hp
      have p4 := ok.p4
      have pl := (po p pm).len
      have wl := (join_le (s := ("+" : Str)) (n := 4) (c := 5) (xs := p) (by omega) fun x hx => part_len x (ok.pp x ((po p pm).sub x hx))).2
      have wl2 : (pieceW p).length ≤ 100 := Nat.le_trans wl (by decide)
      refine ⟨rfl, _, rfl, ⟨_, rfl⟩, _, _, rfl, rfl, rfl, by rw [sizeLine_eq]; omega, fun q nq => ?_⟩
      rw [split_piece ok (po p pm)]
      refine .inl ⟨q, _, rfl, SqL.of upd_same, fun t nt => ?_⟩
      exact kk _ _ ((same_new nq).trans (same_new nt)) ⟨t, rfl, upd_same⟩
    · intro D H1 ts nD s1 eD pr
      rw [List.map_id] at pr
      refine .inl ⟨D, _, rfl, SqL.of eD, fun q nq => k q ts _ (s1.trans (same_new nq)) upd_same (Pieces.tups pr (.of (same_new nq)))⟩
end
end K6
set_option Elab.async false
set_option linter.all false
set_option maxRecDepth 100000
set_option maxHeartbeats 4000000
set_option pp.maxSteps 1200
set_option pp.deepTerms false
namespace K6
open PySem PySem.Spec PyProof.Rows L2 Lk
theorem cut2 (xs : List V) (h : 2 ≤ xs.length) : cutV xs (some 2) none = xs.drop 2 := by
  show (xs.drop (min 2 xs.length)).take (xs.length - min 2 xs.length) = _
  rw [Nat.min_eq_left h]
  exact List.take_of_length_le (by rw [List.length_drop]; omega)
section
variable {P : Program} {w : World} {K : PySem.W.Frag} {mg : Str → Option Value} {base : Heap} {f : Addr} {fd : FuncData}
/-! ### stands_in_shelf -/
def spStands (K : PySem.W.Frag) : Sp := fun vs H Q _ => ∃ (l : Addr) (L : Lore) (i : Nat) (line : Str), vs = [.ref l, .str line] ∧ LoreOk L ∧ SqL K H l (((rowsL L).take i).map V.str) ∧ (rowsL L)[i]? = some line ∧ ∀ H', Same H H' → Q (.bl true) H'
theorem scStands : FnScope ["ahead", "line", "words", "taken", "parts", "row", "word"] ["ahead", "line"] (defScope sStands) := ⟨rfl, rfl, rfl, by decide +kernel, rfl, by decide +kernel, by decide +kernel⟩
theorem ok_stands {f1 f2 f3 f4 : Addr} {fd1 fd2 fd3 fd4 : FuncData} (F : Fun K "stands_in_shelf" "stands_in_shelf" sStands f fd) (T : Bl mg) (C : Cn mg) (F1 : Fun K "is_name" "is_name" sIsName f1 fd1) (b1 : Binds K fd1 ["value"] []) (m1 : mg "is_name" = some (.ref f1))
    (F2 : Fun K "are_names" "are_names" sAreNames f2 fd2) (b2 : Binds K fd2 ["some"] []) (m2 : mg "are_names" = some (.ref f2)) (F3 : Fun K "is_parts_line" "is_parts_line" sPartsLine f3 fd3) (b3 : Binds K fd3 ["line"] []) (m3 : mg "is_parts_line" = some (.ref f3))
    (F4 : Fun K "is_piece_word" "is_piece_word" sPieceWord f4 fd4) (b4 : Binds K fd4 ["parts", "word"] []) (m4 : mg "is_piece_word" = some (.ref f4)) : FnOk P w K mg base CX0 4 f fd ["ahead", "line"] (spStands K) := by
  have G1 : FnOk P w K mg base CX0 1 f1 fd1 ["value"] spIsName := ok_isName F1 T C
  have G3 : FnOk P w K mg base CX0 3 f3 fd3 ["line"] spPartsLine := ok_partsLine F3 T C F1 b1 m1 F2 b2 m2
  have G4 : FnOk P w K mg base CX0 2 f4 fd4 ["parts", "word"] (spPieceWord K) := ok_pieceWord F4 T
  refine F.ok scStands (fun vs H Q E h => ?_) (fun cdv A outer s H vs Q E hr h => ?_)
  · obtain ⟨l, L, i, line, rfl, _⟩ := h
    rfl
  · obtain ⟨l, L, i, line, rfl, ok, hl, hi, k⟩ := h
    have nd := scStands.nd
    obtain ⟨t1, h1⟩ := C.pieces
    obtain ⟨t2, h2⟩ := C.most
    have hr1 : Room 1 _ := hr.mono (by decide)
    have hr2 : Room 2 _ := hr.mono (by decide)
    refine ⟨_, pss_cons (ps_if (pt_cmpR op_eq (pe_callB call_len_seq (by rfl) T.len PySem.boot_len (pa_cons (pv 0) pa_nil)) pe_int (nomark _)) (pss_one (ps_ret (pe_call G3 hr (by rfl) m3 F3.kp b3 .nil pass0 (pa_cons (pv 1) pa_nil)))) pss_nil)
      (pss_cons (ps_set (i := 2) nd rfl (.inl rfl) (pe_split (pv 1) pe_str))
      (pss_cons (ps_if (PW.pt (pw_or (pt_cmpR op_ne (pe_ix ix_list (pv 2) pe_int (fun _ _ => rfl)) pe_str (nomark _)) (pw_or (pt_not (pt_chain op_le op_le pe_int (pe_callB call_len_seq (by rfl) T.len PySem.boot_len (pa_cons (pv 2) pa_nil)) (pe_op op_add pe_int (pe_glob (v := .int 2) (by rfl) h1 ⟨_, rfl⟩))))
          (pw_or1 (pt_cmpR op_gt (pe_callB call_len_seq (by rfl) T.len PySem.boot_len (pa_cons (pv 0) pa_nil)) (pe_glob (v := .int 6) (by rfl) h2 ⟨_, rfl⟩) (nomark _)))))) pss_no pss_nil)
      (pss_cons (ps_setLc (i := 3) (own := [("row", 5)]) (g := gName 5) (tt := tYes) (te := tOp (rIxL K) (tM1 rSplit (tVar 5) (tC (.str " "))) (tC (.int 1))) rfl nd rfl rfl (sw_true rfl rfl rfl (by decide +kernel)) (pi_list (pe_slice sl_list (pv 0) (po_some pe_int) po_none))
          (blkOk_by (N := ["ahead", "line", "words", "taken", "parts", "row", "word"]) (sc := defScope sStands) (by decide +kernel)) (fun _ _ _ _ _ => pg_name (i := 5) nd rfl (Or.inl rfl)) (fun _ _ _ _ _ => pts_nil) (fun _ _ _ _ _ => pe_ix ix_list (pe_split (pv 5) pe_str) pe_int (fun _ _ => rfl)))
      (pss_cons (ps_set (i := 4) nd rfl (.inr rfl) (pe_slice sl_list (pe_split (pe_ix ix_list (pv 0) pe_int (fun _ _ => rfl)) pe_str) (po_some pe_int) po_none))
        (pss_one (ps_ret (pe_and (pe_call G1 hr1 (by rfl) m1 F1.kp b1 .nil pass0 (pa_cons (pe_ix ix_list (pv 2) pe_int (fun _ _ => rfl)) pa_nil)) (pe_and (pe_cmpR op_notIn_seq (pe_ix ix_list (pv 2) pe_int (fun _ _ => rfl)) (pv 3) rfl)
          (pe_one (pe_callB (cr_all rfl) (by rfl) T.all boot_all (pa_cons (pe_lc (own := [("word", 6)]) (g := gName 6) (tt := tYes) (te := tCall (spPieceWord K) [] E0 (tCons (tVar 4) (tCons (tVar 6) tNil))) rfl nd (pi_list (pe_slice sl_list (pv 2) (po_some pe_int) po_none))
            (blkOk_by (N := ["ahead", "line", "words", "taken", "parts", "row", "word"]) (sc := defScope sStands) (by decide +kernel)) (fun _ _ _ _ _ => pg_name (i := 6) nd rfl (Or.inl rfl)) (fun _ _ _ _ _ => pts_nil)
            (fun _ _ _ _ _ => pe_call G4 hr2 (by rfl) m4 F4.kp b4 .nil pass0 (pa_cons (pv 4) (pa_cons (pv 6) pa_nil)))) pa_nil))))))))))), ?_⟩
    have rl : (rowsL L).length = L.kps.length + 1 := by show (L.kps.map lineK).length + 1 = _; rw [List.length_map]
    have il : i < (rowsL L).length := (List.getElem?_eq_some_iff.mp hi).1
    have xl : (List.map V.str ((rowsL L).take i)).length = i := by rw [List.length_map, List.length_take]; omega
    have k6 := ok.k6
    refine ⟨_, rfl, l, _, rfl, .inl hl, rfl, _, rfl, ?_⟩
    match i, hi, hl, il, xl with
    | 0, hi, hl, il, xl =>
      obtain rfl : lineP L = line := Option.some.inj hi
      exact iteA (decide_eq_true rfl) ⟨_, rfl, L, rfl, ok, k⟩
    | j + 1, hi, hl, il, xl =>
      refine iteB (decide_eq_false (by rw [xl]; intro z; injection z with z; omega)) ?_
      obtain ⟨kq, hk, rfl⟩ : ∃ kq, L.kps[j]? = some kq ∧ lineK kq = line := by
        have : (L.kps.map lineK)[j]? = some line := hi
        rw [List.getElem?_map] at this
        cases e : L.kps[j]? with
        | none => rw [e] at this; cases this
        | some kq => rw [e] at this; exact ⟨kq, rfl, Option.some.inj this⟩
      have km := List.mem_of_getElem? hk
      have lk : (lineK kq).length ≤ 100 := rows_len ok _ (List.mem_cons_of_mem _ (List.mem_map.mpr ⟨kq, km, rfl⟩))
      obtain ⟨q1, q2, q3⟩ := ok.q kq km
      refine ⟨_, rfl, ⟨_, rfl⟩, _, _, rfl, rfl, rfl, by rw [sizeLine_eq]; omega, fun q nq => ?_⟩
      rw [split_lineK ok km]
      have s1 : Same H (upd H q (.lst ((wordsK kq).map V.str))) := same_new nq
      have eq1 : upd H q (.lst ((wordsK kq).map V.str)) q = some (.lst ((wordsK kq).map V.str)) := upd_same
      generalize upd H q (.lst ((wordsK kq).map V.str)) = H1 at s1 eq1
      have wl : ((wordsK kq).map V.str).length = kq.2.length + 2 := by
        rw [List.length_map]
        show (kq.2.map pieceW).length + 1 + 1 = _
        rw [List.length_map]
      refine ⟨_, rfl, q, _, _, .str "keeper", rfl, rfl, SqL.of eq1, at0 rfl, rfl, _, rfl, iteB (by rw [decide_eq_true rfl]; rfl) ?_⟩
      refine ⟨_, rfl, q, _, rfl, .inl (SqL.of eq1), _, _, rfl, rfl, _, rfl, iteA (decide_eq_true (by rw [wl]; omega)) ?_⟩
      refine ⟨_, _, rfl, rfl, _, _, rfl, rfl, _, rfl, iteB (by rw [decide_eq_true (by rw [wl]; show ((kq.2.length + 2 : Nat) : Int) ≤ 2 + 2; omega)]; rfl) ?_⟩
      refine ⟨_, rfl, l, _, rfl, .inl (s1.seq hl), _, _, rfl, rfl, _, rfl, iteB (decide_eq_false (by rw [xl]; omega)) ?_⟩
      have hl1 := s1.seq hl
      have drop1 : cutV (List.map V.str ((rowsL L).take (j + 1))) (some 1) none = ((L.kps.take j).map fun k => V.str (lineK k)) := by
        rw [cut1 _ (by rw [xl]; omega)]
        show List.map V.str ((L.kps.map lineK).take j) = _
        rw [← List.map_take, List.map_map]
        rfl
      have tl6 : (L.kps.take j).length ≤ 6 := by rw [List.length_take]; omega
      refine ⟨_, rfl, _, rfl, l, _, rfl, hl1, fun p np => ?_⟩
      rw [drop1]
      have s2 : Same H1 (upd H1 p (.lst ((L.kps.take j).map fun k => V.str (lineK k)))) := same_new np
      have ep2 : SqL K (upd H1 p (.lst ((L.kps.take j).map fun k => V.str (lineK k)))) p ((L.kps.take j).map fun k => V.str (lineK k)) := SqL.of upd_same
      generalize upd H1 p (.lst ((L.kps.take j).map fun k => V.str (lineK k))) = H2 at s2 ep2
      refine ⟨p, rfl, ⟨_, ep2⟩, fun D nD => lc_fm (walk_list (a := p) (xs := (L.kps.take j).map fun k => V.str (lineK k))) (L.kps.take j) (fun k => some (V.str k.1)) (by rw [List.length_map]) (by rw [List.length_map]; omega) nD (fun H s => s.seq ep2) ?_ ?_⟩
      · rintro i' x k' H3 H3' R Rn hk' s3 ⟨rfl, hx⟩ k1 k2
        have km' : k' ∈ L.kps := List.mem_of_mem_take (List.mem_of_getElem? hk')
        obtain rfl : V.str (lineK k') = x := by
          rw [List.getElem?_map, hk'] at hx
          exact Option.some.inj hx
        have lk' : (lineK k').length ≤ 100 := rows_len ok _ (List.mem_cons_of_mem _ (List.mem_map.mpr ⟨k', km', rfl⟩))
        refine ⟨rfl, _, rfl, ⟨_, rfl⟩, _, _, rfl, rfl, rfl, by rw [sizeLine_eq]; omega, fun u nu => ?_⟩
        rw [split_lineK ok km']
        exact ⟨u, _, _, .str k'.1, rfl, rfl, SqL.of upd_same, at1 rfl, k1 _ _ rfl (same_new nu)⟩
      · intro H3 s3 eD
        have fe : ((L.kps.take j).filterMap fun k => some (V.str k.1)) = ((L.kps.take j).map (·.1)).map V.str := by simp [Function.comp_def]
        rw [fe] at eD
        have hl3 : SqL K H3 l _ := s3.seq (s2.seq hl1)
        have eq3 := s3 _ _ (s2 _ _ eq1)
        have lp : (lineP L).length ≤ 100 := rows_len ok _ List.mem_cons_self
        refine ⟨_, rfl, l, _, _, .str (lineP L), rfl, rfl, hl3, at0 rfl, ⟨_, rfl⟩, _, _, rfl, rfl, rfl, by rw [sizeLine_eq]; omega, fun u nu => ?_⟩
        rw [split_lineP ok]
        refine ⟨_, rfl, u, _, rfl, SqL.of upd_same, fun pa npa => ?_⟩
        rw [cut1 _ (by rw [List.length_map, List.length_cons]; omega)]
        have s4 : Same H3 (upd (upd H3 u (.lst ((("parts" : Str) :: L.parts).map V.str))) pa (.lst (List.drop 1 (List.map V.str (("parts" : Str) :: L.parts))))) := (same_new nu).trans (same_new npa)
        have epa : upd (upd H3 u (.lst ((("parts" : Str) :: L.parts).map V.str))) pa (.lst (List.drop 1 (List.map V.str (("parts" : Str) :: L.parts)))) pa = some (.lst (L.parts.map V.str)) := upd_same
        generalize upd (upd H3 u (.lst ((("parts" : Str) :: L.parts).map V.str))) pa (.lst (List.drop 1 (List.map V.str (("parts" : Str) :: L.parts)))) = H4 at s4 epa
        have eq4 := s4 _ _ eq3
        refine ⟨_, rfl, q, _, _, .str kq.1, rfl, rfl, SqL.of eq4, at1 rfl, kq.1, rfl, low_names _ (ok.kp kq km), fun H5 s5 => ⟨_, rfl, iteT ?_⟩⟩
        refine ⟨_, rfl, q, _, _, .str kq.1, rfl, rfl, SqL.of (s5 _ _ eq4), at1 rfl, _, rfl, D, _, rfl, .inl (SqL.of (s5 _ _ (s4 _ _ eD))), rfl, flat_strs _, _, rfl, iteA ?_ ?_⟩
        · rw [inV_str]
          have : kq.1 ∉ (L.kps.take j).map (·.1) := by
            intro m
            have nn := ok.kn
            rw [← List.take_append_drop j L.kps, List.map_append, List.nodup_append] at nn
            refine nn.2.2 _ m _ (List.mem_map.mpr ⟨kq, ?_, rfl⟩) rfl
            refine List.mem_of_getElem? (i := 0) ?_
            rw [List.getElem?_drop]
            exact hk
          simp only [if_true, Bool.not_eq_true', decide_eq_false_iff_not]
          exact this
        refine ⟨_, rfl, _, rfl, q, _, rfl, SqL.of (s5 _ _ eq4), fun v nv => ?_⟩
        rw [cut2 _ (by rw [wl]; omega)]
        refine ⟨v, rfl, ⟨_, SqL.of upd_same⟩, all_over walk_list kq.2 (fun p => V.str (pieceW p)) (fun _ => true) (by show List.map V.str (kq.2.map pieceW) = _; rw [List.map_map]; rfl) (by omega) (fun H s => s.seq (SqL.of upd_same)) ?_ ?_⟩
        · intro i' p' H6 R hp' s6 kk
          refine ⟨rfl, _, rfl, _, rfl, pa, L, p', rfl, ok, s6.seq ((same_new nv).seq (s5.seq (SqL.of epa))), q3 p' (List.mem_of_getElem? hp'), fun H7 s7 => kk H7 s7⟩
        · intro H6 s6
          have : (kq.2.all fun _ => true) = true := by simp
          rw [this]
          exact k _ (((((s1.trans s2).trans s3).trans s4).trans s5).trans ((same_new nv).trans s6))
end
end K6
set_option Elab.async false
set_option linter.all false
set_option maxRecDepth 100000
set_option maxHeartbeats 4000000
set_option pp.maxSteps 1200
set_option pp.deepTerms false
namespace K6
open PySem PySem.Spec PyProof.Rows L2 Lk
theorem cutT (xs : List V) (i : Nat) (h : i ≤ xs.length) : cutV xs none (some (i : Int)) = xs.take i := by
  show (xs.drop 0).take (HT.sIx xs.length xs.length (some (i : Int)) - 0) = _
  rw [HT.sIx_nat, Nat.min_eq_left h]
  rfl
section
variable {P : Program} {w : World} {K : PySem.W.Frag} {mg : Str → Option Value} {base : Heap} {f : Addr} {fd : FuncData}
/-! ### wrong_line, of a text that stands -/
def spWrong (fS fW : Addr) : Sp := fun vs H Q _ => ∃ L : Lore, vs = [.str (textL L), .ref fS, .ref fW] ∧ LoreOk L ∧ ∀ H', Same H H' → Q .non H'
theorem scWrong : FnScope ["text", "can_stand", "is_whole", "lines", "number", "line"] ["text", "can_stand", "is_whole"] (defScope sWrong) := ⟨rfl, rfl, rfl, by decide +kernel, rfl, by decide +kernel, by decide +kernel⟩
theorem text_len {L : Lore} (ok : LoreOk L) : (textL L).length ≤ 1000 := by
  have k6 := ok.k6
  exact Nat.le_trans (join_le (s := ("\n" : Str)) (n := 7) (c := 100) (by show (L.kps.map lineK).length + 1 ≤ 7; rw [List.length_map]; omega) (rows_len ok)).2 (by decide)
theorem ok_wrong {fS fW : Addr} {fdS fdW : FuncData} (F : Fun K "wrong_line" "wrong_line" sWrong f fd) (T : Bl mg) (C : Cn mg)
    (GS : FnOk P w K mg base CX0 4 fS fdS ["ahead", "line"] (spStands K)) (kS : PySem.W.keepIn K (.ref fS) = true) (bS : Binds K fdS ["ahead", "line"] [])
    (GW : FnOk P w K mg base CX0 1 fW fdW ["lines"] (spWhole K)) (kW : PySem.W.keepIn K (.ref fW) = true) (bW : Binds K fdW ["lines"] []) : FnOk P w K mg base CX0 5 f fd ["text", "can_stand", "is_whole"] (spWrong fS fW) := by
  refine F.ok scWrong (fun vs H Q E h => ?_) (fun cdv A outer s H vs Q E hr h => ?_)
  · obtain ⟨L, rfl, _⟩ := h
    rfl
  · obtain ⟨L, rfl, ok, k⟩ := h
    have nd := scWrong.nd
    have hr1 : Room 1 _ := hr.mono (by decide)
    refine ⟨_, pss_cons (ps_if (pt_not (pt_val (pe_callB call_isi (by rfl) T.isin boot_isinstance (pa_cons (pv 0) (pa_cons (pe_bltn (v := .ty "str") (by rfl) C.str rfl rfl) pa_nil))))) pss_no pss_nil)
      (pss_cons (ps_set (i := 3) nd rfl (.inl rfl) (pe_split (pv 0) pe_str))
      (pss_cons (ps_for PassesOwn.never rfl (pi_enum (by rfl) T.enum (pa_cons (pv 3) pa_nil)) (pg_tup rfl (pgs_cons (pg_name (i := 4) nd rfl (.inl rfl)) (pgs_cons (pg_name (i := 5) nd rfl (.inl rfl)) pgs_nil)))
          (pss_one (ps_if (pt_not (pt_val (pe_callL GS hr (i := 1) rfl (.inl rfl) kS bS .nil pass0 (pa_cons (pe_slice sl_list (pv 3) po_none (po_some (pv 4))) (pa_cons (pv 5) pa_nil))))) pss_no pss_nil)))
        (pss_one (ps_ret (pe_ifExp (pt_val (pe_callL GW hr1 (i := 2) rfl (.inl rfl) kW bW .nil pass0 (pa_cons (pv 3) pa_nil))) pe_non pe_no))))), ?_⟩
    have tl := text_len ok
    have rl : (rowsL L).length = L.kps.length + 1 := by show (L.kps.map lineK).length + 1 = _; rw [List.length_map]
    refine ⟨_, rfl, _, _, _, _, true, rfl, .ty _, .base (.str _), by rfl, _, rfl, iteB rfl ?_⟩
    refine ⟨_, rfl, ⟨_, rfl⟩, _, _, rfl, rfl, rfl, by rw [sizeLine_eq]; omega, fun l nl => ?_⟩
    rw [split_text ok]
    have s1 : Same H (upd H l (.lst ((rowsL L).map V.str))) := same_new nl
    have el : upd H l (.lst ((rowsL L).map V.str)) l = some (.lst ((rowsL L).map V.str)) := upd_same
    generalize upd H l (.lst ((rowsL L).map V.str)) = H1 at s1 el
    have vl : ((rowsL L).map V.str).length = (rowsL L).length := List.length_map ..
    refine ⟨_, rfl, l, _, rfl, SqL.of el, for_it (walk_enum (xs := (rowsL L).map V.str)) (fun i σ H' => ∃ u v, σ = [some (.str (textL L)), some (.ref fS), some (.ref fW), some (.ref l), u, v] ∧ Same H1 H') ⟨none, none, rfl, Same.refl _⟩ (fun i σ H' _ ⟨_, _, _, s'⟩ => SqL.of (s' _ _ el)) ?_ ?_⟩
    · rintro i x σ H2 H3 hi ⟨u, v, rfl, s2⟩ ⟨t, a1, a2, rfl, nt, rfl, e1, e2⟩
      obtain rfl := Option.some.inj e1
      obtain ⟨line, hline, rfl⟩ : ∃ z, (rowsL L)[i]? = some z ∧ a2 = .str z := by
        have e2 : (List.map V.str (rowsL L))[i]? = some a2 := e2
        rw [List.getElem?_map] at e2
        cases e : (rowsL L)[i]? with
        | none => rw [e] at e2; cases e2
        | some z => rw [e] at e2; exact ⟨z, rfl, (Option.some.inj e2).symm⟩
      have s3 : Same H1 (upd H2 t (.tup [.int (i : Nat), .str line])) := s2.trans (same_new nt)
      refine ⟨t, _, rfl, SqT.of upd_same, rfl, _, _, rfl, _, _, rfl, rfl, ?_⟩
      refine ⟨rfl, _, rfl, _, rfl, _, rfl, l, _, rfl, SqL.of (s3 _ _ el), fun p np => ?_⟩
      rw [cutT _ i (by omega)]
      refine ⟨_, rfl, p, L, i, line, rfl, ok, by rw [List.map_take]; exact SqL.of upd_same, hline, fun H5 s5 => ⟨_, rfl, iteB rfl ?_⟩⟩
      exact ⟨_, _, rfl, (s3.trans (same_new np)).trans s5⟩
    · rintro σ H2 ⟨u, v, rfl, s2⟩
      refine ⟨rfl, _, rfl, l, _, rfl, SqL.of (s2 _ _ el), by rw [vl, rl]; have := ok.k2; omega, _, rfl, iteT ?_⟩
      exact k _ (s1.trans s2)
end
end K6
set_option Elab.async false
set_option linter.all false
set_option maxRecDepth 100000
set_option maxHeartbeats 4000000
set_option pp.maxSteps 1200
set_option pp.deepTerms false
namespace K6
open PySem PySem.Spec PyProof.Rows L2 Lk
abbrev sCircInit : Stmt := inClass (top 17) 0
/-- what is asked of the class Circle -/
structure CircC (K : PySem.W.Frag) (C fI : Addr) : Prop where
  cls : Cls K C
  nm : NoAttr K C "names"
  mkr : Mk K C fI
/-- a circle of these names -/
def CircAt (H : Hp) (C c : Addr) (zs : List Str) : Prop := ∃ dx nm, H c = some (.ins C dx [("names", .ref nm)]) ∧ TupX H nm (zs.map V.str)
section
variable {P : Program} {w : World} {K : PySem.W.Frag} {mg : Str → Option Value} {base : Heap} {f : Addr} {fd : FuncData}
theorem isi_tup {xs : List V} {H : Hp} {a : Addr} (h : TupX H a xs) : TyX K H (.ref a) (.type "tuple") := by
  obtain ⟨ob, e, _⟩ := h
  exact .fTuple e
def spCircI (K : PySem.W.Frag) (C : Addr) : Sp := fun vs H Q _ => ∃ (x nm dx : Addr) (zs : List Str), vs = [.ref x, .ref nm] ∧ H x = some (.ins C dx []) ∧ TupX H nm (zs.map V.str) ∧ 2 ≤ zs.length ∧ zs.length ≤ 6 ∧ (∀ z ∈ zs, LowOk z) ∧ zs.Nodup ∧
  ∀ H', (∀ b o, b ≠ x → H b = some o → H' b = some o) → H' x = some (.ins C dx [("names", .ref nm)]) → Q .non H'
theorem scCircI : FnScope ["self", "names"] ["self", "names"] (defScope sCircInit) := ⟨rfl, rfl, rfl, by decide +kernel, rfl, by decide +kernel, by decide +kernel⟩
theorem ok_circI {C fC : Addr} {f1 f2 : Addr} {fd1 fd2 : FuncData} (F : Fun K "__init__" "Circle.__init__" sCircInit f fd) (T : Bl mg) (Cc : Cn mg) (CC : CircC K C fC) (F1 : Fun K "is_name" "is_name" sIsName f1 fd1) (b1 : Binds K fd1 ["value"] []) (m1 : mg "is_name" = some (.ref f1))
    (F2 : Fun K "are_names" "are_names" sAreNames f2 fd2) (b2 : Binds K fd2 ["some"] []) (m2 : mg "are_names" = some (.ref f2)) : FnOk P w K mg base CX0 3 f fd ["self", "names"] (spCircI K C) := by
  have G2 : FnOk P w K mg base CX0 2 f2 fd2 ["some"] (spAreNames K) := ok_areNames F2 T Cc F1 b1 m1
  refine F.ok scCircI (fun vs H Q E h => ?_) (fun cdv A outer s H vs Q E hr h => ?_)
  · obtain ⟨x, nm, dx, zs, rfl, _⟩ := h
    rfl
  · obtain ⟨x, nm, dx, zs, rfl, hx, hn, z2, z6, low, ndz, k⟩ := h
    have nd := scCircI.nd
    refine ⟨_, pss_cons (ps_if (PW.pt (pw_or (pt_not (pt_val (pe_callB call_isi (by rfl) T.isin boot_isinstance (pa_cons (pv 1) (pa_cons (pe_bltn (v := .ty "tuple") (by rfl) Cc.tuple rfl rfl) pa_nil)))))
        (pw_or (pt_not (pt_chain op_le op_le pe_int (pe_callB call_len_seq (by rfl) T.len PySem.boot_len (pa_cons (pv 1) pa_nil)) pe_int))
        (pw_or1 (pt_not (pt_val (pe_call G2 hr (by rfl) m2 F2.kp b2 .nil pass0 (pa_cons (pv 1) pa_nil)))))))) pss_no pss_nil)
      (pss_one (ps_fld (pv 0) (pv 1) rfl)), ?_⟩
    have zl : ((zs.map V.str).length : Int) = zs.length := by rw [List.length_map]
    refine ⟨_, rfl, _, _, _, _, true, rfl, .ty _, isi_tup hn, by rfl, _, rfl, iteB rfl ?_⟩
    refine ⟨_, rfl, nm, _, rfl, .inr hn.sq, _, _, rfl, rfl, _, rfl, iteA (decide_eq_true (by rw [zl]; omega)) ?_⟩
    refine ⟨_, _, rfl, rfl, _, rfl, iteB (by rw [decide_eq_true (by rw [zl]; omega)]; rfl) ?_⟩
    refine ⟨_, rfl, nm, zs, rfl, .inr hn.sq, by omega, low, ndz, fun H1 s1 => ⟨_, rfl, iteB rfl ?_⟩⟩
    refine ⟨_, rfl, _, rfl, x, C, dx, [], rfl, s1 _ _ hx, CC.cls, CC.nm, by decide, ?_⟩
    exact k _ (fun b o nb e => by rw [upd_ne nb]; exact s1 _ _ e) upd_same
end
end K6
set_option Elab.async false
set_option linter.all false
set_option maxRecDepth 100000
set_option maxHeartbeats 4000000
set_option pp.maxSteps 1200
set_option pp.deepTerms false
namespace K6
open PySem PySem.Spec PyProof.Rows L2 Lk
abbrev sAllSpots : Stmt := top 34
theorem walk_zipT {K : PySem.W.Frag} {a b : Addr} {xs ys : List V} {n : Nat} (hn : n = min xs.length ys.length) : Walk (RZ.ItzT K a b) n (fun H => SqT K H a xs ∧ SqT K H b ys) (YPair (fun i => xs[i]?) (fun i => ys[i]?)) := by
  subst hn
  refine ⟨fun i H hi q => ⟨xs, ys, xs[i]'(by omega), ys[i]'(by omega), q.1, q.2, List.getElem?_eq_getElem (by omega), List.getElem?_eq_getElem (by omega)⟩, fun H q => ⟨xs, ys, q.1, q.2, by omega⟩, fun i H v H' _ q y => ?_⟩
  obtain ⟨T, x, z, h1, h2, h3, h4, h5⟩ := y
  exact ⟨T, x, z, h1, h2, h3, h4 xs q.1, h5 ys q.2⟩
/-! ### the spots -/
abbrev Spot := Str × Nat
def spotsOf (ks : List KP) : List Spot := ks.flatMap fun k => (List.range k.2.length).map fun i => (k.1, i)
def RelS (H : Hp) (v : V) (s : Spot) : Prop := ∃ t, v = V.ref t ∧ H t = some (.tup [.str s.1, .int (s.2 : Int)])
theorem RelS.keep (H H' : Hp) (v : V) (s : Spot) (k : Keep H H') (h : RelS H v s) : RelS H' v s := by
  obtain ⟨t, e, h⟩ := h
  exact ⟨t, e, k _ _ h fun xs z => by cases z⟩
/-- the tuple of the tuples of pieces, as a shelf holds it -/
def PcsAt (H : Hp) (q : Addr) (ks : List KP) : Prop := ∃ rows, H q = some (.tup rows) ∧ Paired (fun v (k : KP) => ∃ r ts, v = V.ref r ∧ H r = some (.tup ts) ∧ Pieces H ts k.2) rows ks
def rLenS (K : PySem.W.Frag) : List V → Hp → VK → Prop := fun xs H Q => ∃ p ys, xs = [.ref p] ∧ (SqL K H p ys ∨ SqT K H p ys) ∧ Q (.int ys.length) H
section
variable {P : Program} {w : World} {K : PySem.W.Frag} {mg : Str → Option Value} {base : Heap} {f : Addr} {fd : FuncData}
def spAllSpots (C : Addr) : Sp := fun vs H Q _ => ∃ (c q : Addr) (ks : List KP), vs = [.ref c, .ref q] ∧ CircAt H C c (ks.map (·.1)) ∧ PcsAt H q ks ∧ ks.length ≤ 6 ∧ (∀ k ∈ ks, k.2.length ≤ 2) ∧
  ∀ p ts H', Same H H' → H' p = some (.tup ts) → Paired (RelS H') ts (spotsOf ks) → Q (.ref p) H'
theorem scAllSpots : FnScope ["circle", "pieces", "keeper", "row", "number"] ["circle", "pieces"] (defScope sAllSpots) := ⟨rfl, rfl, rfl, by decide +kernel, rfl, by decide +kernel, by decide +kernel⟩
theorem ok_allSpots {C fC : Addr} (F : Fun K "all_spots" "all_spots" sAllSpots f fd) (T : Bl mg) (Cc : Cn mg) (CC : CircC K C fC) : FnOk P w K mg base CX0 1 f fd ["circle", "pieces"] (spAllSpots C) := by
  refine F.ok scAllSpots (fun vs H Q E h => ?_) (fun cdv A outer s H vs Q E hr h => ?_)
  · obtain ⟨c, q, ks, rfl, _⟩ := h
    rfl
  · obtain ⟨c, q, ks, rfl, ⟨dx, nm, ec, en⟩, ⟨rows, eq, pr⟩, k6, k2, k⟩ := h
    have nd := scAllSpots.nd
    refine ⟨_, pss_one (ps_ret (pe_tupleOf (by rfl) Cc.tuple (pe_lc2 (own := [("keeper", 2), ("row", 3), ("number", 4)]) (vs1 := [4]) (g := gTup K 2 (gCons (gName 2) (gCons (gName 3) gNil))) (tt := tYes)
        (wi1 := iRng1 (tCons (tCB (rLenS K) (tCons (tVar 3) tNil)) tNil)) (g1 := gName 4) (tt1 := tYes) (te := tTup (tCons (tVar 2) (tCons (tVar 4) tNil))) rfl nd
        (RZ.pi_zipA (by rfl) Cc.zip (pa_cons (pe_fld (pv 0) rfl) (pa_cons (pv 1) pa_nil))) (blkOk_by (N := ["circle", "pieces", "keeper", "row", "number"]) (sc := defScope sAllSpots) (by decide +kernel)) (by decide)
        (fun _ _ _ _ _ => pg_tup rfl (pgs_cons (pg_name (i := 2) nd rfl (.inl rfl)) (pgs_cons (pg_name (i := 3) nd rfl (.inl rfl)) pgs_nil))) (fun _ _ _ _ _ => pts_nil)
        (fun _ _ _ _ _ => pi_range1 (by rfl) T.range (pa_cons (pe_callB call_len_seq (by rfl) T.len PySem.boot_len (pa_cons (pv 3) pa_nil)) pa_nil))
        (fun _ _ _ _ _ => pg_name (i := 4) nd rfl (.inl rfl)) (fun _ _ _ _ _ => pts_nil) (fun _ _ _ _ _ => pe_tup (pa_cons (pv 2) (pa_cons (pv 4) pa_nil)))))), ?_⟩
    obtain ⟨zr, z1, z2, z3⟩ := paired_zip pr
    have rl : rows.length = ks.length := by rw [← z1, ← z2, List.length_map, List.length_map]
    refine ⟨_, rfl, c, C, dx, _, .ref nm, rfl, ec, CC.cls, CC.nm, rfl, _, rfl, nm, q, _, _, rfl, .inr ⟨en.sq, SqT.of eq, fun D nD => ?_⟩⟩
    refine in_it (walk_zipT (n := ks.length) (by rw [List.length_map, List.length_map, rl, Nat.min_self])) (fun i H' => ∃ ts, H' D = some (.lst ts) ∧ Paired (RelS H') ts (spotsOf (ks.take i)) ∧ ts.length ≤ 2 * i ∧ Same H H') ⟨[], upd_same, .nil, by simp, same_new nD⟩
      (fun i H' _ ⟨_, _, _, _, s'⟩ => ⟨(en.same s').sq, SqT.of (s' _ _ eq)⟩) ?_ ?_
    · rintro i x H2 H3 hi ⟨ts, eD, pt, tl, s2⟩ ⟨t, a1, a2, rfl, nt, rfl, e1, e2⟩
      obtain ⟨kq, hk⟩ : ∃ kq, ks[i]? = some kq := ⟨_, List.getElem?_eq_getElem hi⟩
      obtain rfl : V.str kq.1 = a1 := by
        have e1 : (List.map V.str (ks.map (·.1)))[i]? = some a1 := e1
        rw [List.getElem?_map, List.getElem?_map, hk] at e1
        exact Option.some.inj e1
      obtain ⟨r, us, rfl, er, ep⟩ : ∃ r us, a2 = V.ref r ∧ H r = some (.tup us) ∧ Pieces H us kq.2 := by
        obtain ⟨y, hy⟩ : ∃ y, zr[i]? = some y := ⟨_, List.getElem?_eq_getElem (by rw [← z2, List.length_map] at hi; exact hi)⟩
        have y1 : y.1 = a2 := by
          have e2 : rows[i]? = some a2 := e2
          rw [← z1, List.getElem?_map, hy] at e2
          exact Option.some.inj e2
        have y2 : y.2 = kq := by
          rw [← z2, List.getElem?_map, hy] at hk
          exact Option.some.inj hk
        obtain ⟨r, us, h1, h2, h3⟩ := z3 y (List.mem_of_getElem? hy)
        rw [y1] at h1
        rw [y2] at h3
        exact ⟨r, us, h1, h2, h3⟩
      have ul : us.length = kq.2.length := ep.length
      have km := List.mem_of_getElem? hk
      have kl := k2 kq km
      have s3 : Same H2 (upd H2 t (.tup [.str kq.1, .ref r])) := same_new nt
      have k3 : Keep H2 (upd H2 t (.tup [.str kq.1, .ref r])) := .of s3
      refine ⟨t, _, rfl, SqT.of upd_same, rfl, _, _, rfl, _, _, rfl, rfl, rfl, _, rfl, r, us, rfl, .inr (SqT.of (s3 _ _ (s2 _ _ er))), _, rfl, by omega, by omega, ?_⟩
      refine in_it (walk_range (n := ((us.length : Nat) : Int).toNat)) (fun j H' => ∃ ts, H' D = some (.lst ts) ∧ Paired (RelS H') ts (spotsOf (ks.take i) ++ (List.range j).map fun m => (kq.1, m)) ∧ ts.length ≤ 2 * i + j ∧ Same H H')
        ⟨ts, s3 _ _ eD, by rw [List.range_zero, List.map_nil, List.append_nil]; exact Paired.mapP pt fun v s r => RelS.keep _ _ _ _ k3 r, by omega, s2.trans s3⟩ (fun _ _ _ _ => trivial) ?_ ?_
      · rintro j x H4 H4' hj ⟨ts, eD, pt, tl, s4⟩ ⟨rfl, rfl⟩
        refine ⟨rfl, _, rfl, _, rfl, few_ok rfl, fun p np => ?_⟩
        have eD2 := (same_new (o := .tup [.str kq.1, .int (0 + (j : Nat))]) np) _ _ eD
        refine ⟨ts, eD2, by rw [sizeLine_eq]; omega, ts ++ [.ref p], upd_same, ?_, by rw [List.length_append]; show ts.length + 1 ≤ _; omega, fun b o e => ?_⟩
        · have kp : Keep H4' (upd (upd H4' p (.tup [.str kq.1, .int (0 + (j : Nat))])) D (.lst (ts ++ [.ref p]))) := (Keep.of (same_new np)).trans (.upd eD2)
          rw [List.range_succ, List.map_append, ← List.append_assoc]
          refine Paired.add (Paired.mapP pt fun v s r => RelS.keep _ _ _ _ kp r) ⟨p, rfl, ?_⟩
          have pD : p ≠ D := fun z => by rw [z, eD] at np; cases np
          rw [upd_ne pD, upd_same]
          show some (HO.tup [V.str kq.1, V.int (0 + (j : Int))]) = _
          rw [Int.zero_add]
        · rw [upd_ne (ne_of_none e nD)]
          exact (same_new np) _ _ (s4 _ _ e)
      · rintro H4 ⟨ts, eD, pt, tl, s4⟩
        have un : ((us.length : Nat) : Int).toNat = kq.2.length := by omega
        rw [un] at pt tl
        refine ⟨ts, eD, ?_, by omega, s4⟩
        have : spotsOf (ks.take (i + 1)) = spotsOf (ks.take i) ++ (List.range kq.2.length).map fun m => (kq.1, m) := by
          unfold spotsOf
          rw [List.take_add_one, hk, List.flatMap_append]
          simp
        rw [this]
        exact pt
    · rintro H2 ⟨ts, eD, pt, tl, s2⟩
      rw [List.take_length] at pt
      refine .inl ⟨D, _, rfl, SqL.of eD, fun p np => k p ts _ (s2.trans (same_new np)) upd_same (Paired.mapP pt fun v s r => RelS.keep _ _ _ _ (.of (same_new np)) r)⟩
end
end K6
set_option Elab.async false
set_option linter.all false
set_option maxRecDepth 100000
set_option maxHeartbeats 4000000
set_option pp.maxSteps 1200
set_option pp.deepTerms false
namespace K6
open PySem PySem.Spec PyProof.Rows L2 Lk
abbrev sPieceAt : Stmt := top 35
abbrev sPieceCode : Stmt := top 36
/-- what is asked of the class Shelf -/
structure ShC (K : PySem.W.Frag) (CS fI : Addr) : Prop where
  cls : Cls K CS
  text : NoAttr K CS "text"
  parts : NoAttr K CS "parts"
  circle : NoAttr K CS "circle"
  pieces : NoAttr K CS "pieces"
  spots : NoAttr K CS "spots"
  codes : NoAttr K CS "codes"
  mkr : Mk K CS fI
/-- what the attributes of a shelf tell, once they are there -/
structure ShF (H : Hp) (C : Addr) (L : Lore) (fs : List (Str × V)) : Prop where
  parts : ∃ pa, fs.lookup ("parts" : Str) = some (V.ref pa) ∧ TupX H pa (L.parts.map V.str)
  circle : ∃ c, fs.lookup ("circle" : Str) = some (V.ref c) ∧ CircAt H C c (L.kps.map (·.1))
  pieces : ∃ q, fs.lookup ("pieces" : Str) = some (V.ref q) ∧ PcsAt H q L.kps
theorem CircAt.same {H H' : Hp} {C c : Addr} {zs : List Str} (h : CircAt H C c zs) (s : Same H H') : CircAt H' C c zs := by
  obtain ⟨dx, nm, e, t⟩ := h
  exact ⟨dx, nm, s _ _ e, t.same s⟩
theorem PcsAt.same {H H' : Hp} {q : Addr} {ks : List KP} (h : PcsAt H q ks) (s : Same H H') : PcsAt H' q ks := by
  obtain ⟨rows, e, p⟩ := h
  exact ⟨rows, s _ _ e, Paired.mapP p fun v k ⟨r, ts, e1, e2, e3⟩ => ⟨r, ts, e1, s _ _ e2, e3.tups (.of s)⟩⟩
theorem ShF.same {H H' : Hp} {C : Addr} {L : Lore} {fs : List (Str × V)} (h : ShF H C L fs) (s : Same H H') : ShF H' C L fs := by
  obtain ⟨⟨pa, a1, a2⟩, ⟨c, b1, b2⟩, ⟨q, c1, c2⟩⟩ := h
  exact ⟨⟨pa, a1, a2.same s⟩, ⟨c, b1, b2.same s⟩, ⟨q, c1, c2.same s⟩⟩
def rTI (K : PySem.W.Frag) : V → List V → Hp → VK → Prop := fun x xs H Q => ∃ p, ∃ ys : List Str, ∃ z j, x = .ref p ∧ xs = [.str z] ∧ SqT K H p (ys.map V.str) ∧ ys[j]? = some z ∧ (∀ m, m < j → ys[m]? ≠ some z) ∧ Q (.int (j : Nat)) H
theorem first_at {zs : List Str} (nd : zs.Nodup) {z : Str} {j : Nat} (h : zs[j]? = some z) : ∀ m, m < j → zs[m]? ≠ some z := fun m hm e => by
  obtain ⟨h1, e1⟩ := List.getElem?_eq_some_iff.mp h
  obtain ⟨h2, e2⟩ := List.getElem?_eq_some_iff.mp e
  exact (List.pairwise_iff_getElem.mp nd) m j h2 h1 hm (e2.trans e1.symm)
theorem paired_get {α β : Type} {R : α → β → Prop} : ∀ {xs : List α} {ys : List β} {i : Nat} {y : β}, Paired R xs ys → ys[i]? = some y → ∃ x, xs[i]? = some x ∧ R x y
  | _, _, _, _, .nil, h => by simp at h
  | _, _, 0, y, .cons (a := a) r t, h => by
    simp at h
    subst h
    exact ⟨a, rfl, r⟩
  | _, _, i + 1, y, .cons r t, h => by
    obtain ⟨x, h1, h2⟩ := paired_get t (by simpa using h)
    exact ⟨x, by simpa using h1, h2⟩
theorem atN {xs : List V} {i : Nat} {v : V} (h : xs[i]? = some v) : atI xs (i : Int) = some v := atI_nat h
section
variable {P : Program} {w : World} {K : PySem.W.Frag} {mg : Str → Option Value} {base : Heap} {f : Addr} {fd : FuncData}
/-! ### piece_at -/
def spPieceAt (C CS : Addr) : Sp := fun vs H Q _ => ∃ (x t dx : Addr) (fs : List (Str × V)) (L : Lore) (j i : Nat) (kq : KP) (p : List Str), vs = [.ref x, .ref t] ∧ H x = some (.ins CS dx fs) ∧ ShF H C L fs ∧ LoreOk L ∧ H t = some (.tup [.str kq.1, .int (i : Int)]) ∧
  L.kps[j]? = some kq ∧ kq.2[i]? = some p ∧ ∀ u, H u = some (.tup (p.map V.str)) → Q (.ref u) H
theorem scPieceAt : FnScope ["shelf", "spot"] ["shelf", "spot"] (defScope sPieceAt) := ⟨rfl, rfl, rfl, by decide +kernel, rfl, by decide +kernel, by decide +kernel⟩
theorem ok_pieceAt {C CS fC fS : Addr} (F : Fun K "piece_at" "piece_at" sPieceAt f fd) (CC : CircC K C fC) (SC : ShC K CS fS) : FnOk P w K mg base CX0 1 f fd ["shelf", "spot"] (spPieceAt C CS) := by
  refine F.ok scPieceAt (fun vs H Q E h => ?_) (fun cdv A outer s H vs Q E hr h => ?_)
  · obtain ⟨x, t, dx, fs, L, j, i, kq, p, rfl, _⟩ := h
    rfl
  · obtain ⟨x, t, dx, fs, L, j, i, kq, p, rfl, hx, sf, ok, ht, hj, hi, k⟩ := h
    obtain ⟨c, lc, cdx, nm, ec, en⟩ := sf.circle
    obtain ⟨q, lq, rows, eq, pr⟩ := sf.pieces
    obtain ⟨v, hv, r, ts, rfl, er, ep⟩ := paired_get pr hj
    obtain ⟨v2, hv2, u, rfl, eu⟩ := paired_get ep hi
    refine ⟨_, pss_one (ps_ret (pe_ix ix_tup (pe_ix ix_tup (pe_fld (pv 0) rfl) (pe_bmX PySem.F.slot_tuple_index PySem.F.type_tuple_index mt_tup_index (pe_fld (pe_fld (pv 0) rfl) rfl) (pa_cons (pe_ix ix_tup (pv 1) pe_int (fun _ _ => rfl)) pa_nil)) (fun _ _ => rfl))
      (pe_ix ix_tup (pv 1) pe_int (fun _ _ => rfl)) (fun _ _ => rfl))), ?_⟩
    have kn : (L.kps.map (·.1))[j]? = some kq.1 := by rw [List.getElem?_map, hj]; rfl
    refine ⟨_, rfl, x, CS, dx, fs, .ref q, rfl, hx, SC.cls, SC.pieces, lq, ?_⟩
    refine ⟨_, rfl, x, CS, dx, fs, .ref c, rfl, hx, SC.cls, SC.circle, lc, c, C, cdx, _, .ref nm, rfl, ec, CC.cls, CC.nm, rfl, ⟨nm, _, rfl, en⟩, ?_⟩
    refine ⟨_, rfl, t, _, _, .str kq.1, rfl, rfl, SqT.of ht, at0 rfl, nm, L.kps.map (·.1), kq.1, j, rfl, rfl, en.sq, kn, first_at ok.kn kn, ?_⟩
    refine ⟨q, rows, _, .ref r, rfl, rfl, SqT.of eq, atN hv, ?_⟩
    refine ⟨_, rfl, t, _, _, .int (i : Int), rfl, rfl, SqT.of ht, at1 rfl, r, ts, _, .ref u, rfl, rfl, SqT.of er, atN hv2, k u eu⟩
/-! ### piece_code -/
def spPieceCode : Sp := fun vs H Q _ => ∃ (pa t : Addr) (ps p : List Str), vs = [.ref pa, .ref t] ∧ TupX H pa (ps.map V.str) ∧ H t = some (.tup (p.map V.str)) ∧ (∀ x ∈ p, x ∈ ps) ∧ ps.length ≤ 4 ∧ p.length ≤ 4 ∧ ps.Nodup ∧ ∀ n H', Same H H' → Q (.int n) H'
theorem scPieceCode : FnScope ["parts", "piece", "part"] ["parts", "piece"] (defScope sPieceCode) := ⟨rfl, rfl, rfl, by decide +kernel, rfl, by decide +kernel, by decide +kernel⟩
theorem ok_pieceCode (F : Fun K "piece_code" "piece_code" sPieceCode f fd) (Cc : Cn mg) : FnOk P w K mg base CX0 1 f fd ["parts", "piece"] spPieceCode := by
  refine F.ok scPieceCode (fun vs H Q E h => ?_) (fun cdv A outer s H vs Q E hr h => ?_)
  · obtain ⟨pa, t, ps, p, rfl, _⟩ := h
    rfl
  · obtain ⟨pa, t, ps, p, rfl, hpa, ht, sub, l4, p4, ndp, k⟩ := h
    have nd := scPieceCode.nd
    refine ⟨_, pss_one (ps_ret (pe_callB (cr_sum rfl) (by rfl) Cc.sum boot_sum (pa_cons (pe_lc (own := [("part", 2)]) (g := gName 2) (tt := tYes) (te := tOp (rI CPow fun i j => .int (i * 2 ^ j.toNat)) (tC (.int 1)) (tBMX (rTI K) (tVar 0) (tCons (tVar 2) tNil))) rfl nd (pi_tup (pv 1)) (blkOk_by (N := ["parts", "piece", "part"]) (sc := defScope sPieceCode) (by decide +kernel))
        (fun _ _ _ _ _ => pg_name (i := 2) nd rfl (Or.inl rfl)) (fun _ _ _ _ _ => pts_nil) (fun _ _ _ _ _ => pe_op op_shl pe_int (pe_bmX PySem.F.slot_tuple_index PySem.F.type_tuple_index mt_tup_index (pv 0) (pa_cons (pv 2) pa_nil)))) pa_nil))), ?_⟩
    refine ⟨_, rfl, t, rfl, ⟨_, SqT.of ht⟩, lc_rel (Q := fun x H1 => rSum K [x] H1 Q) walk_tup p V.str (fun _ => ()) (fun _ v _ => ∃ n : Int, v = .int n) (fun _ _ _ _ _ h => h) rfl (by omega) (fun H s => sqT_same s (SqT.of ht)) ?_ ?_⟩
    · intro i b H1 R hb s1 kk
      obtain ⟨j, hj⟩ := List.mem_iff_getElem?.mp (sub b (List.mem_of_getElem? hb))
      have jl := (List.getElem?_eq_some_iff.mp hj).1
      refine ⟨rfl, _, rfl, ⟨pa, _, rfl, hpa.same s1⟩, _, rfl, pa, ps, b, j, rfl, rfl, (hpa.same s1).sq, hj, first_at ndp hj, ?_⟩
      exact ⟨_, _, rfl, rfl, ⟨by omega, by omega, by decide⟩, kk _ _ (Same.refl _) ⟨_, rfl⟩⟩
    · intro D H1 ts nD s1 eD pr
      obtain ⟨ns, rfl⟩ : ∃ ns : List Int, ts = ns.map V.int := by
        clear eD
        generalize p.map (fun _ => ()) = us at pr
        induction pr with
        | nil => exact ⟨[], rfl⟩
        | cons h _ ih =>
          obtain ⟨n, rfl⟩ := h
          obtain ⟨ns, rfl⟩ := ih
          exact ⟨n :: ns, rfl⟩
      exact ⟨D, ns, rfl, SqL.of eD, k _ _ s1⟩
end
end K6
set_option Elab.async false
set_option linter.all false
set_option maxRecDepth 100000
set_option maxHeartbeats 4000000
set_option pp.maxSteps 1200
set_option pp.deepTerms false
namespace K6
open PySem PySem.Spec PyProof.Rows L2 Lk
abbrev sShelfInit : Stmt := inClass (top 26) 0
theorem _root_.Lk.KeepB.of {D : Addr} {H H' : Hp} (s : Same H H') : KeepB D H H' := fun b o _ e => s b o e
theorem _root_.Lk.KeepB.trans {D : Addr} {H H1 H2 : Hp} (x : KeepB D H H1) (y : KeepB D H1 H2) : KeepB D H H2 := fun b o n e => y b o n (x b o n e)
theorem _root_.Lk.KeepB.upd {D : Addr} {H : Hp} {o : HO} : KeepB D H (upd H D o) := fun b u n e => by rw [upd_ne n]; exact e
theorem _root_.Lk.TupX.keepB {x a : Addr} {H H' : Hp} {xs : List V} (h : TupX H a xs) (k : KeepB x H H') (n : a ≠ x) : TupX H' a xs := by
  obtain ⟨ob, e, r⟩ := h
  exact ⟨ob, k _ _ n e, r⟩
theorem _root_.Lk.TupX.ne {x a C dx : Addr} {H : Hp} {xs : List V} {fs : List (Str × V)} (h : TupX H a xs) (e : H x = some (.ins C dx fs)) : a ≠ x := fun z => by
  obtain ⟨ob, e2, _⟩ := h
  rw [z, e] at e2
  cases e2
def RelK (H : Hp) (v : V) (k : KP) : Prop := ∃ r ts, v = V.ref r ∧ H r = some (.tup ts) ∧ Pieces H ts k.2
theorem RelK.keep (H H' : Hp) (v : V) (k : KP) (kp : Keep H H') (h : RelK H v k) : RelK H' v k := by
  obtain ⟨r, ts, e, h, p⟩ := h
  exact ⟨r, ts, e, kp _ _ h (fun xs z => by cases z), Paired.mapP p fun v p ⟨t, e, h⟩ => ⟨t, e, kp _ _ h fun xs z => by cases z⟩⟩
theorem tups_kb {x C dx : Addr} {fs : List (Str × V)} {H H' : Hp} (k : KeepB x H H') (e : H x = some (.ins C dx fs)) : Tups H H' := fun b xs h => k b _ (fun z => by rw [z, e] at h; cases h) h
theorem CircAt.keepB {x CS dx C c : Addr} {fs : List (Str × V)} {H H' : Hp} {zs : List Str} (h : CircAt H C c zs) (k : KeepB x H H') (e : H x = some (.ins CS dx fs)) (n : c ≠ x) : CircAt H' C c zs := by
  obtain ⟨cd, nm, e1, t⟩ := h
  exact ⟨cd, nm, k _ _ n e1, t.keepB k (t.ne e)⟩
theorem PcsAt.tups {q : Addr} {ks : List KP} {H H' : Hp} (h : PcsAt H q ks) (t : Tups H H') : PcsAt H' q ks := by
  obtain ⟨rows, e, p⟩ := h
  exact ⟨rows, t _ _ e, Paired.mapP p fun v k ⟨r, ts, e1, e2, e3⟩ => ⟨r, ts, e1, t _ _ e2, e3.tups t⟩⟩
theorem spots_len : ∀ ks : List KP, (∀ k ∈ ks, k.2.length ≤ 2) → (spotsOf ks).length ≤ 2 * ks.length
  | [], _ => Nat.zero_le _
  | k :: ks, h => by
    have ih := spots_len ks fun y hy => h y (List.mem_cons_of_mem _ hy)
    have h1 := h k List.mem_cons_self
    unfold spotsOf at ih ⊢
    rw [List.flatMap_cons, List.length_append, List.length_map, List.length_range, List.length_cons]
    omega
theorem paired_put {α β : Type} {R : α → β → Prop} : ∀ {xs : List α} {ys : List β} {i : Nat} {x : α}, Paired R xs ys → xs[i]? = some x → ∃ y, ys[i]? = some y ∧ R x y
  | _, _, _, _, .nil, h => by simp at h
  | _, _, 0, x, .cons (b := b) r t, h => by
    simp at h
    subst h
    exact ⟨b, rfl, r⟩
  | _, _, i + 1, x, .cons r t, h => by
    obtain ⟨y, h1, h2⟩ := paired_put t (by simpa using h)
    exact ⟨y, by simpa using h1, h2⟩
theorem paired_mapR {α β γ : Type} {R : α → β → Prop} {f : γ → β} : ∀ {xs : List α} {ys : List γ}, Paired R xs (ys.map f) → Paired (fun x y => R x (f y)) xs ys
  | [], [], _ => .nil
  | _ :: _, _ :: _, .cons h t => .cons h (paired_mapR t)
def RelW (D : Addr) (H : Hp) (v : V) (ws : List Str) : Prop := ∃ t, v = V.ref t ∧ H t = some (.lst (ws.map V.str)) ∧ t ≠ D
theorem RelW.keep {D : Addr} (H H' : Hp) (v : V) (ws : List Str) (k : KeepB D H H') (h : RelW D H v ws) : RelW D H' v ws := by
  obtain ⟨t, e, h, n⟩ := h
  exact ⟨t, e, k _ _ n h, n⟩
section
variable {P : Program} {w : World} {K : PySem.W.Frag} {mg : Str → Option Value} {base : Heap} {f : Addr} {fd : FuncData}
/-- the spots of a shelf -/
def ShS (H : Hp) (L : Lore) (fs : List (Str × V)) : Prop := ∃ p ts, fs.lookup ("spots" : Str) = some (V.ref p) ∧ H p = some (.tup ts) ∧ Paired (RelS H) ts (spotsOf L.kps)
/-- Shelf.__init__, of a text that stands -/
def spShelfI (C CS : Addr) : Sp := fun vs H Q _ => ∃ (x dx : Addr) (L : Lore), vs = [.ref x, .str (textL L)] ∧ LoreOk L ∧ H x = some (.ins CS dx []) ∧
  ∀ H' fs, (∀ b o, b ≠ x → H b = some o → H' b = some o) → H' x = some (.ins CS dx fs) → ShF H' C L fs → fs.lookup ("text" : Str) = some (V.str (textL L)) → ShS H' L fs → Q .non H'
theorem scShelfI : FnScope ["self", "text", "wrong", "rows", "line", "row", "spot"] ["self", "text"] (defScope sShelfInit) := ⟨rfl, rfl, rfl, by decide +kernel, rfl, by decide +kernel, by decide +kernel⟩
theorem ok_shelfI {C CS fC fSh fS fH fW fN fA fR fP fO : Addr} {fdC fdW fdA fdR fdP fdO : FuncData} (F : Fun K "__init__" "Shelf.__init__" sShelfInit f fd) (T : Bl mg) (Cc : Cn mg) (CC : CircC K C fC) (SC : ShC K CS fSh)
    (GW : FnOk P w K mg base CX0 5 fW fdW ["text", "can_stand", "is_whole"] (spWrong fS fH)) (kW : PySem.W.keepIn K (.ref fW) = true) (bW : Binds K fdW ["text", "can_stand", "is_whole"] []) (mW : mg "wrong_line" = some (.ref fW)) (mS : mg "stands_in_shelf" = some (.ref fS)) (mH : mg "is_whole_shelf" = some (.ref fH))
    (GC : FnOk P w K mg base CX0 3 fC fdC ["self", "names"] (spCircI K C)) (bC : Binds K fdC ["self", "names"] []) (mC : mg "Circle" = some (.ref C))
    (GR : FnOk P w K mg base CX0 1 fR fdR ["words"] (spReadPieces K)) (kR : PySem.W.keepIn K (.ref fR) = true) (bR : Binds K fdR ["words"] []) (mR : mg "read_pieces" = some (.ref fR))
    (GA : FnOk P w K mg base CX0 1 fA fdA ["circle", "pieces"] (spAllSpots C)) (kA : PySem.W.keepIn K (.ref fA) = true) (bA : Binds K fdA ["circle", "pieces"] []) (mA : mg "all_spots" = some (.ref fA))
    (GP : FnOk P w K mg base CX0 1 fP fdP ["shelf", "spot"] (spPieceAt C CS)) (kP : PySem.W.keepIn K (.ref fP) = true) (bP : Binds K fdP ["shelf", "spot"] []) (mP : mg "piece_at" = some (.ref fP))
    (GO : FnOk P w K mg base CX0 1 fO fdO ["parts", "piece"] spPieceCode) (kO : PySem.W.keepIn K (.ref fO) = true) (bO : Binds K fdO ["parts", "piece"] []) (mO : mg "piece_code" = some (.ref fO)) :
    FnOk P w K mg base CX0 6 f fd ["self", "text"] (spShelfI C CS) := by
  refine F.ok scShelfI (fun vs H Q E h => ?_) (fun cdv A outer s H vs Q E hr h => ?_)
  · obtain ⟨x, dx, L, rfl, _⟩ := h
    rfl
  · obtain ⟨x, dx, L, rfl, ok, hx, k⟩ := h
    have nd := scShelfI.nd
    have hr1 : Room 1 _ := hr.mono (by decide)
    have hr4 : Room 4 _ := hr.mono (by decide)
    refine ⟨_, pss_cons (ps_set (i := 2) nd rfl (.inl rfl) (pe_call GW hr (by rfl) mW kW bW .nil pass0 (pa_cons (pv 1) (pa_cons (pe_glob (v := .ref fS) (by rfl) mS rfl) (pa_cons (pe_glob (v := .ref fH) (by rfl) mH rfl) pa_nil)))))
      (pss_cons (ps_if (pt_cmp (pc_notN (pv 2))) pss_no pss_nil)
      (pss_cons (ps_setLc (i := 3) (own := [("line", 4)]) (g := gName 4) (tt := tYes) (te := tM1 rSplit (tVar 4) (tC (.str " "))) rfl nd rfl rfl (sw_true rfl rfl rfl (by decide +kernel)) (pi_list (pe_split (pv 1) pe_str))
          (blkOk_by (N := ["self", "text", "wrong", "rows", "line", "row", "spot"]) (sc := defScope sShelfInit) (by decide +kernel)) (fun _ _ _ _ _ => pg_name (i := 4) nd rfl (.inl rfl)) (fun _ _ _ _ _ => pts_nil) (fun _ _ _ _ _ => pe_split (pv 4) pe_str))
      (pss_cons (ps_fld (pv 0) (pv 1) rfl)
      (pss_cons (ps_fld (pv 0) (pe_tupleX (by rfl) Cc.tuple (pe_slice sl_list (pe_ix ix_list (pv 3) pe_int (fun _ _ => rfl)) (po_some pe_int) po_none)) rfl)
      (pss_cons (ps_fld (pv 0) (pe_make CC.mkr GC hr4 (by rfl) mC bC .nil pass0 (pa_cons (pe_tupleX (by rfl) Cc.tuple (pe_lc (own := [("row", 5)]) (g := gName 5) (tt := tYes) (te := tOp (rIxL K) (tVar 5) (tC (.int 1))) rfl nd (pi_list (pe_slice sl_list (pv 3) (po_some pe_int) po_none))
          (blkOk_by (N := ["self", "text", "wrong", "rows", "line", "row", "spot"]) (sc := defScope sShelfInit) (by decide +kernel)) (fun _ _ _ _ _ => pg_name (i := 5) nd rfl (.inl rfl)) (fun _ _ _ _ _ => pts_nil) (fun _ _ _ _ _ => pe_ix ix_list (pv 5) pe_int (fun _ _ => rfl)))) pa_nil)) rfl)
      (pss_cons (ps_fld (pv 0) (pe_tupleOf (by rfl) Cc.tuple (pe_lc (own := [("row", 5)]) (g := gName 5) (tt := tYes) (te := tCall (spReadPieces K) [] E0 (tCons (tSl (rSlL K) (tVar 5) (tPart (tC (.int 2))) tNoPart) tNil)) rfl nd (pi_list (pe_slice sl_list (pv 3) (po_some pe_int) po_none))
          (blkOk_by (N := ["self", "text", "wrong", "rows", "line", "row", "spot"]) (sc := defScope sShelfInit) (by decide +kernel)) (fun _ _ _ _ _ => pg_name (i := 5) nd rfl (.inl rfl)) (fun _ _ _ _ _ => pts_nil)
          (fun _ _ _ _ _ => pe_call GR hr1 (by rfl) mR kR bR .nil pass0 (pa_cons (pe_slice sl_list (pv 5) (po_some pe_int) po_none) pa_nil)))) rfl)
      (pss_cons (ps_fld (pv 0) (pe_call GA hr1 (by rfl) mA kA bA .nil pass0 (pa_cons (pe_fld (pv 0) rfl) (pa_cons (pe_fld (pv 0) rfl) pa_nil))) rfl)
        (pss_one (ps_fld (pv 0) (pe_dcT (own := [("spot", 6)]) (g := gName 6) (tt := tYes) (tk := tVar 6) (tv := tCall spPieceCode [] E0 (tCons (tFld K (tVar 0) "parts") (tCons (tCall (spPieceAt C CS) [] E0 (tCons (tVar 0) (tCons (tVar 6) tNil))) tNil))) rfl nd (Nat.lt_of_succ_lt (hu_of hr)) (pi_tup (pe_fld (pv 0) rfl))
          (blkOk_by (N := ["self", "text", "wrong", "rows", "line", "row", "spot"]) (sc := defScope sShelfInit) (by decide +kernel)) (fun _ _ _ _ _ => pg_name (i := 6) nd rfl (.inl rfl)) (fun _ _ _ _ _ => pts_nil) (fun _ _ _ _ _ => pv 6)
          (fun _ _ _ _ _ => pe_call GO hr1 (by rfl) mO kO bO .nil pass0 (pa_cons (pe_fld (pv 0) rfl) (pa_cons (pe_call GP hr1 (by rfl) mP kP bP .nil pass0 (pa_cons (pv 0) (pa_cons (pv 6) pa_nil))) pa_nil)))) rfl))))))))), ?_⟩
    have tl := text_len ok
    have rl : (rowsL L).length = L.kps.length + 1 := by show (L.kps.map lineK).length + 1 = _; rw [List.length_map]
    have k6 := ok.k6
    have p4 := ok.p4
    have words : (rowsL L).map (fun z => Txt.split z " ") = (("parts" : Str) :: L.parts) :: L.kps.map wordsK := by
      show Txt.split (lineP L) " " :: (L.kps.map lineK).map _ = _
      rw [split_lineP ok, List.map_map]
      congr 1
      exact List.map_congr_left fun k hk => split_lineK ok hk
    refine ⟨_, rfl, L, rfl, ok, fun H1 s1 => ?_⟩
    refine ⟨_, rfl, _, rfl, iteB rfl ?_⟩
    -- rows
    refine ⟨_, rfl, ⟨_, rfl⟩, _, _, rfl, rfl, rfl, by rw [sizeLine_eq]; omega, fun l nl => ?_⟩
    rw [split_text ok]
    have el : SqL K (upd H1 l (.lst ((rowsL L).map V.str))) l ((rowsL L).map V.str) := SqL.of upd_same
    have s2 : Same H (upd H1 l (.lst ((rowsL L).map V.str))) := s1.trans (same_new nl)
    generalize upd H1 l (.lst ((rowsL L).map V.str)) = H2 at el s2
    refine ⟨l, rfl, ⟨_, el⟩, fun D nD => lc_relD (walk_list (a := l) (xs := (rowsL L).map V.str)) (rowsL L) V.str (fun z => Txt.split z " ") (RelW D) nD RelW.keep rfl (by rw [rl]; omega) (fun H s => s.seq el) ?_ ?_⟩
    · intro i line H3 R hb s3 hD kk
      have ll := rows_len ok line (List.mem_of_getElem? hb)
      refine ⟨rfl, _, rfl, ⟨_, rfl⟩, _, _, rfl, rfl, rfl, by rw [sizeLine_eq]; omega, fun t nt => kk _ _ (same_new nt) ⟨t, rfl, upd_same, fun z => hD (by rw [← z]; exact nt)⟩⟩
    intro H3 ts s3 eD pr
    rw [words] at pr
    obtain ⟨v0, vs, rfl, ⟨t0, rfl, et0, n0⟩, pr2⟩ : ∃ v0 vs, ts = v0 :: vs ∧ RelW D H3 v0 (("parts" : Str) :: L.parts) ∧ Paired (RelW D H3) vs (L.kps.map wordsK) := by
      cases pr with
      | cons h t => exact ⟨_, _, rfl, h, t⟩
    have pr3 := paired_mapR pr2
    clear pr2 pr
    have sH : Same H H3 := s2.trans s3
    have ex3 := sH _ _ hx
    -- self.text
    refine ⟨_, rfl, _, rfl, x, CS, dx, [], rfl, ex3, SC.cls, SC.text, by decide, ?_⟩
    have kb4 : KeepB x H3 (upd H3 x (.ins CS dx (putF "text" (.str (textL L)) []))) := KeepB.upd
    have ex4 : upd H3 x (.ins CS dx (putF "text" (.str (textL L)) [])) x = some (.ins CS dx [("text", .str (textL L))]) := upd_same
    generalize upd H3 x (.ins CS dx (putF "text" (.str (textL L)) [])) = H4 at kb4 ex4 ⊢
    have lx : ∀ {b : Addr} {xs : List V}, H3 b = some (.lst xs) → b ≠ x := fun {b xs} e z => by rw [z, ex3] at e; cases e
    have eD4 := kb4 _ _ (lx eD) eD
    have et4 := kb4 _ _ (lx et0) et0
    -- self.parts
    refine ⟨_, rfl, D, _, _, .ref t0, rfl, rfl, SqL.of eD4, at0 rfl, _, rfl, t0, _, rfl, SqL.of et4, fun q nq => ?_⟩
    rw [cut1 _ (by rw [List.length_map, List.length_cons]; omega)]
    refine ⟨q, _, rfl, SqL.of upd_same, fun pa H5 npa s5 tpa => ?_⟩
    have sq : Same H4 H5 := (same_new nq).trans s5
    have ex5 := sq _ _ ex4
    have tpa : TupX H5 pa (L.parts.map V.str) := tpa
    refine ⟨_, rfl, x, CS, dx, _, rfl, ex5, SC.cls, SC.parts, by show 1 < 1000; decide, ?_⟩
    have kb6 : KeepB x H5 (upd H5 x (.ins CS dx (putF "parts" (.ref pa) [("text", .str (textL L))]))) := KeepB.upd
    have ex6 : upd H5 x (.ins CS dx (putF "parts" (.ref pa) [("text", .str (textL L))])) x = some (.ins CS dx [("text", .str (textL L)), ("parts", .ref pa)]) := upd_same
    generalize upd H5 x (.ins CS dx (putF "parts" (.ref pa) [("text", .str (textL L))])) = H6 at kb6 ex6 ⊢
    have tpa6 : TupX H6 pa (L.parts.map V.str) := tpa.keepB kb6 (tpa.ne ex5)
    have k36 : KeepB x H3 H6 := kb4.trans ((KeepB.of sq).trans kb6)
    have eD6 := k36 _ _ (lx eD) eD
    have pr6 : Paired (fun v k => RelW D H6 v (wordsK k)) vs L.kps := Paired.mapP pr3 fun v k ⟨t, e, h, n⟩ => ⟨t, e, k36 _ _ (lx h) h, n⟩
    obtain ⟨zs, z1, z2, z3⟩ := paired_zip pr6
    have zl : zs.length = L.kps.length := by rw [← z2, List.length_map]
    have vl : vs.length = L.kps.length := by rw [← z1, List.length_map, zl]
    -- self.circle
    refine ⟨_, rfl, _, rfl, D, _, rfl, SqL.of eD6, fun r nr => ?_⟩
    rw [cut1 _ (by rw [List.length_cons]; omega)]
    have sr : Same H6 (upd H6 r (.lst (List.drop 1 (V.ref t0 :: vs)))) := same_new nr
    have er : SqL K (upd H6 r (.lst (List.drop 1 (V.ref t0 :: vs)))) r vs := SqL.of upd_same
    generalize upd H6 r (.lst (List.drop 1 (V.ref t0 :: vs))) = H7 at sr er
    refine ⟨r, rfl, ⟨_, er⟩, fun D2 nD2 => lc_fm (walk_list (a := r) (xs := vs)) zs (fun z => some (V.str z.2.1)) (by rw [zl, vl]) (by rw [vl]; omega) nD2 (fun H s => s.seq er) ?_ ?_⟩
    · rintro i v z H8 H8' R Rn hz s8 ⟨rfl, hv⟩ k1 k2
      obtain ⟨t, et, h, n⟩ := z3 z (List.mem_of_getElem? hz)
      obtain rfl : z.1 = v := by
        rw [← z1, List.getElem?_map, hz] at hv
        exact Option.some.inj hv
      exact ⟨rfl, _, rfl, t, _, _, .str z.2.1, et, rfl, SqL.of (s8 _ _ (sr _ _ h)), at1 rfl, k1 _ _ rfl (Same.refl _)⟩
    intro H8 s8 eD2
    have fe : (zs.filterMap fun z => some (V.str z.2.1)) = (L.kps.map (·.1)).map V.str := by
      rw [← z2]
      simp [Function.comp_def]
    rw [fe] at eD2
    refine ⟨D2, _, rfl, SqL.of eD2, fun nm H9 nnm s9 tnm => ?_⟩
    have k69 : Same H6 H9 := (sr.trans s8).trans s9
    intro c cdx nc ncd ncc
    have sM : Same H9 (upd (upd H9 cdx (.own c)) c (.ins C cdx [])) := fun b o e => by rw [upd_ne (ne_of_none e nc), upd_ne (ne_of_none e ncd)]; exact e
    have kl : (L.kps.map (·.1)).length = L.kps.length := List.length_map ..
    refine ⟨c, nm, cdx, L.kps.map (·.1), rfl, upd_same, tnm.same sM, by rw [kl]; exact ok.k2, by rw [kl]; exact k6, fun z hz => ?_, ok.kn, fun HA kbA ecA => ⟨rfl, ?_⟩⟩
    · obtain ⟨kq, hk, rfl⟩ := List.mem_map.mp hz
      exact low_names _ (ok.kp kq hk)
    have sA : Same H9 HA := fun b o e => kbA b o (ne_of_none e nc) (sM b o e)
    have ex9 := k69 _ _ ex6
    have ncx : c ≠ x := fun z => by rw [z, ex9] at nc; cases nc
    have exA := sA _ _ ex9
    refine ⟨_, rfl, x, CS, dx, _, rfl, exA, SC.cls, SC.circle, by show 2 < 1000; decide, ?_⟩
    have kbB : KeepB x HA (upd HA x (.ins CS dx (putF "circle" (.ref c) [("text", .str (textL L)), ("parts", .ref pa)]))) := KeepB.upd
    have exB : upd HA x (.ins CS dx (putF "circle" (.ref c) [("text", .str (textL L)), ("parts", .ref pa)])) x = some (.ins CS dx [("text", .str (textL L)), ("parts", .ref pa), ("circle", .ref c)]) := upd_same
    generalize upd HA x (.ins CS dx (putF "circle" (.ref c) [("text", .str (textL L)), ("parts", .ref pa)])) = HB at kbB exB ⊢
    have tnA := tnm.same sA
    have caB : CircAt HB C c (L.kps.map (·.1)) := ⟨cdx, nm, kbB _ _ ncx ecA, tnA.keepB kbB (tnA.ne exA)⟩
    have k6B : KeepB x H6 HB := (KeepB.of (k69.trans sA)).trans kbB
    have tpaB : TupX HB pa (L.parts.map V.str) := tpa6.keepB k6B (tpa6.ne ex6)
    have eDB := k6B _ _ (lx eD) eD6
    -- self.pieces
    refine ⟨_, rfl, _, rfl, D, _, rfl, SqL.of eDB, fun r2 nr2 => ?_⟩
    rw [cut1 _ (by rw [List.length_cons]; omega)]
    have sr2 : Same HB (upd HB r2 (.lst (List.drop 1 (V.ref t0 :: vs)))) := same_new nr2
    have er2 : SqL K (upd HB r2 (.lst (List.drop 1 (V.ref t0 :: vs)))) r2 vs := SqL.of upd_same
    generalize upd HB r2 (.lst (List.drop 1 (V.ref t0 :: vs))) = HC at sr2 er2
    refine ⟨r2, rfl, ⟨_, er2⟩, fun D3 nD3 => lc_relQ (walk_list (a := r2) (xs := vs)) nD3 zs (·.1) (·.2) RelK RelK.keep z1.symm (by omega) (fun H s => s.seq er2) ?_ ?_⟩
    · intro i z HE R hz sE kk
      obtain ⟨t, et, h, n⟩ := z3 z (List.mem_of_getElem? hz)
      have tx : t ≠ x := fun e => by rw [e, ex6] at h; cases h
      have km : z.2 ∈ L.kps := by rw [← z2]; exact List.mem_map.mpr ⟨z, List.mem_of_getElem? hz, rfl⟩
      obtain ⟨q1, q2, q3⟩ := ok.q z.2 km
      refine ⟨rfl, _, rfl, _, rfl, t, _, et, SqL.of (sE _ _ (sr2 _ _ (k6B _ _ tx h))), fun q nq => ?_⟩
      rw [cut2 _ (by rw [List.length_map]; show 2 ≤ (z.2.2.map pieceW).length + 1 + 1; omega)]
      exact ⟨q, L, z.2.2, rfl, ok, SqL.of upd_same, by omega, q3, fun u us H' s' eu pu => kk H' _ ((same_new nq).trans s') ⟨u, us, rfl, eu, pu⟩⟩
    intro HE rws sE eD3 prE
    rw [z2] at prE
    refine .inl ⟨D3, _, rfl, SqL.of eD3, fun q nq => ?_⟩
    have sq2 : Same HB (upd HE q (.tup rws)) := (sr2.trans sE).trans (same_new nq)
    have pcF : PcsAt (upd HE q (.tup rws)) q L.kps := ⟨rws, upd_same, Paired.mapP prE fun v k r => RelK.keep _ _ _ _ (.of (same_new nq)) r⟩
    generalize upd HE q (.tup rws) = HF at sq2 pcF
    have exF := sq2 _ _ exB
    refine ⟨_, rfl, x, CS, dx, _, rfl, exF, SC.cls, SC.pieces, by show 3 < 1000; decide, ?_⟩
    have kbG : KeepB x HF (upd HF x (.ins CS dx (putF "pieces" (.ref q) [("text", .str (textL L)), ("parts", .ref pa), ("circle", .ref c)]))) := KeepB.upd
    have exG : upd HF x (.ins CS dx (putF "pieces" (.ref q) [("text", .str (textL L)), ("parts", .ref pa), ("circle", .ref c)])) x = some (.ins CS dx [("text", .str (textL L)), ("parts", .ref pa), ("circle", .ref c), ("pieces", .ref q)]) := upd_same
    generalize upd HF x (.ins CS dx (putF "pieces" (.ref q) [("text", .str (textL L)), ("parts", .ref pa), ("circle", .ref c)])) = HG at kbG exG ⊢
    have tG := tups_kb kbG exF
    have tpF := tpaB.same sq2
    have tpG := tpF.keepB kbG (tpF.ne exF)
    have caG := (caB.same sq2).keepB kbG exF ncx
    have pcG := pcF.tups tG
    -- self.spots
    refine ⟨_, rfl, x, CS, dx, _, .ref c, rfl, exG, SC.cls, SC.circle, rfl, _, rfl, x, CS, dx, _, .ref q, rfl, exG, SC.cls, SC.pieces, rfl, c, q, L.kps, rfl, caG, pcG, k6, fun k hk => (ok.q k hk).2.1, fun p ss HI sI ep pp => ?_⟩
    have exI := sI _ _ exG
    refine ⟨_, rfl, x, CS, dx, _, rfl, exI, SC.cls, SC.spots, by show 4 < 1000; decide, ?_⟩
    have kbJ : KeepB x HI (upd HI x (.ins CS dx (putF "spots" (.ref p) [("text", .str (textL L)), ("parts", .ref pa), ("circle", .ref c), ("pieces", .ref q)]))) := KeepB.upd
    have exJ : upd HI x (.ins CS dx (putF "spots" (.ref p) [("text", .str (textL L)), ("parts", .ref pa), ("circle", .ref c), ("pieces", .ref q)])) x = some (.ins CS dx [("text", .str (textL L)), ("parts", .ref pa), ("circle", .ref c), ("pieces", .ref q), ("spots", .ref p)]) := upd_same
    generalize upd HI x (.ins CS dx (putF "spots" (.ref p) [("text", .str (textL L)), ("parts", .ref pa), ("circle", .ref c), ("pieces", .ref q)])) = HJ at kbJ exJ ⊢
    have tJ := tups_kb kbJ exI
    have tpI := tpG.same sI
    have tpJ := tpI.keepB kbJ (tpI.ne exI)
    have caJ := (caG.same sI).keepB kbJ exI ncx
    have pcJ := (pcG.same sI).tups tJ
    have epJ := tJ _ _ ep
    have ppJ : Paired (RelS HJ) ss (spotsOf L.kps) := Paired.mapP pp fun v s ⟨t, e, h⟩ => ⟨t, e, tJ _ _ h⟩
    have shJ : ShF HJ C L [("text", .str (textL L)), ("parts", .ref pa), ("circle", .ref c), ("pieces", .ref q), ("spots", .ref p)] := ⟨⟨pa, rfl, tpJ⟩, ⟨c, rfl, caJ⟩, ⟨q, rfl, pcJ⟩⟩
    have few : ss.length ≤ 12 := by
      have h1 := spots_len L.kps fun k hk => (ok.q k hk).2.1
      have h2 := ppJ.length
      omega
    -- self.codes
    refine ⟨_, rfl, x, CS, dx, _, .ref p, rfl, exJ, SC.cls, SC.spots, rfl, p, rfl, ⟨_, SqT.of epJ⟩, fun D5 nD5 => in_it (walk_tup (a := p) (xs := ss)) (fun i H => ∃ kvs, H D5 = some (.dT kvs) ∧ kvs.length ≤ i ∧ Same HJ H) ⟨[], upd_same, by simp, same_new nD5⟩ (fun i H _ ⟨_, _, _, s⟩ => sqT_same s (SqT.of epJ)) ?_ ?_⟩
    · rintro i v HK HK' hi ⟨kvs, eK, kvl, sK⟩ ⟨rfl, hv⟩
      obtain ⟨sp, hs, t, rfl, ht⟩ := paired_put ppJ hv
      obtain ⟨kq, hk, hmm⟩ := List.mem_flatMap.mp (List.mem_of_getElem? hs)
      obtain ⟨m, hm, rfl⟩ := List.mem_map.mp hmm
      obtain ⟨j, hj⟩ := List.mem_iff_getElem?.mp hk
      have ml : m < kq.2.length := List.mem_range.mp hm
      obtain ⟨q1, q2, q3⟩ := ok.q kq hk
      have hp : kq.2[m]? = some kq.2[m] := List.getElem?_eq_getElem ml
      have po := q3 _ (List.mem_of_getElem? hp)
      have ht2 := sK _ _ ht
      refine ⟨rfl, _, rfl, _, rfl, x, CS, dx, _, .ref pa, rfl, sK _ _ exJ, SC.cls, SC.parts, rfl, _, rfl, _, rfl, x, t, dx, _, L, j, m, kq, kq.2[m], rfl, sK _ _ exJ, shJ.same sK, ok, ht2, hj, hp, fun u eu => ?_⟩
      refine ⟨pa, u, L.parts, kq.2[m], rfl, tpJ.same sK, eu, po.sub, p4, Nat.le_trans po.len p4, ok.pn, fun n HL sL => ?_⟩
      have eL := sL _ _ eK
      refine ⟨kvs, [.inr kq.1, .inl (m : Int)], t, rfl, eL, sL _ _ ht2, by rw [sizeLine_eq]; omega, _, upd_same, ?_, fun b o e => ?_⟩
      · have := length_putK kvs [.inr kq.1, .inl (m : Int)] (.int n)
        omega
      · rw [upd_ne (ne_of_none e nD5)]
        exact sL _ _ (sK _ _ e)
    rintro HK ⟨kvs, eK, kvl, sK⟩
    have exK := sK _ _ exJ
    refine ⟨_, rfl, x, CS, dx, _, rfl, exK, SC.cls, SC.codes, by show 5 < 1000; decide, ?_⟩
    have kbL : KeepB x HK (upd HK x (.ins CS dx (putF "codes" (.ref D5) [("text", .str (textL L)), ("parts", .ref pa), ("circle", .ref c), ("pieces", .ref q), ("spots", .ref p)]))) := KeepB.upd
    have exL : upd HK x (.ins CS dx (putF "codes" (.ref D5) [("text", .str (textL L)), ("parts", .ref pa), ("circle", .ref c), ("pieces", .ref q), ("spots", .ref p)])) x = some (.ins CS dx [("text", .str (textL L)), ("parts", .ref pa), ("circle", .ref c), ("pieces", .ref q), ("spots", .ref p), ("codes", .ref D5)]) := upd_same
    generalize upd HK x (.ins CS dx (putF "codes" (.ref D5) [("text", .str (textL L)), ("parts", .ref pa), ("circle", .ref c), ("pieces", .ref q), ("spots", .ref p)])) = HL at kbL exL ⊢
    have tL := tups_kb kbL exK
    have tpK := tpJ.same sK
    refine k HL _ (fun b o nb e => ?_) exL ⟨⟨pa, rfl, tpK.keepB kbL (tpK.ne exK)⟩, ⟨c, rfl, (caJ.same sK).keepB kbL exK ncx⟩, ⟨q, rfl, (pcJ.same sK).tups tL⟩⟩ rfl ⟨p, ss, rfl, tL _ _ (sK _ _ epJ), Paired.mapP ppJ fun v s ⟨t, e, h⟩ => ⟨t, e, tL _ _ (sK _ _ h)⟩⟩
    exact kbL b o nb (sK _ _ (kbJ b o nb (sI _ _ (kbG b o nb (sq2 _ _ (k6B b o nb (k36 b o nb (sH _ _ e))))))))
end
end K6
set_option Elab.async false
set_option linter.all false
set_option maxRecDepth 100000
set_option maxHeartbeats 4000000
set_option pp.maxSteps 1200
set_option pp.deepTerms false
namespace K6
open PySem PySem.Spec PyProof.Rows L2 Lk
abbrev sKeepers : Stmt := top 54
abbrev sRecords : Stmt := top 55
abbrev sValue : Stmt := top 56
section
variable {P : Program} {w : World} {K : PySem.W.Frag} {mg : Str → Option Value} {base : Heap} {f : Addr} {fd : FuncData}
/-! ### _law_keepers -/
def spKeepers : Sp := fun vs H Q _ => ∃ (a lo : Addr) (L : Lore), vs = [.ref lo] ∧ LoreAt a H lo L ∧ L.kps.length ≤ 6 ∧ ∀ q H', Same H H' → H q = none → TupX H' q ((L.kps.map (·.1)).map V.str) → Q (.ref q) H'
theorem scKeepers : FnScope ["lore", "name", "pieces"] ["lore"] (defScope sKeepers) := ⟨rfl, rfl, rfl, by decide +kernel, rfl, by decide +kernel, by decide +kernel⟩
theorem ok_keepers (F : Fun K "_law_keepers" "_law_keepers" sKeepers f fd) (T : Bl mg) (Cc : Cn mg) : FnOk P w K mg base CX0 1 f fd ["lore"] spKeepers := by
  refine F.ok scKeepers (fun vs H Q E h => ?_) (fun cdv A outer s H vs Q E hr h => ?_)
  · obtain ⟨a, lo, L, rfl, _⟩ := h
    rfl
  · obtain ⟨a, lo, L, rfl, ⟨pa, ks, rows, e1, e2, e3, n0, e4⟩, k6, k⟩ := h
    have nd := scKeepers.nd
    have hu := hu_of hr
    refine ⟨_, pss_one (ps_ret (pe_tupleX (by rfl) Cc.tuple (pe_lc (own := [("name", 1), ("pieces", 2)]) (g := gTup K 2 (gCons (gName 1) (gCons (gName 2) gNil))) (tt := tYes) (te := tVar 1) rfl nd (pi_list (pe_dget hu (pv 0) pe_str (fun _ _ => rfl)))
        (blkOk_by (N := ["lore", "name", "pieces"]) (sc := defScope sKeepers) (by decide +kernel)) (fun _ _ _ _ _ => pg_tup rfl (pgs_cons (pg_name (i := 1) nd rfl (.inl rfl)) (pgs_cons (pg_name (i := 2) nd rfl (.inl rfl)) pgs_nil))) (fun _ _ _ _ _ => pts_nil) (fun _ _ _ _ _ => pv 1)))), ?_⟩
    obtain ⟨zs, z1, z2, z3⟩ := paired_zip e4
    have zl : zs.length = L.kps.length := by rw [← z2, List.length_map]
    refine ⟨_, rfl, lo, _, rfl, (dget2 e1).2, ks, rfl, ⟨_, SqL.of e3⟩, lc_over (Q := fun x H1 => kTupX K x H1 Q) walk_list zs (·.1) (fun z => some (.str z.2.1)) z1.symm (by omega) (fun H s => s.seq (SqL.of e3)) ?_ ?_⟩
    · intro i b H1 R Rn hb s1 k1 _
      obtain ⟨r, q, ts, er, h1, h2, h3⟩ := z3 b (List.mem_of_getElem? hb)
      refine ⟨r, _, er, SqT.of (s1 _ _ h1), rfl, _, _, rfl, _, _, rfl, rfl, rfl, _, rfl, k1 _ _ rfl (Same.refl _)⟩
    · intro D H1 nD s1 eD
      have fe : (zs.filterMap fun z => some (V.str z.2.1)) = (L.kps.map (·.1)).map V.str := by
        rw [← z2]
        simp [Function.comp_def]
      rw [fe] at eD
      exact ⟨D, _, rfl, SqL.of eD, fun q H2 nq s2 tq => k q H2 (s1.trans s2) (s1.free nq) tq⟩
/-! ### _law_records -/
def Bits (z : Str) : Prop := ∀ c ∈ TL.tl z, c = 48 ∨ c = 49
def spRecords : Sp := fun vs H Q _ => ∃ (a lo : Addr) (L : Lore), vs = [.ref lo] ∧ LoreAt a H lo L ∧ L.parts.length ≤ 4 ∧
  ∀ (zs : List Str) (p : Addr) (H' : Hp), Same H H' → H p = none → H' p = some (.lst (zs.map V.str)) → zs.length = 2 ^ L.parts.length → (∀ z ∈ zs, z.length = L.parts.length ∧ Bits z) → Q (.ref p) H'
theorem scRecords : FnScope ["lore", "found", "part", "record"] ["lore"] (defScope sRecords) := ⟨rfl, rfl, rfl, by decide +kernel, rfl, by decide +kernel, by decide +kernel⟩
def rAddStr : R2 := fun x y H Q => ∃ i j, x = .str i ∧ y = .str j ∧ i.length + j.length ≤ sizeLine ∧ Q (.str (i ++ j)) H
theorem ok_records (F : Fun K "_law_records" "_law_records" sRecords f fd) (Cc : Cn mg) : FnOk P w K mg base CX0 1 f fd ["lore"] spRecords := by
  refine F.ok scRecords (fun vs H Q E h => ?_) (fun cdv A outer s H vs Q E hr h => ?_)
  · obtain ⟨a, lo, L, rfl, _⟩ := h
    rfl
  · obtain ⟨a, lo, L, rfl, ⟨pa, ks, rows, e1, e2, e3, n0, e4⟩, p4, k⟩ := h
    have nd := scRecords.nd
    have hu := hu_of hr
    refine ⟨_, pss_cons (ps_set (i := 1) nd rfl (.inl rfl) (pe_lst (pa_cons pe_str pa_nil)))
      (pss_cons (ps_for PassesOwn.never rfl (pi_tup (pe_dget hu (pv 0) pe_str (fun _ _ => rfl))) (pg_name (i := 2) nd rfl (.inl rfl))
          (pss_one (ps_set (i := 1) nd rfl (.inl rfl) (pe_op op_cat
            (pe_lc (own := [("record", 3)]) (g := gName 3) (tt := tYes) (te := tOp rAddStr (tVar 3) (tC (.str "0"))) rfl nd (pi_list (pv 1)) (blkOk_by (N := ["lore", "found", "part", "record"]) (sc := defScope sRecords) (by decide +kernel))
              (fun _ _ _ _ _ => pg_name (i := 3) nd rfl (.inl rfl)) (fun _ _ _ _ _ => pts_nil) (fun _ _ _ _ _ => pe_op op_add_str (pv 3) pe_str))
            (pe_lc (own := [("record", 3)]) (g := gName 3) (tt := tYes) (te := tOp rAddStr (tVar 3) (tC (.str "1"))) rfl nd (pi_list (pv 1)) (blkOk_by (N := ["lore", "found", "part", "record"]) (sc := defScope sRecords) (by decide +kernel))
              (fun _ _ _ _ _ => pg_name (i := 3) nd rfl (.inl rfl)) (fun _ _ _ _ _ => pts_nil) (fun _ _ _ _ _ => pe_op op_add_str (pv 3) pe_str))))))
        (pss_one (ps_ret (pe_callB cr_sortedS (by rfl) Cc.sorted boot_sorted (pa_cons (pv 1) pa_nil))))), ?_⟩
    refine ⟨few_ok rfl, fun l nl => ?_⟩
    have s1 : Same H (upd H l (.lst [.str ""])) := same_new nl
    have el : upd H l (.lst [.str ""]) l = some (.lst [.str ""]) := upd_same
    generalize upd H l (.lst [.str ""]) = H1 at s1 el
    refine ⟨_, rfl, lo, _, rfl, (dget2 (s1 _ _ e1)).1, pa, rfl, ⟨_, SqT.of (s1 _ _ e2)⟩, for_tup (xs := L.parts.map V.str) (fun i σ H' => ∃ (fl : Addr) (zs : List Str) (u v : Option V), σ = [some (.ref lo), some (.ref fl), u, v] ∧ H fl = none ∧ H' fl = some (.lst (zs.map V.str)) ∧ zs.length = 2 ^ i ∧ (∀ z ∈ zs, z.length = i ∧ Bits z) ∧ Same H H') ?_ ?_ ?_ ?_⟩
    · exact ⟨l, [""], none, none, rfl, nl, el, rfl, fun z hz => by
        rw [List.mem_singleton.mp hz]
        exact ⟨rfl, fun c hc => by cases hc⟩, s1⟩
    · rintro i σ H' _ ⟨_, _, _, _, _, _, _, _, _, ss⟩
      exact SqT.of (ss _ _ e2)
    · rintro i x σ H' hx ⟨fl, zs, u, v, rfl, nf, ef, zl, zb, ss⟩
      have il : i < L.parts.length := by
        have := (List.getElem?_eq_some_iff.mp hx).1
        rw [List.length_map] at this
        exact this
      have z8 : zs.length ≤ 8 := by
        rw [zl]
        exact Nat.le_trans (Nat.pow_le_pow_right (by decide) (show i ≤ 3 by omega)) (by decide)
      refine ⟨_, rfl, fl, rfl, ⟨_, SqL.of ef⟩, fun D nD => lc_fm (walk_list (a := fl) (xs := zs.map V.str)) zs (fun z => some (V.str (z ++ "0"))) (by rw [List.length_map]) (by rw [List.length_map]; omega) nD (fun H s => s.seq (SqL.of ef)) ?_ ?_⟩
      · rintro j y z H2 H2' R Rn hz s2 ⟨rfl, hy⟩ k1 k2
        obtain rfl : V.str z = y := by
          rw [List.getElem?_map, hz] at hy
          exact Option.some.inj hy
        have zz := (zb z (List.mem_of_getElem? hz)).1
        exact ⟨rfl, _, rfl, _, _, rfl, rfl, by rw [zz, sizeLine_eq]; show i + 1 ≤ _; omega, k1 _ _ rfl (Same.refl _)⟩
      · intro H2 s2 eD
        have ef2 := s2 _ _ ef
        refine ⟨_, rfl, fl, rfl, ⟨_, SqL.of ef2⟩, fun D2 nD2 => lc_fm (walk_list (a := fl) (xs := zs.map V.str)) zs (fun z => some (V.str (z ++ "1"))) (by rw [List.length_map]) (by rw [List.length_map]; omega) nD2 (fun H s => s.seq (SqL.of ef2)) ?_ ?_⟩
        · rintro j y z H3 H3' R Rn hz s3 ⟨rfl, hy⟩ k1 k2
          obtain rfl : V.str z = y := by
            rw [List.getElem?_map, hz] at hy
            exact Option.some.inj hy
          have zz := (zb z (List.mem_of_getElem? hz)).1
          exact ⟨rfl, _, rfl, _, _, rfl, rfl, by rw [zz, sizeLine_eq]; show i + 1 ≤ _; omega, k1 _ _ rfl (Same.refl _)⟩
        · intro H3 s3 eD2
          have f0 : (zs.filterMap fun z => some (V.str (z ++ "0"))) = (zs.map (fun z : Str => z ++ ("0" : Str))).map V.str := by simp [Function.comp_def]
          have f1 : (zs.filterMap fun z => some (V.str (z ++ "1"))) = (zs.map (fun z : Str => z ++ ("1" : Str))).map V.str := by simp [Function.comp_def]
          rw [f0] at eD
          rw [f1] at eD2
          refine ⟨D, D2, _, _, rfl, rfl, s3 _ _ eD, eD2, by rw [List.length_map, List.length_map, List.length_map, List.length_map, sizeLine_eq]; omega, fun p np => ?_⟩
          have s4 : Same H H3 := (ss.trans s2).trans s3
          refine ⟨p, zs.map (fun z : Str => z ++ ("0" : Str)) ++ zs.map (fun z : Str => z ++ ("1" : Str)), _, _, rfl, s4.free np, by rw [upd_same, List.map_append], ?_, ?_, s4.trans (same_new np)⟩
          · rw [List.length_append, List.length_map, List.length_map, zl, Nat.pow_succ]
            omega
          · intro z hz
            have both : ∀ y : Str, y.length = 1 → Bits y → z ∈ zs.map (· ++ y) → z.length = i + 1 ∧ Bits z := fun y yl yb hz => by
              obtain ⟨z0, hz0, rfl⟩ := List.mem_map.mp hz
              obtain ⟨a1, a2⟩ := zb z0 hz0
              refine ⟨by rw [Str.length_append, a1, yl], fun c hc => ?_⟩
              rw [TL.tl_append] at hc
              rcases List.mem_append.mp hc with hc | hc
              · exact a2 c hc
              · exact yb c hc
            rcases List.mem_append.mp hz with hz | hz
            · exact both "0" rfl (by unfold Bits; decide +kernel) hz
            · exact both "1" rfl (by unfold Bits; decide +kernel) hz
    · rintro σ H' ⟨fl, zs, u, v, rfl, nf, ef, zl, zb, ss⟩
      rw [List.length_map] at zl zb
      have z16 : zs.length ≤ 16 := by
        rw [zl]
        exact Nat.le_trans (Nat.pow_le_pow_right (by decide) p4) (by decide)
      refine ⟨_, rfl, fl, zs, rfl, SqL.of ef, by omega, fun ys p perm _ np => ?_⟩
      exact k ys p _ (ss.trans (same_new np)) (ss.free np) upd_same (by rw [perm.length_eq, zl]) fun z hz => zb z (perm.mem_iff.mp hz)
end
end K6
set_option Elab.async false
set_option linter.all false
set_option maxRecDepth 100000
set_option maxHeartbeats 4000000
set_option pp.maxSteps 1200
set_option pp.deepTerms false
namespace K6
open PySem PySem.Spec PyProof.Rows L2 Lk
abbrev sSpots : Stmt := top 58
section
variable {P : Program} {w : World} {K : PySem.W.Frag} {mg : Str → Option Value} {base : Heap} {f : Addr} {fd : FuncData}
/-! ### _law_spots, of all keepers -/
def spSpots (K : PySem.W.Frag) : Sp := fun vs H Q _ => ∃ (a lo q : Addr) (L : Lore), vs = [.ref lo, .ref q] ∧ LoreAt a H lo L ∧ LoreOk L ∧ Sq K H q ((L.kps.map (·.1)).map V.str) ∧
  ∀ p ts H', Same H H' → H p = none → H' p = some (.lst ts) → Paired (RelS H') ts (spotsOf L.kps) → Q (.ref p) H'
theorem scSpots : FnScope ["lore", "lot", "found", "name", "pieces", "at"] ["lore", "lot"] (defScope sSpots) := ⟨rfl, rfl, rfl, by decide +kernel, rfl, by decide +kernel, by decide +kernel⟩
theorem ok_spots (F : Fun K "_law_spots" "_law_spots" sSpots f fd) (T : Bl mg) : FnOk P w K mg base CX0 1 f fd ["lore", "lot"] (spSpots K) := by
  refine F.ok scSpots (fun vs H Q E h => ?_) (fun cdv A outer s H vs Q E hr h => ?_)
  · obtain ⟨a, lo, q, L, rfl, _⟩ := h
    rfl
  · obtain ⟨a, lo, q, L, rfl, ⟨pa, ks, rows, e1, e2, e3, n0, e4⟩, ok, hq, k⟩ := h
    have nd := scSpots.nd
    have hu := hu_of hr
    refine ⟨_, pss_cons (ps_set (i := 2) nd rfl (.inl rfl) (pe_lst pa_nil))
      (pss_cons (ps_for PassesOwn.never rfl (pi_list (pe_dget hu (pv 0) pe_str (fun _ _ => rfl))) (pg_tup rfl (pgs_cons (pg_name (i := 3) nd rfl (.inr rfl)) (pgs_cons (pg_name (i := 4) nd rfl (.inl rfl)) pgs_nil)))
          (pss_one (ps_expr (pe_bm PySem.F.plainAttrs_list PySem.F.slot_list_extend PySem.F.type_list_extend mt_extend (pv 2) (pa_cons
            (pe_lc (own := [("at", 5)]) (g := gName 5) (tt := tTest (tOp (rIn K false) (tVar 3) (tVar 1))) (te := tTup (tCons (tVar 3) (tCons (tVar 5) tNil))) rfl nd
              (pi_range1 (by rfl) T.range (pa_cons (pe_callB call_len_seq (by rfl) T.len PySem.boot_len (pa_cons (pv 4) pa_nil)) pa_nil)) (blkOk_by (N := ["lore", "lot", "found", "name", "pieces", "at"]) (sc := defScope sSpots) (by decide +kernel))
              (fun _ _ _ _ _ => pg_name (i := 5) nd rfl (.inl rfl)) (fun _ _ _ _ _ => pts_one (pt_cmpR op_in_seq (pv 3) (pv 1) rfl)) (fun _ _ _ _ _ => pe_tup (pa_cons (pv 3) (pa_cons (pv 5) pa_nil)))) pa_nil)))))
        (pss_one (ps_ret (pv 2)))), ?_⟩
    have k6 := ok.k6
    obtain ⟨zs, z1, z2, z3⟩ := paired_zip e4
    have zl : rows.length = L.kps.length := by rw [← z1, ← z2, List.length_map, List.length_map]
    refine ⟨Nat.zero_le _, fun fl nf => ?_⟩
    have s1 : Same H (upd H fl (.lst [])) := same_new nf
    have ef1 : upd H fl (.lst []) fl = some (.lst []) := upd_same
    generalize upd H fl (.lst []) = H1 at s1 ef1
    refine ⟨_, rfl, lo, _, rfl, (dget2 (s1 _ _ e1)).2, ks, rfl, ⟨_, SqL.of (s1 _ _ e3)⟩, for_list (xs := rows) (fun i σ H' => ∃ (ts : List V) (u v w : Option V), σ = [some (.ref lo), some (.ref q), some (.ref fl), u, v, w] ∧ H' fl = some (.lst ts) ∧ Paired (RelS H') ts (spotsOf (L.kps.take i)) ∧ ts.length ≤ 2 * i ∧ Same H H') ?_ ?_ ?_ ?_⟩
    · exact ⟨[], none, none, none, rfl, ef1, .nil, by simp, s1⟩
    · rintro i σ H' _ ⟨_, _, _, _, _, _, _, _, ss⟩
      exact SqL.of (ss _ _ e3)
    · rintro i x σ H' hx ⟨ts, u, v, w, rfl, ef, pt, tl, ss⟩
      have il : i < L.kps.length := by rw [← zl]; exact (List.getElem?_eq_some_iff.mp hx).1
      obtain ⟨y, hy⟩ : ∃ y, zs[i]? = some y := ⟨_, List.getElem?_eq_getElem (by rw [← z2, List.length_map] at il; exact il)⟩
      have y1 : y.1 = x := by rw [← z1, List.getElem?_map, hy] at hx; exact Option.some.inj hx
      have hk : L.kps[i]? = some y.2 := by rw [← z2, List.getElem?_map, hy]; rfl
      obtain ⟨r, qq, us, ex, er, eq, ep⟩ := z3 y (List.mem_of_getElem? hy)
      rw [y1] at ex
      obtain ⟨yv, kq⟩ := y
      dsimp only at hk er ep
      clear y1
      subst ex
      have km := List.mem_of_getElem? hk
      have ul := ep.length
      have kl := (ok.q kq km).2.1
      refine ⟨r, _, rfl, SqT.of (ss _ _ er), rfl, _, _, rfl, _, _, rfl, rfl, ?_⟩
      refine ⟨_, rfl, .inl ⟨rfl, _, SqL.of ef⟩, _, rfl, qq, us, rfl, .inr (SqT.of (ss _ _ eq)), _, rfl, by omega, by omega, fun D nD => ?_⟩
      refine lc_it (walk_range (n := ((us.length : Nat) : Int).toNat)) (fun j H4 => ∃ vs, H4 D = some (.lst vs) ∧ Paired (RelS H4) vs ((List.range j).map fun m => (kq.1, m)) ∧ vs.length = j ∧ Same H' H4) ⟨[], upd_same, .nil, rfl, same_new nD⟩ (fun _ _ _ _ => trivial) ?_ ?_
      · rintro j y H4 H4' hj ⟨vs, eD, pv2, vl, s4⟩ ⟨rfl, rfl⟩
        refine ⟨rfl, _, rfl, _, rfl, q, _, rfl, (hq.same (ss.trans s4)), rfl, flat_strs _, _, rfl, iteA ?_ ⟨_, rfl, _, rfl, few_ok rfl, fun p np => ?_⟩⟩
        · rw [inV_str]
          have : kq.1 ∈ L.kps.map (·.1) := List.mem_map.mpr ⟨kq, km, rfl⟩
          simpa using this
        have eD2 := (same_new (o := .tup [.str kq.1, .int (0 + (j : Nat))]) np) _ _ eD
        have pD : p ≠ D := fun z => by rw [z, eD] at np; cases np
        have kp : Keep H4' (upd (upd H4' p (.tup [.str kq.1, .int (0 + (j : Nat))])) D (.lst (vs ++ [.ref p]))) := (Keep.of (same_new np)).trans (.upd eD2)
        refine ⟨vs, eD2, by rw [sizeLine_eq]; omega, vs ++ [.ref p], upd_same, ?_, by rw [List.length_append, vl]; rfl, fun b o e => ?_⟩
        · rw [List.range_succ, List.map_append]
          refine Paired.add (Paired.mapP pv2 fun v s r => RelS.keep _ _ _ _ kp r) ⟨p, rfl, ?_⟩
          rw [upd_ne pD, upd_same]
          show some (HO.tup [V.str kq.1, V.int (0 + (j : Int))]) = _
          rw [Int.zero_add]
        · rw [upd_ne (ne_of_none e nD)]
          exact (same_new np) _ _ (s4 _ _ e)
      · rintro H4 ⟨vs, eD, pv2, vl, s4⟩
        have un : ((us.length : Nat) : Int).toNat = kq.2.length := by omega
        rw [un] at pv2 vl
        have ef4 := s4 _ _ ef
        have kp : Keep H4 (upd H4 fl (.lst (ts ++ vs))) := .upd ef4
        refine ⟨fl, D, ts, vs, rfl, rfl, ef4, eD, by rw [sizeLine_eq]; omega, ts ++ vs, _, _, _, rfl, upd_same, ?_, by rw [List.length_append]; omega, fun b o e => ?_⟩
        · have : spotsOf (L.kps.take (i + 1)) = spotsOf (L.kps.take i) ++ (List.range kq.2.length).map fun m => (kq.1, m) := by
            unfold spotsOf
            rw [List.take_add_one, hk, List.flatMap_append]
            simp
          rw [this]
          exact paired_append (Paired.mapP pt fun v s r => RelS.keep _ _ _ _ ((Keep.of s4).trans kp) r) (Paired.mapP pv2 fun v s r => RelS.keep _ _ _ _ kp r)
        · rw [upd_ne (ne_of_none e nf)]
          exact s4 _ _ (ss _ _ e)
    · rintro σ H' ⟨ts, u, v, w, rfl, ef, pt, tl, ss⟩
      rw [zl, List.take_length] at pt
      exact ⟨_, rfl, k fl ts H' ss nf ef pt⟩
end
end K6
set_option Elab.async false
set_option linter.all false
set_option maxRecDepth 100000
set_option maxHeartbeats 4000000
set_option pp.maxSteps 1200
set_option pp.deepTerms false
namespace K6
open PySem PySem.Spec PyProof.Rows L2 Lk
abbrev sAreBits : Stmt := top 14
abbrev sIsRecord : Stmt := top 39
abbrev sRefRecord : Stmt := top 42
abbrev sRefKeeper : Stmt := top 41
abbrev sCircLen : Stmt := inClass (top 17) 1
abbrev sCircIn : Stmt := inClass (top 17) 2
abbrev sShelfLen : Stmt := inClass (top 26) 1
/-- an own method of that class, found and kept -/
structure MethC (K : PySem.W.Frag) (C : Addr) (m : Str) (f : Addr) : Prop where
  at_ : PySem.W.findIn K (.ref C) m = some (some (.ref f))
  fn : PySem.W.isFn K (.ref f) = true
section
variable {P : Program} {w : World} {K : PySem.W.Frag} {mg : Str → Option Value} {base : Heap} {f : Addr} {fd : FuncData}
/-- a shelf, as it stands -/
def ShAt (H : Hp) (C CS x : Addr) (L : Lore) : Prop := ∃ dx fs, H x = some (.ins CS dx fs) ∧ ShF H C L fs ∧ fs.lookup ("text" : Str) = some (V.str (textL L)) ∧ ShS H L fs
/-! ### are_bits, is_record, refuse_record: a record -/
def RecOk (L : Lore) (z : Str) : Prop := z.length = L.parts.length ∧ Bits z
def spAreBits : Sp := fun vs H Q _ => ∃ z : Str, vs = [.str z, .int z.length] ∧ Bits z ∧ z.length ≤ 100 ∧ ∀ H', Same H H' → Q (.bl true) H'
theorem scAreBits : FnScope ["value", "many", "sign"] ["value", "many"] (defScope sAreBits) := ⟨rfl, rfl, rfl, by decide +kernel, rfl, by decide +kernel, by decide +kernel⟩
theorem ok_areBits (F : Fun K "are_bits" "are_bits" sAreBits f fd) (T : Bl mg) (C : Cn mg) : FnOk P w K mg base CX0 1 f fd ["value", "many"] spAreBits := by
  refine F.ok scAreBits (fun vs H Q E h => ?_) (fun cdv A outer s H vs Q E hr h => ?_)
  · obtain ⟨z, rfl, _⟩ := h
    rfl
  · obtain ⟨z, rfl, zb, zl, k⟩ := h
    have nd := scAreBits.nd
    refine ⟨_, pss_one (ps_ret (pe_and (pe_callB call_isi (by rfl) T.isin boot_isinstance (pa_cons (pv 0) (pa_cons (pe_bltn (v := .ty "str") (by rfl) C.str rfl rfl) pa_nil))) (pe_and (pe_cmpR op_eq (pe_callB call_len_str (by rfl) T.len PySem.boot_len (pa_cons (pv 0) pa_nil)) (pv 1) (nomark _))
      (pe_one (pe_callB (cr_all rfl) (by rfl) T.all boot_all (pa_cons (pe_lc (own := [("sign", 2)]) (g := gName 2) (tt := tYes) (te := tOp (fun x y H Q => ∃ (c : Nat) (z : Str), x = .str ⟨#[c]⟩ ∧ y = .str z ∧ Q (.bl (decide (c ∈ z.cps.toList))) H) (tVar 2) (tC (.str "01"))) rfl nd (pi_str (pv 0)) (blkOk_by (N := ["value", "many", "sign"]) (sc := defScope sAreBits) (by decide +kernel))
          (fun _ _ _ _ _ => pg_name (i := 2) nd rfl (Or.inl rfl)) (fun _ _ _ _ _ => pts_nil) (fun _ _ _ _ _ => pe_cmpR op_in_sign (pv 2) pe_str rfl)) pa_nil)))))), ?_⟩
    refine ⟨_, rfl, _, _, _, _, true, rfl, .ty _, .base (.str _), by rfl, _, rfl, iteT ?_⟩
    refine ⟨_, rfl, z, rfl, by rw [sizeLine_eq]; omega, _, rfl, rfl, _, rfl, iteA (decide_eq_true rfl) ?_⟩
    have zz : z.cps.toList.length ≤ 100 := by simpa [Str.length] using zl
    refine ⟨_, rfl, z, rfl, str_lc (Q := fun x H1 => rAll K [x] H1 Q) (fun c => some (.bl (decide (c ∈ ("01" : Str).cps.toList)))) (by omega) ?_ ?_⟩
    · intro i c H1 R Rn hc s1 k1 k2
      exact ⟨rfl, _, rfl, c, "01", rfl, rfl, k1 _ _ rfl (Same.refl _)⟩
    · intro D H1 nD s1 e
      rw [fm_bl] at e
      refine ⟨D, _, rfl, SqL.of e, ?_⟩
      have : (z.cps.toList.map fun c => decide (c ∈ ("01" : Str).cps.toList)).all id = true := by
        rw [List.all_eq_true]
        intro b hb
        obtain ⟨c, hc, rfl⟩ := List.mem_map.mp hb
        refine decide_eq_true ?_
        rcases zb c hc with rfl | rfl
        · decide +kernel
        · decide +kernel
      rw [this]
      exact k _ s1
def spIsRecord (C CS : Addr) : Sp := fun vs H Q _ => ∃ (x : Addr) (L : Lore) (z : Str), vs = [.ref x, .str z] ∧ ShAt H C CS x L ∧ LoreOk L ∧ RecOk L z ∧ ∀ H', Same H H' → Q (.bl true) H'
theorem scIsRecord : FnScope ["shelf", "value"] ["shelf", "value"] (defScope sIsRecord) := ⟨rfl, rfl, rfl, by decide +kernel, rfl, by decide +kernel, by decide +kernel⟩
theorem ok_isRecord {C CS fS f1 : Addr} {fd1 : FuncData} (F : Fun K "is_record" "is_record" sIsRecord f fd) (T : Bl mg) (Cc : Cn mg) (SC : ShC K CS fS) (F1 : Fun K "are_bits" "are_bits" sAreBits f1 fd1) (b1 : Binds K fd1 ["value", "many"] []) (m1 : mg "are_bits" = some (.ref f1)) :
    FnOk P w K mg base CX0 2 f fd ["shelf", "value"] (spIsRecord C CS) := by
  have G1 : FnOk P w K mg base CX0 1 f1 fd1 ["value", "many"] spAreBits := ok_areBits F1 T Cc
  refine F.ok scIsRecord (fun vs H Q E h => ?_) (fun cdv A outer s H vs Q E hr h => ?_)
  · obtain ⟨x, L, z, rfl, _⟩ := h
    rfl
  · obtain ⟨x, L, z, rfl, ⟨dx, fs, hx, sf, _⟩, ok, ⟨zl, zb⟩, k⟩ := h
    obtain ⟨pa, lp, tpa⟩ := sf.parts
    have p4 := ok.p4
    refine ⟨_, pss_one (ps_ret (pe_call G1 hr (by rfl) m1 F1.kp b1 .nil pass0 (pa_cons (pv 1) (pa_cons (pe_callB call_len_seq (by rfl) T.len PySem.boot_len (pa_cons (pe_fld (pv 0) rfl) pa_nil)) pa_nil)))), ?_⟩
    refine ⟨_, rfl, _, rfl, x, CS, dx, fs, .ref pa, rfl, hx, SC.cls, SC.parts, lp, pa, _, rfl, .inr tpa.sq, z, ?_, zb, by omega, k⟩
    rw [List.length_map, ← zl]
    rfl
def spRefRecord (C CS : Addr) : Sp := fun vs H Q _ => ∃ (x : Addr) (L : Lore) (z : Str), vs = [.ref x, .str z] ∧ ShAt H C CS x L ∧ LoreOk L ∧ RecOk L z ∧ ∀ H', Same H H' → Q .non H'
theorem scRefRecord : FnScope ["shelf", "value"] ["shelf", "value"] (defScope sRefRecord) := ⟨rfl, rfl, rfl, by decide +kernel, rfl, by decide +kernel, by decide +kernel⟩
theorem ok_refRecord {C CS fS f1 f2 : Addr} {fd1 fd2 : FuncData} (F : Fun K "refuse_record" "refuse_record" sRefRecord f fd) (T : Bl mg) (Cc : Cn mg) (SC : ShC K CS fS) (F1 : Fun K "are_bits" "are_bits" sAreBits f1 fd1) (b1 : Binds K fd1 ["value", "many"] []) (m1 : mg "are_bits" = some (.ref f1))
    (F2 : Fun K "is_record" "is_record" sIsRecord f2 fd2) (b2 : Binds K fd2 ["shelf", "value"] []) (m2 : mg "is_record" = some (.ref f2)) : FnOk P w K mg base CX0 3 f fd ["shelf", "value"] (spRefRecord C CS) := by
  have G2 : FnOk P w K mg base CX0 2 f2 fd2 ["shelf", "value"] (spIsRecord C CS) := ok_isRecord F2 T Cc SC F1 b1 m1
  refine F.ok scRefRecord (fun vs H Q E h => ?_) (fun cdv A outer s H vs Q E hr h => ?_)
  · obtain ⟨x, L, z, rfl, _⟩ := h
    rfl
  · obtain ⟨x, L, z, rfl, sh, ok, rc, k⟩ := h
    refine ⟨_, pss_one (ps_if (pt_not (pt_val (pe_call G2 hr (by rfl) m2 F2.kp b2 .nil pass0 (pa_cons (pv 0) (pa_cons (pv 1) pa_nil))))) pss_no pss_nil), ?_⟩
    exact ⟨_, rfl, _, rfl, x, L, z, rfl, sh, ok, rc, fun H' s' => ⟨_, rfl, iteB rfl (k H' s')⟩⟩
/-! ### Circle.__contains__, refuse_keeper -/
def spCircIn (C : Addr) : Sp := fun vs H Q _ => ∃ (c : Addr) (zs : List Str) (z : Str), vs = [.ref c, .str z] ∧ CircAt H C c zs ∧ Q (.bl (decide (z ∈ zs))) H
theorem scCircIn : FnScope ["self", "value"] ["self", "value"] (defScope sCircIn) := ⟨rfl, rfl, rfl, by decide +kernel, rfl, by decide +kernel, by decide +kernel⟩
theorem ok_circIn {C fC : Addr} (F : Fun K "__contains__" "Circle.__contains__" sCircIn f fd) (CC : CircC K C fC) : FnOk P w K mg base CX0 1 f fd ["self", "value"] (spCircIn C) := by
  refine F.ok scCircIn (fun vs H Q E h => ?_) (fun cdv A outer s H vs Q E hr h => ?_)
  · obtain ⟨c, zs, z, rfl, _⟩ := h
    rfl
  · obtain ⟨c, zs, z, rfl, ⟨dx, nm, ec, tn⟩, k⟩ := h
    refine ⟨_, pss_one (ps_ret (pe_cmpR op_in_seq (pv 1) (pe_fld (pv 0) rfl) rfl)), ?_⟩
    refine ⟨_, rfl, _, rfl, c, C, dx, _, .ref nm, rfl, ec, CC.cls, CC.nm, rfl, nm, _, rfl, .inr tn.sq, rfl, flat_strs _, ?_⟩
    simp only [Bool.false_eq_true, if_false]
    rw [inV_str]
    exact k
def spRefKeeper (C CS : Addr) : Sp := fun vs H Q _ => ∃ (x : Addr) (L : Lore) (kq : KP), vs = [.ref x, .str kq.1] ∧ ShAt H C CS x L ∧ kq ∈ L.kps ∧ Q .non H
theorem scRefKeeper : FnScope ["shelf", "value"] ["shelf", "value"] (defScope sRefKeeper) := ⟨rfl, rfl, rfl, by decide +kernel, rfl, by decide +kernel, by decide +kernel⟩
theorem ok_refKeeper {C CS fC fS fI : Addr} {fdI : FuncData} (F : Fun K "refuse_keeper" "refuse_keeper" sRefKeeper f fd) (CC : CircC K C fC) (SC : ShC K CS fS) (M : MethC K C "__contains__" fI) (FI : Fun K "__contains__" "Circle.__contains__" sCircIn fI fdI) (bI : Binds K fdI ["self", "value"] []) :
    FnOk P w K mg base CX0 2 f fd ["shelf", "value"] (spRefKeeper C CS) := by
  have GI : FnOk P w K mg base CX0 1 fI fdI ["self", "value"] (spCircIn C) := ok_circIn FI CC
  refine F.ok scRefKeeper (fun vs H Q E h => ?_) (fun cdv A outer s H vs Q E hr h => ?_)
  · obtain ⟨x, L, kq, rfl, _⟩ := h
    rfl
  · obtain ⟨x, L, kq, rfl, ⟨dx, fs, hx, sf, _⟩, km, k⟩ := h
    obtain ⟨c, lc, ca⟩ := sf.circle
    obtain ⟨cdx, nm, ec, tn⟩ := id ca
    refine ⟨_, pss_one (ps_if (pt_cmpR (op_notInI GI M.at_ M.fn bI hr) (pv 1) (pe_fld (pv 0) rfl) rfl) pss_no pss_nil), ?_⟩
    refine ⟨_, rfl, _, rfl, x, CS, dx, fs, .ref c, rfl, hx, SC.cls, SC.circle, lc, c, cdx, _, rfl, ec, c, _, kq.1, rfl, ca, _, rfl, _, rfl, iteB ?_ k⟩
    have : kq.1 ∈ L.kps.map (·.1) := List.mem_map.mpr ⟨kq, km, rfl⟩
    simpa using this
end
end K6
set_option Elab.async false
set_option linter.all false
set_option maxRecDepth 100000
set_option maxHeartbeats 4000000
set_option pp.maxSteps 1200
set_option pp.deepTerms false
namespace K6
open PySem PySem.Spec PyProof.Rows L2 Lk
abbrev sShelfEq : Stmt := inClass (top 26) 2
section
variable {P : Program} {w : World} {K : PySem.W.Frag} {mg : Str → Option Value} {base : Heap} {f : Addr} {fd : FuncData}
/-- what isinstance is asked of the class -/
structure IsiC (K : PySem.W.Frag) (C : Addr) : Prop where
  ty : ∀ (H : Hp) (a dx : Addr) (fs : List (Str × V)), H a = some (.ins C dx fs) → TyX K H (.ref a) (.ref C)
  own : PySem.W.kitOne K (.ref C) (.ref C) = some true
/-! ### len(shelf), shelf == .. -/
def spShelfLen (C CS : Addr) : Sp := fun vs H Q _ => ∃ (x : Addr) (L : Lore), vs = [.ref x] ∧ ShAt H C CS x L ∧ Q (.int (spotsOf L.kps).length) H
theorem scShelfLen : FnScope ["self"] ["self"] (defScope sShelfLen) := ⟨rfl, rfl, rfl, by decide +kernel, rfl, by decide +kernel, by decide +kernel⟩
theorem ok_shelfLen {C CS fS : Addr} (F : Fun K "__len__" "Shelf.__len__" sShelfLen f fd) (T : Bl mg) (SC : ShC K CS fS) : FnOk P w K mg base CX0 1 f fd ["self"] (spShelfLen C CS) := by
  refine F.ok scShelfLen (fun vs H Q E h => ?_) (fun cdv A outer s H vs Q E hr h => ?_)
  · obtain ⟨x, L, rfl, _⟩ := h
    rfl
  · obtain ⟨x, L, rfl, ⟨dx, fs, hx, sf, _, p, ts, lp, ep, pr⟩, k⟩ := h
    refine ⟨_, pss_one (ps_ret (pe_callB call_len_seq (by rfl) T.len PySem.boot_len (pa_cons (pe_fld (pv 0) rfl) pa_nil))), ?_⟩
    refine ⟨_, rfl, x, CS, dx, fs, .ref p, rfl, hx, SC.cls, SC.spots, lp, p, _, rfl, .inr (SqT.of ep), ?_⟩
    rw [pr.length]
    exact k
def spShelfEq (K : PySem.W.Frag) (CS : Addr) : Sp := fun vs H Q _ => ∃ (x dx : Addr) (fs : List (Str × V)) (t : Str) (y : V), vs = [.ref x, y] ∧ H x = some (.ins CS dx fs) ∧ fs.lookup ("text" : Str) = some (V.str t) ∧
  ((∃ x2 dx2 fs2 t2, y = .ref x2 ∧ H x2 = some (.ins CS dx2 fs2) ∧ fs2.lookup ("text" : Str) = some (V.str t2) ∧ Q (.bl (decide (t = t2))) H) ∨ (∃ ty, TyX K H y ty ∧ PySem.W.kitOne K ty (.ref CS) = some false ∧ Q (.bl false) H))
theorem scShelfEq : FnScope ["self", "other"] ["self", "other"] (defScope sShelfEq) := ⟨rfl, rfl, rfl, by decide +kernel, rfl, by decide +kernel, by decide +kernel⟩
theorem ok_shelfEq {CS fS : Addr} (F : Fun K "__eq__" "Shelf.__eq__" sShelfEq f fd) (T : Bl mg) (SC : ShC K CS fS) (IC : IsiC K CS) (mS : mg "Shelf" = some (.ref CS)) : FnOk P w K mg base CX0 1 f fd ["self", "other"] (spShelfEq K CS) := by
  refine F.ok scShelfEq (fun vs H Q E h => ?_) (fun cdv A outer s H vs Q E hr h => ?_)
  · obtain ⟨x, dx, fs, t, y, rfl, _⟩ := h
    rfl
  · obtain ⟨x, dx, fs, t, y, rfl, hx, lt, k⟩ := h
    refine ⟨_, pss_one (ps_ret (pe_and (pe_callB call_isi (by rfl) T.isin boot_isinstance (pa_cons (pv 1) (pa_cons (pe_glob (v := .ref CS) (by rfl) mS rfl) pa_nil))) (pe_one (pe_cmpR op_eq (pe_fld (pv 0) rfl) (pe_fld (pv 1) rfl) (nomark _))))), ?_⟩
    rcases k with ⟨x2, dx2, fs2, t2, rfl, hx2, lt2, k⟩ | ⟨ty, hty, hk, k⟩
    · refine ⟨_, rfl, _, _, _, _, true, rfl, .own _, IC.ty H x2 dx2 fs2 hx2, IC.own, _, rfl, iteT ?_⟩
      refine ⟨_, rfl, x, CS, dx, fs, .str t, rfl, hx, SC.cls, SC.text, lt, _, rfl, x2, CS, dx2, fs2, .str t2, rfl, hx2, SC.cls, SC.text, lt2, rfl, ?_⟩
      have e : decide (V.str t = V.str t2) = decide (t = t2) := by simp
      rw [e]
      exact k
    · exact ⟨_, rfl, _, _, _, _, false, rfl, .own _, hty, hk, _, rfl, iteB rfl k⟩
end
end K6
set_option Elab.async false
set_option linter.all false
set_option maxRecDepth 100000
set_option maxHeartbeats 4000000
set_option pp.maxSteps 1200
set_option pp.deepTerms false
namespace K6
open PySem PySem.Spec PyProof.Rows L2 Lk
abbrev sShelf : Stmt := top 53
section
variable {P : Program} {w : World} {K : PySem.W.Frag} {mg : Str → Option Value} {base : Heap} {f : Addr} {fd : FuncData}
/-! ### _law_shelf -/
def spShelf (C CS : Addr) : Sp := fun vs H Q _ => ∃ (a lo : Addr) (L : Lore), vs = [.ref lo] ∧ LoreAt a H lo L ∧ LoreOk L ∧ ∀ x H', Same H H' → H x = none → ShAt H' C CS x L → Q (.ref x) H'
theorem scShelf : FnScope ["lore"] ["lore"] (defScope sShelf) := ⟨rfl, rfl, rfl, by decide +kernel, rfl, by decide +kernel, by decide +kernel⟩
theorem ok_shelf {C CS fT fS : Addr} {fdT fdS : FuncData} (F : Fun K "_law_shelf" "_law_shelf" sShelf f fd) (T : Bl mg) (SC : ShC K CS fS) (mS : mg "Shelf" = some (.ref CS)) (FT : Fun K "_law_text" "_law_text" sText fT fdT) (bT : Binds K fdT ["lore"] []) (mT : mg "_law_text" = some (.ref fT))
    (GS : FnOk P w K mg base CX0 6 fS fdS ["self", "text"] (spShelfI C CS)) (bS : Binds K fdS ["self", "text"] []) : FnOk P w K mg base CX0 8 f fd ["lore"] (spShelf C CS) := by
  have GT : FnOk P w K mg base CX0 1 fT fdT ["lore"] spText := ok_text FT T
  refine F.ok scShelf (fun vs H Q E h => ?_) (fun cdv A outer s H vs Q E hr h => ?_)
  · obtain ⟨a, lo, L, rfl, _⟩ := h
    rfl
  · obtain ⟨a, lo, L, rfl, hl, ok, k⟩ := h
    refine ⟨_, pss_one (ps_ret (pe_make SC.mkr GS hr (by rfl) mS bS .nil pass0 (pa_cons (pe_call GT (hr.mono (by decide)) (by rfl) mT FT.kp bT .nil pass0 (pa_cons (pv 0) pa_nil)) pa_nil))), ?_⟩
    refine ⟨_, rfl, a, lo, L, rfl, hl, ok, fun H1 s1 => ?_⟩
    intro x dx nx ndx nex
    have sM : Same H1 (upd (upd H1 dx (.own x)) x (.ins CS dx [])) := fun b o e => by rw [upd_ne (ne_of_none e nx), upd_ne (ne_of_none e ndx)]; exact e
    refine ⟨x, dx, L, rfl, ok, upd_same, fun H' fs kb ex sf tx ss => ⟨rfl, k x H' (fun b o e => ?_) (s1.free nx) ⟨dx, fs, ex, sf, tx, ss⟩⟩⟩
    exact kb b o (ne_of_none (s1 _ _ e) nx) (sM _ _ (s1 _ _ e))
end
end K6
set_option Elab.async false
set_option linter.all false
set_option maxRecDepth 100000
set_option maxHeartbeats 4000000
set_option pp.maxSteps 1200
set_option pp.deepTerms false
namespace K6
open PySem PySem.Spec PyProof.Rows L2 Lk
abbrev sWorth : Stmt := top 38
/-- how many parts of the piece are 1 in the record -/
def onesN (L : Lore) (p : List Str) (z : Str) : Nat := ((L.parts.zip (TL.tl z)).filter fun pc => decide (pc.2 = 49 ∧ pc.1 ∈ p)).length
def bitS (n : Nat) : Str := if n % 2 = 1 then "1" else "0"
theorem fm_ones (p : List Str) : ∀ zs : List (Str × Nat), (zs.filterMap fun pc => if pc.2 = 49 ∧ pc.1 ∈ p then some (V.str pc.1) else none) = ((zs.filter fun pc => decide (pc.2 = 49 ∧ pc.1 ∈ p)).map (·.1)).map V.str
  | [] => rfl
  | c :: cs => by
    have ih := fm_ones p cs
    by_cases h : c.2 = 49 ∧ c.1 ∈ p
    · simp only [List.filterMap_cons, if_pos h, List.filter_cons, decide_eq_true h, if_true, List.map_cons, ih]
    · simp only [List.filterMap_cons, if_neg h, List.filter_cons, decide_eq_false h, Bool.false_eq_true, if_false, ih]
section
variable {P : Program} {w : World} {K : PySem.W.Frag} {mg : Str → Option Value} {base : Heap} {f : Addr} {fd : FuncData}
/-! ### worth -/
def spWorth (C CS : Addr) : Sp := fun vs H Q _ => ∃ (x t : Addr) (L : Lore) (p : List Str) (z : Str), vs = [.ref x, .ref t, .str z] ∧ ShAt H C CS x L ∧ LoreOk L ∧ H t = some (.tup (p.map V.str)) ∧ RecOk L z ∧ ∀ H', Same H H' → Q (.str (bitS (onesN L p z))) H'
theorem scWorth : FnScope ["shelf", "piece", "record", "ones", "part", "sign"] ["shelf", "piece", "record"] (defScope sWorth) := ⟨rfl, rfl, rfl, by decide +kernel, rfl, by decide +kernel, by decide +kernel⟩
theorem ok_worth {C CS fS : Addr} (F : Fun K "worth" "worth" sWorth f fd) (T : Bl mg) (Cc : Cn mg) (SC : ShC K CS fS) : FnOk P w K mg base CX0 1 f fd ["shelf", "piece", "record"] (spWorth C CS) := by
  refine F.ok scWorth (fun vs H Q E h => ?_) (fun cdv A outer s H vs Q E hr h => ?_)
  · obtain ⟨x, t, L, p, z, rfl, _⟩ := h
    rfl
  · obtain ⟨x, t, L, p, z, rfl, ⟨dx, fs, hx, sf, _⟩, ok, ht, ⟨zl, zb⟩, k⟩ := h
    obtain ⟨pa, lp, tpa⟩ := sf.parts
    have nd := scWorth.nd
    have p4 := ok.p4
    refine ⟨_, pss_cons (ps_setLc (i := 3) (own := [("part", 4), ("sign", 5)]) (g := gTup K 2 (gCons (gName 4) (gCons (gName 5) gNil))) (tt := tAnd (tTest (tOp rEq (tVar 5) (tC (.str "1")))) (tTest (tOp (rIn K false) (tVar 4) (tVar 1)))) (te := tVar 4) rfl nd rfl rfl (sw_true rfl rfl rfl (by decide +kernel))
        (pi_zipS (by rfl) Cc.zip (pa_cons (pe_fld (pv 0) rfl) (pa_cons (pv 2) pa_nil))) (blkOk_by (N := ["shelf", "piece", "record", "ones", "part", "sign"]) (sc := defScope sWorth) (by decide +kernel))
        (fun _ _ _ _ _ => pg_tup rfl (pgs_cons (pg_name (i := 4) nd rfl (.inl rfl)) (pgs_cons (pg_name (i := 5) nd rfl (.inl rfl)) pgs_nil))) (fun _ _ _ _ _ => pts_one (PW.pt (pw_and (pt_cmpR op_eq (pv 5) pe_str (nomark _)) (pw_and1 (pt_cmpR op_in_seq (pv 4) (pv 1) rfl))))) (fun _ _ _ _ _ => pv 4))
      (pss_one (ps_ret (pe_ix ix_str pe_str (pe_op op_odd (pe_callB call_len_seq (by rfl) T.len PySem.boot_len (pa_cons (pv 3) pa_nil)) pe_int) (fun _ _ => rfl)))), ?_⟩
    have zt : (TL.tl z).length = L.parts.length := by rw [← zl]; exact Array.length_toList
    have al : ((TL.tl z).map fun c => V.str ⟨#[c]⟩).length = L.parts.length := by rw [List.length_map, zt]
    have nl : (L.parts.zip (TL.tl z)).length = L.parts.length := by rw [List.length_zip, zt, Nat.min_self]
    have src : ∀ H', Same H H' → SrcAt K (.tup pa) H' (L.parts.map V.str) ∧ SrcAt K (.txt z) H' ((TL.tl z).map fun c => V.str ⟨#[c]⟩) := fun H' s' => ⟨(tpa.same s').sq, rfl⟩
    refine ⟨_, rfl, x, CS, dx, fs, .ref pa, rfl, hx, SC.cls, SC.parts, lp, _, rfl, .tup pa, .txt z, L.parts.map V.str, (TL.tl z).map fun c => V.str ⟨#[c]⟩, rfl, (src H (Same.refl _)).1, rfl, fun D nD => ?_⟩
    refine lc_fm (walk_zipS (s1 := .tup pa) (s2 := .txt z) (n := L.parts.length) (by rw [List.length_map, al, Nat.min_self])) (L.parts.zip (TL.tl z)) (fun pc => if pc.2 = 49 ∧ pc.1 ∈ p then some (V.str pc.1) else none) nl (by omega) nD (fun H' s' => src H' s') ?_ ?_
    · rintro i v pc H1 H1' R Rn hpc s1 ⟨T1, a1, a2, rfl, nT, rfl, e1, e2⟩ k1 k2
      obtain ⟨g1, g2⟩ := List.getElem?_zip_eq_some.mp hpc
      obtain rfl : V.str pc.1 = a1 := by
        have e1 : (L.parts.map V.str)[i]? = some a1 := e1
        rw [List.getElem?_map, g1] at e1
        exact Option.some.inj e1
      obtain rfl : V.str ⟨#[pc.2]⟩ = a2 := by
        have e2 : ((TL.tl z).map fun c => V.str ⟨#[c]⟩)[i]? = some a2 := e2
        rw [List.getElem?_map, g2] at e2
        exact Option.some.inj e2
      have s2 : Same H1 (upd H1 T1 (.tup [.str pc.1, .str ⟨#[pc.2]⟩])) := same_new nT
      refine ⟨T1, _, rfl, SqT.of upd_same, rfl, _, _, rfl, _, _, rfl, rfl, rfl, _, rfl, rfl, _, rfl, ?_⟩
      by_cases h1 : pc.2 = 49
      · refine iteA (decide_eq_true (by rw [h1]; rfl)) ⟨_, rfl, _, rfl, t, _, rfl, .inr (SqT.of (s2 _ _ (s1 _ _ ht))), rfl, flat_strs _, _, rfl, ?_⟩
        rw [inV_str]
        by_cases h2 : pc.1 ∈ p
        · refine iteA (by simp [h2]) ⟨_, rfl, k1 _ _ (if_pos ⟨h1, h2⟩) s2⟩
        · exact iteB (by simp [h2]) (k2 _ (if_neg fun q => h2 q.2) s2)
      · refine iteB (decide_eq_false fun q => h1 ?_) ?_
        · have q2 : (⟨#[pc.2]⟩ : Str) = "1" := V.str.inj q
          have q3 : #[pc.2] = (#[49] : Array Nat) := congrArg Str.cps q2
          have q4 : [pc.2] = [49] := congrArg Array.toList q3
          exact (List.cons.inj q4).1
        · show (if false = true then _ else _)
          exact iteF (k2 _ (if_neg fun q => h1 q.1) s2)
    · intro H1 s1 eD
      rw [fm_ones] at eD
      refine ⟨_, rfl, D, _, rfl, .inl (SqL.of eD), onesN L p z, ?_, rfl, ?_⟩
      · rw [List.length_map, List.length_map]
        rfl
      have m2 : onesN L p z % 2 = 0 ∨ onesN L p z % 2 = 1 := by omega
      rcases m2 with m | m
      · refine ⟨"01", _, 48, rfl, rfl, by rw [sizeLine_eq]; decide, by rw [m]; rfl, ?_⟩
        have : bitS (onesN L p z) = ⟨#[48]⟩ := by unfold bitS; rw [if_neg (by omega)]; rfl
        rw [← this]
        exact k _ s1
      · refine ⟨"01", _, 49, rfl, rfl, by rw [sizeLine_eq]; decide, by rw [m]; rfl, ?_⟩
        have : bitS (onesN L p z) = ⟨#[49]⟩ := by unfold bitS; rw [if_pos m]; rfl
        rw [← this]
        exact k _ s1
end
end K6
set_option Elab.async false
set_option linter.all false
set_option maxRecDepth 100000
set_option maxHeartbeats 4000000
set_option pp.maxSteps 1200
set_option pp.deepTerms false
namespace K6
open PySem PySem.Spec PyProof.Rows L2 Lk
abbrev sAnswer : Stmt := top 27
def answerS (L : Lore) (k : KP) (z : Str) : Str := Txt.join "" (k.2.map fun p => bitS (onesN L p z))
section
variable {P : Program} {w : World} {K : PySem.W.Frag} {mg : Str → Option Value} {base : Heap} {f : Addr} {fd : FuncData}
theorem ShAt.same {H H' : Hp} {C CS x : Addr} {L : Lore} (h : ShAt H C CS x L) (s : Same H H') : ShAt H' C CS x L := by
  obtain ⟨dx, fs, e, sf, tx, p, ts, lp, ep, pr⟩ := h
  exact ⟨dx, fs, s _ _ e, sf.same s, tx, p, ts, lp, s _ _ ep, Paired.mapP pr fun v q ⟨t, e, h⟩ => ⟨t, e, s _ _ h⟩⟩
/-! ### answer -/
def spAnswer (C CS : Addr) : Sp := fun vs H Q _ => ∃ (x : Addr) (L : Lore) (j : Nat) (kq : KP) (z : Str), vs = [.ref x, .str kq.1, .str z] ∧ ShAt H C CS x L ∧ LoreOk L ∧ L.kps[j]? = some kq ∧ RecOk L z ∧ ∀ H', Same H H' → Q (.str (answerS L kq z)) H'
theorem scAnswer : FnScope ["shelf", "keeper", "record", "place", "piece"] ["shelf", "keeper", "record"] (defScope sAnswer) := ⟨rfl, rfl, rfl, by decide +kernel, rfl, by decide +kernel, by decide +kernel⟩
theorem ok_answer {C CS fC fS fK fR fW : Addr} {fdK fdR fdW : FuncData} (F : Fun K "answer" "answer" sAnswer f fd) (CC : CircC K C fC) (SC : ShC K CS fS)
    (GK : FnOk P w K mg base CX0 2 fK fdK ["shelf", "value"] (spRefKeeper C CS)) (kK : PySem.W.keepIn K (.ref fK) = true) (bK : Binds K fdK ["shelf", "value"] []) (mK : mg "refuse_keeper" = some (.ref fK))
    (GR : FnOk P w K mg base CX0 3 fR fdR ["shelf", "value"] (spRefRecord C CS)) (kR : PySem.W.keepIn K (.ref fR) = true) (bR : Binds K fdR ["shelf", "value"] []) (mR : mg "refuse_record" = some (.ref fR))
    (GW : FnOk P w K mg base CX0 1 fW fdW ["shelf", "piece", "record"] (spWorth C CS)) (kW : PySem.W.keepIn K (.ref fW) = true) (bW : Binds K fdW ["shelf", "piece", "record"] []) (mW : mg "worth" = some (.ref fW)) :
    FnOk P w K mg base CX0 4 f fd ["shelf", "keeper", "record"] (spAnswer C CS) := by
  refine F.ok scAnswer (fun vs H Q E h => ?_) (fun cdv A outer s H vs Q E hr h => ?_)
  · obtain ⟨x, L, j, kq, z, rfl, _⟩ := h
    rfl
  · obtain ⟨x, L, j, kq, z, rfl, sh, ok, hj, rc, k⟩ := h
    have nd := scAnswer.nd
    have hr1 : Room 1 _ := hr.mono (by decide)
    have hr2 : Room 2 _ := hr.mono (by decide)
    refine ⟨_, pss_cons (ps_expr (pe_call GK hr2 (by rfl) mK kK bK .nil pass0 (pa_cons (pv 0) (pa_cons (pv 1) pa_nil)))) (pss_cons (ps_expr (pe_call GR hr (by rfl) mR kR bR .nil pass0 (pa_cons (pv 0) (pa_cons (pv 2) pa_nil))))
      (pss_cons (ps_set (i := 3) nd rfl (.inl rfl) (pe_bmX PySem.F.slot_tuple_index PySem.F.type_tuple_index mt_tup_index (pe_fld (pe_fld (pv 0) rfl) rfl) (pa_cons (pv 1) pa_nil)))
      (pss_one (ps_ret (pe_join pe_str (pe_lc (own := [("piece", 4)]) (g := gName 4) (tt := tYes) (te := tCall (spWorth C CS) [] E0 (tCons (tVar 0) (tCons (tVar 4) (tCons (tVar 2) tNil)))) rfl nd (pi_tup (pe_ix ix_tup (pe_fld (pv 0) rfl) (pv 3) (fun _ _ => rfl)))
        (blkOk_by (N := ["shelf", "keeper", "record", "place", "piece"]) (sc := defScope sAnswer) (by decide +kernel)) (fun _ _ _ _ _ => pg_name (i := 4) nd rfl (.inl rfl)) (fun _ _ _ _ _ => pts_nil) (fun _ _ _ _ _ => pe_call GW hr1 (by rfl) mW kW bW .nil pass0 (pa_cons (pv 0) (pa_cons (pv 4) (pa_cons (pv 2) pa_nil)))))))))), ?_⟩
    have km := List.mem_of_getElem? hj
    have kl := (ok.q kq km).2.1
    refine ⟨_, rfl, _, rfl, x, L, kq, rfl, sh, km, ?_⟩
    refine ⟨_, rfl, _, rfl, x, L, z, rfl, sh, ok, rc, fun H1 s1 => ?_⟩
    have sh1 := sh.same s1
    obtain ⟨dx, fs, hx, sf, _⟩ := id sh1
    obtain ⟨c, lc, cdx, nm, ec, en⟩ := sf.circle
    obtain ⟨q, lq, rows, eq, pr⟩ := sf.pieces
    obtain ⟨v, hv, r, ts, rfl, er, ep⟩ := paired_get pr hj
    have kn : (L.kps.map (·.1))[j]? = some kq.1 := by rw [List.getElem?_map, hj]; rfl
    refine ⟨_, rfl, x, CS, dx, fs, .ref c, rfl, hx, SC.cls, SC.circle, lc, c, C, cdx, _, .ref nm, rfl, ec, CC.cls, CC.nm, rfl, ⟨nm, _, rfl, en⟩, _, rfl, nm, L.kps.map (·.1), kq.1, j, rfl, rfl, en.sq, kn, first_at ok.kn kn, ?_⟩
    obtain ⟨zs, z1, z2, z3⟩ := paired_zip ep
    have zl : zs.length = kq.2.length := by rw [← z2, List.length_map]
    refine ⟨⟨_, rfl⟩, _, rfl, x, CS, dx, fs, .ref q, rfl, hx, SC.cls, SC.pieces, lq, _, rfl, q, rows, _, .ref r, rfl, rfl, SqT.of eq, atN hv, r, rfl, ⟨_, SqT.of er⟩, fun D nD => lc_fm (walk_tup (a := r) (xs := ts)) zs (fun y => some (V.str (bitS (onesN L y.2 z)))) (by rw [← z1, List.length_map]) (by rw [← z1, List.length_map]; omega) nD (fun H s => sqT_same s (SqT.of er)) ?_ ?_⟩
    · rintro i u y H2 H2' R Rn hy s2 ⟨rfl, hu⟩ k1 k2
      obtain ⟨t, et, eh⟩ := z3 y (List.mem_of_getElem? hy)
      obtain rfl : V.ref t = u := by
        rw [← z1, List.getElem?_map, hy] at hu
        rw [← et]
        exact Option.some.inj hu
      exact ⟨rfl, _, rfl, _, rfl, _, rfl, x, t, L, y.2, z, rfl, sh1.same s2, ok, s2 _ _ eh, rc, fun H3 s3 => k1 _ _ rfl s3⟩
    · intro H2 s2 eD
      have fe : (zs.filterMap fun y => some (V.str (bitS (onesN L y.2 z)))) = (kq.2.map fun p => bitS (onesN L p z)).map V.str := by
        rw [← z2]
        simp [Function.comp_def]
      rw [fe] at eD
      have one : ∀ n, (bitS n).length ≤ 1 := fun n => by
        unfold bitS
        split <;> decide
      refine ⟨"", D, kq.2.map fun p => bitS (onesN L p z), rfl, rfl, .inl (SqL.of eD), ?_, k _ (s1.trans s2)⟩
      refine Nat.le_trans (join_le (s := ("" : Str)) (n := 2) (c := 1) (by rw [List.length_map]; exact kl) fun y hy => ?_).1 (by decide)
      obtain ⟨p, _, rfl⟩ := List.mem_map.mp hy
      exact one _
end
end K6
set_option Elab.async false
set_option linter.all false
set_option maxRecDepth 100000
set_option maxHeartbeats 4000000
set_option pp.maxSteps 1200
set_option pp.deepTerms false
namespace K6
open PySem PySem.Spec PyProof.Rows L2 Lk
theorem sum_ones (p : List Str) : ∀ zs : List (Str × Nat), (∀ pc ∈ zs, pc.2 = 48 ∨ pc.2 = 49) → ((zs.filter fun pc => decide (pc.1 ∈ p)).map fun pc => (pc.2 : Int) - 48).sum = ((zs.filter fun pc => decide (pc.2 = 49 ∧ pc.1 ∈ p)).length : Int)
  | [], _ => rfl
  | c :: cs, h => by
    have ih := sum_ones p cs fun y hy => h y (List.mem_cons_of_mem _ hy)
    have hc := h c List.mem_cons_self
    by_cases m : c.1 ∈ p
    · rcases hc with e | e
      · have n : ¬ (c.2 = 49 ∧ c.1 ∈ p) := fun q => by omega
        simp only [List.filter_cons, decide_eq_true m, decide_eq_false n, if_true, Bool.false_eq_true, if_false, List.map_cons, List.sum_cons, ih]
        omega
      · have n : c.2 = 49 ∧ c.1 ∈ p := ⟨e, m⟩
        simp only [List.filter_cons, decide_eq_true m, decide_eq_true n, if_true, List.map_cons, List.sum_cons, List.length_cons, ih]
        omega
    · have n : ¬ (c.2 = 49 ∧ c.1 ∈ p) := fun q => m q.2
      simp only [List.filter_cons, decide_eq_false m, decide_eq_false n, Bool.false_eq_true, if_false, ih]
theorem fm_in (p : List Str) : ∀ zs : List (Str × Nat), (zs.filterMap fun pc => if pc.1 ∈ p then some (V.int ((pc.2 : Int) - 48)) else none) = ((zs.filter fun pc => decide (pc.1 ∈ p)).map fun pc => (pc.2 : Int) - 48).map V.int
  | [] => rfl
  | c :: cs => by
    have ih := fm_in p cs
    by_cases h : c.1 ∈ p
    · simp only [List.filterMap_cons, if_pos h, List.filter_cons, decide_eq_true h, if_true, List.map_cons, ih]
    · simp only [List.filterMap_cons, if_neg h, List.filter_cons, decide_eq_false h, Bool.false_eq_true, if_false, ih]
theorem int_sign {c : Nat} (h : c = 48 ∨ c = 49) : PySem.intText? ⟨#[c]⟩ = some ((c : Int) - 48) := by
  rcases h with rfl | rfl
  · decide +kernel
  · decide +kernel
def rIntS : List V → Hp → VK → Prop := fun xs H Q => ∃ a n, xs = [.str a] ∧ PySem.intText? a = some n ∧ a.length ≤ 640 ∧ Q (.int n) H
section
variable {P : Program} {w : World} {K : PySem.W.Frag} {mg : Str → Option Value} {base : Heap} {f : Addr} {fd : FuncData}
/-! ### _law_value -/
def spValue : Sp := fun vs H Q _ => ∃ (a lo t : Addr) (L : Lore) (p : List Str) (z : Str), vs = [.ref lo, .ref t, .str z] ∧ LoreAt a H lo L ∧ L.parts.length ≤ 4 ∧ H t = some (.tup (p.map V.str)) ∧ RecOk L z ∧ ∀ H', Same H H' → Q (.int ((onesN L p z : Int) % 2)) H'
theorem scValue : FnScope ["lore", "piece", "record", "part", "sign"] ["lore", "piece", "record"] (defScope sValue) := ⟨rfl, rfl, rfl, by decide +kernel, rfl, by decide +kernel, by decide +kernel⟩
theorem ok_value (F : Fun K "_law_value" "_law_value" sValue f fd) (T : Bl mg) (Cc : Cn mg) : FnOk P w K mg base CX0 1 f fd ["lore", "piece", "record"] spValue := by
  refine F.ok scValue (fun vs H Q E h => ?_) (fun cdv A outer s H vs Q E hr h => ?_)
  · obtain ⟨a, lo, t, L, p, z, rfl, _⟩ := h
    rfl
  · obtain ⟨a, lo, t, L, p, z, rfl, ⟨pa, ks, rows, e1, e2, e3, n0, e4⟩, p4, ht, ⟨zl, zb⟩, k⟩ := h
    have nd := scValue.nd
    have hu := hu_of hr
    refine ⟨_, pss_one (ps_ret (pe_op op_mod (pe_callB (cr_sum rfl) (by rfl) Cc.sum boot_sum (pa_cons (pe_lc (own := [("part", 3), ("sign", 4)]) (g := gTup K 2 (gCons (gName 3) (gCons (gName 4) gNil))) (tt := tTest (tOp (rIn K false) (tVar 3) (tVar 1))) (te := tCB rIntS (tCons (tVar 4) tNil)) rfl nd
        (pi_zipS (by rfl) Cc.zip (pa_cons (pe_dget hu (pv 0) pe_str (fun _ _ => rfl)) (pa_cons (pv 2) pa_nil))) (blkOk_by (N := ["lore", "piece", "record", "part", "sign"]) (sc := defScope sValue) (by decide +kernel))
        (fun _ _ _ _ _ => pg_tup rfl (pgs_cons (pg_name (i := 3) nd rfl (.inl rfl)) (pgs_cons (pg_name (i := 4) nd rfl (.inl rfl)) pgs_nil))) (fun _ _ _ _ _ => pts_one (pt_cmpR op_in_seq (pv 3) (pv 1) rfl)) (fun _ _ _ _ _ => pe_callTy call_int_str (by rfl) T.int boot_int (pa_cons (pv 4) pa_nil))) pa_nil)) pe_int)), ?_⟩
    have zt : (TL.tl z).length = L.parts.length := by rw [← zl]; exact Array.length_toList
    have al : ((TL.tl z).map fun c => V.str ⟨#[c]⟩).length = L.parts.length := by rw [List.length_map, zt]
    have nl : (L.parts.zip (TL.tl z)).length = L.parts.length := by rw [List.length_zip, zt, Nat.min_self]
    have src : ∀ H', Same H H' → SrcAt K (.tup pa) H' (L.parts.map V.str) ∧ SrcAt K (.txt z) H' ((TL.tl z).map fun c => V.str ⟨#[c]⟩) := fun H' s' => ⟨SqT.of (s' _ _ e2), rfl⟩
    refine ⟨_, rfl, lo, _, rfl, (dget2 e1).1, _, rfl, .tup pa, .txt z, L.parts.map V.str, (TL.tl z).map fun c => V.str ⟨#[c]⟩, rfl, (src H (Same.refl _)).1, rfl, fun D nD => ?_⟩
    refine lc_fm (walk_zipS (s1 := .tup pa) (s2 := .txt z) (n := L.parts.length) (by rw [List.length_map, al, Nat.min_self])) (L.parts.zip (TL.tl z)) (fun pc => if pc.1 ∈ p then some (V.int ((pc.2 : Int) - 48)) else none) nl (by omega) nD (fun H' s' => src H' s') ?_ ?_
    · rintro i v pc H1 H1' R Rn hpc s1 ⟨T1, a1, a2, rfl, nT, rfl, f1, f2⟩ k1 k2
      obtain ⟨g1, g2⟩ := List.getElem?_zip_eq_some.mp hpc
      obtain rfl : V.str pc.1 = a1 := by
        have f1 : (L.parts.map V.str)[i]? = some a1 := f1
        rw [List.getElem?_map, g1] at f1
        exact Option.some.inj f1
      obtain rfl : V.str ⟨#[pc.2]⟩ = a2 := by
        have f2 : ((TL.tl z).map fun c => V.str ⟨#[c]⟩)[i]? = some a2 := f2
        rw [List.getElem?_map, g2] at f2
        exact Option.some.inj f2
      have bit := zb pc.2 (List.mem_of_getElem? g2)
      have s2 : Same H1 (upd H1 T1 (.tup [.str pc.1, .str ⟨#[pc.2]⟩])) := same_new nT
      refine ⟨T1, _, rfl, SqT.of upd_same, rfl, _, _, rfl, _, _, rfl, rfl, rfl, _, rfl, _, rfl, t, _, rfl, .inr (SqT.of (s2 _ _ (s1 _ _ ht))), rfl, flat_strs _, _, rfl, ?_⟩
      rw [inV_str]
      by_cases h2 : pc.1 ∈ p
      · refine iteA (by simp [h2]) ⟨_, rfl, ⟨#[pc.2]⟩, _, rfl, int_sign bit, by show 1 ≤ 640; decide, k1 _ _ (if_pos h2) s2⟩
      · exact iteB (by simp [h2]) (k2 _ (if_neg h2) s2)
    · intro H1 s1 eD
      rw [fm_in] at eD
      refine ⟨D, _, rfl, SqL.of eD, _, _, rfl, rfl, (show (0 : Int) < 2 by decide), ?_⟩
      rw [sum_ones p _ fun pc hpc => zb pc.2 (List.of_mem_zip hpc).2]
      exact k _ s1
end
end K6
set_option Elab.async false
set_option linter.all false
set_option maxRecDepth 100000
set_option maxHeartbeats 4000000
set_option pp.maxSteps 1200
set_option pp.deepTerms false
namespace K6
open PySem PySem.Spec PyProof.Rows L2 Lk
abbrev sLAnswer : Stmt := top 57
theorem merge_not {k : Key} : ∀ {more b : List (Key × V)}, k ∉ more.map (·.1) → valV (mergeK b more) k = valV b k
  | [], _, _ => rfl
  | p :: more, b, h => by
    show valV (mergeK (putK b p.1 p.2) more) k = _
    rw [merge_not fun q => h (List.mem_cons_of_mem _ q), valV_put, if_neg fun e => h (by rw [e]; exact List.mem_cons_self)]
theorem merge_at {k : Key} {v : V} : ∀ {more b : List (Key × V)}, (more.map (·.1)).Nodup → (k, v) ∈ more → valV (mergeK b more) k = some v
  | [], _, _, h => by simp at h
  | p :: more, b, nd, h => by
    have nd2 := List.nodup_cons.mp nd
    show valV (mergeK (putK b p.1 p.2) more) k = _
    rcases List.mem_cons.mp h with e | h
    · subst e
      rw [merge_not nd2.1, valV_put, if_pos rfl]
    · exact merge_at nd2.2 h
theorem rows_pairs {K : PySem.W.Frag} {H : Hp} : ∀ {rows : List V} {ks : List KP}, Rows H rows ks → ∃ (ps : List Addr) (kvs : List (Key × V)), rows = ps.map V.ref ∧ Paired (fun p (kv : Key × V) => SqT K H p [kV kv.1, kv.2]) ps kvs ∧
    Paired (fun (kv : Key × V) (k : KP) => kv.1 = .inr k.1 ∧ ∃ q ts, kv.2 = .ref q ∧ H q = some (.tup ts) ∧ Pieces H ts k.2) kvs ks
  | _, _, .nil => ⟨[], [], rfl, .nil, .nil⟩
  | _, _, .cons (b := k) h t => by
    obtain ⟨r, q, ts, rfl, h1, h2, h3⟩ := h
    obtain ⟨ps, kvs, e, p1, p2⟩ := rows_pairs (K := K) t
    exact ⟨r :: ps, (.inr k.1, .ref q) :: kvs, by rw [e]; rfl, .cons (SqT.of h1) p1, .cons ⟨rfl, q, ts, rfl, h2, h3⟩ p2⟩
theorem paired_keys {α β γ : Type} {R : α → β → Prop} {u : α → γ} {v : β → γ} (h : ∀ x y, R x y → u x = v y) : ∀ {xs : List α} {ys : List β}, Paired R xs ys → xs.map u = ys.map v
  | _, _, .nil => rfl
  | _, _, .cons r t => by rw [List.map_cons, List.map_cons, h _ _ r, paired_keys h t]
def rStrI : List V → Hp → VK → Prop := fun xs H Q => ∃ i : Int, xs = [.int i] ∧ i.natAbs.log2 < 1920 ∧ Q (.str (toString i)) H
theorem bit_text (n : Nat) : ((n : Int) % 2).natAbs.log2 < 1920 ∧ (toString ((n : Int) % 2) : Str) = bitS n := by
  have : (n : Int) % 2 = 0 ∧ n % 2 = 0 ∨ (n : Int) % 2 = 1 ∧ n % 2 = 1 := by omega
  unfold bitS
  rcases this with ⟨e, e2⟩ | ⟨e, e2⟩
  · rw [e, if_neg (by omega)]
    exact ⟨by decide +kernel, by decide +kernel⟩
  · rw [e, if_pos e2]
    exact ⟨by decide +kernel, by decide +kernel⟩
section
variable {P : Program} {w : World} {K : PySem.W.Frag} {mg : Str → Option Value} {base : Heap} {f : Addr} {fd : FuncData}
/-! ### _law_answer -/
def spLAnswer : Sp := fun vs H Q _ => ∃ (a lo : Addr) (L : Lore) (j : Nat) (kq : KP) (z : Str), vs = [.ref lo, .str kq.1, .str z] ∧ LoreAt a H lo L ∧ LoreOk L ∧ L.kps[j]? = some kq ∧ RecOk L z ∧ ∀ H', Same H H' → Q (.str (answerS L kq z)) H'
theorem scLAnswer : FnScope ["lore", "keeper", "record", "pieces", "piece"] ["lore", "keeper", "record"] (defScope sLAnswer) := ⟨rfl, rfl, rfl, by decide +kernel, rfl, by decide +kernel, by decide +kernel⟩
theorem ok_lanswer {fV : Addr} {fdV : FuncData} (F : Fun K "_law_answer" "_law_answer" sLAnswer f fd) (T : Bl mg) (Cc : Cn mg) (FV : Fun K "_law_value" "_law_value" sValue fV fdV) (bV : Binds K fdV ["lore", "piece", "record"] []) (mV : mg "_law_value" = some (.ref fV)) :
    FnOk P w K mg base CX0 2 f fd ["lore", "keeper", "record"] spLAnswer := by
  have GV : FnOk P w K mg base CX0 1 fV fdV ["lore", "piece", "record"] spValue := ok_value FV T Cc
  refine F.ok scLAnswer (fun vs H Q E h => ?_) (fun cdv A outer s H vs Q E hr h => ?_)
  · obtain ⟨a, lo, L, j, kq, z, rfl, _⟩ := h
    rfl
  · obtain ⟨a, lo, L, j, kq, z, rfl, la, ok, hj, rc, k⟩ := h
    obtain ⟨pa, ks, rows, e1, e2, e3, n0, e4⟩ := id la
    have nd := scLAnswer.nd
    have hu := hu_of hr
    refine ⟨_, pss_cons (ps_set (i := 3) nd rfl (.inl rfl) (pe_dget hu (pe_callTy (call_dictP rfl) (by rfl) Cc.dict boot_dict (pa_cons (pe_dget hu (pv 0) pe_str (fun _ _ => rfl)) pa_nil)) (pv 1) (fun _ _ => rfl)))
      (pss_one (ps_ret (pe_join pe_str (pe_lc (own := [("piece", 4)]) (g := gName 4) (tt := tYes) (te := tCB rStrI (tCons (tCall spValue [] E0 (tCons (tVar 0) (tCons (tVar 4) (tCons (tVar 2) tNil)))) tNil)) rfl nd (pi_tup (pv 3))
        (blkOk_by (N := ["lore", "keeper", "record", "pieces", "piece"]) (sc := defScope sLAnswer) (by decide +kernel)) (fun _ _ _ _ _ => pg_name (i := 4) nd rfl (.inl rfl)) (fun _ _ _ _ _ => pts_nil)
        (fun _ _ _ _ _ => pe_callTy call_str_int (by rfl) Cc.str boot_str (pa_cons (pe_call GV hr (by rfl) mV FV.kp bV .nil pass0 (pa_cons (pv 0) (pa_cons (pv 4) (pa_cons (pv 2) pa_nil)))) pa_nil)))))), ?_⟩
    obtain ⟨ps, kvs, rfl, p1, p2⟩ := rows_pairs (K := K) e4
    obtain ⟨⟨kk, kv⟩, hkv, hk1, q, ts, hq, eq, ep⟩ := paired_get p2 hj
    dsimp only at hk1 hq
    subst hk1 hq
    have keys : (kvs.map (·.1)) = L.kps.map fun k => (.inr k.1 : Key) := paired_keys (fun _ _ h => h.1) p2
    have kn : (kvs.map (·.1)).Nodup := by
      rw [keys]
      have := ok.kn
      rw [List.nodup_iff_pairwise_ne, List.pairwise_map] at this ⊢
      exact this.imp fun h e => h (Sum.inr.inj e)
    have kl := (ok.q kq (List.mem_of_getElem? hj)).2.1
    refine ⟨_, rfl, lo, _, rfl, (dget2 e1).2, ks, ps, kvs, rfl, SqL.of e3, p1, fun d nd2 => ?_⟩
    have s1 : Same H (upd H d (.dK (mergeK [] kvs))) := same_new nd2
    refine ⟨_, rfl, d, .ref q, rfl, .inl ⟨_, .inr kq.1, .inl upd_same, rfl, (merge_at kn (List.mem_of_getElem? hkv)).symm⟩, ?_⟩
    generalize upd H d (.dK (mergeK [] kvs)) = H1 at s1 ⊢
    obtain ⟨zs, z1, z2, z3⟩ := paired_zip ep
    have zl : zs.length = kq.2.length := by rw [← z2, List.length_map]
    refine ⟨⟨_, rfl⟩, _, rfl, q, rfl, ⟨_, SqT.of (s1 _ _ eq)⟩, fun D nD => lc_fm (walk_tup (a := q) (xs := ts)) zs (fun y => some (V.str (bitS (onesN L y.2 z)))) (by rw [← z1, List.length_map]) (by rw [← z1, List.length_map]; omega) nD (fun H s => sqT_same s (SqT.of (s1 _ _ eq))) ?_ ?_⟩
    · rintro i u y H2 H2' R Rn hy s2 ⟨rfl, hu2⟩ k1 k2
      obtain ⟨t, et, eh⟩ := z3 y (List.mem_of_getElem? hy)
      obtain rfl : V.ref t = u := by
        rw [← z1, List.getElem?_map, hy] at hu2
        rw [← et]
        exact Option.some.inj hu2
      obtain ⟨b1, b2⟩ := bit_text (onesN L y.2 z)
      refine ⟨rfl, _, rfl, _, rfl, _, rfl, a, lo, t, L, y.2, z, rfl, (la.same s1).same s2, ok.p4, s2 _ _ (s1 _ _ eh), rc, fun H3 s3 => ⟨_, rfl, b1, ?_⟩⟩
      rw [b2]
      exact k1 _ _ rfl s3
    · intro H2 s2 eD
      have fe : (zs.filterMap fun y => some (V.str (bitS (onesN L y.2 z)))) = (kq.2.map fun p => bitS (onesN L p z)).map V.str := by
        rw [← z2]
        simp [Function.comp_def]
      rw [fe] at eD
      refine ⟨"", D, kq.2.map fun p => bitS (onesN L p z), rfl, rfl, .inl (SqL.of eD), ?_, k _ (s1.trans s2)⟩
      refine Nat.le_trans (join_le (s := ("" : Str)) (n := 2) (c := 1) (by rw [List.length_map]; exact kl) fun y hy => ?_).1 (by decide)
      obtain ⟨p, _, rfl⟩ := List.mem_map.mp hy
      unfold bitS
      split <;> decide
end
end K6
set_option Elab.async false
set_option linter.all false
set_option maxRecDepth 100000
set_option maxHeartbeats 4000000
set_option pp.maxSteps 1200
set_option pp.deepTerms false
namespace K6
open PySem PySem.Spec PyProof.Rows L2 Lk
abbrev sIsInt : Stmt := top 10
abbrev sIsRow : Stmt := top 11
abbrev sIsSum : Stmt := top 40
/-! ### spots as data -/
def spD (s : Spot) : PyData := .tuple [.str s.1, .int (s.2 : Int)]
def SpOk (zs : List Spot) : Prop := ∀ s ∈ zs, PyData.strOk s.1 = true
theorem spD_lay {s : Spot} (h : PyData.strOk s.1 = true) : (spD s).canLay0 = true := by simp [spD, PyData.canLay0, PyData.canLayAll0, h]
theorem spD_depth (s : Spot) : (spD s).depth = 1 := by simp [spD, PyData.depth, PyData.depthAll]
theorem spDs_lay : ∀ {zs : List Spot}, SpOk zs → PyData.canLayAll0 (zs.map spD) = true
  | [], _ => by simp [PyData.canLayAll0]
  | z :: zs, h => by simp [PyData.canLayAll0, spD_lay (h z List.mem_cons_self), spDs_lay fun s hs => h s (List.mem_cons_of_mem _ hs)]
theorem spDs_depth : ∀ zs : List Spot, PyData.depthAll (zs.map spD) ≤ 1
  | [] => by simp [PyData.depthAll]
  | z :: zs => by
    have h1 := spDs_depth zs
    have h2 := spD_depth z
    simp only [List.map_cons, PyData.depthAll]
    omega
theorem spD_shaped {z : Spot} (hz : PyData.strOk z.1 = true) : SeqAt.shaped (spD z) = true := by
  have h := spD_depth z
  show ((spD z).canLay0 && decide ((spD z).depth ≤ 64)) = true
  rw [Bool.and_eq_true]
  exact ⟨spD_lay hz, decide_eq_true (by omega)⟩
theorem spDs_shaped {zs : List Spot} (hz : SpOk zs) : SeqAt.shaped (.tuple (zs.map spD)) = true := by
  have h1 := spDs_depth zs
  have h2 : PyData.depth (.tuple (zs.map spD)) ≤ 64 := by
    simp only [PyData.depth]
    omega
  show (PyData.canLay0 (.tuple (zs.map spD)) && decide (PyData.depth (.tuple (zs.map spD)) ≤ 64)) = true
  rw [Bool.and_eq_true]
  exact ⟨by simp only [PyData.canLay0]; exact spDs_lay hz, decide_eq_true h2⟩
theorem spD_eqv (z y : Spot) : PyData.eqv (spD z) (spD y) = decide (z = y) := by
  obtain ⟨a, b⟩ := z
  obtain ⟨c, d⟩ := y
  have e : PyData.eqv (spD (a, b)) (spD (c, d)) = ((a == c) && (((b : Int) == (d : Int)) && true)) := by simp only [spD, PyData.eqv, PyData.eqvAll]
  rw [e]
  by_cases h : ((a, b) : Spot) = (c, d)
  · cases h
    simp
  · rw [decide_eq_false h]
    by_cases h1 : a = c
    · by_cases h2 : b = d
      · exact absurd (by rw [h1, h2]) h
      · have q : ((b : Int) == (d : Int)) = false := beq_eq_false_iff_ne.mpr (by omega)
        rw [q, Bool.false_and, Bool.and_false]
    · have q : (a == c) = false := beq_eq_false_iff_ne.mpr h1
      rw [q, Bool.false_and]
theorem spDs_any (ss : List Spot) (s : Spot) : ((ss.map spD).any fun z => PyData.eqv z (spD s)) = decide (s ∈ ss) := by
  induction ss with
  | nil => simp
  | cons z zs ih =>
    rw [List.map_cons, List.any_cons, ih, spD_eqv]
    by_cases h1 : z = s
    · simp [h1]
    · have h2 : s ≠ z := fun e => h1 e.symm
      simp [h1, h2]
theorem dp_spots {K : PySem.W.Frag} {H : Hp} : ∀ {ts : List V} {ss : List Spot}, Paired (RelS H) ts ss → DpAll K H ts (ss.map spD)
  | _, _, .nil => .nil
  | _, _, .cons h t => by
    obtain ⟨p, rfl, e⟩ := h
    exact .cons (.tup (SqT.of e) (.cons (.str _) (.cons (.int _) .nil))) (dp_spots t)
theorem spots_nodup : ∀ {ks : List KP}, (ks.map (·.1)).Nodup → (spotsOf ks).Nodup
  | [], _ => List.nodup_nil
  | k :: ks, h => by
    have h2 := List.nodup_cons.mp h
    show ((List.range k.2.length).map (fun i => (k.1, i)) ++ spotsOf ks).Nodup
    rw [List.nodup_append]
    refine ⟨?_, spots_nodup h2.2, ?_⟩
    · rw [List.nodup_iff_pairwise_ne, List.pairwise_map]
      exact (List.nodup_iff_pairwise_ne.mp List.nodup_range).imp fun h e => h (Prod.mk.inj e).2
    · intro x hx y hy e
      obtain ⟨i, _, rfl⟩ := List.mem_map.mp hx
      subst e
      obtain ⟨q, hq, hy⟩ := List.mem_flatMap.mp hy
      obtain ⟨j, _, e⟩ := List.mem_map.mp hy
      exact h2.1 (List.mem_map.mpr ⟨q, hq, (Prod.mk.inj e).1⟩)
theorem sub_filter {ss zs : List Spot} (h : ss.Sublist zs) : zs.Nodup → zs.filter (fun z => decide (z ∈ ss)) = ss := by
  induction h with
  | slnil => intro _; rfl
  | cons a h ih =>
    intro nd
    have n2 := List.nodup_cons.mp nd
    have : a ∉ _ := fun q => n2.1 (h.subset q)
    rw [List.filter_cons_of_neg (by simpa using this)]
    exact ih n2.2
  | cons_cons a h ih =>
    rename_i l1 l2
    intro nd
    have n2 := List.nodup_cons.mp nd
    rw [List.filter_cons_of_pos (by simp)]
    have e : l2.filter (fun z => decide (z ∈ a :: l1)) = l2.filter (fun z => decide (z ∈ l1)) := by
      refine List.filter_congr fun z hz => ?_
      have : z ≠ a := fun q => n2.1 (q ▸ hz)
      simp [this]
    rw [e, ih n2.2]
theorem names_strOk : ∀ p ∈ namePool, PyData.strOk p = true := by decide +kernel
theorem spots_ok {L : Lore} (ok : LoreOk L) : SpOk (spotsOf L.kps) := fun s hs => by
  obtain ⟨kq, hk, hs⟩ := List.mem_flatMap.mp hs
  obtain ⟨i, _, rfl⟩ := List.mem_map.mp hs
  exact names_strOk _ (ok.kp kq hk)
theorem paired_fm {H : Hp} (ss : List Spot) : ∀ ys : List (V × Spot), (∀ z ∈ ys, RelS H z.1 z.2) → Paired (RelS H) (ys.filterMap fun y => if y.2 ∈ ss then some y.1 else none) ((ys.map (·.2)).filter fun z => decide (z ∈ ss))
  | [], _ => .nil
  | y :: ys, h => by
    have ih := paired_fm ss ys fun z hz => h z (List.mem_cons_of_mem _ hz)
    by_cases m : y.2 ∈ ss
    · rw [List.filterMap_cons, if_pos m, List.map_cons, List.filter_cons_of_pos (by simpa using m)]
      exact .cons (h y List.mem_cons_self) ih
    · rw [List.filterMap_cons, if_neg m, List.map_cons, List.filter_cons_of_neg (by simpa using m)]
      exact ih
section
variable {P : Program} {w : World} {K : PySem.W.Frag} {mg : Str → Option Value} {base : Heap} {f : Addr} {fd : FuncData}
/-! ### is_integer, is_row, is_sum -/
def spIsInt : Sp := fun vs H Q _ => ∃ i : Int, vs = [.int i] ∧ Q (.bl true) H
theorem scIsInt : FnScope ["value"] ["value"] (defScope sIsInt) := ⟨rfl, rfl, rfl, by decide +kernel, rfl, by decide +kernel, by decide +kernel⟩
theorem ok_isInt (F : Fun K "is_integer" "is_integer" sIsInt f fd) (T : Bl mg) (hB : mg "bool" = none) : FnOk P w K mg base CX0 1 f fd ["value"] spIsInt := by
  refine F.ok scIsInt (fun vs H Q E h => ?_) (fun cdv A outer s H vs Q E hr h => ?_)
  · obtain ⟨i, rfl, _⟩ := h
    rfl
  · obtain ⟨i, rfl, k⟩ := h
    refine ⟨_, pss_one (ps_ret (pe_and (pe_callB call_isi (by rfl) T.isin boot_isinstance (pa_cons (pv 0) (pa_cons (pe_bltn (v := .ty "int") (by rfl) T.int rfl rfl) pa_nil)))
      (pe_one (pe_not (pe_callB call_isi (by rfl) T.isin boot_isinstance (pa_cons (pv 0) (pa_cons (pe_bltn (v := .ty "bool") (by rfl) hB rfl rfl) pa_nil))))))), ?_⟩
    refine ⟨_, rfl, _, _, _, _, true, rfl, .ty _, .base (.int _), by rfl, _, rfl, iteT ?_⟩
    exact ⟨_, rfl, _, _, _, _, false, rfl, .ty _, .base (.int _), by rfl, _, rfl, k⟩
def spIsRow : Sp := fun vs H Q _ => ∃ (t : Addr) (xs : List V) (n : Int), vs = [.ref t, .int n] ∧ H t = some (.tup xs) ∧ Q (.bl (decide (V.int xs.length = V.int n))) H
theorem scIsRow : FnScope ["value", "many"] ["value", "many"] (defScope sIsRow) := ⟨rfl, rfl, rfl, by decide +kernel, rfl, by decide +kernel, by decide +kernel⟩
theorem ok_isRow (F : Fun K "is_row" "is_row" sIsRow f fd) (T : Bl mg) (Cc : Cn mg) : FnOk P w K mg base CX0 1 f fd ["value", "many"] spIsRow := by
  refine F.ok scIsRow (fun vs H Q E h => ?_) (fun cdv A outer s H vs Q E hr h => ?_)
  · obtain ⟨t, xs, n, rfl, _⟩ := h
    rfl
  · obtain ⟨t, xs, n, rfl, ht, k⟩ := h
    refine ⟨_, pss_one (ps_ret (pe_and (pe_callB call_isi (by rfl) T.isin boot_isinstance (pa_cons (pv 0) (pa_cons (pe_bltn (v := .ty "tuple") (by rfl) Cc.tuple rfl rfl) pa_nil)))
      (pe_one (pe_cmpR op_eq (pe_callB call_len_seq (by rfl) T.len PySem.boot_len (pa_cons (pv 0) pa_nil)) (pv 1) (nomark _))))), ?_⟩
    refine ⟨_, rfl, _, _, _, _, true, rfl, .ty _, .base (.tup ht), by rfl, _, rfl, iteT ?_⟩
    exact ⟨_, rfl, t, _, rfl, .inr (SqT.of ht), _, rfl, rfl, k⟩
def spIsSum (C CS : Addr) : Sp := fun vs H Q _ => ∃ (x p : Addr) (L : Lore) (ts : List V) (ss : List Spot), vs = [.ref x, .ref p] ∧ ShAt H C CS x L ∧ LoreOk L ∧ H p = some (.tup ts) ∧ Paired (RelS H) ts ss ∧ ss.Sublist (spotsOf L.kps) ∧ ∀ H', Same H H' → Q (.bl true) H'
theorem scIsSum : FnScope ["shelf", "value", "spot"] ["shelf", "value"] (defScope sIsSum) := ⟨rfl, rfl, rfl, by decide +kernel, rfl, by decide +kernel, by decide +kernel⟩
theorem ok_isSum {C CS fS fI fR : Addr} {fdI fdR : FuncData} (F : Fun K "is_sum" "is_sum" sIsSum f fd) (T : Bl mg) (Cc : Cn mg) (hB : mg "bool" = none) (SC : ShC K CS fS)
    (FI : Fun K "is_integer" "is_integer" sIsInt fI fdI) (bI : Binds K fdI ["value"] []) (mI : mg "is_integer" = some (.ref fI))
    (FR : Fun K "is_row" "is_row" sIsRow fR fdR) (bR : Binds K fdR ["value", "many"] []) (mR : mg "is_row" = some (.ref fR)) :
    FnOk P w K mg base CX0 2 f fd ["shelf", "value"] (spIsSum C CS) := by
  have GI : FnOk P w K mg base CX0 1 fI fdI ["value"] spIsInt := ok_isInt FI T hB
  have GR : FnOk P w K mg base CX0 1 fR fdR ["value", "many"] spIsRow := ok_isRow FR T Cc
  refine F.ok scIsSum (fun vs H Q E h => ?_) (fun cdv A outer s H vs Q E hr h => ?_)
  · obtain ⟨x, p, L, ts, ss, rfl, _⟩ := h
    rfl
  · obtain ⟨x, p, L, ts, ss, rfl, sh, ok, hp, pr, sub, k⟩ := h
    obtain ⟨dx, fs, hx, sf, _, ⟨pS, us, lS, eS, pS2⟩⟩ := id sh
    have nd := scIsSum.nd
    refine ⟨_, pss_cons (ps_if (pt_not (pt_val (pe_callB call_isi (by rfl) T.isin boot_isinstance (pa_cons (pv 1) (pa_cons (pe_bltn (v := .ty "tuple") (by rfl) Cc.tuple rfl rfl) pa_nil))))) pss_no pss_nil)
      (pss_cons (ps_if (pt_not (pt_val (pe_callB (cr_all rfl) (by rfl) T.all boot_all (pa_cons (pe_lc (own := [("spot", 2)]) (g := gName 2) (tt := tYes)
            (te := tAndV (tCall spIsRow [] E0 (tCons (tVar 2) (tCons (tC (.int 2)) tNil))) (tCall spIsInt [] E0 (tCons (tOp (rIxT K) (tVar 2) (tC (.int 1))) tNil))) rfl nd (pi_tup (pv 1))
            (blkOk_by (N := ["shelf", "value", "spot"]) (sc := defScope sIsSum) (by decide +kernel)) (fun _ _ _ _ _ => pg_name (i := 2) nd rfl (.inl rfl)) (fun _ _ _ _ _ => pts_nil)
            (fun _ _ _ _ _ => pe_and (pe_call GR hr (by rfl) mR FR.kp bR .nil pass0 (pa_cons (pv 2) (pa_cons pe_int pa_nil))) (pe_one (pe_call GI hr (by rfl) mI FI.kp bI .nil pass0 (pa_cons (pe_ix ix_tup (pv 2) pe_int (fun _ _ => rfl)) pa_nil))))) pa_nil)))) pss_no pss_nil)
      (pss_one (ps_ret (pe_cmpR (op_eqD (room64 hr)) (pv 1) (pe_tupleOf (by rfl) Cc.tuple (pe_lc (own := [("spot", 2)]) (g := gName 2) (tt := tTest (tOp (rInDT K) (tVar 2) (tVar 1))) (te := tVar 2) rfl nd (pi_tup (pe_fld (pv 0) rfl))
            (blkOk_by (N := ["shelf", "value", "spot"]) (sc := defScope sIsSum) (by decide +kernel)) (fun _ _ _ _ _ => pg_name (i := 2) nd rfl (.inl rfl)) (fun _ _ _ _ _ => pts_one (pt_cmpR (op_inDT (room65 hr)) (pv 2) (pv 1) rfl)) (fun _ _ _ _ _ => pv 2))) (nomark _))))), ?_⟩
    obtain ⟨zs, z1, z2, z3⟩ := paired_zip pr
    have tl : ts.length = ss.length := Paired.length pr
    have sl : ss.length ≤ 12 := by
      have h1 := sub.length_le
      have h2 := spots_len L.kps fun k hk => (ok.q k hk).2.1
      have := ok.k6
      omega
    have zl : zs.length = ss.length := by rw [← z2, List.length_map]
    refine ⟨_, rfl, _, _, _, _, true, rfl, .ty _, .base (.tup hp), by rfl, _, rfl, iteB rfl ?_⟩
    refine ⟨_, rfl, p, rfl, ⟨_, SqT.of hp⟩, all_over (walk_tup (a := p) (xs := ts)) zs (·.1) (fun _ => true) z1.symm (by omega) (fun H s => sqT_same s (SqT.of hp)) ?_ ?_⟩
    · rintro i ⟨yv, ys⟩ H1 R hy s1 kk
      obtain ⟨t, et, eh⟩ := z3 _ (List.mem_of_getElem? hy)
      dsimp only at et eh
      subst et
      have eh1 := s1 _ _ eh
      refine ⟨rfl, _, rfl, t, _, 2, rfl, eh1, _, rfl, iteA (decide_eq_true rfl) ?_⟩
      exact ⟨_, rfl, t, _, _, _, rfl, rfl, SqT.of eh1, at1 rfl, _, rfl, kk _ (Same.refl _)⟩
    intro H1 s1
    have al : (zs.all fun _ => true) = true := by simp
    rw [al]
    refine ⟨_, rfl, iteB rfl ?_⟩
    obtain ⟨ys, y1, y2, y3⟩ := paired_zip pS2
    have yo : SpOk (spotsOf L.kps) := spots_ok ok
    have so : SpOk ss := fun s hs => yo s (sub.subset hs)
    have yl : ys.length ≤ 12 := by
      have h2 := spots_len L.kps fun k hk => (ok.q k hk).2.1
      have := ok.k6
      rw [← y2, List.length_map] at h2
      omega
    have ul : us.length = ys.length := by rw [← y1, List.length_map]
    have hp1 := s1 _ _ hp
    have eS1 := s1 _ _ eS
    refine ⟨_, rfl, _, rfl, x, CS, dx, fs, .ref pS, rfl, s1 _ _ hx, SC.cls, SC.spots, lS, pS, rfl, ⟨_, SqT.of eS1⟩, fun D nD => lc_fm (walk_tup (a := pS) (xs := us)) ys (fun y => if y.2 ∈ ss then some y.1 else none) ul.symm (by omega) nD (fun H s => sqT_same s (SqT.of eS1)) ?_ ?_⟩
    · rintro i u ⟨yv, y⟩ H2 H2' R Rn hy s2 ⟨rfl, hu⟩ k1 k2
      obtain ⟨t, et, eh⟩ := y3 _ (List.mem_of_getElem? hy)
      dsimp only at et eh
      subst et
      obtain rfl : V.ref t = u := by
        rw [← y1, List.getElem?_map, hy] at hu
        exact Option.some.inj hu
      have sH := s1.trans s2
      refine ⟨rfl, _, rfl, _, rfl, spD y, ss.map spD, .tup (SqT.of (sH _ _ eh)) (.cons (.str _) (.cons (.int _) .nil)), .tup (SqT.of (sH _ _ hp)) (dp_spots (Paired.mapP pr fun v s r => RelS.keep _ _ _ _ (.of sH) r)), spD_shaped (yo y (by rw [← y2]; exact List.mem_map.mpr ⟨_, List.mem_of_getElem? hy, rfl⟩)), spDs_shaped so, _, rfl, ?_⟩
      rw [spDs_any]
      by_cases h : y ∈ ss
      · exact iteA (decide_eq_true h) ⟨_, rfl, k1 _ _ (if_pos h) (Same.refl _)⟩
      · exact iteB (decide_eq_false h) (k2 _ (if_neg h) (Same.refl _))
    · intro H2 s2 eD
      have sH : Same H H2 := s1.trans s2
      have pf := paired_fm ss ys fun z hz => RelS.keep _ _ _ _ (.of sH) (y3 z hz)
      rw [y2, sub_filter sub (spots_nodup ok.kn)] at pf
      refine .inl ⟨D, _, rfl, SqL.of eD, fun q nq => ?_⟩
      have s3 : Same H2 (upd H2 q (.tup (ys.filterMap fun y => if y.2 ∈ ss then some y.1 else none))) := same_new nq
      refine ⟨.tuple (ss.map spD), .tuple (ss.map spD), .tup (SqT.of (s3 _ _ (sH _ _ hp))) (dp_spots (Paired.mapP pr fun v s r => RelS.keep _ _ _ _ (.of (sH.trans s3)) r)), .tup (SqT.of upd_same) (dp_spots (Paired.mapP pf fun v s r => RelS.keep _ _ _ _ (.of s3) r)), spDs_shaped so, spDs_shaped so, ?_⟩
      have e : PyData.eqv (.tuple (ss.map spD)) (.tuple (ss.map spD)) = true := SeqAt.eqv_refl _ (SeqAt.canLay_of_shaped (spDs_shaped so))
      rw [e]
      exact k _ (sH.trans s3)
end
end K6
set_option Elab.async false
set_option linter.all false
set_option maxRecDepth 100000
set_option maxHeartbeats 4000000
set_option pp.maxSteps 1200
set_option pp.deepTerms false
namespace K6
open PySem PySem.Spec PyProof.Rows L2 Lk
abbrev sOdd : Stmt := top 37
abbrev sComesTo : Stmt := top 28
/-- in how many of the pieces the part is -/
def cntP (p : Str) (pcs : List (List Str)) : Nat := (pcs.filter fun q => decide (p ∈ q)).length
/-- the parts that an odd number of pieces have -/
def oddL (ps : List Str) (pcs : List (List Str)) : List Str := ps.filter fun p => decide (cntP p pcs % 2 = 1)
def rOdd1 : R2 := fun x y H Q => ∃ n : Nat, x = .int (n : Int) ∧ y = .int 1 ∧ Q (.int ((n % 2 : Nat) : Int)) H
def tOddT (K : PySem.W.Frag) (i : Nat) : TT := fun σ H Q => tOp rOdd1 (tVar i) (tC (.int 1)) σ H fun x H' => ∃ k, TruV K x H' k ∧ Q k H'
/-- the scope of the comprehension that the i-th statement assigns -/
def asgScope (st : Stmt) (i : Nat) : Scope := match (defBody st).getD i (.Pass ⟨0, 0, 0, 0⟩) with
  | .Assign _ (.ListComp _ _ sc _) _ => sc
  | _ => defScope st
theorem fm_cnt (p : Str) : ∀ ys : List (V × List Str), (ys.filterMap fun y => if p ∈ y.2 then some y.1 else none).length = cntP p (ys.map (·.2))
  | [] => rfl
  | y :: ys => by
    have ih := fm_cnt p ys
    unfold cntP at ih ⊢
    by_cases m : p ∈ y.2
    · rw [List.filterMap_cons, if_pos m, List.map_cons, List.filter_cons_of_pos (by simpa using m), List.length_cons, List.length_cons, ih]
    · rw [List.filterMap_cons, if_neg m, List.map_cons, List.filter_cons_of_neg (by simpa using m), ih]
theorem fm_odd (pcs : List (List Str)) : ∀ ps : List Str, (ps.filterMap fun p => if cntP p pcs % 2 = 1 then some (V.str p) else none) = (oddL ps pcs).map V.str
  | [] => rfl
  | p :: ps => by
    have ih := fm_odd pcs ps
    unfold oddL at ih ⊢
    by_cases m : cntP p pcs % 2 = 1
    · rw [List.filterMap_cons, if_pos m, List.filter_cons_of_pos (by simpa using m), List.map_cons, ih]
    · rw [List.filterMap_cons, if_neg m, List.filter_cons_of_neg (by simpa using m), ih]
def pieceOf (L : Lore) (s : Spot) : List Str := (((L.kps.find? fun k => decide (k.1 = s.1)).map (·.2)).getD []).getD s.2 []
theorem find_at {ks : List KP} (nd : (ks.map (·.1)).Nodup) : ∀ {k : KP}, k ∈ ks → (ks.find? fun q => decide (q.1 = k.1)) = some k := by
  induction ks with
  | nil => intro k h; cases h
  | cons q ks ih =>
    intro k h
    have n2 := List.nodup_cons.mp nd
    rcases List.mem_cons.mp h with rfl | h
    · rw [List.find?_cons_of_pos (by simp)]
    · have : q.1 ≠ k.1 := fun e => n2.1 (List.mem_map.mpr ⟨k, h, e.symm⟩)
      rw [List.find?_cons_of_neg (by simpa using this)]
      exact ih n2.2 h
theorem piece_of {L : Lore} (ok : LoreOk L) {s : Spot} (h : s ∈ spotsOf L.kps) : ∃ (j : Nat) (kq : KP), L.kps[j]? = some kq ∧ kq.1 = s.1 ∧ kq.2[s.2]? = some (pieceOf L s) := by
  obtain ⟨kq, hk, hs⟩ := List.mem_flatMap.mp h
  obtain ⟨i, hi, rfl⟩ := List.mem_map.mp hs
  obtain ⟨j, hj⟩ := List.mem_iff_getElem?.mp hk
  refine ⟨j, kq, hj, rfl, ?_⟩
  unfold pieceOf
  have := find_at ok.kn hk
  dsimp only
  rw [this]
  have il := List.mem_range.mp hi
  simp [il]
section
variable {P : Program} {w : World} {K : PySem.W.Frag} {mg : Str → Option Value} {base : Heap} {f : Addr} {fd : FuncData}
/-! ### odd_parts -/
def spOdd (K : PySem.W.Frag) : Sp := fun vs H Q _ => ∃ (pa l : Addr) (ps : List Str) (ts : List V) (pcs : List (List Str)), vs = [.ref pa, .ref l] ∧ SqT K H pa (ps.map V.str) ∧ H l = some (.lst ts) ∧ Pieces H ts pcs ∧ ps.length ≤ 10 ∧ ts.length ≤ 1000 ∧
  ∀ r H', Same H H' → H' r = some (.tup ((oddL ps pcs).map V.str)) → Q (.ref r) H'
theorem scOdd : FnScope ["parts", "pieces", "counts", "part", "piece", "count"] ["parts", "pieces"] (defScope sOdd) := ⟨rfl, rfl, rfl, by decide +kernel, rfl, by decide +kernel, by decide +kernel⟩
theorem ok_odd (F : Fun K "odd_parts" "odd_parts" sOdd f fd) (T : Bl mg) (Cc : Cn mg) : FnOk P w K mg base CX0 1 f fd ["parts", "pieces"] (spOdd K) := by
  refine F.ok scOdd (fun vs H Q E h => ?_) (fun cdv A outer s H vs Q E hr h => ?_)
  · obtain ⟨pa, l, ps, ts, pcs, rfl, _⟩ := h
    rfl
  · obtain ⟨pa, l, ps, ts, pcs, rfl, hpa, hl, hP, p10, t1000, k⟩ := h
    have nd := scOdd.nd
    refine ⟨_, pss_cons (ps_setLc (i := 2) (own := [("part", 3)]) (g := gName 3) (tt := tYes) (te := tCB (rLenS K) (tCons (tLc (iList K (tVar 1)) (gName 4) (tTest (tOp (rIn K false) (tVar 3) (tVar 4))) (tVar 4) [4]) tNil)) rfl nd rfl rfl (sw_true rfl rfl rfl (by decide +kernel)) (pi_tup (pv 0))
          (blkOk_by (N := ["parts", "pieces", "counts", "part", "piece", "count"]) (sc := defScope sOdd) (by decide +kernel)) (fun _ _ _ _ _ => pg_name (i := 3) nd rfl (.inr rfl)) (fun _ _ _ _ _ => pts_nil)
          (fun _ _ _ _ _ => pe_callB call_len_seq (by rfl) T.len PySem.boot_len (pa_cons (pe_lc (own := [("piece", 4)]) (g := gName 4) (tt := tTest (tOp (rIn K false) (tVar 3) (tVar 4))) (te := tVar 4) rfl nd (pi_list (pv 1))
            (blkOk_by (N := ["parts", "pieces", "counts", "part", "piece", "count"]) (sc := relS (asgScope sOdd 0) (defScope sOdd)) (by decide +kernel)) (fun _ _ _ _ _ => pg_name (i := 4) nd rfl (.inl rfl)) (fun _ _ _ _ _ => pts_one (pt_cmpR op_in_seq (pv 3) (pv 4) rfl)) (fun _ _ _ _ _ => pv 4)) pa_nil)))
      (pss_one (ps_ret (pe_tupleOf (by rfl) Cc.tuple (pe_lc (own := [("part", 3), ("count", 5)]) (g := gTup K 2 (gCons (gName 3) (gCons (gName 5) gNil))) (tt := tOddT K 5) (te := tVar 3) rfl nd
          (pi_zipS (by rfl) Cc.zip (pa_cons (pv 0) (pa_cons (pv 2) pa_nil))) (blkOk_by (N := ["parts", "pieces", "counts", "part", "piece", "count"]) (sc := defScope sOdd) (by decide +kernel))
          (fun _ _ _ _ _ => pg_tup rfl (pgs_cons (pg_name (i := 3) nd rfl (.inl rfl)) (pgs_cons (pg_name (i := 5) nd rfl (.inl rfl)) pgs_nil))) (fun _ _ _ _ _ => pts_one (pt_truth (pe_op op_odd (pv 5) pe_int) (by intro _; rfl))) (fun _ _ _ _ _ => pv 3))))), ?_⟩
    obtain ⟨zs, z1, z2, z3⟩ := paired_zip hP
    have zl : zs.length = ts.length := by rw [← z1, List.length_map]
    refine ⟨_, rfl, pa, rfl, ⟨_, hpa⟩, fun D nD => lc_fm (walk_tup (a := pa) (xs := ps.map V.str)) ps (fun p => some (V.int (cntP p pcs : Nat))) (by rw [List.length_map]) (by rw [List.length_map]; omega) nD (fun H s => sqT_same s hpa) ?_ ?_⟩
    · rintro i u p H1 H1' R Rn hp s1 ⟨rfl, hu⟩ k1 k2
      obtain rfl : V.str p = u := by
        rw [List.getElem?_map, hp] at hu
        exact Option.some.inj hu
      have hl1 := s1 _ _ hl
      refine ⟨rfl, _, rfl, l, rfl, ⟨_, SqL.of hl1⟩, fun D2 nD2 => lc_fm (walk_list (a := l) (xs := ts)) zs (fun y => if p ∈ y.2 then some y.1 else none) zl (by omega) nD2 (fun H s => s.seq (SqL.of hl1)) ?_ ?_⟩
      · rintro j u ⟨yv, q⟩ H2 H2' R2 Rn2 hy s2 ⟨rfl, hu⟩ g1 g2
        obtain ⟨t, et, eh⟩ := z3 _ (List.mem_of_getElem? hy)
        dsimp only at et eh
        subst et
        obtain rfl : V.ref t = u := by
          rw [← z1, List.getElem?_map, hy] at hu
          exact Option.some.inj hu
        refine ⟨rfl, _, rfl, _, rfl, t, _, rfl, .inr (SqT.of (s2 _ _ (s1 _ _ eh))), rfl, flat_strs _, _, rfl, ?_⟩
        rw [inV_str]
        by_cases h2 : p ∈ q
        · refine iteA (by simp [h2]) ⟨_, rfl, g1 _ _ (if_pos h2) (Same.refl _)⟩
        · exact iteB (by simp [h2]) (g2 _ (if_neg h2) (Same.refl _))
      · intro H2 s2 eD2
        refine ⟨D2, _, rfl, .inl (SqL.of eD2), ?_⟩
        rw [fm_cnt, z2]
        exact k1 _ _ rfl s2
    · intro H1 s1 eD
      have fe : (ps.filterMap fun p => some (V.int (cntP p pcs : Nat))) = ps.map fun p => V.int (cntP p pcs : Nat) := by simp [Function.comp_def]
      rw [fe] at eD
      have src : ∀ H', Same H1 H' → SrcAt K (.tup pa) H' (ps.map V.str) ∧ SrcAt K (.lst D) H' (ps.map fun p => V.int (cntP p pcs : Nat)) := fun H' s' => ⟨sqT_same (s1.trans s') hpa, SqL.of (s' _ _ eD)⟩
      refine ⟨_, rfl, _, rfl, .tup pa, .lst D, ps.map V.str, ps.map fun p => V.int (cntP p pcs : Nat), rfl, (src H1 (Same.refl _)).1, (src H1 (Same.refl _)).2, fun D2 nD2 => ?_⟩
      refine lc_fm (walk_zipS (s1 := .tup pa) (s2 := .lst D) (n := ps.length) (by rw [List.length_map, List.length_map, Nat.min_self])) ps (fun p => if cntP p pcs % 2 = 1 then some (V.str p) else none) rfl (by omega) nD2 (fun H' s' => src H' s') ?_ ?_
      · rintro i v p H2 H2' R Rn hp s2 ⟨T1, a1, a2, rfl, nT, rfl, e1, e2⟩ k1 k2
        obtain rfl : V.str p = a1 := by
          have e1 : (ps.map V.str)[i]? = some a1 := e1
          rw [List.getElem?_map, hp] at e1
          exact Option.some.inj e1
        obtain rfl : V.int (cntP p pcs : Nat) = a2 := by
          have e2 : (ps.map fun p => V.int (cntP p pcs : Nat))[i]? = some a2 := e2
          rw [List.getElem?_map, hp] at e2
          exact Option.some.inj e2
        have s3 : Same H2 (upd H2 T1 (.tup [.str p, .int (cntP p pcs : Nat)])) := same_new nT
        refine ⟨T1, _, rfl, SqT.of upd_same, rfl, _, _, rfl, _, _, rfl, rfl, rfl, _, rfl, cntP p pcs, rfl, rfl, _, rfl, ?_⟩
        by_cases h : cntP p pcs % 2 = 1
        · exact iteA (by rw [h]; rfl) ⟨_, rfl, k1 _ _ (if_pos h) s3⟩
        · have h0 : cntP p pcs % 2 = 0 := by omega
          exact iteB (by rw [h0]; rfl) (k2 _ (if_neg h) s3)
      · intro H2 s2 eD2
        rw [fm_odd] at eD2
        exact .inl ⟨D2, _, rfl, SqL.of eD2, fun r nr => k r _ ((s1.trans s2).trans (same_new nr)) upd_same⟩
/-! ### comes_to -/
def spComesTo (C CS : Addr) : Sp := fun vs H Q _ => ∃ (x p : Addr) (L : Lore) (ts : List V) (ss : List Spot), vs = [.ref x, .ref p] ∧ ShAt H C CS x L ∧ LoreOk L ∧ H p = some (.tup ts) ∧ Paired (RelS H) ts ss ∧ ss.Sublist (spotsOf L.kps) ∧
  ∀ r H', Same H H' → H' r = some (.tup ((oddL L.parts (ss.map (pieceOf L))).map V.str)) → Q (.ref r) H'
theorem scComesTo : FnScope ["shelf", "spots", "spot"] ["shelf", "spots"] (defScope sComesTo) := ⟨rfl, rfl, rfl, by decide +kernel, rfl, by decide +kernel, by decide +kernel⟩
theorem ok_comesTo {C CS fC fS fU fO fP : Addr} {fdU fdO fdP : FuncData} (F : Fun K "comes_to" "comes_to" sComesTo f fd) (CC : CircC K C fC) (SC : ShC K CS fS)
    (GU : FnOk P w K mg base CX0 2 fU fdU ["shelf", "value"] (spIsSum C CS)) (kU : PySem.W.keepIn K (.ref fU) = true) (bU : Binds K fdU ["shelf", "value"] []) (mU : mg "is_sum" = some (.ref fU))
    (GO : FnOk P w K mg base CX0 1 fO fdO ["parts", "pieces"] (spOdd K)) (kO : PySem.W.keepIn K (.ref fO) = true) (bO : Binds K fdO ["parts", "pieces"] []) (mO : mg "odd_parts" = some (.ref fO))
    (GP : FnOk P w K mg base CX0 1 fP fdP ["shelf", "spot"] (spPieceAt C CS)) (kP : PySem.W.keepIn K (.ref fP) = true) (bP : Binds K fdP ["shelf", "spot"] []) (mP : mg "piece_at" = some (.ref fP)) :
    FnOk P w K mg base CX0 3 f fd ["shelf", "spots"] (spComesTo C CS) := by
  refine F.ok scComesTo (fun vs H Q E h => ?_) (fun cdv A outer s H vs Q E hr h => ?_)
  · obtain ⟨x, p, L, ts, ss, rfl, _⟩ := h
    rfl
  · obtain ⟨x, p, L, ts, ss, rfl, sh, ok, hp, pr, sub, k⟩ := h
    have nd := scComesTo.nd
    have hr1 : Room 1 _ := hr.mono (by decide)
    refine ⟨_, pss_cons (ps_if (pt_not (pt_val (pe_call GU hr (by rfl) mU kU bU .nil pass0 (pa_cons (pv 0) (pa_cons (pv 1) pa_nil))))) pss_no pss_nil)
      (pss_one (ps_ret (pe_call GO hr1 (by rfl) mO kO bO .nil pass0 (pa_cons (pe_fld (pv 0) rfl) (pa_cons (pe_lc (own := [("spot", 2)]) (g := gName 2) (tt := tYes) (te := tCall (spPieceAt C CS) [] E0 (tCons (tVar 0) (tCons (tVar 2) tNil))) rfl nd (pi_tup (pv 1))
        (blkOk_by (N := ["shelf", "spots", "spot"]) (sc := defScope sComesTo) (by decide +kernel)) (fun _ _ _ _ _ => pg_name (i := 2) nd rfl (.inl rfl)) (fun _ _ _ _ _ => pts_nil) (fun _ _ _ _ _ => pe_call GP hr1 (by rfl) mP kP bP .nil pass0 (pa_cons (pv 0) (pa_cons (pv 2) pa_nil)))) pa_nil))))), ?_⟩
    refine ⟨_, rfl, _, rfl, x, p, L, ts, ss, rfl, sh, ok, hp, pr, sub, fun H1 s1 => ⟨_, rfl, iteB rfl ?_⟩⟩
    have sh1 := sh.same s1
    obtain ⟨dx, fs, hx, sf, _⟩ := id sh1
    obtain ⟨pa, lp, tpa⟩ := sf.parts
    obtain ⟨zs, z1, z2, z3⟩ := paired_zip pr
    have sl : ss.length ≤ 12 := by
      have h1 := sub.length_le
      have h2 := spots_len L.kps fun k hk => (ok.q k hk).2.1
      have := ok.k6
      omega
    have zl : zs.length = ss.length := by rw [← z2, List.length_map]
    have tl : ts.length = zs.length := by rw [← z1, List.length_map]
    have hp1 := s1 _ _ hp
    refine ⟨_, rfl, x, CS, dx, fs, .ref pa, rfl, hx, SC.cls, SC.parts, lp, _, rfl, p, rfl, ⟨_, SqT.of hp1⟩, fun D nD => lc_relQ (walk_tup (a := p) (xs := ts)) nD zs (·.1) (fun y => pieceOf L y.2) RelP RelP.keep z1.symm (by omega) (fun H s => sqT_same s (SqT.of hp1)) ?_ ?_⟩
    · rintro i ⟨yv, y⟩ H2 R hy s2 kk
      obtain ⟨t, et, eh⟩ := z3 _ (List.mem_of_getElem? hy)
      dsimp only at et eh
      subst et
      have ym : y ∈ ss := by
        rw [← z2]
        exact List.mem_map.mpr ⟨_, List.mem_of_getElem? hy, rfl⟩
      obtain ⟨j, kq, hj, e1, e2⟩ := piece_of ok (sub.subset ym)
      have sh2 := sh1.same s2
      obtain ⟨dx2, fs2, hx2, sf2, _⟩ := id sh2
      have eh2 := s2 _ _ (s1 _ _ eh)
      rw [← e1] at eh2
      refine ⟨rfl, _, rfl, _, rfl, x, t, dx2, fs2, L, j, y.2, kq, pieceOf L y, rfl, hx2, sf2, ok, eh2, hj, e2, fun u hu => kk _ _ (Same.refl _) ⟨u, rfl, hu⟩⟩
    · intro H2 us s2 eD pu
      have eu : us.length = zs.length := by have := Paired.length pu; rwa [List.length_map] at this
      have e3 : (zs.map fun y => pieceOf L y.2) = ss.map (pieceOf L) := by rw [← z2, List.map_map]; rfl
      rw [e3] at pu
      exact ⟨pa, D, L.parts, us, _, rfl, (tpa.same s2).sq, eD, pu, by have := ok.p4; omega, by omega, fun r H3 s3 er => k r H3 ((s1.trans s2).trans s3) er⟩
end
end K6
set_option Elab.async false
set_option linter.all false
set_option maxRecDepth 100000
set_option maxHeartbeats 4000000
set_option pp.maxSteps 1200
set_option pp.deepTerms false
namespace K6
open PySem PySem.Spec PyProof.Rows L2 Lk
abbrev sLComes : Stmt := top 59
def rDictP (K : PySem.W.Frag) : List V → Hp → VK → Prop := fun xs H Q => ∃ (a : Addr) (ps : List Addr) (kvs : List (Key × V)), xs = [.ref a] ∧ SqL K H a (ps.map V.ref) ∧ Paired (fun p kv => SqT K H p [kV kv.1, kv.2]) ps kvs ∧ ∀ p, H p = none → Q (.ref p) (upd H p (.dK (mergeK [] kvs)))
theorem fm_cntG (g : V × List Str → V) (p : Str) : ∀ ys : List (V × List Str), (ys.filterMap fun y => if p ∈ y.2 then some (g y) else none).length = cntP p (ys.map (·.2))
  | [] => rfl
  | y :: ys => by
    have ih := fm_cntG g p ys
    unfold cntP at ih ⊢
    by_cases m : p ∈ y.2
    · rw [List.filterMap_cons, if_pos m, List.map_cons, List.filter_cons_of_pos (by simpa using m), List.length_cons, List.length_cons, ih]
    · rw [List.filterMap_cons, if_neg m, List.map_cons, List.filter_cons_of_neg (by simpa using m), ih]
section
variable {P : Program} {w : World} {K : PySem.W.Frag} {mg : Str → Option Value} {base : Heap} {f : Addr} {fd : FuncData}
/-! ### _law_comes_to -/
def spLComes : Sp := fun vs H Q _ => ∃ (a lo p : Addr) (L : Lore) (ts : List V) (ss : List Spot), vs = [.ref lo, .ref p] ∧ LoreAt a H lo L ∧ LoreOk L ∧ H p = some (.tup ts) ∧ Paired (RelS H) ts ss ∧ ss.Sublist (spotsOf L.kps) ∧
  ∀ r H', Same H H' → H' r = some (.tup ((oddL L.parts (ss.map (pieceOf L))).map V.str)) → Q (.ref r) H'
theorem scLComes : FnScope ["lore", "some", "pieces", "name", "at", "part", "piece"] ["lore", "some"] (defScope sLComes) := ⟨rfl, rfl, rfl, by decide +kernel, rfl, by decide +kernel, by decide +kernel⟩
/-- the scope of the comprehension within tuple(..) that the i-th statement returns -/
def retScope (st : Stmt) (i : Nat) : Scope := match (defBody st).getD i (.Pass ⟨0, 0, 0, 0⟩) with
  | .Return (some (.Call _ [.ListComp _ _ sc _] _ _)) _ => sc
  | _ => defScope st
theorem ok_lcomes (F : Fun K "_law_comes_to" "_law_comes_to" sLComes f fd) (T : Bl mg) (Cc : Cn mg) : FnOk P w K mg base CX0 1 f fd ["lore", "some"] spLComes := by
  refine F.ok scLComes (fun vs H Q E h => ?_) (fun cdv A outer s H vs Q E hr h => ?_)
  · obtain ⟨a, lo, p, L, ts, ss, rfl, _⟩ := h
    rfl
  · obtain ⟨a, lo, p, L, ts, ss, rfl, la, ok, hp, pr, sub, k⟩ := h
    have nd := scLComes.nd
    have hu := hu_of hr
    refine ⟨_, pss_cons (ps_set (i := 2) nd rfl (.inr rfl) (pe_lc (own := [("name", 3), ("at", 4)]) (g := gTup K 2 (gCons (gName 3) (gCons (gName 4) gNil))) (tt := tYes) (te := tOp (rIxT K) (tDGet (tCB (rDictP K) (tCons (tDGet (tVar 0) (tC (.str "keepers"))) tNil)) (tVar 3)) (tVar 4)) rfl nd (pi_tup (pv 1))
          (blkOk_by (N := ["lore", "some", "pieces", "name", "at", "part", "piece"]) (sc := defScope sLComes) (by decide +kernel)) (fun _ _ _ _ _ => pg_tup rfl (pgs_cons (pg_name (i := 3) nd rfl (.inl rfl)) (pgs_cons (pg_name (i := 4) nd rfl (.inl rfl)) pgs_nil))) (fun _ _ _ _ _ => pts_nil)
          (fun _ _ _ _ _ => pe_ix ix_tup (pe_dget hu (pe_callTy (call_dictP rfl) (by rfl) Cc.dict boot_dict (pa_cons (pe_dget hu (pv 0) pe_str (fun _ _ => rfl)) pa_nil)) (pv 3) (fun _ _ => rfl)) (pv 4) (fun _ _ => rfl))))
      (pss_one (ps_ret (pe_tupleOf (by rfl) Cc.tuple (pe_lc (own := [("part", 5)]) (g := gName 5) (tt := tTest (tOp rEq (tOp (rI (fun _ j => 0 < j) fun i j => .int (i % j)) (tCB (rLenS K) (tCons (tLc (iList K (tVar 2)) (gName 6) (tTest (tOp (rIn K false) (tVar 5) (tVar 6))) (tC (.int 1)) [6]) tNil)) (tC (.int 2))) (tC (.int 1)))) (te := tVar 5) rfl nd
          (pi_tup (pe_dget hu (pv 0) pe_str (fun _ _ => rfl))) (blkOk_by (N := ["lore", "some", "pieces", "name", "at", "part", "piece"]) (sc := defScope sLComes) (by decide +kernel))
          (fun _ _ _ _ _ => pg_name (i := 5) nd rfl (.inr rfl))
          (fun _ _ _ _ _ => pts_one (pt_cmpR op_eq (pe_op op_mod (pe_callB call_len_seq (by rfl) T.len PySem.boot_len (pa_cons (pe_lc (own := [("piece", 6)]) (g := gName 6) (tt := tTest (tOp (rIn K false) (tVar 5) (tVar 6))) (te := tC (.int 1)) rfl nd (pi_list (pv 2))
            (blkOk_by (N := ["lore", "some", "pieces", "name", "at", "part", "piece"]) (sc := relS (retScope sLComes 1) (defScope sLComes)) (by decide +kernel)) (fun _ _ _ _ _ => pg_name (i := 6) nd rfl (.inl rfl)) (fun _ _ _ _ _ => pts_one (pt_cmpR op_in_seq (pv 5) (pv 6) rfl)) (fun _ _ _ _ _ => pe_int)) pa_nil)) pe_int) pe_int (nomark _)))
          (fun _ _ _ _ _ => pv 5))))), ?_⟩
    obtain ⟨zs, z1, z2, z3⟩ := paired_zip pr
    have sl : ss.length ≤ 12 := by
      have h1 := sub.length_le
      have h2 := spots_len L.kps fun k hk => (ok.q k hk).2.1
      have := ok.k6
      omega
    have zl : zs.length = ss.length := by rw [← z2, List.length_map]
    have tl : ts.length = zs.length := by rw [← z1, List.length_map]
    refine ⟨_, rfl, p, rfl, ⟨_, SqT.of hp⟩, fun D nD => lc_relQ (walk_tup (a := p) (xs := ts)) nD zs (·.1) (fun y => pieceOf L y.2) RelP RelP.keep z1.symm (by omega) (fun H s => sqT_same s (SqT.of hp)) ?_ ?_⟩
    · rintro i ⟨yv, y⟩ H1 R hy s1 kk
      obtain ⟨t, et, eh⟩ := z3 _ (List.mem_of_getElem? hy)
      dsimp only at et eh
      subst et
      have ym : y ∈ ss := by
        rw [← z2]
        exact List.mem_map.mpr ⟨_, List.mem_of_getElem? hy, rfl⟩
      obtain ⟨j, kq, hj, n1, n2⟩ := piece_of ok (sub.subset ym)
      obtain ⟨pa, ks, rows, e1, e2, e3, n0, e4⟩ := la.same s1
      obtain ⟨ps, kvs, rfl, p1, p2⟩ := rows_pairs (K := K) e4
      obtain ⟨⟨kk1, kv⟩, hkv, hk1, q, us, hq, eq, ep⟩ := paired_get p2 hj
      dsimp only at hk1 hq
      subst hk1 hq
      have keys : (kvs.map (·.1)) = L.kps.map fun k => (.inr k.1 : Key) := paired_keys (fun _ _ h => h.1) p2
      have kn : (kvs.map (·.1)).Nodup := by
        rw [keys]
        have := ok.kn
        rw [List.nodup_iff_pairwise_ne, List.pairwise_map] at this ⊢
        exact this.imp fun h e => h (Sum.inr.inj e)
      obtain ⟨v2, hv2, u, rfl, eu⟩ := paired_get ep n2
      refine ⟨t, _, rfl, SqT.of (s1 _ _ eh), rfl, _, _, rfl, _, _, rfl, rfl, rfl, _, rfl, lo, _, rfl, (dget2 e1).2, ks, ps, kvs, rfl, SqL.of e3, p1, fun d nd2 => ?_⟩
      have s2 : Same H1 (upd H1 d (.dK (mergeK [] kvs))) := same_new nd2
      refine ⟨_, rfl, d, .ref q, rfl, .inl ⟨_, .inr kq.1, .inl upd_same, by rw [n1]; rfl, (merge_at kn (List.mem_of_getElem? hkv)).symm⟩, ?_⟩
      exact ⟨_, rfl, q, us, _, _, rfl, rfl, SqT.of (s2 _ _ eq), atN hv2, kk _ _ s2 ⟨u, rfl, s2 _ _ eu⟩⟩
    · intro H1 us s1 eD pu
      have eul : us.length = zs.length := by have := Paired.length pu; rwa [List.length_map] at this
      have e3 : (zs.map fun y => pieceOf L y.2) = ss.map (pieceOf L) := by rw [← z2, List.map_map]; rfl
      rw [e3] at pu
      obtain ⟨pa, ks, rows, e1, e2, _⟩ := la.same s1
      obtain ⟨ws, w1, w2, w3⟩ := paired_zip pu
      have wl : ws.length = us.length := by rw [← w1, List.length_map]
      have p4 := ok.p4
      refine ⟨_, rfl, lo, _, rfl, (dget2 e1).1, pa, rfl, ⟨_, SqT.of e2⟩, fun D2 nD2 => lc_fm (walk_tup (a := pa) (xs := L.parts.map V.str)) L.parts (fun p => if cntP p (ss.map (pieceOf L)) % 2 = 1 then some (V.str p) else none) (by rw [List.length_map]) (by rw [List.length_map]; omega) nD2 (fun H s => sqT_same s (SqT.of e2)) ?_ ?_⟩
      · rintro i u z H2 H2' R Rn hz s2 ⟨rfl, hu⟩ k1 k2
        obtain rfl : V.str z = u := by
          rw [List.getElem?_map, hz] at hu
          exact Option.some.inj hu
        have eD2 := s2 _ _ eD
        refine ⟨rfl, _, rfl, D, rfl, ⟨_, SqL.of eD2⟩, fun D3 nD3 => lc_fm (walk_list (a := D) (xs := us)) ws (fun y => if z ∈ y.2 then some (V.int 1) else none) wl (by omega) nD3 (fun H s => s.seq (SqL.of eD2)) ?_ ?_⟩
        · rintro j u ⟨yv, q⟩ H3 H3' R2 Rn2 hy s3 ⟨rfl, hu⟩ g1 g2
          obtain ⟨t, et, eh⟩ := w3 _ (List.mem_of_getElem? hy)
          dsimp only at et eh
          subst et
          obtain rfl : V.ref t = u := by
            rw [← w1, List.getElem?_map, hy] at hu
            exact Option.some.inj hu
          refine ⟨rfl, _, rfl, _, rfl, t, _, rfl, .inr (SqT.of (s3 _ _ (s2 _ _ eh))), rfl, flat_strs _, _, rfl, ?_⟩
          rw [inV_str]
          by_cases h2 : z ∈ q
          · refine iteA (by simp [h2]) (g1 _ _ (if_pos h2) (Same.refl _))
          · exact iteB (by simp [h2]) (g2 _ (if_neg h2) (Same.refl _))
        · intro H3 s3 eD3
          refine ⟨D3, _, rfl, .inl (SqL.of eD3), ?_⟩
          rw [fm_cntG (fun _ => V.int 1), w2]
          refine ⟨_, _, rfl, rfl, (by decide : (0 : Int) < 2), rfl, _, rfl, ?_⟩
          by_cases h : cntP z (ss.map (pieceOf L)) % 2 = 1
          · exact iteA (decide_eq_true (congrArg V.int (by omega))) ⟨_, rfl, k1 _ _ (if_pos h) s3⟩
          · exact iteB (decide_eq_false fun e => h (by have := V.int.inj e; omega)) (k2 _ (if_neg h) s3)
      · intro H2 s2 eD2
        rw [fm_odd] at eD2
        exact .inl ⟨D2, _, rfl, SqL.of eD2, fun r nr => k r _ ((s1.trans s2).trans (same_new nr)) upd_same⟩
end
end K6
set_option Elab.async false
set_option linter.all false
set_option maxRecDepth 100000
set_option maxHeartbeats 4000000
set_option pp.maxSteps 1200
set_option pp.deepTerms false
namespace K6
open PySem PySem.Spec PyProof.Rows L2 Lk
abbrev sCircEq : Stmt := inClass (top 17) 3
abbrev sEqRight : Stmt := top 60
theorem ShAt.keep {H H' : Hp} {C CS x : Addr} {L : Lore} (h : ShAt H C CS x L) (k : Keep H H') : ShAt H' C CS x L := by
  obtain ⟨dx, fs, e, ⟨⟨pa, p1, p2⟩, ⟨c, c1, c2⟩, ⟨q, q1, q2⟩⟩, tx, p, ts, lp, ep, pr⟩ := h
  have tk : Tups H H' := fun b xs h => k b _ h fun xs z => by cases z
  refine ⟨dx, fs, k _ _ e (fun xs z => by cases z), ⟨⟨pa, p1, p2.keep k⟩, ⟨c, c1, ?_⟩, ⟨q, q1, q2.tups tk⟩⟩, tx, p, ts, lp, tk _ _ ep, Paired.mapP pr fun v s r => RelS.keep _ _ _ _ k r⟩
  obtain ⟨cd, nm, e1, t⟩ := c2
  exact ⟨cd, nm, k _ _ e1 (fun xs z => by cases z), t.keep k⟩
theorem paired_rev {α β : Type} {R : α → β → Prop} : ∀ {xs : List α} {ys : List β}, Paired R xs ys → Paired R xs.reverse ys.reverse
  | _, _, .nil => .nil
  | _, _, .cons h t => by
    rw [List.reverse_cons, List.reverse_cons]
    exact Paired.add (paired_rev t) h
theorem LoreOk.rev {L : Lore} (ok : LoreOk L) : LoreOk ⟨L.parts, L.kps.reverse⟩ :=
  ⟨ok.p0, ok.p4, ok.pn, ok.pp, by show 2 ≤ L.kps.reverse.length; rw [List.length_reverse]; exact ok.k2, by show L.kps.reverse.length ≤ 6; rw [List.length_reverse]; exact ok.k6,
    by show (L.kps.reverse.map (·.1)).Nodup; rw [List.map_reverse]; exact (List.reverse_perm _).nodup_iff.mpr ok.kn, fun k hk => ok.kp k (List.mem_reverse.mp hk), fun k hk => ok.q k (List.mem_reverse.mp hk)⟩
theorem LoreOk.turn {L : Lore} (ok : LoreOk L) {k : KP} {ks : List KP} (e : L.kps = k :: ks) {piece : List Str} (po : PieceOk L.parts piece) : LoreOk ⟨L.parts, ks ++ [(k.1, [piece])]⟩ := by
  have h2 := ok.k2
  have h6 := ok.k6
  have hn := ok.kn
  rw [e] at h2 h6 hn
  have mk : ∀ q ∈ ks, q ∈ L.kps := fun q hq => by rw [e]; exact List.mem_cons_of_mem _ hq
  have mk0 : k ∈ L.kps := by rw [e]; exact List.mem_cons_self
  refine ⟨ok.p0, ok.p4, ok.pn, ok.pp, by show 2 ≤ (ks ++ [(k.1, [piece])]).length; rw [List.length_append]; simpa using h2, by show (ks ++ [(k.1, [piece])]).length ≤ 6; rw [List.length_append]; simpa using h6, ?_, ?_, ?_⟩
  · show ((ks ++ [(k.1, [piece])]).map (·.1)).Nodup
    rw [List.map_append]
    rw [List.map_cons] at hn
    exact (List.perm_append_comm (l₁ := [k.1]) (l₂ := ks.map fun x : KP => x.1)).nodup_iff.mp hn
  · intro q hq
    rcases List.mem_append.mp hq with hq | hq
    · exact ok.kp q (mk q hq)
    · rw [List.mem_singleton.mp hq]
      exact ok.kp k mk0
  · intro q hq
    rcases List.mem_append.mp hq with hq | hq
    · exact ok.q q (mk q hq)
    · rw [List.mem_singleton.mp hq]
      refine ⟨Nat.le_refl _, by show 1 ≤ 2; decide, fun p hp => ?_⟩
      rw [List.mem_singleton.mp hp]
      exact po
/-- any([q(x) for x in xs]), over what is walked -/
theorem any_over {α : Type} {K : PySem.W.Frag} {J : It} {G : Hp → Prop} {vs0 : List V} (w : Walk J vs0.length G (YAt vs0)) {g : TG} {te : TE} {vs : List Nat} {σ : L2.St} {H1 : Hp} {R : VK} (xs : List α) (e : α → V) (q : α → Bool)
    (hv : vs0 = xs.map e) (few : xs.length ≤ 100000) (hG : ∀ H, Same H1 H → G H)
    (hs : ∀ (i : Nat) b H (R' : VK), xs[i]? = some b → Same H1 H → (∀ H4, Same H H4 → R' (.bl (q b)) H4) → g (e b) (wipe σ vs) H fun σ2 H2 => wipe σ2 vs = wipe σ vs ∧ te σ2 H2 R')
    (hd : ∀ H, Same H1 H → R (.bl (xs.any q)) H) : LcR J g tYes te vs σ H1 fun x H2 => tNil σ H2 fun xs H3 => rAny K (x :: xs) H3 R := by
  refine lc_over (Q := fun x H2 => rAny K [x] H2 R) w xs e (fun x => some (.bl (q x))) hv few hG (fun i b H R' Rn hb s k1 k2 => ?_) fun D H nD s ed => ?_
  · have z := hs i b H R' hb s fun H4 s4 => k1 H4 _ rfl s4
    have ty : (fun (σ2 : L2.St) H2 => wipe σ2 vs = wipe σ vs ∧ tYes σ2 H2 fun c H3 => if c = true then te σ2 H3 R' else Rn H3) = (fun σ2 H2 => wipe σ2 vs = wipe σ vs ∧ te σ2 H2 R') := by
      funext σ2 H2
      exact congrArg (And _) (tYes_if σ2 H2 (fun H3 => te σ2 H3 _) _)
    rw [ty]
    exact z
  · rw [fm_bl] at ed
    refine ⟨D, _, rfl, SqL.of ed, ?_⟩
    have : (xs.map q).any id = xs.any q := by simp [List.any_map]
    rw [this]
    exact hd H s
/-- what == asks of the class Shelf and of other types -/
structure ShE (K : PySem.W.Frag) (C CS : Addr) : Prop where
  nS : PySem.W.notFirst K CS (.ref CS) = true
  nC : PySem.W.notFirst K CS (.ref C) = true
  nN : PySem.W.notFirst K CS (.type "NoneType") = true
  nT : PySem.W.notFirst K CS (.type "tuple") = true
  nZ : PySem.W.notFirst K CS (.type "str") = true
  nI : PySem.W.notFirst K CS (.type "int") = true
  kC : PySem.W.kitOne K (.ref C) (.ref CS) = some false
  kN : PySem.W.kitOne K (.type "NoneType") (.ref CS) = some false
  kT : PySem.W.kitOne K (.type "tuple") (.ref CS) = some false
  kZ : PySem.W.kitOne K (.type "str") (.ref CS) = some false
  kI : PySem.W.kitOne K (.type "int") (.ref CS) = some false
/-- no shelf -/
def NotSh (K : PySem.W.Frag) (CS : Addr) (H : Hp) (v : V) : Prop := ∃ ty, TyX K H v ty ∧ PySem.W.notFirst K CS ty = true ∧ PySem.W.kitOne K ty (.ref CS) = some false
section
variable {P : Program} {w : World} {K : PySem.W.Frag} {mg : Str → Option Value} {base : Heap} {f : Addr} {fd : FuncData}
/-! ### Circle.__eq__ -/
def spCircEq (C : Addr) : Sp := fun vs H Q _ => ∃ (c c2 : Addr) (zs : List Str), vs = [.ref c, .ref c2] ∧ CircAt H C c zs ∧ CircAt H C c2 zs ∧ (∀ z ∈ zs, PyData.strOk z = true ∧ z.length ≤ 8) ∧ zs.length ≤ 6 ∧ Q (.bl true) H
theorem scCircEq : FnScope ["self", "other"] ["self", "other"] (defScope sCircEq) := ⟨rfl, rfl, rfl, by decide +kernel, rfl, by decide +kernel, by decide +kernel⟩
theorem ok_circEq {C fC : Addr} (F : Fun K "__eq__" "Circle.__eq__" sCircEq f fd) (T : Bl mg) (CC : CircC K C fC) (IC : IsiC K C) (mC : mg "Circle" = some (.ref C)) : FnOk P w K mg base CX0 1 f fd ["self", "other"] (spCircEq C) := by
  refine F.ok scCircEq (fun vs H Q E h => ?_) (fun cdv A outer s H vs Q E hr h => ?_)
  · obtain ⟨c, c2, zs, rfl, _⟩ := h
    rfl
  · obtain ⟨c, c2, zs, rfl, ⟨dx, nm, ec, tn⟩, ⟨dx2, nm2, ec2, tn2⟩, zo, zl, k⟩ := h
    refine ⟨_, pss_one (ps_ret (pe_and (pe_callB call_isi (by rfl) T.isin boot_isinstance (pa_cons (pv 1) (pa_cons (pe_glob (v := .ref C) (by rfl) mC rfl) pa_nil))) (pe_one (pe_cmpR (op_eqD (room64 hr)) (pe_fld (pv 0) rfl) (pe_fld (pv 1) rfl) (nomark _))))), ?_⟩
    refine ⟨_, rfl, _, _, _, _, true, rfl, .own _, IC.ty H c2 dx2 _ ec2, IC.own, _, rfl, iteT ?_⟩
    have nice : Nice (6 * (8 + 1)) 1 (.tuple (strsD zs)) := nice_strs zo zl
    exact ⟨_, rfl, c, C, dx, _, .ref nm, rfl, ec, CC.cls, CC.nm, rfl, _, rfl, c2, C, dx2, _, .ref nm2, rfl, ec2, CC.cls, CC.nm, rfl, .tuple (strsD zs), .tuple (strsD zs), .tup tn.sq (dp_strs zs), .tup tn2.sq (dp_strs zs), nice.shaped (by decide), nice.shaped (by decide), by rw [nice.eqv]; exact k⟩
/-! ### _law_are_equal_right -/
def spEqRight (C CS : Addr) : Sp := fun vs H Q _ => ∃ (a lo sx : Addr) (N : Nat) (L : Lore), vs = [.ref a, .ref lo, .ref sx] ∧ PotAt a N H ∧ N ≤ 50000 ∧ LoreAt a H lo L ∧ LoreOk L ∧ ShAt H C CS sx L ∧ ∀ H', ExtP a H H' → PotAt a (N + 5) H' → Q (.bl true) H'
theorem scEqRight : FnScope ["pot", "lore", "shelf", "about", "names", "piece", "other", "near", "its", "value"] ["pot", "lore", "shelf"] (defScope sEqRight) := ⟨rfl, rfl, rfl, by decide +kernel, rfl, by decide +kernel, by decide +kernel⟩
theorem ok_eqRight {C CS fC fS fE fT fL fK fP fH : Addr} {fdE fdT fdK fdP fdH : FuncData} (F : Fun K "_law_are_equal_right" "_law_are_equal_right" sEqRight f fd) (T : Bl mg) (CC : CircC K C fC) (SC : ShC K CS fS) (IC : IsiC K C) (IS : IsiC K CS) (SE : ShE K C CS)
    (M : MethC K CS "__eq__" fE) (NE : NeC K CS fE) (GE : FnOk P w K mg base CX0 1 fE fdE ["self", "other"] (spShelfEq K CS)) (bE : Binds K fdE ["self", "other"] [])
    (GT : FnOk P w K mg base CX0 1 fT fdT ["lore"] spText) (kT : PySem.W.keepIn K (.ref fT) = true) (bT : Binds K fdT ["lore"] []) (mT : mg "_law_text" = some (.ref fT))
    (GK : FnOk P w K mg base CX0 1 fK fdK ["lore"] spKeepers) (kK : PySem.W.keepIn K (.ref fK) = true) (bK : Binds K fdK ["lore"] []) (mK : mg "_law_keepers" = some (.ref fK))
    (GP : FnOk P w K mg base CX0 3 fP fdP ["pot", "parts", "wide"] (spPiece K)) (kP : PySem.W.keepIn K (.ref fP) = true) (bP : Binds K fdP ["pot", "parts", "wide"] []) (mP : mg "_law_piece" = some (.ref fP))
    (GH : FnOk P w K mg base CX0 8 fH fdH ["lore"] (spShelf C CS)) (kH : PySem.W.keepIn K (.ref fH) = true) (bH : Binds K fdH ["lore"] []) (mH : mg "_law_shelf" = some (.ref fH)) :
    FnOk P w K mg base CX0 9 f fd ["pot", "lore", "shelf"] (spEqRight C CS) := by
  refine F.ok scEqRight (fun vs H Q E h => ?_) (fun cdv A outer s H vs Q E hr h => ?_)
  · obtain ⟨a, lo, sx, N, L, rfl, _⟩ := h
    rfl
  · obtain ⟨a, lo, sx, N, L, rfl, hp, hN, la, ok, sh, k⟩ := h
    have nd := scEqRight.nd
    have hu := hu_of hr
    have hr1 : Room 1 _ := hr.mono (by decide)
    have hr2 : Room 2 _ := hr.mono (by decide)
    have hr3 : Room 3 _ := hr.mono (by decide)
    refine ⟨_, pss_cons (ps_set (i := 3) nd rfl (.inl rfl) (pe_disp (pps_cons pe_str (pe_dget hu (pv 1) pe_str (fun _ _ => rfl)) (pps_cons pe_str (pe_revL (pe_dget hu (pv 1) pe_str (fun _ _ => rfl))) pps_nil)) rfl rfl (by simp) (by simp)))
      (pss_cons (ps_set (i := 4) nd rfl (.inl rfl) (pe_call GK hr1 (by rfl) mK kK bK .nil pass0 (pa_cons (pv 1) pa_nil)))
      (pss_cons (ps_set (i := 5) nd rfl (.inl rfl) (pe_call GP hr3 (by rfl) mP kP bP .nil pass0 (pa_cons (pv 0) (pa_cons (pe_dget hu (pv 1) pe_str (fun _ _ => rfl)) (pa_cons pe_int pa_nil)))))
      (pss_cons (ps_set (i := 6) nd rfl (.inl rfl) (pe_disp (pps_cons pe_str (pe_dget hu (pv 1) pe_str (fun _ _ => rfl)) (pps_cons pe_str (pe_op op_cat (pe_slice sl_list (pe_dget hu (pv 1) pe_str (fun _ _ => rfl)) (po_some pe_int) po_none)
          (pe_lst (pa_cons (pe_tup (pa_cons (pe_ix ix_tup (pv 4) pe_int (fun _ _ => rfl)) (pa_cons (pe_tup (pa_cons (pv 5) pa_nil)) pa_nil))) pa_nil))) pps_nil)) rfl rfl (by simp) (by simp)))
      (pss_cons (ps_for PassesOwn.never rfl (pi_tup (pe_tup (pa_cons (pv 1) (pa_cons (pv 3) (pa_cons (pv 6) pa_nil))))) (pg_name (i := 7) nd rfl (.inl rfl))
          (pss_cons (ps_set (i := 8) nd rfl (.inl rfl) (pe_call GH hr (by rfl) mH kH bH .nil pass0 (pa_cons (pv 7) pa_nil)))
          (pss_one (ps_if (PW.pt (pw_or (pt_cmpR op_ne (pe_cmpR (op_eqI GE M.at_ M.fn bE hr1) (pv 8) (pv 2) (nomark _)) (pe_cmpR op_eq (pe_call GT hr1 (by rfl) mT kT bT .nil pass0 (pa_cons (pv 7) pa_nil)) (pe_call GT hr1 (by rfl) mT kT bT .nil pass0 (pa_cons (pv 1) pa_nil)) (nomark _)) (nomark _))
            (pw_or1 (pt_cmpR op_eq (pe_cmpR (op_neI GE NE bE hr2) (pv 8) (pv 2) (nomark _)) (pe_cmpR (op_eqI GE M.at_ M.fn bE hr1) (pv 8) (pv 2) (nomark _)) (nomark _))))) pss_no pss_nil))))
      (pss_one (ps_ret (pe_not (pe_callB (cr_any rfl) (by rfl) T.any boot_any (pa_cons (pe_lc (own := [("value", 9)]) (g := gName 9) (tt := tYes) (te := tOp (rEqI K CS (spShelfEq K CS)) (tVar 2) (tVar 9)) rfl nd
          (pi_tup (pe_tup (pa_cons pe_non (pa_cons (pe_call GT hr1 (by rfl) mT kT bT .nil pass0 (pa_cons (pv 1) pa_nil)) (pa_cons (pe_tup pa_nil) (pa_cons (pv 4) (pa_cons (pe_fld (pv 2) rfl) (pa_cons (pe_fld (pv 2) rfl) (pa_cons pe_int pa_nil)))))))))
          (blkOk_by (N := ["pot", "lore", "shelf", "about", "names", "piece", "other", "near", "its", "value"]) (sc := defScope sEqRight) (by decide +kernel)) (fun _ _ _ _ _ => pg_name (i := 9) nd rfl (.inl rfl)) (fun _ _ _ _ _ => pts_nil)
          (fun _ _ _ _ _ => pe_cmpR (op_eqI GE M.at_ M.fn bE hr1) (pv 2) (pv 9) (nomark _))) pa_nil))))))))), ?_⟩
    obtain ⟨pa, ks, rows, e1, e2, e3, n0, e4⟩ := id la
    -- about
    refine fun ab nab => ?_
    have s1 : Same H (upd H ab (.dK [])) := same_new nab
    refine ⟨_, rfl, lo, _, rfl, (dget2 (s1 _ _ e1)).1, _, rfl, lo, _, rfl, (dget2 (s1 _ _ e1)).2, ks, rows, rfl, SqL.of (s1 _ _ e3), fun rv nrv => ?_⟩
    have s2 : Same (upd H ab (.dK [])) (upd (upd H ab (.dK [])) rv (.lst rows.reverse)) := same_new nrv
    have nra : rv ≠ ab := fun z => by rw [z, upd_same] at nrv; cases nrv
    have eab2 := s2 _ _ (upd_same (H := H) (a := ab) (o := .dK []))
    have erv2 : upd (upd H ab (.dK [])) rv (.lst rows.reverse) rv = some (.lst rows.reverse) := upd_same
    have s12 := s1.trans s2
    generalize upd (upd H ab (.dK [])) rv (.lst rows.reverse) = H2 at eab2 erv2 s12 ⊢
    refine ⟨eab2, [(.inr "parts", .ref pa), (.inr "keepers", .ref rv)], rfl, by show 2 ≤ 15; decide, ?_⟩
    have s3 : Same H (upd H2 ab (.dK (mergeK [] [(.inr "parts", .ref pa), (.inr "keepers", .ref rv)]))) := fun b o e => by
      rw [upd_ne (ne_of_none e nab)]
      exact s12 _ _ e
    have eab3 : upd H2 ab (.dK (mergeK [] [(.inr "parts", .ref pa), (.inr "keepers", .ref rv)])) ab = some (.dK [(.inr "parts", .ref pa), (.inr "keepers", .ref rv)]) := upd_same
    have erv3 : upd H2 ab (.dK (mergeK [] [(.inr "parts", .ref pa), (.inr "keepers", .ref rv)])) rv = some (.lst rows.reverse) := by rw [upd_ne nra]; exact erv2
    generalize upd H2 ab (.dK (mergeK [] [(.inr "parts", .ref pa), (.inr "keepers", .ref rv)])) = H3 at s3 eab3 erv3 ⊢
    have nrva : rv ≠ a := fun z => by
      have : H rv = none := s1.free nrv
      rw [z] at this
      exact hp.ne this
    have la3 := la.same s3
    have ab3 : LoreAt a H3 ab ⟨L.parts, L.kps.reverse⟩ := ⟨pa, rv, rows.reverse, eab3, s3 _ _ e2, erv3, nrva, paired_rev (e4.tups (.of s3))⟩
    -- names
    refine ⟨_, rfl, a, lo, L, rfl, la3, ok.k6, fun q H4 s4 nq tq => ?_⟩
    have s34 := s3.trans s4
    have hp4 := hp.same s34
    have pna : pa ≠ a := fun z => by
      obtain ⟨_, _, _, h, _⟩ := id hp
      rw [z, h] at e2
      cases e2
    -- piece
    refine ⟨_, rfl, _, rfl, lo, _, rfl, (dget2 (s34 _ _ e1)).1, a, pa, 4, N, L.parts, rfl, hp4, by omega, .inr (SqT.of (s34 _ _ e2)), pna, ok.p0, ok.p4, by decide, by decide, fun piece pc H5 pok x5 p5 npc epc => ?_⟩
    have k5 : Keep H4 H5 := Keep.ext hp4 x5
    have la5 : LoreAt a H5 lo L := (la.same s34).ext hp4 x5
    have ab5 : LoreAt a H5 ab ⟨L.parts, L.kps.reverse⟩ := (ab3.same s4).ext hp4 x5
    have tq5 := tq.keep k5
    have sh5 : ShAt H5 C CS sx L := (sh.same s34).keep k5
    obtain ⟨pa5, ks5, rows5, f1, f2, f3, m0, f4⟩ := id la5
    -- other
    obtain ⟨k0, kr, ek⟩ : ∃ k0 kr, L.kps = k0 :: kr := by
      have := ok.k2
      cases h : L.kps with
      | nil => rw [h] at this; simp at this
      | cons k0 kr => exact ⟨k0, kr, rfl⟩
    obtain ⟨r0, rr, er, fr⟩ : ∃ r0 rr, rows5 = r0 :: rr ∧ Rows H5 rr kr := by
      rw [ek] at f4
      cases f4 with
      | cons h t => exact ⟨_, _, rfl, t⟩
    have rl : rr.length ≤ 6 := by
      have h1 : rr.length = kr.length := Paired.length fr
      have h2 := ok.k6
      rw [ek, List.length_cons] at h2
      omega
    refine fun ot no => ?_
    have s6 : Same H5 (upd H5 ot (.dK [])) := same_new no
    have eo6 : upd H5 ot (.dK []) ot = some (.dK []) := upd_same
    generalize upd H5 ot (.dK []) = H6 at s6 eo6 ⊢
    refine ⟨_, rfl, lo, _, rfl, (dget2 (s6 _ _ f1)).1, _, rfl, lo, _, rfl, (dget2 (s6 _ _ f1)).2, _, rfl, ks5, rows5, rfl, SqL.of (s6 _ _ f3), fun p1 np1 => ?_⟩
    have ec : cutV rows5 (some 1) none = rr := by
      rw [cut1 _ (by rw [er, List.length_cons]; omega), er]
      rfl
    rw [ec]
    have s7 : Same H6 (upd H6 p1 (.lst rr)) := same_new np1
    have ep7 : upd H6 p1 (.lst rr) p1 = some (.lst rr) := upd_same
    generalize upd H6 p1 (.lst rr) = H7 at s7 ep7 ⊢
    have s57 := s6.trans s7
    refine ⟨_, rfl, q, _, _, .str k0.1, rfl, rfl, (tq5.same s57).sq, at0 (by rw [ek]; rfl), _, rfl, few_ok rfl, fun t1 nt1 => ?_⟩
    have s8 : Same H7 (upd H7 t1 (.tup [.ref pc])) := same_new nt1
    have et8 : upd H7 t1 (.tup [.ref pc]) t1 = some (.tup [.ref pc]) := upd_same
    generalize upd H7 t1 (.tup [.ref pc]) = H8 at s8 et8 ⊢
    refine ⟨few_ok rfl, fun t2 nt2 => ?_⟩
    have s9 : Same H8 (upd H8 t2 (.tup [.str k0.1, .ref t1])) := same_new nt2
    have et9 : upd H8 t2 (.tup [.str k0.1, .ref t1]) t2 = some (.tup [.str k0.1, .ref t1]) := upd_same
    generalize upd H8 t2 (.tup [.str k0.1, .ref t1]) = H9 at s9 et9 ⊢
    refine ⟨few_ok rfl, fun l2 nl2 => ?_⟩
    have s10 : Same H9 (upd H9 l2 (.lst [.ref t2])) := same_new nl2
    have el10 : upd H9 l2 (.lst [.ref t2]) l2 = some (.lst [.ref t2]) := upd_same
    generalize upd H9 l2 (.lst [.ref t2]) = H10 at s10 el10 ⊢
    refine ⟨p1, l2, rr, _, rfl, rfl, s10 _ _ (s9 _ _ (s8 _ _ ep7)), el10, by rw [sizeLine_eq]; show rr.length + 1 ≤ _; omega, fun l3 nl3 => ?_⟩
    have s11 : Same H10 (upd H10 l3 (.lst (rr ++ [.ref t2]))) := same_new nl3
    have el11 : upd H10 l3 (.lst (rr ++ [.ref t2])) l3 = some (.lst (rr ++ [.ref t2])) := upd_same
    generalize upd H10 l3 (.lst (rr ++ [.ref t2])) = H11 at s11 el11 ⊢
    have s611 : Same H6 H11 := ((((s7.trans s8).trans s9).trans s10).trans s11)
    refine ⟨s611 _ _ eo6, [(.inr "parts", .ref pa5), (.inr "keepers", .ref l3)], rfl, by show 2 ≤ 15; decide, ?_⟩
    have s12 : Same H5 (upd H11 ot (.dK (mergeK [] [(.inr "parts", .ref pa5), (.inr "keepers", .ref l3)]))) := fun b o e => by
      rw [upd_ne (ne_of_none e no)]
      exact s611 _ _ (s6 _ _ e)
    have kp12 : ∀ b o, b ≠ ot → H11 b = some o → upd H11 ot (.dK (mergeK [] [(.inr "parts", .ref pa5), (.inr "keepers", .ref l3)])) b = some o := fun b o nb e => by rw [upd_ne nb]; exact e
    have eo12 : upd H11 ot (.dK (mergeK [] [(.inr "parts", .ref pa5), (.inr "keepers", .ref l3)])) ot = some (.dK [(.inr "parts", .ref pa5), (.inr "keepers", .ref l3)]) := upd_same
    generalize upd H11 ot (.dK (mergeK [] [(.inr "parts", .ref pa5), (.inr "keepers", .ref l3)])) = H12 at s12 kp12 eo12 ⊢
    have fresh : ∀ {b : Addr} {G : Hp}, Same H6 G → G b = none → b ≠ ot := fun {b G} s n z => by
      rw [z, s _ _ eo6] at n
      cases n
    have s67 := s7
    have s68 := s67.trans s8
    have s69 := s68.trans s9
    have s610 := s69.trans s10
    have e2t : H12 t2 = some (.tup [.str k0.1, .ref t1]) := kp12 _ _ (fresh s68 nt2) (s11 _ _ (s10 _ _ et9))
    have e1t : H12 t1 = some (.tup [.ref pc]) := kp12 _ _ (fresh s67 nt1) (s11 _ _ (s10 _ _ (s9 _ _ et8)))
    have e3l : H12 l3 = some (.lst (rr ++ [.ref t2])) := kp12 _ _ (fresh s610 nl3) el11
    have nl3a : l3 ≠ a := fun z => by
      have n5 : H5 l3 = none := s6.free (s610.free nl3)
      rw [z] at n5
      exact p5.ne n5
    have ot12 : LoreAt a H12 ot ⟨L.parts, kr ++ [(k0.1, [piece])]⟩ := by
      refine ⟨pa5, l3, rr ++ [.ref t2], eo12, s12 _ _ f2, e3l, nl3a, ?_⟩
      exact paired_append (fr.tups (.of s12)) (.cons ⟨t2, t1, [.ref pc], rfl, e2t, e1t, .cons ⟨pc, rfl, s12 _ _ epc⟩ .nil⟩ .nil)
    have la12 := la5.same s12
    have ab12 := ab5.same s12
    have tq12 := tq5.same s12
    have sh12 := sh5.same s12
    have p12 := p5.same s12
    have x12 : ExtP a H H12 := ((ExtP.of s34).trans x5).trans (.of s12)
    have nears : ∀ (i : Nat) (x : V), [V.ref lo, .ref ab, .ref ot][i]? = some x → ∃ nr Ln, x = .ref nr ∧ LoreAt a H12 nr Ln ∧ LoreOk Ln := fun i x h => by
      match i, h with
      | 0, h => cases h; exact ⟨lo, L, rfl, la12, ok⟩
      | 1, h => cases h; exact ⟨ab, _, rfl, ab12, ok.rev⟩
      | 2, h => cases h; exact ⟨ot, _, rfl, ot12, ok.turn ek pok⟩
      | _ + 3, h => simp at h
    clear ot12 ab12 e3l e1t e2t fresh eo12 kp12
    -- for near in (lore, about, other)
    refine ⟨_, rfl, _, rfl, _, rfl, few_ok rfl, fun tp ntp => ?_⟩
    have s13 : Same H12 (upd H12 tp (.tup [.ref lo, .ref ab, .ref ot])) := same_new ntp
    have et13 : upd H12 tp (.tup [.ref lo, .ref ab, .ref ot]) tp = some (.tup [.ref lo, .ref ab, .ref ot]) := upd_same
    generalize upd H12 tp (.tup [.ref lo, .ref ab, .ref ot]) = H13 at s13 et13 ⊢
    refine ⟨tp, rfl, ⟨_, SqT.of et13⟩, for_tup (xs := [V.ref lo, .ref ab, .ref ot]) (fun i σ H' => ∃ u v : Option V, σ = [some (.ref a), some (.ref lo), some (.ref sx), some (.ref ab), some (.ref q), some (.ref pc), some (.ref ot), u, v, none] ∧ Same H13 H') ?_ ?_ ?_ ?_⟩
    · exact ⟨none, none, rfl, Same.refl _⟩
    · rintro i σ H' _ ⟨_, _, _, ss⟩
      exact SqT.of (ss _ _ et13)
    · rintro i x σ H' hx ⟨u, v, rfl, ss⟩
      obtain ⟨nr, Ln, rfl, lan, okn⟩ := nears i x hx
      have lan' := (lan.same s13).same ss
      have la' := (la12.same s13).same ss
      refine ⟨_, rfl, a, nr, Ln, rfl, lan', okn, fun xi H14 s14 nxi shx => ?_⟩
      obtain ⟨dxi, fsi, hxi, _, txi, _⟩ := id shx
      obtain ⟨dxs, fss, hs, _, txs, _⟩ := ((sh12.same s13).same ss).same s14
      have both : ∀ R : V → Hp → Prop, R (.bl (decide (textL Ln = textL L))) H14 → spShelfEq K CS [.ref xi, .ref sx] H14 R E0 := fun R hR => ⟨xi, dxi, fsi, textL Ln, .ref sx, rfl, hxi, txi, .inl ⟨sx, dxs, fss, textL L, rfl, hs, txs, hR⟩⟩
      refine ⟨_, rfl, _, rfl, xi, dxi, fsi, .ref CS, rfl, hxi, IS.ty _ _ _ _ hs, SE.nS, both _ ⟨_, rfl, ?_⟩⟩
      refine ⟨_, rfl, a, nr, Ln, rfl, lan'.same s14, okn, fun H15 s15 => ⟨_, rfl, a, lo, L, rfl, (la'.same s14).same s15, ok, fun H16 s16 => ⟨rfl, rfl, _, rfl, iteB ?_ ?_⟩⟩⟩
      · have : decide (V.str (textL Ln) = V.str (textL L)) = decide (textL Ln = textL L) := by simp
        rw [this]
        simp
      have s416 := s15.trans s16
      have both2 : ∀ R : V → Hp → Prop, R (.bl (decide (textL Ln = textL L))) H16 → spShelfEq K CS [.ref xi, .ref sx] H16 R E0 := fun R hR => ⟨xi, dxi, fsi, textL Ln, .ref sx, rfl, s416 _ _ hxi, txi, .inl ⟨sx, dxs, fss, textL L, rfl, s416 _ _ hs, txs, hR⟩⟩
      refine ⟨_, rfl, _, rfl, xi, sx, dxi, dxs, fsi, fss, rfl, rfl, s416 _ _ hxi, s416 _ _ hs, both2 _ ⟨_, rfl, ?_⟩⟩
      refine ⟨_, rfl, _, rfl, xi, dxi, fsi, .ref CS, rfl, s416 _ _ hxi, IS.ty _ _ _ _ (s416 _ _ hs), SE.nS, both2 _ ⟨_, rfl, rfl, _, rfl, iteB ?_ ?_⟩⟩
      · cases decide (textL Ln = textL L) <;> rfl
      exact ⟨_, _, rfl, (ss.trans s14).trans s416⟩
    · rintro σ H' ⟨u, v, rfl, ss⟩
      have sH := s13.trans ss
      have la' := la12.same sH
      have sh' := sh12.same sH
      refine ⟨_, rfl, a, lo, L, rfl, la', ok, fun H14 s14 => ?_⟩
      refine ⟨few_ok rfl, fun t0 nt0 => ?_⟩
      have s15 : Same H14 (upd H14 t0 (.tup [])) := same_new nt0
      have et15 : upd H14 t0 (.tup []) t0 = some (.tup []) := upd_same
      generalize upd H14 t0 (.tup []) = H15 at s15 et15 ⊢
      have s1215 := (sH.trans s14).trans s15
      have sh15 := sh12.same s1215
      obtain ⟨dxs, fss, hs, sf, txs, _⟩ := id sh15
      obtain ⟨c, lc, cdx, cnm, ec, tn⟩ := sf.circle
      obtain ⟨pq, lq, prows, eq, _⟩ := sf.pieces
      refine ⟨_, rfl, _, rfl, sx, CS, dxs, fss, .ref c, rfl, hs, SC.cls, SC.circle, lc, _, rfl, sx, CS, dxs, fss, .ref pq, rfl, hs, SC.cls, SC.pieces, lq, few_ok rfl, fun tp2 ntp2 => ?_⟩
      have s16 : Same H15 (upd H15 tp2 (.tup [.non, .str (textL L), .ref t0, .ref q, .ref c, .ref pq, .int 0])) := same_new ntp2
      have et16 : upd H15 tp2 (.tup [.non, .str (textL L), .ref t0, .ref q, .ref c, .ref pq, .int 0]) tp2 = some (.tup [.non, .str (textL L), .ref t0, .ref q, .ref c, .ref pq, .int 0]) := upd_same
      generalize upd H15 tp2 (.tup [.non, .str (textL L), .ref t0, .ref q, .ref c, .ref pq, .int 0]) = H16 at s16 et16 ⊢
      have tq15 := tq12.same s1215
      refine ⟨tp2, rfl, ⟨_, SqT.of et16⟩, any_over (walk_tup (a := tp2) (xs := [.non, .str (textL L), .ref t0, .ref q, .ref c, .ref pq, .int 0])) [.non, .str (textL L), .ref t0, .ref q, .ref c, .ref pq, .int 0] (fun v => v) (fun _ => false) (by simp) (by simp) (fun H s => sqT_same s (SqT.of et16)) ?_ ?_⟩
      · intro i b H17 R hb s17 kk
        have sb := s16.trans s17
        have no_ : NotSh K CS H17 b := by
          have hb := List.mem_of_getElem? hb
          simp only [List.mem_cons, List.not_mem_nil, or_false] at hb
          rcases hb with rfl | rfl | rfl | rfl | rfl | rfl | rfl
          · exact ⟨_, .base .non, SE.nN, SE.kN⟩
          · exact ⟨_, .base (.str _), SE.nZ, SE.kZ⟩
          · exact ⟨_, .base (.tup (sb _ _ et15)), SE.nT, SE.kT⟩
          · exact ⟨_, isi_tup (tq15.same sb), SE.nT, SE.kT⟩
          · exact ⟨_, IC.ty _ _ _ _ (sb _ _ ec), SE.nC, SE.kC⟩
          · exact ⟨_, .base (.tup (sb _ _ eq)), SE.nT, SE.kT⟩
          · exact ⟨_, .base (.int _), SE.nI, SE.kI⟩
        obtain ⟨ty, h1, h2, h3⟩ := no_
        exact ⟨rfl, _, rfl, _, rfl, sx, dxs, fss, ty, rfl, sb _ _ hs, h1, h2, sx, dxs, fss, textL L, b, rfl, sb _ _ hs, txs, .inr ⟨ty, h1, h3, _, rfl, kk _ (Same.refl _)⟩⟩
      · intro H17 s17
        refine ⟨_, rfl, ?_⟩
        exact k H17 (x12.trans (.of ((s1215.trans s16).trans s17))) (p12.same ((s1215.trans s16).trans s17))
end
end K6
set_option Elab.async false
set_option linter.all false
set_option maxRecDepth 100000
set_option maxHeartbeats 4000000
set_option pp.maxSteps 1200
set_option pp.deepTerms false
namespace K6
open PySem PySem.Spec PyProof.Rows L2 Lk
/-! ### texts that can be laid -/
theorem strOk_of {x : Str} (h : ∀ c ∈ TL.tl x, c < 0x110000) : PyData.strOk x = true := by
  unfold PyData.strOk
  rw [Array.all_eq_true_iff_forall_mem]
  intro c hc
  exact decide_eq_true (h c (Array.mem_toList_iff.mpr hc))
theorem of_strOk {x : Str} (h : PyData.strOk x = true) : ∀ c ∈ TL.tl x, c < 0x110000 := fun c hc => by
  unfold PyData.strOk at h
  have := (Array.all_eq_true_iff_forall_mem.mp h) c (Array.mem_toList_iff.mp hc)
  exact of_decide_eq_true this
theorem strOk_join {s : Str} {xs : List Str} (hs : PyData.strOk s = true) (hx : ∀ x ∈ xs, PyData.strOk x = true) : PyData.strOk (Txt.join s xs) = true := strOk_of fun c hc => by
  rcases mem_join hc with h | ⟨x, hm, h⟩
  · exact of_strOk hs c h
  · exact of_strOk (hx x hm) c h
theorem parts_strOk : ∀ p ∈ partPool, PyData.strOk p = true := by decide +kernel
theorem text_strOk {L : Lore} (ok : LoreOk L) : PyData.strOk (textL L) = true := by
  refine strOk_join (by decide +kernel) fun x hx => ?_
  rcases List.mem_cons.mp hx with rfl | hx
  · refine strOk_join (by decide +kernel) fun y hy => ?_
    rcases List.mem_cons.mp hy with rfl | hy
    · decide +kernel
    · exact parts_strOk y (ok.pp y hy)
  · obtain ⟨k, hk, rfl⟩ := List.mem_map.mp hx
    refine strOk_join (by decide +kernel) fun y hy => ?_
    rcases List.mem_cons.mp hy with rfl | hy
    · decide +kernel
    rcases List.mem_cons.mp hy with rfl | hy
    · exact names_strOk _ (ok.kp k hk)
    obtain ⟨p, hp, rfl⟩ := List.mem_map.mp hy
    exact strOk_join (by decide +kernel) fun z hz => parts_strOk z (ok.pp z (((ok.q k hk).2.2 p hp).sub z hz))
theorem nice_parts {L : Lore} (ok : LoreOk L) {zs : List Str} (h : ∀ z ∈ zs, z ∈ L.parts) (hl : zs.length ≤ 4) : Nice (4 * (8 + 1)) 1 (.tuple (strsD zs)) :=
  nice_strs (fun z hz => ⟨parts_strOk z (ok.pp z (h z hz)), Nat.le_trans (part_len z (ok.pp z (h z hz))) (by decide)⟩) hl
theorem names_ok {L : Lore} (ok : LoreOk L) : ∀ z ∈ L.kps.map (·.1), PyData.strOk z = true ∧ z.length ≤ 8 := fun z hz => by
  obtain ⟨k, hk, rfl⟩ := List.mem_map.mp hz
  exact ⟨names_strOk _ (ok.kp k hk), name_len _ (ok.kp k hk)⟩
theorem nice_names {L : Lore} (ok : LoreOk L) : Nice (6 * (8 + 1)) 1 (.tuple (strsD (L.kps.map (·.1)))) := nice_strs (names_ok ok) (by rw [List.length_map]; exact ok.k6)
theorem nice_text {L : Lore} (ok : LoreOk L) : Nice 1000 0 (.str (textL L)) := by
  have := ok.k6
  refine .str (text_strOk ok) (Nat.le_trans (join_le (s := ("\n" : Str)) (n := 7) (by show (L.kps.map lineK).length + 1 ≤ 7; rw [List.length_map]; omega) (rows_len ok)).2 (by decide))
/-! ### pieces as data -/
def rowD (ps : List (List Str)) : PyData := .tuple (ps.map fun p => .tuple (strsD p))
def pcsD (ks : List KP) : PyData := .tuple (ks.map fun k => rowD k.2)
theorem dw_pieces {H : Hp} : ∀ {ts : List V} {ps : List (List Str)}, Pieces H ts ps → DWs H ts (ps.map fun p => .tuple (strsD p))
  | _, _, .nil => .nil
  | _, _, .cons h t => by
    obtain ⟨u, rfl, e⟩ := h
    exact .cons (.tup e (dw_strs _)) (dw_pieces t)
theorem dw_rows {H : Hp} : ∀ {rows : List V} {ks : List KP}, Paired (fun v (k : KP) => ∃ r ts, v = V.ref r ∧ H r = some (.tup ts) ∧ Pieces H ts k.2) rows ks → DWs H rows (ks.map fun k => rowD k.2)
  | _, _, .nil => .nil
  | _, _, .cons h t => by
    obtain ⟨r, ts, rfl, e, p⟩ := h
    exact .cons (.tup e (dw_pieces p)) (dw_rows t)
theorem dw_pcs {H : Hp} {q : Addr} {ks : List KP} (h : PcsAt H q ks) : DW H (.ref q) (pcsD ks) := by
  obtain ⟨rows, e, p⟩ := h
  exact .tup e (dw_rows p)
theorem nice_row {L : Lore} (ok : LoreOk L) {k : KP} (hk : k ∈ L.kps) : Nice (2 * (4 * (8 + 1) + 1)) 2 (rowD k.2) := by
  refine Nice.tup (fun d hd => ?_) (by rw [List.length_map]; exact (ok.q k hk).2.1)
  obtain ⟨p, hp, rfl⟩ := List.mem_map.mp hd
  exact nice_parts ok (((ok.q k hk).2.2 p hp).sub) (piece_len ok hk p hp).1
theorem nice_pcs {L : Lore} (ok : LoreOk L) : Nice (6 * (2 * (4 * (8 + 1) + 1) + 1)) 3 (pcsD L.kps) := by
  refine Nice.tup (fun d hd => ?_) (by rw [List.length_map]; exact ok.k6)
  obtain ⟨k, hk, rfl⟩ := List.mem_map.mp hd
  exact nice_row ok hk
/-! ### the sums are the same -/
theorem spots_sum : ∀ ks : List KP, ((ks.map fun k => (k.2.length : Int)).sum) = ((spotsOf ks).length : Int)
  | [] => rfl
  | k :: ks => by
    have ih := spots_sum ks
    show (k.2.length : Int) + (ks.map fun k => (k.2.length : Int)).sum = (((List.range k.2.length).map fun i => (k.1, i)) ++ spotsOf ks).length
    rw [ih, List.length_append, List.length_map, List.length_range]
    omega
theorem odd_one {ps p : List Str} (h : PieceOk ps p) : oddL ps [p] = p := by
  have e : oddL ps [p] = ps.filter fun x => decide (x ∈ p) := by
    unfold oddL
    refine List.filter_congr fun x _ => ?_
    unfold cntP
    by_cases m : x ∈ p <;> simp [m]
  rw [e]
  exact h.2.symm
theorem pieces_flat {L : Lore} (ok : LoreOk L) : (spotsOf L.kps).map (pieceOf L) = L.kps.flatMap (·.2) := by
  have go : ∀ ks : List KP, (∀ k ∈ ks, k ∈ L.kps) → (spotsOf ks).map (pieceOf L) = ks.flatMap (·.2) := fun ks => by
    induction ks with
    | nil => intro _; rfl
    | cons k ks ih =>
      intro h
      show ((((List.range k.2.length).map fun i => (k.1, i)) ++ spotsOf ks).map (pieceOf L)) = k.2 ++ ks.flatMap (·.2)
      rw [List.map_append, ih fun q hq => h q (List.mem_cons_of_mem _ hq), List.map_map]
      congr 1
      apply List.ext_getElem?
      intro i
      rw [List.getElem?_map]
      by_cases hi : i < k.2.length
      · rw [List.getElem?_range hi, List.getElem?_eq_getElem hi]
        show some (pieceOf L (k.1, i)) = _
        unfold pieceOf
        dsimp only
        rw [find_at ok.kn (h k List.mem_cons_self)]
        simp [hi]
      · rw [List.getElem?_eq_none (by rw [List.length_range]; omega), List.getElem?_eq_none (by omega)]
        rfl
  exact go L.kps fun _ h => h
theorem piece_ok {L : Lore} (ok : LoreOk L) {s : Spot} (h : s ∈ spotsOf L.kps) : PieceOk L.parts (pieceOf L s) := by
  obtain ⟨j, kq, hj, _, e2⟩ := piece_of ok h
  exact (ok.q kq (List.mem_of_getElem? hj)).2.2 _ (List.mem_of_getElem? e2)
theorem alone_eq {L : Lore} (ok : LoreOk L) : (spotsOf L.kps).map (fun s => oddL L.parts [pieceOf L s]) = L.kps.flatMap (·.2) := by
  rw [← pieces_flat ok]
  exact List.map_congr_left fun s hs => odd_one (piece_ok ok hs)
theorem odd_sub (ps : List Str) (pcs : List (List Str)) : (∀ z ∈ oddL ps pcs, z ∈ ps) ∧ (oddL ps pcs).length ≤ ps.length := ⟨fun z hz => (List.mem_filter.mp hz).1, List.length_filter_le _ _⟩
/-! ### answers -/
theorem bits_ok (bs : List Str) (h : bs.length ≤ 2) (hb : ∀ b ∈ bs, b = "0" ∨ b = "1") : PyData.strOk (Txt.join "" bs) = true ∧ (Txt.join "" bs).length ≤ 8 := by
  match bs, h, hb with
  | [], _, _ => exact ⟨by decide +kernel, by decide +kernel⟩
  | [a], _, hb =>
    rcases hb a (by simp) with rfl | rfl <;> exact ⟨by decide +kernel, by decide +kernel⟩
  | [a, b], _, hb =>
    rcases hb a (by simp) with rfl | rfl <;> rcases hb b (by simp) with rfl | rfl <;> exact ⟨by decide +kernel, by decide +kernel⟩
  | _ :: _ :: _ :: _, h, _ => exact absurd h (by simp)
theorem nice_answer {L : Lore} (ok : LoreOk L) {k : KP} (hk : k ∈ L.kps) (z : Str) : Nice 8 0 (.str (answerS L k z)) := by
  obtain ⟨h1, h2⟩ := bits_ok (k.2.map fun p => bitS (onesN L p z)) (by rw [List.length_map]; exact (ok.q k hk).2.1) fun b hb => by
    obtain ⟨p, _, rfl⟩ := List.mem_map.mp hb
    unfold bitS
    split
    · exact .inr rfl
    · exact .inl rfl
  exact .str h1 h2
end K6
set_option Elab.async false
set_option linter.all false
set_option maxRecDepth 100000
set_option maxHeartbeats 4000000
set_option pp.maxSteps 1200
set_option pp.deepTerms false
namespace K6
open PySem PySem.Spec PyProof.Rows L2 Lk
abbrev sRight : Stmt := top 61
theorem dp_pieces {K : PySem.W.Frag} {H : Hp} : ∀ {ts : List V} {ps : List (List Str)}, Pieces H ts ps → DpAll K H ts (ps.map fun p => .tuple (strsD p))
  | _, _, .nil => .nil
  | _, _, .cons h t => by
    obtain ⟨u, rfl, e⟩ := h
    exact .cons (.tup (SqT.of e) (dp_strs _)) (dp_pieces t)
theorem nice_flat {L : Lore} (ok : LoreOk L) : Nice (12 * (4 * (8 + 1) + 1)) 2 (.list ((L.kps.flatMap (·.2)).map fun p => .tuple (strsD p))) := by
  refine Nice.lst (fun d hd => ?_) ?_
  · obtain ⟨p, hp, rfl⟩ := List.mem_map.mp hd
    obtain ⟨k, hk, hp⟩ := List.mem_flatMap.mp hp
    exact nice_parts ok (((ok.q k hk).2.2 p hp).sub) (piece_len ok hk p hp).1
  · have h2 := spots_len L.kps fun k hk => (ok.q k hk).2.1
    have := ok.k6
    rw [List.length_map, ← pieces_flat ok, List.length_map]
    omega
section
variable {P : Program} {w : World} {K : PySem.W.Frag} {mg : Str → Option Value} {base : Heap} {f : Addr} {fd : FuncData}
/-! ### _law_right -/
def spRight : Sp := fun vs H Q _ => ∃ (a : Addr) (N : Nat), vs = [.ref a] ∧ PotAt a N H ∧ N ≤ 5000 ∧ ∀ H', ExtP a H H' → PotAt a (N + 500) H' → Q (.bl true) H'
theorem scRight : FnScope ["pot", "lore", "shelf", "names", "name", "row", "pieces", "record", "spots", "lap", "some", "alone", "spot"] ["pot"] (defScope sRight) := ⟨rfl, rfl, rfl, by decide +kernel, rfl, by decide +kernel, by decide +kernel⟩
/-- a def that is called: where it stands -/
structure At (K : PySem.W.Frag) (mg : Str → Option Value) (x : Str) (f : Addr) (fd : FuncData) (ps : List Str) : Prop where
  kp : PySem.W.keepIn K (.ref f) = true
  b : Binds K fd ps []
  m : mg x = some (.ref f)
theorem ok_right {C CS fC fS fLo fSh fK fT fE fSo fR fA fLA fSp fTk fCo fLC fCI fCE fLen : Addr} {dLo dSh dK dT dE dSo dR dA dLA dSp dTk dCo dLC dCI dCE dLen : FuncData} (F : Fun K "_law_right" "_law_right" sRight f fd) (T : Bl mg) (Cc : Cn mg) (CC : CircC K C fC) (SC : ShC K CS fS)
    (GLo : FnOk P w K mg base CX0 4 fLo dLo ["pot"] spLore) (aLo : At K mg "_law_lore" fLo dLo ["pot"])
    (GSh : FnOk P w K mg base CX0 8 fSh dSh ["lore"] (spShelf C CS)) (aSh : At K mg "_law_shelf" fSh dSh ["lore"])
    (GK : FnOk P w K mg base CX0 1 fK dK ["lore"] spKeepers) (aK : At K mg "_law_keepers" fK dK ["lore"])
    (GT : FnOk P w K mg base CX0 1 fT dT ["lore"] spText) (aT : At K mg "_law_text" fT dT ["lore"])
    (GE : FnOk P w K mg base CX0 9 fE dE ["pot", "lore", "shelf"] (spEqRight C CS)) (aE : At K mg "_law_are_equal_right" fE dE ["pot", "lore", "shelf"])
    (GSo : FnOk P w K mg base CX0 2 fSo dSo ["pot", "pool", "amount"] (spSome K)) (aSo : At K mg "_law_some" fSo dSo ["pot", "pool", "amount"])
    (GR : FnOk P w K mg base CX0 1 fR dR ["lore"] spRecords) (aR : At K mg "_law_records" fR dR ["lore"])
    (GA : FnOk P w K mg base CX0 4 fA dA ["shelf", "keeper", "record"] (spAnswer C CS)) (aA : At K mg "answer" fA dA ["shelf", "keeper", "record"])
    (GLA : FnOk P w K mg base CX0 2 fLA dLA ["lore", "keeper", "record"] spLAnswer) (aLA : At K mg "_law_answer" fLA dLA ["lore", "keeper", "record"])
    (GSp : FnOk P w K mg base CX0 1 fSp dSp ["lore", "lot"] (spSpots K)) (aSp : At K mg "_law_spots" fSp dSp ["lore", "lot"])
    (GTk : FnOk P w K mg base CX0 1 fTk dTk ["pot", "upto"] spTake) (aTk : At K mg "_law_take" fTk dTk ["pot", "upto"])
    (GCo : FnOk P w K mg base CX0 3 fCo dCo ["shelf", "spots"] (spComesTo C CS)) (aCo : At K mg "comes_to" fCo dCo ["shelf", "spots"])
    (GLC : FnOk P w K mg base CX0 1 fLC dLC ["lore", "some"] spLComes) (aLC : At K mg "_law_comes_to" fLC dLC ["lore", "some"])
    (GCI : FnOk P w K mg base CX0 3 fC dCI ["self", "names"] (spCircI K C)) (bCI : Binds K dCI ["self", "names"] []) (mC : mg "Circle" = some (.ref C))
    (GCE : FnOk P w K mg base CX0 1 fCE dCE ["self", "other"] (spCircEq C)) (bCE : Binds K dCE ["self", "other"] []) (NCE : NeC K C fCE)
    (GLen : FnOk P w K mg base CX0 1 fLen dLen ["self"] (spShelfLen C CS)) (bLen : Binds K dLen ["self"] []) (ML : MethC K CS "__len__" fLen) :
    FnG P w K mg base 10 f fd ["pot"] spRight := by
  refine FnG.of F scRight (fun vs H Q h => ?_) (fun cdv A outer s H vs Q hr hG h => ?_)
  · obtain ⟨a, N, rfl, _⟩ := h
    rfl
  · obtain ⟨a, N, rfl, hp, hN, k⟩ := h
    have nd := scRight.nd
    have hu := hu_of hr
    have hu64 := room64 hr
    have hr1 : Room 1 _ := hr.mono (by decide)
    have hr2 : Room 2 _ := hr.mono (by decide)
    have hr3 : Room 3 _ := hr.mono (by decide)
    have hr4 : Room 4 _ := hr.mono (by decide)
    have hr8 : Room 8 _ := hr.mono (by decide)
    refine ⟨_, pss_cons (ps_set (i := 1) nd rfl (.inl rfl) (pe_call GLo hr4 (by rfl) aLo.m aLo.kp aLo.b .nil pass0 (pa_cons (pv 0) pa_nil)))
      (pss_cons (ps_asg (pe_tup (pa_cons (pe_call GSh hr8 (by rfl) aSh.m aSh.kp aSh.b .nil pass0 (pa_cons (pv 1) pa_nil)) (pa_cons (pe_call GK hr1 (by rfl) aK.m aK.kp aK.b .nil pass0 (pa_cons (pv 1) pa_nil)) pa_nil)))
          (pg_tup rfl (pgs_cons (pg_name (i := 2) nd rfl (.inr rfl)) (pgs_cons (pg_name (i := 3) nd rfl (.inl rfl)) pgs_nil))))
      (pss_cons (ps_set (i := 6) nd rfl (.inl rfl) (pe_tupleOf (by rfl) Cc.tuple (pe_lc (own := [("name", 4), ("row", 5)]) (g := gTup K 2 (gCons (gName 4) (gCons (gName 5) gNil))) (tt := tYes) (te := tVar 5) rfl nd (pi_list (pe_dget hu (pv 1) pe_str (fun _ _ => rfl)))
          (blkOk_by (N := ["pot", "lore", "shelf", "names", "name", "row", "pieces", "record", "spots", "lap", "some", "alone", "spot"]) (sc := defScope sRight) (by decide +kernel))
          (fun _ _ _ _ _ => pg_tup rfl (pgs_cons (pg_name (i := 4) nd rfl (.inl rfl)) (pgs_cons (pg_name (i := 5) nd rfl (.inl rfl)) pgs_nil))) (fun _ _ _ _ _ => pts_nil) (fun _ _ _ _ _ => pv 5))))
      (pss_cons (ps_if (pt_cmpR (op_neD hu64) (pe_tup (pa_cons (pe_fld (pv 2) rfl) (pa_cons (pe_fld (pv 2) rfl) (pa_cons (pe_fld (pe_fld (pv 2) rfl) rfl) pa_nil))))
          (pe_tup (pa_cons (pe_call GT hr1 (by rfl) aT.m aT.kp aT.b .nil pass0 (pa_cons (pv 1) pa_nil)) (pa_cons (pe_dget hu (pv 1) pe_str (fun _ _ => rfl)) (pa_cons (pv 3) pa_nil)))) (nomark _)) pss_no pss_nil)
      (pss_cons (ps_if (PW.pt (pw_or (pt_cmpR op_ne (pe_callB (call_reprD hG hu64) (by rfl) T.repr PyProof.Rows.boot_repr (pa_cons (pe_fld (pv 2) rfl) pa_nil)) (pe_callB (call_reprD hG hu64) (by rfl) T.repr PyProof.Rows.boot_repr (pa_cons (pv 6) pa_nil)) (nomark _))
          (pw_or1 (pt_cmpR op_ne (pe_callB (call_reprD hG hu64) (by rfl) T.repr PyProof.Rows.boot_repr (pa_cons (pe_callB (call_lenI GLen ML.at_ ML.fn bLen hr2) (by rfl) T.len PySem.boot_len (pa_cons (pv 2) pa_nil)) pa_nil))
            (pe_callB (call_reprD hG hu64) (by rfl) T.repr PyProof.Rows.boot_repr (pa_cons (pe_callB (cr_sum rfl) (by rfl) Cc.sum boot_sum (pa_cons (pe_lc (own := [("row", 5)]) (g := gName 5) (tt := tYes) (te := tCB (rLenS K) (tCons (tVar 5) tNil)) rfl nd (pi_tup (pv 6))
              (blkOk_by (N := ["pot", "lore", "shelf", "names", "name", "row", "pieces", "record", "spots", "lap", "some", "alone", "spot"]) (sc := defScope sRight) (by decide +kernel)) (fun _ _ _ _ _ => pg_name (i := 5) nd rfl (.inl rfl)) (fun _ _ _ _ _ => pts_nil)
              (fun _ _ _ _ _ => pe_callB call_len_seq (by rfl) T.len PySem.boot_len (pa_cons (pv 5) pa_nil))) pa_nil)) pa_nil)) (nomark _))))) pss_no pss_nil)
      (pss_cons (ps_if (PW.pt (pw_or (pt_cmpR (op_neI GCE NCE bCE hr2) (pe_fld (pv 2) rfl) (pe_make CC.mkr GCI hr4 (by rfl) mC bCI .nil pass0 (pa_cons (pv 3) pa_nil)) (nomark _))
          (pw_or1 (pt_not (pt_val (pe_call GE hr (by rfl) aE.m aE.kp aE.b .nil pass0 (pa_cons (pv 0) (pa_cons (pv 1) (pa_cons (pv 2) pa_nil))))))))) pss_no pss_nil)
      (pss_cons (ps_for PassesOwn.never rfl (pi_list (pe_call GSo hr2 (by rfl) aSo.m aSo.kp aSo.b .nil pass0 (pa_cons (pv 0) (pa_cons (pe_call GR hr1 (by rfl) aR.m aR.kp aR.b .nil pass0 (pa_cons (pv 1) pa_nil)) (pa_cons pe_int pa_nil))))) (pg_name (i := 7) nd rfl (.inl rfl))
          (pss_one (ps_for PassesOwn.never rfl (pi_tup (pv 3)) (pg_name (i := 4) nd rfl (.inl rfl))
            (pss_one (ps_if (pt_cmpR op_ne (pe_callB (call_reprD hG hu64) (by rfl) T.repr PyProof.Rows.boot_repr (pa_cons (pe_call GA hr4 (by rfl) aA.m aA.kp aA.b .nil pass0 (pa_cons (pv 2) (pa_cons (pv 4) (pa_cons (pv 7) pa_nil)))) pa_nil))
              (pe_callB (call_reprD hG hu64) (by rfl) T.repr PyProof.Rows.boot_repr (pa_cons (pe_call GLA hr2 (by rfl) aLA.m aLA.kp aLA.b .nil pass0 (pa_cons (pv 1) (pa_cons (pv 4) (pa_cons (pv 7) pa_nil)))) pa_nil)) (nomark _)) pss_no pss_nil)))))
      (pss_cons (ps_set (i := 8) nd rfl (.inl rfl) (pe_call GSp hr1 (by rfl) aSp.m aSp.kp aSp.b .nil pass0 (pa_cons (pv 1) (pa_cons (pv 3) pa_nil))))
      (pss_cons (ps_for PassesOwn.never rfl (pi_range1 (by rfl) T.range (pa_cons pe_int pa_nil)) (pg_name (i := 9) nd rfl (.inl rfl))
          (pss_cons (ps_set (i := 10) nd rfl (.inl rfl) (pe_tupleOf (by rfl) Cc.tuple (pe_lc (own := [("spot", 12)]) (g := gName 12) (tt := tTest (tOp rEq (tCall spTake [] E0 (tCons (tVar 0) (tCons (tC (.int 2)) tNil))) (tC (.int 0)))) (te := tVar 12) rfl nd (pi_list (pv 8))
              (blkOk_by (N := ["pot", "lore", "shelf", "names", "name", "row", "pieces", "record", "spots", "lap", "some", "alone", "spot"]) (sc := defScope sRight) (by decide +kernel)) (fun _ _ _ _ _ => pg_name (i := 12) nd rfl (.inl rfl))
              (fun _ _ _ _ _ => pts_one (pt_cmpR op_eq (pe_call GTk hr1 (by rfl) aTk.m aTk.kp aTk.b .nil pass0 (pa_cons (pv 0) (pa_cons pe_int pa_nil))) pe_int (nomark _))) (fun _ _ _ _ _ => pv 12))))
          (pss_one (ps_if (pt_cmpR op_ne (pe_callB (call_reprD hG hu64) (by rfl) T.repr PyProof.Rows.boot_repr (pa_cons (pe_call GCo hr3 (by rfl) aCo.m aCo.kp aCo.b .nil pass0 (pa_cons (pv 2) (pa_cons (pv 10) pa_nil))) pa_nil))
              (pe_callB (call_reprD hG hu64) (by rfl) T.repr PyProof.Rows.boot_repr (pa_cons (pe_call GLC hr1 (by rfl) aLC.m aLC.kp aLC.b .nil pass0 (pa_cons (pv 1) (pa_cons (pv 10) pa_nil))) pa_nil)) (nomark _)) pss_no pss_nil))))
      (pss_cons (ps_set (i := 11) nd rfl (.inl rfl) (pe_lst pa_nil))
      (pss_cons (ps_for PassesOwn.never rfl (pi_tup (pv 6)) (pg_name (i := 5) nd rfl (.inl rfl))
          (pss_one (ps_expr (pe_bm PySem.F.plainAttrs_list PySem.F.slot_list_extend PySem.F.type_list_extend mt_extendT (pv 11) (pa_cons (pv 5) pa_nil)))))
      (pss_one (ps_ret (pe_and (pe_cmpR (op_eqD hu64) (pe_call GCo hr3 (by rfl) aCo.m aCo.kp aCo.b .nil pass0 (pa_cons (pv 2) (pa_cons (pe_tup pa_nil) pa_nil))) (pe_tup pa_nil) (nomark _))
        (pe_one (pe_cmpR (op_eqD hu64) (pe_lc (own := [("spot", 12)]) (g := gName 12) (tt := tYes) (te := tCall (spComesTo C CS) [] E0 (tCons (tVar 2) (tCons (tTup (tCons (tVar 12) tNil)) tNil))) rfl nd (pi_list (pv 8))
          (blkOk_by (N := ["pot", "lore", "shelf", "names", "name", "row", "pieces", "record", "spots", "lap", "some", "alone", "spot"]) (sc := defScope sRight) (by decide +kernel)) (fun _ _ _ _ _ => pg_name (i := 12) nd rfl (.inl rfl)) (fun _ _ _ _ _ => pts_nil)
          (fun _ _ _ _ _ => pe_call GCo hr3 (by rfl) aCo.m aCo.kp aCo.b .nil pass0 (pa_cons (pv 2) (pa_cons (pe_tup (pa_cons (pv 12) pa_nil)) pa_nil)))) (pv 11) (nomark _)))))))))))))))), ?_⟩
    -- lore
    refine ⟨_, rfl, a, N, rfl, hp, by omega, fun L lo H1 ok x1 p1 la1 => ?_⟩
    have k6 := ok.k6
    have p4 := ok.p4
    have sp12 : (spotsOf L.kps).length ≤ 12 := by
      have h2 := spots_len L.kps fun k hk => (ok.q k hk).2.1
      omega
    -- shelf, names
    refine ⟨_, rfl, a, lo, L, rfl, la1, ok, fun sx H2 s2 nsx sh2 => ?_⟩
    have la2 := la1.same s2
    refine ⟨_, rfl, a, lo, L, rfl, la2, k6, fun q H3 s3 nq tq => ?_⟩
    refine ⟨few_ok rfl, fun tt ntt => ⟨tt, _, rfl, .inl (.inl upd_same), rfl, ?_⟩⟩
    have s4 : Same H3 (upd H3 tt (.tup [.ref sx, .ref q])) := same_new ntt
    refine ⟨_, _, rfl, _, _, rfl, rfl, ?_⟩
    generalize upd H3 tt (.tup [.ref sx, .ref q]) = H4 at s4 ⊢
    have s24 : Same H2 H4 := s3.trans s4
    have la4 := la2.same s24
    have sh4 := sh2.same s24
    have tq4 := tq.same s4
    have pt4 := p1.same (s2.trans s24)
    have x4 : ExtP a H H4 := x1.trans (.of (s2.trans s24))
    clear s24 s4 ntt la2 la1 sh2 tq
    -- pieces
    obtain ⟨pa, ks, rows, e1, e2, e3, n0, e4⟩ := id la4
    obtain ⟨zs, z1, z2, z3⟩ := paired_zip e4
    have zl : zs.length = L.kps.length := by rw [← z2, List.length_map]
    have rl : rows.length = zs.length := by rw [← z1, List.length_map]
    refine ⟨_, rfl, lo, _, rfl, (dget2 e1).2, ks, rfl, ⟨_, SqL.of e3⟩, fun D nD => lc_relQ (walk_list (a := ks) (xs := rows)) nD zs (·.1) (fun y => y.2) RelK RelK.keep z1.symm (by omega) (fun H s => s.seq (SqL.of e3)) ?_ ?_⟩
    · rintro i ⟨yv, y⟩ H5 R hy s5 kk
      obtain ⟨r, qq, us, er, h1, h2, h3⟩ := z3 _ (List.mem_of_getElem? hy)
      dsimp only at er h1 h2 h3
      subst er
      exact ⟨r, _, rfl, SqT.of (s5 _ _ h1), rfl, _, _, rfl, _, _, rfl, rfl, rfl, _, rfl, kk _ _ (Same.refl _) ⟨qq, us, rfl, s5 _ _ h2, h3.tups (.of s5)⟩⟩
    intro H5 us s5 eD pu
    have e5 : zs.map (fun y => y.2) = L.kps := z2
    rw [e5] at pu
    refine .inl ⟨D, _, rfl, SqL.of eD, fun pp npp => ?_⟩
    have s6 : Same H5 (upd H5 pp (.tup us)) := same_new npp
    have epp6 : upd H5 pp (.tup us) pp = some (.tup us) := upd_same
    have pu6 : Paired (RelK (upd H5 pp (.tup us))) us L.kps := Paired.mapP pu fun v k r => RelK.keep _ _ _ _ (.of s6) r
    generalize upd H5 pp (.tup us) = H6 at s6 epp6 pu6 ⊢
    have s46 := s5.trans s6
    have la6 := la4.same s46
    have sh6 := sh4.same s46
    have tq6 := tq4.same s46
    have pt6 := pt4.same s46
    have x6 : ExtP a H H6 := x4.trans (.of s46)
    clear pu eD s5 s6 la4 sh4 tq4 pt4 x4 e1 e2 e3 e4 z1 z2 z3 e5
    -- the texts, parts, names
    obtain ⟨dx, fs, hx, sf, tx, _⟩ := id sh6
    obtain ⟨tpa, lp, tp⟩ := sf.parts
    obtain ⟨c, lc, cdx, nm, ec, tn⟩ := sf.circle
    obtain ⟨pq, lq, prow, epq, ppq⟩ := sf.pieces
    refine ⟨_, rfl, sx, CS, dx, fs, .str (textL L), rfl, hx, SC.cls, SC.text, tx, _, rfl, sx, CS, dx, fs, .ref tpa, rfl, hx, SC.cls, SC.parts, lp, _, rfl, sx, CS, dx, fs, .ref c, rfl, hx, SC.cls, SC.circle, lc, c, C, cdx, _, .ref nm, rfl, ec, CC.cls, CC.nm, rfl, few_ok rfl, fun t1 nt1 => ?_⟩
    have s7 : Same H6 (upd H6 t1 (.tup [.str (textL L), .ref tpa, .ref nm])) := same_new nt1
    have et7 : upd H6 t1 (.tup [.str (textL L), .ref tpa, .ref nm]) t1 = some (.tup [.str (textL L), .ref tpa, .ref nm]) := upd_same
    generalize upd H6 t1 (.tup [.str (textL L), .ref tpa, .ref nm]) = H7 at s7 et7 ⊢
    refine ⟨_, rfl, a, lo, L, rfl, la6.same s7, ok, fun H8 s8 => ?_⟩
    have s68 := s7.trans s8
    obtain ⟨pa8, ks8, rows8, g1, g2, _⟩ := la6.same s68
    refine ⟨_, rfl, lo, _, rfl, (dget2 g1).1, _, rfl, few_ok rfl, fun t2 nt2 => ?_⟩
    have s9 : Same H8 (upd H8 t2 (.tup [.str (textL L), .ref pa8, .ref q])) := same_new nt2
    have et9 : upd H8 t2 (.tup [.str (textL L), .ref pa8, .ref q]) t2 = some (.tup [.str (textL L), .ref pa8, .ref q]) := upd_same
    generalize upd H8 t2 (.tup [.str (textL L), .ref pa8, .ref q]) = H9 at s9 et9 ⊢
    have s69 := s68.trans s9
    have nice3 : Nice (3 * (1000 + 1)) 2 (.tuple [.str (textL L), .tuple (strsD L.parts), .tuple (strsD (L.kps.map (·.1)))]) := Nice.tup (fun d hd => by
      simp only [List.mem_cons, List.not_mem_nil, or_false] at hd
      rcases hd with rfl | rfl | rfl
      · exact (nice_text ok).mono (by decide) (by decide)
      · exact (nice_parts ok (fun z h => h) p4).mono (by decide) (by decide)
      · exact (nice_names ok).mono (by decide) (by decide)) (by simp)
    refine ⟨_, _, .tup (SqT.of (s9 _ _ (s8 _ _ et7))) (.cons (.str _) (.cons (.tup (tp.same s69).sq (dp_strs _)) (.cons (.tup (tn.same s69).sq (dp_strs _)) .nil))), .tup (SqT.of et9) (.cons (.str _) (.cons (.tup (SqT.of (s9 _ _ g2)) (dp_strs _)) (.cons (.tup (tq6.same s69).sq (dp_strs _)) .nil))), nice3.shaped (by decide), nice3.shaped (by decide), ?_⟩
    rw [nice3.eqv]
    refine ⟨_, rfl, iteB rfl ?_⟩
    clear nice3 et9 g1 g2 nt2 et7
    -- repr of the pieces
    have la9 := la6.same s69
    have sh9 := sh6.same s69
    have tq9 := tq6.same s69
    have pt9 := pt6.same s69
    have x9 : ExtP a H H9 := x6.trans (.of s69)
    have epp9 := s69 _ _ epp6
    have pu9 : Paired (RelK H9) us L.kps := Paired.mapP pu6 fun v k r => RelK.keep _ _ _ _ (.of s69) r
    have pc9 : PcsAt H9 pp L.kps := ⟨us, epp9, pu9⟩
    have pcs9 : PcsAt H9 pq L.kps := PcsAt.same ⟨prow, epq, ppq⟩ s69
    have np := nice_pcs ok
    have hx9 := s69 _ _ hx
    refine ⟨_, rfl, sx, CS, dx, fs, .ref pq, rfl, hx9, SC.cls, SC.pieces, lq, .ref pq, pcsD L.kps, rfl, dw_pcs pcs9, np.sw, Nat.le_trans np.dep (by decide), np.fits (by decide) (by decide), ?_⟩
    refine ⟨_, rfl, .ref pp, pcsD L.kps, rfl, dw_pcs pc9, np.sw, Nat.le_trans np.dep (by decide), np.fits (by decide) (by decide), rfl, _, rfl, iteB (by simp) ?_⟩
    -- how many
    have nn : Nice 8 0 (.int ((spotsOf L.kps).length : Int)) := Nice.nat (by omega)
    refine ⟨_, rfl, sx, dx, fs, rfl, hx9, sx, L, rfl, sh9, ((spotsOf L.kps).length : Int), rfl, by omega, by omega, .int _, .int _, rfl, .int _, nn.sw, Nat.le_trans nn.dep (by decide), nn.fits (by decide) (by decide), ?_⟩
    obtain ⟨ys, y1, y2, y3⟩ := paired_zip pu9
    have yl : ys.length = L.kps.length := by rw [← y2, List.length_map]
    have ul : us.length = ys.length := by rw [← y1, List.length_map]
    refine ⟨_, rfl, pp, rfl, ⟨_, SqT.of epp9⟩, fun D2 nD2 => lc_fm (walk_tup (a := pp) (xs := us)) ys (fun y => some (V.int (y.2.2.length : Nat))) ul.symm (by omega) nD2 (fun H s => sqT_same s (SqT.of epp9)) ?_ ?_⟩
    · rintro i u ⟨yv, y⟩ H10 H10' R Rn hy s10 ⟨rfl, hu⟩ k1 k2
      obtain ⟨r, ts, et, eh, eq⟩ := y3 _ (List.mem_of_getElem? hy)
      dsimp only at et eh eq
      subst et
      obtain rfl : V.ref r = u := by
        rw [← y1, List.getElem?_map, hy] at hu
        exact Option.some.inj hu
      have tl : ts.length = y.2.length := Paired.length eq
      refine ⟨rfl, _, rfl, r, ts, rfl, .inr (SqT.of (s10 _ _ eh)), ?_⟩
      rw [tl]
      exact k1 _ _ rfl (Same.refl _)
    intro H10 s10 eD2
    have fe : (ys.filterMap fun y => some (V.int (y.2.2.length : Nat))) = (L.kps.map fun k => (k.2.length : Int)).map V.int := by
      rw [← y2]
      simp [Function.comp_def]
    rw [fe] at eD2
    refine ⟨D2, _, rfl, SqL.of eD2, ?_⟩
    rw [spots_sum]
    refine ⟨.int _, .int _, rfl, .int _, nn.sw, Nat.le_trans nn.dep (by decide), nn.fits (by decide) (by decide), rfl, _, rfl, iteB (by simp) ?_⟩
    clear eD2 fe
    -- circle
    have la10 := la9.same s10
    have sh10 := sh9.same s10
    have tq10 := tq9.same s10
    have s610 := s69.trans s10
    refine ⟨_, rfl, sx, CS, dx, fs, .ref c, rfl, s10 _ _ hx9, SC.cls, SC.circle, lc, _, rfl, fun cx cdx2 ncx ncdx nex => ⟨cx, q, cdx2, L.kps.map (·.1), rfl, upd_same, ?tqm, by rw [List.length_map]; exact ok.k2, by rw [List.length_map]; exact k6, ?low, ok.kn, fun H11 kb ex => ⟨rfl, ?_⟩⟩⟩
    case tqm =>
      refine tq10.same fun b o e => ?_
      rw [upd_ne (ne_of_none e ncx), upd_ne (ne_of_none e ncdx)]
      exact e
    case low =>
      intro z hz
      obtain ⟨k0, hk, rfl⟩ := List.mem_map.mp hz
      exact low_names _ (ok.kp k0 hk)
    have s11 : Same H10 H11 := fun b o e => kb b o (ne_of_none e ncx) (by
      rw [upd_ne (ne_of_none e ncx), upd_ne (ne_of_none e ncdx)]
      exact e)
    have s611 := s610.trans s11
    refine ⟨c, cx, cdx, cdx2, _, _, rfl, rfl, s611 _ _ ec, ex, c, cx, L.kps.map (·.1), rfl, ⟨cdx, nm, s611 _ _ ec, tn.same s611⟩, ⟨cdx2, q, ex, tq10.same s11⟩, names_ok ok, by rw [List.length_map]; exact k6, _, rfl, _, rfl, iteB rfl ?_⟩
    have la11 := la10.same s11
    have sh11 := sh10.same s11
    have tq11 := tq10.same s11
    have pt11 := (pt9.same s10).same s11
    have x11 : ExtP a H H11 := x9.trans (.of (s10.trans s11))
    have epp11 := s11 _ _ (s10 _ _ epp9)
    have pu11 : Paired (RelK H11) us L.kps := Paired.mapP pu9 fun v k r => RelK.keep _ _ _ _ (.of (s10.trans s11)) r
    clear la10 sh10 tq10 s11 s611 kb ex s10 la9 sh9 tq9 pt9 x9 epp9 pu9 pc9 pcs9 hx9 s69 s68 s610 la6 sh6 tq6 pt6 x6 epp6 pu6 hx ec tn tp sf ppq epq y1 y2 y3 tx lc lq lp
    -- equality
    refine ⟨_, rfl, _, rfl, _, rfl, a, lo, sx, _, L, rfl, pt11, by omega, la11, ok, sh11, fun H12 x12 pt12 => ⟨_, rfl, iteB rfl ?_⟩⟩
    have k12 : Keep H11 H12 := Keep.ext pt11 x12
    have la12 : LoreAt a H12 lo L := la11.ext pt11 x12
    have sh12 := sh11.keep k12
    have tq12 := tq11.keep k12
    have epp12 := k12 _ _ epp11 (fun xs z => by cases z)
    have pu12 : Paired (RelK H12) us L.kps := Paired.mapP pu11 fun v k r => RelK.keep _ _ _ _ k12 r
    have x012 := x11.trans x12
    clear k12 la11 sh11 tq11 epp11 pu11 x11 x12 pt11
    -- answers
    refine ⟨_, rfl, _, rfl, a, lo, L, rfl, la12, p4, fun recs rp H13 s13 nrp erp rcl rcb => ?_⟩
    have r2 : 2 ≤ recs.length := by
      rw [rcl]
      exact Nat.le_trans (by decide) (Nat.pow_le_pow_right (by decide) (show 1 ≤ L.parts.length from ok.p0))
    have r16 : recs.length ≤ 16 := by
      rw [rcl]
      exact Nat.le_trans (Nat.pow_le_pow_right (by decide) p4) (by decide)
    refine ⟨a, rp, 2, _, recs.map V.str, rfl, pt12.same s13, by show _ + 2 ≤ _; omega, .inl (SqL.of erp), by decide, by rw [List.length_map]; omega, by rw [List.length_map]; omega, fun ys pr H14 sel hy x14 pt14 npr _ epr => ?_⟩
    obtain ⟨ws, rfl, selw⟩ := sel.map
    have k14 : Keep H13 H14 := Keep.ext (pt12.same s13) x14
    have k124 : Keep H12 H14 := (Keep.of s13).trans k14
    have la14 : LoreAt a H14 lo L := (la12.same s13).ext (pt12.same s13) x14
    have sh14 := sh12.keep k124
    have tq14 := tq12.keep k124
    have epp14 := k124 _ _ epp12 (fun xs z => by cases z)
    have pu14 : Paired (RelK H14) us L.kps := Paired.mapP pu12 fun v k r => RelK.keep _ _ _ _ k124 r
    have x014 := (x012.trans (.of s13)).trans x14
    clear k14 k124 la12 sh12 tq12 epp12 pu12 x012 s13 x14
    have wok : ∀ z ∈ ws, RecOk L z := fun z hz => rcb z (selw.sub z hz)
    refine ⟨pr, rfl, ⟨_, SqL.of epr⟩, for_list (xs := ws.map V.str) (fun i σ H' => ∃ u4 u7 : Option V, σ = [some (.ref a), some (.ref lo), some (.ref sx), some (.ref q), u4, none, some (.ref pp), u7, none, none, none, none, none] ∧ Same H14 H') ?_ ?_ ?_ ?_⟩
    · exact ⟨none, none, rfl, Same.refl _⟩
    · rintro i σ H' _ ⟨_, _, _, ss⟩
      exact ss.seq (SqL.of epr)
    · rintro i x σ H' hx ⟨u4, u7, rfl, ss⟩
      obtain ⟨z, hz, rfl⟩ : ∃ z, ws[i]? = some z ∧ x = .str z := by
        rw [List.getElem?_map] at hx
        cases e : ws[i]? with
        | none => rw [e] at hx; cases hx
        | some z => rw [e] at hx; exact ⟨z, rfl, (Option.some.inj hx).symm⟩
      have rc := wok z (List.mem_of_getElem? hz)
      have tq' := tq14.same ss
      refine ⟨_, rfl, q, rfl, ⟨_, tq'.sq⟩, for_tup (xs := (L.kps.map (·.1)).map V.str) (fun j σ H'' => ∃ u4 : Option V, σ = [some (.ref a), some (.ref lo), some (.ref sx), some (.ref q), u4, none, some (.ref pp), some (.str z), none, none, none, none, none] ∧ Same H14 H'') ?_ ?_ ?_ ?_⟩
      · exact ⟨u4, rfl, ss⟩
      · rintro j σ H'' _ ⟨_, _, ss2⟩
        exact (tq14.same ss2).sq
      · rintro j x σ H'' hx ⟨u4, rfl, ss2⟩
        obtain ⟨kq, hj, rfl⟩ : ∃ kq, L.kps[j]? = some kq ∧ x = .str kq.1 := by
          rw [List.getElem?_map, List.getElem?_map] at hx
          cases e : L.kps[j]? with
          | none => rw [e] at hx; cases hx
          | some kq => rw [e] at hx; exact ⟨kq, rfl, (Option.some.inj hx).symm⟩
        have na := nice_answer ok (List.mem_of_getElem? hj) z
        refine ⟨_, rfl, _, rfl, _, rfl, sx, L, j, kq, z, rfl, sh14.same ss2, ok, hj, rc, fun H15 s15 => ⟨.str _, .str _, rfl, .str _, na.sw, Nat.le_trans na.dep (by decide), na.fits (by decide) (by decide), ?_⟩⟩
        refine ⟨_, rfl, _, rfl, _, rfl, a, lo, L, j, kq, z, rfl, (la14.same ss2).same s15, ok, hj, rc, fun H16 s16 => ⟨.str _, .str _, rfl, .str _, na.sw, Nat.le_trans na.dep (by decide), na.fits (by decide) (by decide), rfl, _, rfl, iteB (by simp) ?_⟩⟩
        exact ⟨_, rfl, (ss2.trans s15).trans s16⟩
      · rintro σ H'' ⟨u4, rfl, ss2⟩
        exact ⟨_, _, rfl, ss2⟩
    rintro σ H15 ⟨u4, u7, rfl, s15⟩
    have la15 := la14.same s15
    have sh15 := sh14.same s15
    have tq15 := tq14.same s15
    have pt15 := pt14.same s15
    have epp15 := s15 _ _ epp14
    have pu15 : Paired (RelK H15) us L.kps := Paired.mapP pu14 fun v k r => RelK.keep _ _ _ _ (.of s15) r
    have x015 := x014.trans (.of s15)
    clear la14 sh14 tq14 pt14 epp14 pu14 x014 s15 epr npr erp nrp
    -- spots
    refine ⟨_, rfl, _, rfl, a, lo, q, L, rfl, la15, ok, .inr tq15.sq, fun sp ts H16 s16 nsp esp psp => ?_⟩
    have spa : sp ≠ a := fun z => pt15.ne (by rw [← z]; exact nsp)
    have la16 := la15.same s16
    have sh16 := sh15.same s16
    have tq16 := tq15.same s16
    have pt16 := pt15.same s16
    have epp16 := s16 _ _ epp15
    have pu16 : Paired (RelK H16) us L.kps := Paired.mapP pu15 fun v k r => RelK.keep _ _ _ _ (.of s16) r
    have x016 := x015.trans (.of s16)
    clear la15 sh15 tq15 pt15 epp15 pu15 x015 s16
    have tl : ts.length = (spotsOf L.kps).length := Paired.length psp
    obtain ⟨M, hM, hM2⟩ : ∃ M, M = N + 200 + 5 + (2 : Int).toNat ∧ M ≤ 6000 := ⟨_, rfl, by show N + 200 + 5 + 2 ≤ 6000; omega⟩
    rw [← hM] at pt16
    refine ⟨8, rfl, by decide, by decide, for_range (lo := 0) (n := (8 : Int).toNat) (fun i σ H' => ∃ u9 u10 : Option V, σ = [some (.ref a), some (.ref lo), some (.ref sx), some (.ref q), u4, none, some (.ref pp), u7, some (.ref sp), u9, u10, none, none] ∧ PotAt a (M + 12 * i) H' ∧ ExtP a H16 H') ?_ ?_ ?_⟩
    · exact ⟨none, none, rfl, pt16, .refl _ _⟩
    · rintro i σ H' hi ⟨u9, u10, rfl, pt, ex⟩
      have i8 : i < 8 := hi
      have kp : Keep H16 H' := Keep.ext pt16 ex
      have esp' : H' sp = some (.lst ts) := ex _ _ spa esp
      refine ⟨_, rfl, sp, rfl, ⟨_, SqL.of esp'⟩, fun D nD => ?_⟩
      have Da : D ≠ a := fun z => pt.ne (by rw [← z]; exact nD)
      have psp' : Paired (RelS H') ts (spotsOf L.kps) := Paired.mapP psp fun v s r => RelS.keep _ _ _ _ kp r
      obtain ⟨ys, y1, y2, y3⟩ := paired_zip psp'
      refine lc_it (walk_list (a := sp) (xs := ts)) (fun j H4 => ∃ (vs : List V) (ss : List Spot), H4 D = some (.lst vs) ∧ Paired (RelS H4) vs ss ∧ ss.Sublist ((spotsOf L.kps).take j) ∧ vs.length ≤ j ∧ PotAt a (M + 12 * i + j) H4 ∧ ExtP a H' H4) ?_ ?_ ?_ ?_
      · exact ⟨[], [], upd_same, .nil, List.nil_sublist _, Nat.le_refl _, pt.same (same_new nD), .of (same_new nD)⟩
      · rintro j H4 _ ⟨_, _, _, _, _, _, _, ex4⟩
        exact SqL.of (ex4 _ _ spa esp')
      · rintro j y H4 H4' hj ⟨vs, ss, eD, pr, sub, vl, pt4, ex4⟩ ⟨rfl, hy⟩
        have jl : j < (spotsOf L.kps).length := by rw [← tl]; exact hj
        refine ⟨rfl, _, rfl, a, 2, _, rfl, pt4, by omega, by decide, by decide, fun i5 H5 i50 i52 x5 pt5 => ⟨rfl, _, rfl, ?_⟩⟩
        have k5 : Keep H4' H5 := Keep.ext pt4 x5
        have eD5 := x5 _ _ Da eD
        have pr5 : Paired (RelS H5) vs ss := Paired.mapP pr fun v s r => RelS.keep _ _ _ _ k5 r
        obtain ⟨s0, hs0⟩ : ∃ s0, (spotsOf L.kps)[j]? = some s0 := ⟨_, List.getElem?_eq_getElem jl⟩
        have tk : (spotsOf L.kps).take (j + 1) = (spotsOf L.kps).take j ++ [s0] := by rw [List.take_add_one, hs0]; rfl
        cases hc : decide (V.int i5 = V.int 0) with
        | true =>
          have kD : Keep H5 (upd H5 D (.lst (vs ++ [y]))) := .upd eD5
          refine iteT ⟨_, rfl, vs, eD5, by rw [sizeLine_eq]; omega, vs ++ [y], ss ++ [s0], upd_same, ?_, ?_, by rw [List.length_append]; show vs.length + 1 ≤ _; omega, ?_, ?_⟩
          · refine Paired.add (Paired.mapP pr5 fun v s r => RelS.keep _ _ _ _ kD r) ?_
            obtain ⟨w0, hw0⟩ : ∃ w0, ys[j]? = some w0 := ⟨_, List.getElem?_eq_getElem (by rw [← y1, List.length_map] at hj; exact hj)⟩
            have a1 : w0.1 = y := by
              rw [← y1, List.getElem?_map, hw0] at hy
              exact Option.some.inj hy
            have a2 : w0.2 = s0 := by
              rw [← y2, List.getElem?_map, hw0] at hs0
              exact Option.some.inj hs0
            have a3 := y3 w0 (List.mem_of_getElem? hw0)
            rw [a1, a2] at a3
            exact RelS.keep _ _ _ _ ((Keep.ext pt ex4).trans (k5.trans kD)) a3
          · rw [tk]
            exact List.Sublist.append sub (List.Sublist.refl _)
          · obtain ⟨o, b, c, e, r0⟩ := pt5
            exact (PotAt.mono (N := M + 12 * i + j + 1) ⟨o, b, c, by rw [upd_ne Da.symm]; exact e, r0⟩ (by omega))
          · intro b o nb e
            rw [upd_ne (ne_of_none e nD)]
            exact x5 _ _ nb (ex4 _ _ nb e)
        | false =>
          refine iteF ⟨vs, ss, eD5, pr5, ?_, by omega, pt5.mono (by omega), ex4.trans x5⟩
          rw [tk]
          exact List.sublist_append_of_sublist_left sub
      · rintro H4 ⟨vs, ss, eD, pr, sub, vl, pt4, ex4⟩
        rw [tl, List.take_length] at sub
        refine .inl ⟨D, _, rfl, SqL.of eD, fun so nso => ?_⟩
        have s5 : Same H4 (upd H4 so (.tup vs)) := same_new nso
        have eso : upd H4 so (.tup vs) so = some (.tup vs) := upd_same
        have pr5 : Paired (RelS (upd H4 so (.tup vs))) vs ss := Paired.mapP pr fun v s r => RelS.keep _ _ _ _ (.of s5) r
        generalize upd H4 so (.tup vs) = H5 at s5 eso pr5 ⊢
        have ex5 : ExtP a H16 H5 := (ex.trans ex4).trans (.of s5)
        have pt5 := pt4.same s5
        have k165 : Keep H16 H5 := Keep.ext pt16 ex5
        have la5 : LoreAt a H5 lo L := la16.ext pt16 ex5
        have sh5 := sh16.keep k165
        obtain ⟨o1, o2⟩ := odd_sub L.parts (ss.map (pieceOf L))
        have no := nice_parts ok o1 (by omega)
        refine ⟨_, rfl, _, rfl, sx, so, L, vs, ss, rfl, sh5, ok, eso, pr5, sub, fun r H6 s6 er => ⟨.ref r, .tuple (strsD (oddL L.parts (ss.map (pieceOf L)))), rfl, .tup er (dw_strs _), no.sw, Nat.le_trans no.dep (by decide), no.fits (by decide) (by decide), ?_⟩⟩
        refine ⟨_, rfl, _, rfl, a, lo, so, L, vs, ss, rfl, la5.same s6, ok, s6 _ _ eso, Paired.mapP pr5 fun v s r => RelS.keep _ _ _ _ (.of s6) r, sub, fun r2 H7 s7 er2 => ⟨.ref r2, .tuple (strsD (oddL L.parts (ss.map (pieceOf L)))), rfl, .tup er2 (dw_strs _), no.sw, Nat.le_trans no.dep (by decide), no.fits (by decide) (by decide), rfl, _, rfl, iteB (by simp) ?_⟩⟩
        exact ⟨_, _, rfl, ((pt5.same s6).same s7).mono (by omega), (ex5.trans (.of s6)).trans (.of s7)⟩
    rintro σ H17 ⟨u9, u10, rfl, pt17, ex17⟩
    have k17 : Keep H16 H17 := Keep.ext pt16 ex17
    have sh17 := sh16.keep k17
    have epp17 := k17 _ _ epp16 (fun xs z => by cases z)
    have pu17 : Paired (RelK H17) us L.kps := Paired.mapP pu16 fun v k r => RelK.keep _ _ _ _ k17 r
    have esp17 : H17 sp = some (.lst ts) := ex17 _ _ spa esp
    have psp17 : Paired (RelS H17) ts (spotsOf L.kps) := Paired.mapP psp fun v s r => RelS.keep _ _ _ _ k17 r
    have x017 := x016.trans ex17
    clear la16 tq16 epp16 pu16 x016 k17
    -- alone
    refine ⟨Nat.zero_le _, fun al nal => ?_⟩
    have ala : al ≠ a := fun z => pt17.ne (by rw [← z]; exact nal)
    have s18 : Same H17 (upd H17 al (.lst [])) := same_new nal
    have eal18 : upd H17 al (.lst []) al = some (.lst []) := upd_same
    generalize upd H17 al (.lst []) = H18 at s18 eal18 ⊢
    obtain ⟨ys, y1, y2, y3⟩ := paired_zip pu17
    have yl : ys.length = L.kps.length := by rw [← y2, List.length_map]
    have ul : us.length = ys.length := by rw [← y1, List.length_map]
    have epp18 := s18 _ _ epp17
    refine ⟨_, rfl, pp, rfl, ⟨_, SqT.of epp18⟩, for_tup (xs := us) (fun i σ H' => ∃ (u5 : Option V) (vs : List V), σ = [some (.ref a), some (.ref lo), some (.ref sx), some (.ref q), u4, u5, some (.ref pp), u7, some (.ref sp), u9, u10, some (.ref al), none] ∧ H' al = some (.lst vs) ∧ Pieces H' vs ((L.kps.take i).flatMap (·.2)) ∧ vs.length ≤ 2 * i ∧ Same H17 H') ?_ ?_ ?_ ?_⟩
    · exact ⟨none, [], rfl, eal18, .nil, Nat.le_refl _, s18⟩
    · rintro i σ H' _ ⟨_, _, _, _, _, _, ss⟩
      exact SqT.of (ss _ _ epp17)
    · rintro i x σ H' hx ⟨u5, vs, rfl, eal, pal, vl, ss⟩
      have il : i < ys.length := by rw [← ul]; exact (List.getElem?_eq_some_iff.mp hx).1
      obtain ⟨w0, hw0⟩ : ∃ w0, ys[i]? = some w0 := ⟨_, List.getElem?_eq_getElem il⟩
      have a1 : w0.1 = x := by
        rw [← y1, List.getElem?_map, hw0] at hx
        exact Option.some.inj hx
      have a2 : L.kps[i]? = some w0.2 := by rw [← y2, List.getElem?_map, hw0]; rfl
      obtain ⟨r, vs2, er, eh, ep⟩ := y3 w0 (List.mem_of_getElem? hw0)
      rw [a1] at er
      subst er
      have tl2 : vs2.length = w0.2.2.length := Paired.length ep
      have w2 := (ok.q _ (List.mem_of_getElem? a2)).2.1
      refine ⟨_, rfl, .inl ⟨rfl, _, SqL.of eal⟩, _, rfl, al, r, vs, vs2, rfl, rfl, eal, ss _ _ eh, by rw [sizeLine_eq]; omega, ?_⟩
      have kA : Keep H' (upd H' al (.lst (vs ++ vs2))) := .upd eal
      have tk : Tups H' (upd H' al (.lst (vs ++ vs2))) := Tups.upd eal
      refine ⟨_, vs ++ vs2, rfl, upd_same, ?_, by rw [List.length_append]; omega, fun b o e => ?_⟩
      · have tkf : (L.kps.take (i + 1)).flatMap (·.2) = (L.kps.take i).flatMap (·.2) ++ w0.2.2 := by
          rw [List.take_add_one, a2, List.flatMap_append]
          simp
        rw [tkf]
        exact paired_append (pal.tups tk) ((ep.tups (.of ss)).tups tk)
      · rw [upd_ne (ne_of_none e nal)]
        exact ss _ _ e
    rintro σ H19 ⟨u5, al2, rfl, eal, pal, vl, s19⟩
    have sh19 := sh17.same s19
    rw [ul, yl, List.take_length] at pal
    -- the end
    refine ⟨_, rfl, few_ok rfl, fun t0 nt0 => ?_⟩
    have s20 : Same H19 (upd H19 t0 (.tup [])) := same_new nt0
    refine ⟨sx, t0, L, [], [], rfl, sh19.same s20, ok, upd_same, .nil, List.nil_sublist _, fun r H21 s21 er => ⟨few_ok rfl, fun t3 nt3 => ?_⟩⟩
    have od : oddL L.parts ([].map (pieceOf L)) = [] := by
      unfold oddL
      simp [cntP]
    rw [od] at er
    have s22 : Same H21 (upd H21 t3 (.tup [])) := same_new nt3
    refine ⟨.tuple [], .tuple [], .tup (SqT.of (s22 _ _ er)) .nil, .tup (SqT.of upd_same) .nil, by decide, by decide, _, rfl, iteA (by decide) ?_⟩
    have s1922 := (s20.trans s21).trans s22
    generalize upd H21 t3 (.tup []) = H22 at s1922 ⊢
    have sh22 := sh19.same s1922
    have esp22 := s1922 _ _ (s19 _ _ esp17)
    have psp22 : Paired (RelS H22) ts (spotsOf L.kps) := Paired.mapP psp17 fun v s r => RelS.keep _ _ _ _ (.of (s19.trans s1922)) r
    obtain ⟨qs, q1, q2, q3⟩ := paired_zip psp22
    have ql : qs.length = (spotsOf L.kps).length := by rw [← q2, List.length_map]
    have tql : ts.length = qs.length := by rw [← q1, List.length_map]
    refine ⟨_, rfl, sp, rfl, ⟨_, SqL.of esp22⟩, fun D nD => lc_relQ (walk_list (a := sp) (xs := ts)) nD qs (·.1) (fun y => oddL L.parts [pieceOf L y.2]) RelP RelP.keep q1.symm (by omega) (fun H s => s.seq (SqL.of esp22)) ?_ ?_⟩
    · rintro i ⟨yv, y⟩ H23 R hy s23 kk
      obtain ⟨t, et, eh⟩ := q3 _ (List.mem_of_getElem? hy)
      dsimp only at et eh
      subst et
      have ym : y ∈ spotsOf L.kps := by
        rw [← q2]
        exact List.mem_map.mpr ⟨_, List.mem_of_getElem? hy, rfl⟩
      refine ⟨rfl, _, rfl, _, rfl, few_ok rfl, fun t1 nt1 => ?_⟩
      have s24 : Same H23 (upd H23 t1 (.tup [.ref t])) := same_new nt1
      exact ⟨sx, t1, L, [.ref t], [y], rfl, (sh22.same s23).same s24, ok, upd_same, .cons ⟨t, rfl, s24 _ _ (s23 _ _ eh)⟩ .nil, List.singleton_sublist.mpr ym, fun r H25 s25 er => kk _ _ (s24.trans s25) ⟨r, rfl, er⟩⟩
    · intro H23 vs s23 eD pv23
      have e3 : (qs.map fun y => oddL L.parts [pieceOf L y.2]) = L.kps.flatMap (·.2) := by
        rw [← alone_eq ok, ← q2, List.map_map]
        rfl
      rw [e3] at pv23
      have sA := s1922.trans s23
      have nf := nice_flat ok
      have pv : Pieces H23 vs (L.kps.flatMap fun k : KP => k.2) := pv23
      have pal2 : Pieces H23 al2 (L.kps.flatMap fun k : KP => k.2) := pal.tups (.of sA)
      refine ⟨_, rfl, .list ((L.kps.flatMap fun k : KP => k.2).map fun p => .tuple (strsD p)), .list ((L.kps.flatMap fun k : KP => k.2).map fun p => .tuple (strsD p)), .lst (SqL.of eD) (dp_pieces pv), .lst (SqL.of (sA _ _ eal)) (dp_pieces pal2), nf.shaped (by decide), nf.shaped (by decide), ?_⟩
      rw [nf.eqv]
      refine k H23 (x017.trans (.of (s19.trans sA))) (((pt17.same s19).same sA).mono ?_)
      show M + 12 * 8 ≤ _
      have : (2 : Int).toNat = 2 := rfl
      omega
end
end K6
set_option Elab.async false
set_option linter.all false
set_option maxRecDepth 100000
set_option maxHeartbeats 8000000
namespace K6
open PySem PySem.Spec PyProof.Rows L2 Lk
abbrev sLaw : Stmt := top 62
section
variable {P : Program} {w : World} {K : PySem.W.Frag} {mg : Str → Option Value} {base : Heap} {f : Addr} {fd : FuncData}
def spLaw (K : PySem.W.Frag) : Sp := fun vs H Q _ => ∃ (a : Addr) (ns : List Int), vs = [.ref a] ∧ SqL K H a (ns.map V.int) ∧ ns.length ≤ 63 ∧ ∀ H', Q (.bl true) H'
theorem scLaw : FnScope ["script", "place", "pot", "lap"] ["script"] (defScope sLaw) := ⟨rfl, rfl, rfl, by decide +kernel, rfl, by decide +kernel, by decide +kernel⟩
theorem ok_law {fR fC fP : Addr} {fdR fdC fdP : FuncData} (F : Fun K "law" "law" sLaw f fd) (T : Bl mg)
    (GR : FnG P w K mg base 10 fR fdR ["pot"] spRight) (kR : PySem.W.keepIn K (.ref fR) = true) (bR : Binds K fdR ["pot"] []) (mR : mg "_law_right" = some (.ref fR))
    (FC : Fun K "_law_cells" "_law_cells" sCells fC fdC) (bC : Binds K fdC ["script", "most"] []) (mC : mg "_law_cells" = some (.ref fC))
    (FP : Fun K "_law_pot" "_law_pot" sPot fP fdP) (bP : Binds K fdP ["script", "place"] []) (mP : mg "_law_pot" = some (.ref fP)) :
    FnG P w K mg base 11 f fd ["script"] (spLaw K) := by
  have GC : FnOk P w K mg base CX0 1 fC fdC ["script", "most"] (spCells K) := ok_cells FC T
  have GP : FnOk P w K mg base CX0 1 fP fdP ["script", "place"] (spPot K) := ok_pot FP T
  refine FnG.of F scLaw (fun vs H Q h => ?_) (fun cdv A outer s H vs Q hr hG h => ?_)
  · obtain ⟨a, ns, rfl, _⟩ := h
    rfl
  · obtain ⟨a, ns, rfl, hs, hl, k⟩ := h
    have nd := scLaw.nd
    have hr1 : Room 1 _ := hr.mono (by decide)
    refine ⟨_, pss_cons (ps_for PassesOwn.never rfl (pi_list (pe_call GC hr1 (by rfl) mC FC.kp bC .nil pass0 (pa_cons (pv 0) (pa_cons pe_int pa_nil)))) (pg_name (i := 1) nd rfl (.inl rfl))
        (pss_cons (ps_set (i := 2) nd rfl (.inr rfl) (pe_call GP hr1 (by rfl) mP FP.kp bP .nil pass0 (pa_cons (pv 0) (pa_cons (pv 1) pa_nil))))
          (pss_one (ps_if (pt_not (pt_val (pe_callB (cr_all rfl) (by rfl) T.all boot_all (pa_cons (pe_lc (own := [("lap", 3)]) (g := gName 3) (tt := tYes) rfl nd (pi_range1 (by rfl) T.range (pa_cons pe_int pa_nil))
              (blkOk_by (N := ["script", "place", "pot", "lap"]) (sc := defScope sLaw) (by decide +kernel)) (fun _ _ _ _ _ => pg_name (i := 3) nd rfl (Or.inl rfl)) (fun _ _ _ _ _ => pts_nil)
              (fun _ _ _ _ _ => pe_gcall GR hr hG (by rfl) mR kR bR (pa_cons (pv 2) pa_nil))) pa_nil)))) (pss_one (ps_ret pe_bl)) pss_nil))))
      (pss_one (ps_ret pe_bl)), ?_⟩
    refine ⟨_, rfl, a, ns, 2, rfl, hs, hl, by decide, by decide, fun l n hn nl => ?_⟩
    refine ⟨l, rfl, ⟨_, SqL.of upd_same⟩, ?_⟩
    have sl : Same H (upd H l (.lst (rgV 0 (n : Int)))) := same_new nl
    refine for_list (K := K) (a := l) (xs := rgV 0 (n : Int)) (fun i σ H' => ∃ x y : Option V, σ = [some (.ref a), x, y, none] ∧ Same (upd H l (.lst (rgV 0 (n : Int)))) H')
      ⟨none, none, rfl, Same.refl _⟩ (fun i σ H' _ ⟨_, _, _, s⟩ => SqL.of (s _ _ upd_same)) ?_ ?_
    · rintro i x σ H' hx ⟨u1, u2, rfl, s1⟩
      obtain ⟨hi, rfl⟩ : i < n ∧ x = V.int (0 + (i : Nat)) := by
        unfold rgV at hx
        rw [List.getElem?_map] at hx
        cases q : (List.range ((n : Int) - 0).toNat)[i]? with
        | none => rw [q] at hx; cases hx
        | some j =>
          rw [q] at hx
          obtain ⟨h1, h2⟩ := List.getElem?_eq_some_iff.mp q
          rw [List.length_range] at h1
          rw [List.getElem_range] at h2
          subst h2
          exact ⟨by omega, (Option.some.inj hx).symm⟩
      refine ⟨_, rfl, _, rfl, a, ns, _, rfl, s1.seq (sl.seq hs), hl, by omega, by omega, fun p H1 np s2 hp => ?_⟩
      refine ⟨2, rfl, by decide, by decide, fun D nD => ?_⟩
      have nDp : D ≠ p := fun z => hp.ne (by rw [← z]; exact nD)
      refine lc_range (fun q Hq => ExtP p H1 Hq ∧ PotAt p (500 * q) Hq ∧ Hq D = some (.lst (List.replicate q (V.bl true)))) ⟨.of (same_new nD), hp.same (same_new nD), upd_same⟩ ?_ ?_
      · rintro q Hq hq ⟨xq, pq, eq⟩
        have hq2 : q < 2 := hq
        refine ⟨rfl, ?_⟩
        unfold tYes
        refine iteT ?_
        refine ⟨_, rfl, p, 500 * q, rfl, pq, by omega, fun H2 x2 p2 => ?_⟩
        have e2 := x2 D _ nDp eq
        refine ⟨_, e2, by rw [List.length_replicate, sizeLine_eq]; omega, fun b o nb e => ?_, ?_, ?_⟩
        · have nbD := ne_of_none e nD
          rw [upd_ne nbD]
          exact (xq.trans x2) b o nb e
        · obtain ⟨o, b, c, e, r⟩ := p2
          exact ⟨o, b, c, by rw [upd_ne nDp.symm]; exact e, r⟩
        · rw [upd_same, List.replicate_succ']
      · rintro Hq ⟨xq, pq, eq⟩
        have eq3 : Hq D = some (.lst (([true, true] : List Bool).map V.bl)) := eq
        refine ⟨D, [true, true], rfl, SqL.of eq3, true, rfl, iteF ?_⟩
        refine ⟨_, _, rfl, fun b o e => ?_⟩
        have e' := s1 b o e
        exact xq b o (ne_of_none e' np) (s2 b o e')
    · rintro σ H' ⟨u1, u2, rfl, s1⟩
      exact k _
end
end K6
set_option Elab.async false
set_option linter.all false
set_option maxRecDepth 100000
set_option maxHeartbeats 0
namespace K6
open PySem PySem.Spec PyProof.Rows L2 Lk
/-! ### the head: what is looked at behind the top -/
def nxtO (o : Obj) : List Addr := match o.data with
  | .cls cd => [cd.ns]
  | .func fd => He.refV fd.code
  | _ => []
def nxtD (o : Obj) : List Addr := match o.data with
  | .dict es _ => es.toList.flatMap fun e => He.refV e.val
  | _ => []
def step1 (n : Obj → List Addr) (g : Addr → Option Obj) (as : List Addr) : List Addr := as.flatMap fun a => match g a with
  | some o => n o
  | none => []
def as1 (g : Addr → Option Obj) : List Addr := step1 nxtD g [mainGlobals]
def as2 (g : Addr → Option Obj) : List Addr := step1 nxtO g (as1 g)
def as3 (g : Addr → Option Obj) : List Addr := step1 nxtD g (as2 g)
def as4 (g : Addr → Option Obj) : List Addr := step1 nxtO g (as3 g)
def asK (g : Addr → Option Obj) : List Addr := mainGlobals :: (as1 g ++ (as2 g ++ (as3 g ++ as4 g)))
theorem fn_obj {K : PySem.W.Frag} {f : Addr} (h : PySem.W.isFn K (.ref f) = true) : ∃ of, K.lookup f = some of ∧ of.cls = .type "function" := by
  unfold PySem.W.isFn PySem.W.typeIn at h
  cases e : K.lookup f with
  | none => simp [e] at h
  | some o => exact ⟨o, rfl, by simpa [e] using h⟩
theorem ns_at {K : PySem.W.Frag} {h : Heap} {N : Addr} {mg : Str → Option Value} {n : Str} {v : Value} (X : K.In h) (G : h.Ns N mg) (e : PySem.W.nsIn K N n = some (some v)) : mg n = some v := by
  obtain ⟨o, es, ep, ho, hd, _, hf⟩ := G
  unfold PySem.W.nsIn at e
  split at e
  · rename_i c d es' n' sl q
    have := X _ _ q
    rw [ho] at this
    cases this
    cases hd
    split at e
    · rename_i en he
      rw [← hf]
      unfold nsFind findBy
      rw [← Array.find?_toList, he]
      cases e
      rfl
    · split at e <;> cases e
  · cases e
theorem ba3 {a b c : Bool} (h : (a && (b && c)) = true) : a = true ∧ b = true ∧ c = true := by
  obtain ⟨h1, h2⟩ := He.ba h
  exact ⟨h1, He.ba h2⟩
/-- a class with an own __eq__ at f and no __ne__ -/
def neB (K : PySem.W.Frag) (C f : Addr) : Bool := match K.lookup C with
  | some ⟨.type c, _, .cls cd, sl⟩ => (match cd.mro, sl.toList with
    | [.ref D, .type t], [_, _, _, _, some (.builtin _), _] => decide (c = "type") && (decide (D = C) && (decide (t = "object") && (!cd.hasDel && (PySem.W.nsOkIn K cd.ns && (He.eqO (PySem.W.nsIn K cd.ns "__eq__") (some (some (.ref f))) && He.eqO (PySem.W.nsIn K cd.ns "__ne__") (some none))))))
    | _, _ => false)
  | _ => false
theorem neB_ok {K : PySem.W.Frag} {C f : Addr} (h : neB K C f = true) (hf : PySem.W.isFn K (.ref f) = true) : NeC K C f := by
  intro hp x ob X hx hc
  unfold neB at h
  split at h
  · rename_i c dd cd sl ho
    split at h
    · rename_i D t k0 k1 k2 k3 n k5 hm hs
      obtain ⟨h1, h⟩ := He.ba h
      obtain ⟨h2, h⟩ := He.ba h
      obtain ⟨h3, h⟩ := He.ba h
      obtain ⟨h4, h⟩ := He.ba h
      obtain ⟨h5, h⟩ := He.ba h
      obtain ⟨h6, h7⟩ := He.ba h
      obtain rfl := of_decide_eq_true h1
      obtain rfl := of_decide_eq_true h2
      obtain rfl := of_decide_eq_true h3
      obtain ⟨nm, bs, mro, ns, qn, hd, sn, sub, ab, col, del⟩ := cd
      have hdel : del = false := by simpa using h4
      dsimp only at hm h5 h6 h7
      subst hm hdel
      have hsl : sl = #[k0, k1, k2, k3, some (.builtin n), k5] := by
        obtain ⟨l⟩ := sl
        simp only at hs
        rw [hs]
      subst hsl
      have hfn : ∃ of, K.lookup f = some of ∧ of.cls = .type "function" := fn_obj hf
      obtain ⟨of, l1, l2⟩ := hfn
      have G : hp.Ns ns (hp.nsMap ns) := .of_isNs (PySem.W.isNs_of_in X h5)
      exact ⟨ob, of, nm, qn, ns, bs, hd, sn, sub, ab, col, dd, k0, k1, k2, k3, k5, n, hp.nsMap ns, _, hx, hc, X _ _ ho, G, ns_at X G (He.eqO_ok h6), X _ _ l1, l2, PySem.F.cmp_object.mro, PySem.F.cmp_object.eq.lookup, PySem.W.ns_none_of X G (He.eqO_ok h7)⟩
    · cases h
  · cases h
def isiB (K : PySem.W.Frag) (C : Addr) : Bool := He.eqO (PySem.W.findIn K (.ref C) "__class__") (some (some (.builtin "object.__class__"))) && (decide (PySem.W.mroIn K C (.type "object") = some true) && decide (PySem.W.kitOne K (.ref C) (.ref C) = some true))
def glB (K : PySem.W.Frag) : Bool := He.eqO (PySem.W.specialIn K (.builtin "object.__class__") "__get__") (some (some (.builtin "getset_descriptor.__get__"))) && decide (PySem.W.takesIn K (.builtin "object.__class__") = some true)
theorem isiB_ok {K : PySem.W.Frag} {C : Addr} (cl : Cls K C) (g : glB K = true) (h : isiB K C = true) : IsiC K C := by
  obtain ⟨g1, g2⟩ := He.ba g
  obtain ⟨h1, h⟩ := He.ba h
  obtain ⟨h2, h3⟩ := He.ba h
  exact ⟨fun H a dx fs e => .base (.ins e cl (He.eqO_ok h1) (He.eqO_ok g1) (of_decide_eq_true g2) (of_decide_eq_true h2)), of_decide_eq_true h3⟩
def shB (K : PySem.W.Frag) (C CS : Addr) : Bool := PySem.W.notFirst K CS (.ref CS) && (PySem.W.notFirst K CS (.ref C) && (PySem.W.notFirst K CS (.type "NoneType") && (PySem.W.notFirst K CS (.type "tuple") && (PySem.W.notFirst K CS (.type "str") && (PySem.W.notFirst K CS (.type "int")
  && (decide (PySem.W.kitOne K (.ref C) (.ref CS) = some false) && (decide (PySem.W.kitOne K (.type "NoneType") (.ref CS) = some false) && (decide (PySem.W.kitOne K (.type "tuple") (.ref CS) = some false) && (decide (PySem.W.kitOne K (.type "str") (.ref CS) = some false) && decide (PySem.W.kitOne K (.type "int") (.ref CS) = some false))))))))))
theorem shB_ok {K : PySem.W.Frag} {C CS : Addr} (h : shB K C CS = true) : ShE K C CS := by
  obtain ⟨h1, h⟩ := He.ba h
  obtain ⟨h2, h⟩ := He.ba h
  obtain ⟨h3, h⟩ := He.ba h
  obtain ⟨h4, h⟩ := He.ba h
  obtain ⟨h5, h⟩ := He.ba h
  obtain ⟨h6, h⟩ := He.ba h
  obtain ⟨h7, h⟩ := He.ba h
  obtain ⟨h8, h⟩ := He.ba h
  obtain ⟨h9, h⟩ := He.ba h
  obtain ⟨h10, h11⟩ := He.ba h
  exact ⟨h1, h2, h3, h4, h5, h6, of_decide_eq_true h7, of_decide_eq_true h8, of_decide_eq_true h9, of_decide_eq_true h10, of_decide_eq_true h11⟩
def gC (K : PySem.W.Frag) : Addr := He.ga K "Circle"
def gS (K : PySem.W.Frag) : Addr := He.ga K "Shelf"
def exB (K : PySem.W.Frag) : Bool := glB K && (isiB K (gC K) && (isiB K (gS K) && (neB K (gC K) (He.ma K (gC K) "__eq__") && (neB K (gS K) (He.ma K (gS K) "__eq__") && shB K (gC K) (gS K)))))
def dCi : He.DefD := ⟨("Circle", some "__init__"), "__init__", "Circle.__init__", defArgs sCircInit, defBody sCircInit, defScope sCircInit, [], []⟩
def dCc : He.DefD := ⟨("Circle", some "__contains__"), "__contains__", "Circle.__contains__", defArgs sCircIn, defBody sCircIn, defScope sCircIn, [], []⟩
def dCe : He.DefD := ⟨("Circle", some "__eq__"), "__eq__", "Circle.__eq__", defArgs sCircEq, defBody sCircEq, defScope sCircEq, [], []⟩
def dSi : He.DefD := ⟨("Shelf", some "__init__"), "__init__", "Shelf.__init__", defArgs sShelfInit, defBody sShelfInit, defScope sShelfInit, [], []⟩
def dSl : He.DefD := ⟨("Shelf", some "__len__"), "__len__", "Shelf.__len__", defArgs sShelfLen, defBody sShelfLen, defScope sShelfLen, [], []⟩
def dSe : He.DefD := ⟨("Shelf", some "__eq__"), "__eq__", "Shelf.__eq__", defArgs sShelfEq, defBody sShelfEq, defScope sShelfEq, [], []⟩
def dIi : He.DefD := ⟨("is_integer", none), "is_integer", "is_integer", defArgs sIsInt, defBody sIsInt, defScope sIsInt, [], []⟩
def dIr : He.DefD := ⟨("is_row", none), "is_row", "is_row", defArgs sIsRow, defBody sIsRow, defScope sIsRow, [], []⟩
def dIn : He.DefD := ⟨("is_name", none), "is_name", "is_name", defArgs sIsName, defBody sIsName, defScope sIsName, [], []⟩
def dAn : He.DefD := ⟨("are_names", none), "are_names", "are_names", defArgs sAreNames, defBody sAreNames, defScope sAreNames, [], []⟩
def dAb : He.DefD := ⟨("are_bits", none), "are_bits", "are_bits", defArgs sAreBits, defBody sAreBits, defScope sAreBits, [], []⟩
def dWl : He.DefD := ⟨("wrong_line", none), "wrong_line", "wrong_line", defArgs sWrong, defBody sWrong, defScope sWrong, [], []⟩
def dSs : He.DefD := ⟨("stands_in_shelf", none), "stands_in_shelf", "stands_in_shelf", defArgs sStands, defBody sStands, defScope sStands, [], []⟩
def dPl : He.DefD := ⟨("is_parts_line", none), "is_parts_line", "is_parts_line", defArgs sPartsLine, defBody sPartsLine, defScope sPartsLine, [], []⟩
def dPw : He.DefD := ⟨("is_piece_word", none), "is_piece_word", "is_piece_word", defArgs sPieceWord, defBody sPieceWord, defScope sPieceWord, [], []⟩
def dIw : He.DefD := ⟨("is_whole_shelf", none), "is_whole_shelf", "is_whole_shelf", defArgs sWhole, defBody sWhole, defScope sWhole, [], []⟩
def dRp : He.DefD := ⟨("read_pieces", none), "read_pieces", "read_pieces", defArgs sReadPieces, defBody sReadPieces, defScope sReadPieces, [], []⟩
def dAs : He.DefD := ⟨("all_spots", none), "all_spots", "all_spots", defArgs sAllSpots, defBody sAllSpots, defScope sAllSpots, [], []⟩
def dPa : He.DefD := ⟨("piece_at", none), "piece_at", "piece_at", defArgs sPieceAt, defBody sPieceAt, defScope sPieceAt, [], []⟩
def dPc : He.DefD := ⟨("piece_code", none), "piece_code", "piece_code", defArgs sPieceCode, defBody sPieceCode, defScope sPieceCode, [], []⟩
def dOd : He.DefD := ⟨("odd_parts", none), "odd_parts", "odd_parts", defArgs sOdd, defBody sOdd, defScope sOdd, [], []⟩
def dWo : He.DefD := ⟨("worth", none), "worth", "worth", defArgs sWorth, defBody sWorth, defScope sWorth, [], []⟩
def dIc : He.DefD := ⟨("is_record", none), "is_record", "is_record", defArgs sIsRecord, defBody sIsRecord, defScope sIsRecord, [], []⟩
def dIs : He.DefD := ⟨("is_sum", none), "is_sum", "is_sum", defArgs sIsSum, defBody sIsSum, defScope sIsSum, [], []⟩
def dRk : He.DefD := ⟨("refuse_keeper", none), "refuse_keeper", "refuse_keeper", defArgs sRefKeeper, defBody sRefKeeper, defScope sRefKeeper, [], []⟩
def dRr : He.DefD := ⟨("refuse_record", none), "refuse_record", "refuse_record", defArgs sRefRecord, defBody sRefRecord, defScope sRefRecord, [], []⟩
def dAw : He.DefD := ⟨("answer", none), "answer", "answer", defArgs sAnswer, defBody sAnswer, defScope sAnswer, [], []⟩
def dCt : He.DefD := ⟨("comes_to", none), "comes_to", "comes_to", defArgs sComesTo, defBody sComesTo, defScope sComesTo, [], []⟩
def dlP : He.DefD := ⟨("_law_pot", none), "_law_pot", "_law_pot", defArgs sPot, defBody sPot, defScope sPot, [], []⟩
def dlT : He.DefD := ⟨("_law_take", none), "_law_take", "_law_take", defArgs sTake, defBody sTake, defScope sTake, [], []⟩
def dlO : He.DefD := ⟨("_law_of", none), "_law_of", "_law_of", defArgs sOf, defBody sOf, defScope sOf, [], []⟩
def dlS : He.DefD := ⟨("_law_some", none), "_law_some", "_law_some", defArgs sSome, defBody sSome, defScope sSome, [], []⟩
def dlC : He.DefD := ⟨("_law_cells", none), "_law_cells", "_law_cells", defArgs sCells, defBody sCells, defScope sCells, [], []⟩
def dlN : He.DefD := ⟨("_law_names", none), "_law_names", "_law_names", defArgs sNames, defBody sNames, defScope sNames, [], []⟩
def dlL : He.DefD := ⟨("_law_lore", none), "_law_lore", "_law_lore", defArgs sLore, defBody sLore, defScope sLore, [], []⟩
def dlQ : He.DefD := ⟨("_law_piece", none), "_law_piece", "_law_piece", defArgs sPiece, defBody sPiece, defScope sPiece, [], []⟩
def dlX : He.DefD := ⟨("_law_text", none), "_law_text", "_law_text", defArgs sText, defBody sText, defScope sText, [], []⟩
def dlH : He.DefD := ⟨("_law_shelf", none), "_law_shelf", "_law_shelf", defArgs sShelf, defBody sShelf, defScope sShelf, [], []⟩
def dlK : He.DefD := ⟨("_law_keepers", none), "_law_keepers", "_law_keepers", defArgs sKeepers, defBody sKeepers, defScope sKeepers, [], []⟩
def dlR : He.DefD := ⟨("_law_records", none), "_law_records", "_law_records", defArgs sRecords, defBody sRecords, defScope sRecords, [], []⟩
def dlV : He.DefD := ⟨("_law_value", none), "_law_value", "_law_value", defArgs sValue, defBody sValue, defScope sValue, [], []⟩
def dlA : He.DefD := ⟨("_law_answer", none), "_law_answer", "_law_answer", defArgs sLAnswer, defBody sLAnswer, defScope sLAnswer, [], []⟩
def dlZ : He.DefD := ⟨("_law_spots", none), "_law_spots", "_law_spots", defArgs sSpots, defBody sSpots, defScope sSpots, [], []⟩
def dlD : He.DefD := ⟨("_law_comes_to", none), "_law_comes_to", "_law_comes_to", defArgs sLComes, defBody sLComes, defScope sLComes, [], []⟩
def dlE : He.DefD := ⟨("_law_are_equal_right", none), "_law_are_equal_right", "_law_are_equal_right", defArgs sEqRight, defBody sEqRight, defScope sEqRight, [], []⟩
def dlG : He.DefD := ⟨("_law_right", none), "_law_right", "_law_right", defArgs sRight, defBody sRight, defScope sRight, [], []⟩
def dlaw : He.DefD := ⟨("law", none), "law", "law", defArgs sLaw, defBody sLaw, defScope sLaw, [], []⟩
def fn : List He.DefD := [dCi, dCc, dCe, dSi, dSl, dSe, dIi, dIr, dIn, dAn, dAb, dWl, dSs, dPl, dPw, dIw, dRp, dAs, dPa, dPc, dOd, dWo, dIc, dIs, dRk, dRr, dAw, dCt, dlP, dlT, dlO, dlS, dlC, dlN, dlL, dlQ, dlX, dlH, dlK, dlR, dlV, dlA, dlZ, dlD, dlE, dlG, dlaw]
def fa : List He.Fa := [.glo "is_integer", .glo "is_row", .glo "is_name", .glo "are_names", .glo "are_bits", .glo "wrong_line", .glo "stands_in_shelf", .glo "is_parts_line", .glo "is_piece_word", .glo "is_whole_shelf", .glo "read_pieces", .glo "all_spots", .glo "piece_at", .glo "piece_code", .glo "odd_parts", .glo "worth", .glo "is_record", .glo "is_sum", .glo "refuse_keeper", .glo "refuse_record", .glo "answer", .glo "comes_to", .glo "_law_pot", .glo "_law_take", .glo "_law_of", .glo "_law_some", .glo "_law_cells", .glo "_law_names", .glo "_law_lore", .glo "_law_piece", .glo "_law_text", .glo "_law_shelf", .glo "_law_keepers", .glo "_law_records", .glo "_law_value", .glo "_law_answer", .glo "_law_spots", .glo "_law_comes_to", .glo "_law_are_equal_right", .glo "_law_right", .glo "law", .glo "Circle", .glo "Shelf", .free "int", .free "abs", .free "len", .free "list", .free "range", .free "max", .free "min", .free "all", .free "any", .free "repr", .free "isinstance", .free "enumerate", .free "ValueError", .free "str", .free "tuple", .free "set", .free "sum", .free "sorted", .free "zip", .free "dict", .free "bool", .str "LETTERS" "abcdefghijklmnopqrstuvwxyz", .int "MOST_PARTS" 4, .int "LEAST_KEEPERS" 2, .int "MOST_KEEPERS" 6, .int "MOST_PIECES" 2, .cls "Circle", .cls "Shelf", .noat "Circle" "names", .noat "Shelf" "text", .noat "Shelf" "parts", .noat "Shelf" "circle", .noat "Shelf" "pieces", .noat "Shelf" "spots", .noat "Shelf" "codes", .mkr "Circle", .mkr "Shelf", .meth "Circle" "__contains__", .meth "Circle" "__eq__", .meth "Shelf" "__len__", .meth "Shelf" "__eq__"]
def obF (K : PySem.W.Frag) : He.AlD × Bool := (He.obsD fa fn K, exB K)
def obK (g : Addr → Option Obj) : He.AlD × Bool := obF (He.frG g (asK g))
def hk : PySem.W.Hook where
  α := He.AlD × Bool
  obs := fun s => obK s.heap.get?
  val := fun _ => (He.valD fn, true)
  says := fun _ h => ∃ K : PySem.W.Frag, K.In h ∧ obF K = (He.valD fn, true)
  of := fun _ _ e => ⟨_, He.frG_in, e⟩
  keeps := fun _ _ _ ⟨K, hK, c⟩ k => ⟨K, PySem.W.Frag.In.keeps hK k, c⟩
theorem fun_of {K : PySem.W.Frag} {x q : Str} {st : Stmt} {f : Addr} {fd : FuncData} (F : FunD K x q (defArgs st) (defBody st) (defScope st) [] [] f fd) : Fun K x q st f fd := by
  obtain ⟨⟨oc, od, dV, kV, doc, pm, an, cdv, ct, osl, e, lk, hcd, hd, _⟩, kp⟩ := F
  rcases hd with ⟨_, rfl⟩ | ⟨h, _⟩
  · exact ⟨⟨oc, od, kV, doc, pm, an, cdv, ct, osl, e, lk, hcd⟩, kp⟩
  · exact absurd rfl h
theorem facts {P : Program} {w : World} {K : PySem.W.Frag} {h : Heap} {mg : Str → Option Value} {f : Addr} (X : K.In h) (G : h.Ns mainGlobals mg) (hfa : mg ("law" : Str) = some (.ref f)) (c : obF K = (He.valD fn, true)) :
    ∃ fd : FuncData, (∀ (s : Shared) (v : Value), BindsTo s fd ⟨[v], []⟩ [("script", v)]) ∧ ∀ base : Heap, K.In base → base.Ns mainGlobals mg → FnG P w K mg base 11 f fd ["script"] (spLaw K) := by
  have cD : He.SaysD fa fn K := congrArg (fun z : He.AlD × Bool => z.1) c
  have cE : exB K = true := congrArg (fun z : He.AlD × Bool => z.2) c
  obtain ⟨x1, cE⟩ := He.ba cE
  obtain ⟨x2, cE⟩ := He.ba cE
  obtain ⟨x3, cE⟩ := He.ba cE
  obtain ⟨x4, cE⟩ := He.ba cE
  obtain ⟨x5, x6⟩ := He.ba cE
  obtain ⟨fdCi, DCi⟩ := cD.def_ 0 (d := dCi) rfl
  have bCi := FunD.bindsN (ps := ["self", "names"]) DCi fun _ _ _ _ _ _ us hl => match us, hl with | [_, _], _ => rfl
  have FCi : Fun K "__init__" "Circle.__init__" sCircInit (He.fAd K dCi.at_) fdCi := fun_of DCi
  obtain ⟨fdCc, DCc⟩ := cD.def_ 1 (d := dCc) rfl
  have bCc := FunD.bindsN (ps := ["self", "value"]) DCc fun _ _ _ _ _ _ us hl => match us, hl with | [_, _], _ => rfl
  have FCc : Fun K "__contains__" "Circle.__contains__" sCircIn (He.fAd K dCc.at_) fdCc := fun_of DCc
  obtain ⟨fdCe, DCe⟩ := cD.def_ 2 (d := dCe) rfl
  have bCe := FunD.bindsN (ps := ["self", "other"]) DCe fun _ _ _ _ _ _ us hl => match us, hl with | [_, _], _ => rfl
  have FCe : Fun K "__eq__" "Circle.__eq__" sCircEq (He.fAd K dCe.at_) fdCe := fun_of DCe
  obtain ⟨fdSi, DSi⟩ := cD.def_ 3 (d := dSi) rfl
  have bSi := FunD.bindsN (ps := ["self", "text"]) DSi fun _ _ _ _ _ _ us hl => match us, hl with | [_, _], _ => rfl
  have FSi : Fun K "__init__" "Shelf.__init__" sShelfInit (He.fAd K dSi.at_) fdSi := fun_of DSi
  obtain ⟨fdSl, DSl⟩ := cD.def_ 4 (d := dSl) rfl
  have bSl := FunD.bindsN (ps := ["self"]) DSl fun _ _ _ _ _ _ us hl => match us, hl with | [_], _ => rfl
  have FSl : Fun K "__len__" "Shelf.__len__" sShelfLen (He.fAd K dSl.at_) fdSl := fun_of DSl
  obtain ⟨fdSe, DSe⟩ := cD.def_ 5 (d := dSe) rfl
  have bSe := FunD.bindsN (ps := ["self", "other"]) DSe fun _ _ _ _ _ _ us hl => match us, hl with | [_, _], _ => rfl
  have FSe : Fun K "__eq__" "Shelf.__eq__" sShelfEq (He.fAd K dSe.at_) fdSe := fun_of DSe
  obtain ⟨fdIi, DIi⟩ := cD.def_ 6 (d := dIi) rfl
  have bIi := FunD.bindsN (ps := ["value"]) DIi fun _ _ _ _ _ _ us hl => match us, hl with | [_], _ => rfl
  have FIi : Fun K "is_integer" "is_integer" sIsInt (He.fAd K dIi.at_) fdIi := fun_of DIi
  have mIi : mg "is_integer" = some (.ref (He.fAd K dIi.at_)) := He.glo_ok X G (cD.fact 0 (f := .glo "is_integer") rfl)
  obtain ⟨fdIr, DIr⟩ := cD.def_ 7 (d := dIr) rfl
  have bIr := FunD.bindsN (ps := ["value", "many"]) DIr fun _ _ _ _ _ _ us hl => match us, hl with | [_, _], _ => rfl
  have FIr : Fun K "is_row" "is_row" sIsRow (He.fAd K dIr.at_) fdIr := fun_of DIr
  have mIr : mg "is_row" = some (.ref (He.fAd K dIr.at_)) := He.glo_ok X G (cD.fact 1 (f := .glo "is_row") rfl)
  obtain ⟨fdIn, DIn⟩ := cD.def_ 8 (d := dIn) rfl
  have bIn := FunD.bindsN (ps := ["value"]) DIn fun _ _ _ _ _ _ us hl => match us, hl with | [_], _ => rfl
  have FIn : Fun K "is_name" "is_name" sIsName (He.fAd K dIn.at_) fdIn := fun_of DIn
  have mIn : mg "is_name" = some (.ref (He.fAd K dIn.at_)) := He.glo_ok X G (cD.fact 2 (f := .glo "is_name") rfl)
  obtain ⟨fdAn, DAn⟩ := cD.def_ 9 (d := dAn) rfl
  have bAn := FunD.bindsN (ps := ["some"]) DAn fun _ _ _ _ _ _ us hl => match us, hl with | [_], _ => rfl
  have FAn : Fun K "are_names" "are_names" sAreNames (He.fAd K dAn.at_) fdAn := fun_of DAn
  have mAn : mg "are_names" = some (.ref (He.fAd K dAn.at_)) := He.glo_ok X G (cD.fact 3 (f := .glo "are_names") rfl)
  obtain ⟨fdAb, DAb⟩ := cD.def_ 10 (d := dAb) rfl
  have bAb := FunD.bindsN (ps := ["value", "many"]) DAb fun _ _ _ _ _ _ us hl => match us, hl with | [_, _], _ => rfl
  have FAb : Fun K "are_bits" "are_bits" sAreBits (He.fAd K dAb.at_) fdAb := fun_of DAb
  have mAb : mg "are_bits" = some (.ref (He.fAd K dAb.at_)) := He.glo_ok X G (cD.fact 4 (f := .glo "are_bits") rfl)
  obtain ⟨fdWl, DWl⟩ := cD.def_ 11 (d := dWl) rfl
  have bWl := FunD.bindsN (ps := ["text", "can_stand", "is_whole"]) DWl fun _ _ _ _ _ _ us hl => match us, hl with | [_, _, _], _ => rfl
  have FWl : Fun K "wrong_line" "wrong_line" sWrong (He.fAd K dWl.at_) fdWl := fun_of DWl
  have mWl : mg "wrong_line" = some (.ref (He.fAd K dWl.at_)) := He.glo_ok X G (cD.fact 5 (f := .glo "wrong_line") rfl)
  obtain ⟨fdSs, DSs⟩ := cD.def_ 12 (d := dSs) rfl
  have bSs := FunD.bindsN (ps := ["ahead", "line"]) DSs fun _ _ _ _ _ _ us hl => match us, hl with | [_, _], _ => rfl
  have FSs : Fun K "stands_in_shelf" "stands_in_shelf" sStands (He.fAd K dSs.at_) fdSs := fun_of DSs
  have mSs : mg "stands_in_shelf" = some (.ref (He.fAd K dSs.at_)) := He.glo_ok X G (cD.fact 6 (f := .glo "stands_in_shelf") rfl)
  obtain ⟨fdPl, DPl⟩ := cD.def_ 13 (d := dPl) rfl
  have bPl := FunD.bindsN (ps := ["line"]) DPl fun _ _ _ _ _ _ us hl => match us, hl with | [_], _ => rfl
  have FPl : Fun K "is_parts_line" "is_parts_line" sPartsLine (He.fAd K dPl.at_) fdPl := fun_of DPl
  have mPl : mg "is_parts_line" = some (.ref (He.fAd K dPl.at_)) := He.glo_ok X G (cD.fact 7 (f := .glo "is_parts_line") rfl)
  obtain ⟨fdPw, DPw⟩ := cD.def_ 14 (d := dPw) rfl
  have bPw := FunD.bindsN (ps := ["parts", "word"]) DPw fun _ _ _ _ _ _ us hl => match us, hl with | [_, _], _ => rfl
  have FPw : Fun K "is_piece_word" "is_piece_word" sPieceWord (He.fAd K dPw.at_) fdPw := fun_of DPw
  have mPw : mg "is_piece_word" = some (.ref (He.fAd K dPw.at_)) := He.glo_ok X G (cD.fact 8 (f := .glo "is_piece_word") rfl)
  obtain ⟨fdIw, DIw⟩ := cD.def_ 15 (d := dIw) rfl
  have bIw := FunD.bindsN (ps := ["lines"]) DIw fun _ _ _ _ _ _ us hl => match us, hl with | [_], _ => rfl
  have FIw : Fun K "is_whole_shelf" "is_whole_shelf" sWhole (He.fAd K dIw.at_) fdIw := fun_of DIw
  have mIw : mg "is_whole_shelf" = some (.ref (He.fAd K dIw.at_)) := He.glo_ok X G (cD.fact 9 (f := .glo "is_whole_shelf") rfl)
  obtain ⟨fdRp, DRp⟩ := cD.def_ 16 (d := dRp) rfl
  have bRp := FunD.bindsN (ps := ["words"]) DRp fun _ _ _ _ _ _ us hl => match us, hl with | [_], _ => rfl
  have FRp : Fun K "read_pieces" "read_pieces" sReadPieces (He.fAd K dRp.at_) fdRp := fun_of DRp
  have mRp : mg "read_pieces" = some (.ref (He.fAd K dRp.at_)) := He.glo_ok X G (cD.fact 10 (f := .glo "read_pieces") rfl)
  obtain ⟨fdAs, DAs⟩ := cD.def_ 17 (d := dAs) rfl
  have bAs := FunD.bindsN (ps := ["circle", "pieces"]) DAs fun _ _ _ _ _ _ us hl => match us, hl with | [_, _], _ => rfl
  have FAs : Fun K "all_spots" "all_spots" sAllSpots (He.fAd K dAs.at_) fdAs := fun_of DAs
  have mAs : mg "all_spots" = some (.ref (He.fAd K dAs.at_)) := He.glo_ok X G (cD.fact 11 (f := .glo "all_spots") rfl)
  obtain ⟨fdPa, DPa⟩ := cD.def_ 18 (d := dPa) rfl
  have bPa := FunD.bindsN (ps := ["shelf", "spot"]) DPa fun _ _ _ _ _ _ us hl => match us, hl with | [_, _], _ => rfl
  have FPa : Fun K "piece_at" "piece_at" sPieceAt (He.fAd K dPa.at_) fdPa := fun_of DPa
  have mPa : mg "piece_at" = some (.ref (He.fAd K dPa.at_)) := He.glo_ok X G (cD.fact 12 (f := .glo "piece_at") rfl)
  obtain ⟨fdPc, DPc⟩ := cD.def_ 19 (d := dPc) rfl
  have bPc := FunD.bindsN (ps := ["parts", "piece"]) DPc fun _ _ _ _ _ _ us hl => match us, hl with | [_, _], _ => rfl
  have FPc : Fun K "piece_code" "piece_code" sPieceCode (He.fAd K dPc.at_) fdPc := fun_of DPc
  have mPc : mg "piece_code" = some (.ref (He.fAd K dPc.at_)) := He.glo_ok X G (cD.fact 13 (f := .glo "piece_code") rfl)
  obtain ⟨fdOd, DOd⟩ := cD.def_ 20 (d := dOd) rfl
  have bOd := FunD.bindsN (ps := ["parts", "pieces"]) DOd fun _ _ _ _ _ _ us hl => match us, hl with | [_, _], _ => rfl
  have FOd : Fun K "odd_parts" "odd_parts" sOdd (He.fAd K dOd.at_) fdOd := fun_of DOd
  have mOd : mg "odd_parts" = some (.ref (He.fAd K dOd.at_)) := He.glo_ok X G (cD.fact 14 (f := .glo "odd_parts") rfl)
  obtain ⟨fdWo, DWo⟩ := cD.def_ 21 (d := dWo) rfl
  have bWo := FunD.bindsN (ps := ["shelf", "piece", "record"]) DWo fun _ _ _ _ _ _ us hl => match us, hl with | [_, _, _], _ => rfl
  have FWo : Fun K "worth" "worth" sWorth (He.fAd K dWo.at_) fdWo := fun_of DWo
  have mWo : mg "worth" = some (.ref (He.fAd K dWo.at_)) := He.glo_ok X G (cD.fact 15 (f := .glo "worth") rfl)
  obtain ⟨fdIc, DIc⟩ := cD.def_ 22 (d := dIc) rfl
  have bIc := FunD.bindsN (ps := ["shelf", "value"]) DIc fun _ _ _ _ _ _ us hl => match us, hl with | [_, _], _ => rfl
  have FIc : Fun K "is_record" "is_record" sIsRecord (He.fAd K dIc.at_) fdIc := fun_of DIc
  have mIc : mg "is_record" = some (.ref (He.fAd K dIc.at_)) := He.glo_ok X G (cD.fact 16 (f := .glo "is_record") rfl)
  obtain ⟨fdIs, DIs⟩ := cD.def_ 23 (d := dIs) rfl
  have bIs := FunD.bindsN (ps := ["shelf", "value"]) DIs fun _ _ _ _ _ _ us hl => match us, hl with | [_, _], _ => rfl
  have FIs : Fun K "is_sum" "is_sum" sIsSum (He.fAd K dIs.at_) fdIs := fun_of DIs
  have mIs : mg "is_sum" = some (.ref (He.fAd K dIs.at_)) := He.glo_ok X G (cD.fact 17 (f := .glo "is_sum") rfl)
  obtain ⟨fdRk, DRk⟩ := cD.def_ 24 (d := dRk) rfl
  have bRk := FunD.bindsN (ps := ["shelf", "value"]) DRk fun _ _ _ _ _ _ us hl => match us, hl with | [_, _], _ => rfl
  have FRk : Fun K "refuse_keeper" "refuse_keeper" sRefKeeper (He.fAd K dRk.at_) fdRk := fun_of DRk
  have mRk : mg "refuse_keeper" = some (.ref (He.fAd K dRk.at_)) := He.glo_ok X G (cD.fact 18 (f := .glo "refuse_keeper") rfl)
  obtain ⟨fdRr, DRr⟩ := cD.def_ 25 (d := dRr) rfl
  have bRr := FunD.bindsN (ps := ["shelf", "value"]) DRr fun _ _ _ _ _ _ us hl => match us, hl with | [_, _], _ => rfl
  have FRr : Fun K "refuse_record" "refuse_record" sRefRecord (He.fAd K dRr.at_) fdRr := fun_of DRr
  have mRr : mg "refuse_record" = some (.ref (He.fAd K dRr.at_)) := He.glo_ok X G (cD.fact 19 (f := .glo "refuse_record") rfl)
  obtain ⟨fdAw, DAw⟩ := cD.def_ 26 (d := dAw) rfl
  have bAw := FunD.bindsN (ps := ["shelf", "keeper", "record"]) DAw fun _ _ _ _ _ _ us hl => match us, hl with | [_, _, _], _ => rfl
  have FAw : Fun K "answer" "answer" sAnswer (He.fAd K dAw.at_) fdAw := fun_of DAw
  have mAw : mg "answer" = some (.ref (He.fAd K dAw.at_)) := He.glo_ok X G (cD.fact 20 (f := .glo "answer") rfl)
  obtain ⟨fdCt, DCt⟩ := cD.def_ 27 (d := dCt) rfl
  have bCt := FunD.bindsN (ps := ["shelf", "spots"]) DCt fun _ _ _ _ _ _ us hl => match us, hl with | [_, _], _ => rfl
  have FCt : Fun K "comes_to" "comes_to" sComesTo (He.fAd K dCt.at_) fdCt := fun_of DCt
  have mCt : mg "comes_to" = some (.ref (He.fAd K dCt.at_)) := He.glo_ok X G (cD.fact 21 (f := .glo "comes_to") rfl)
  obtain ⟨fdlP, DlP⟩ := cD.def_ 28 (d := dlP) rfl
  have blP := FunD.bindsN (ps := ["script", "place"]) DlP fun _ _ _ _ _ _ us hl => match us, hl with | [_, _], _ => rfl
  have FlP : Fun K "_law_pot" "_law_pot" sPot (He.fAd K dlP.at_) fdlP := fun_of DlP
  have mlP : mg "_law_pot" = some (.ref (He.fAd K dlP.at_)) := He.glo_ok X G (cD.fact 22 (f := .glo "_law_pot") rfl)
  obtain ⟨fdlT, DlT⟩ := cD.def_ 29 (d := dlT) rfl
  have blT := FunD.bindsN (ps := ["pot", "upto"]) DlT fun _ _ _ _ _ _ us hl => match us, hl with | [_, _], _ => rfl
  have FlT : Fun K "_law_take" "_law_take" sTake (He.fAd K dlT.at_) fdlT := fun_of DlT
  have mlT : mg "_law_take" = some (.ref (He.fAd K dlT.at_)) := He.glo_ok X G (cD.fact 23 (f := .glo "_law_take") rfl)
  obtain ⟨fdlO, DlO⟩ := cD.def_ 30 (d := dlO) rfl
  have blO := FunD.bindsN (ps := ["pot", "some"]) DlO fun _ _ _ _ _ _ us hl => match us, hl with | [_, _], _ => rfl
  have FlO : Fun K "_law_of" "_law_of" sOf (He.fAd K dlO.at_) fdlO := fun_of DlO
  have mlO : mg "_law_of" = some (.ref (He.fAd K dlO.at_)) := He.glo_ok X G (cD.fact 24 (f := .glo "_law_of") rfl)
  obtain ⟨fdlS, DlS⟩ := cD.def_ 31 (d := dlS) rfl
  have blS := FunD.bindsN (ps := ["pot", "pool", "amount"]) DlS fun _ _ _ _ _ _ us hl => match us, hl with | [_, _, _], _ => rfl
  have FlS : Fun K "_law_some" "_law_some" sSome (He.fAd K dlS.at_) fdlS := fun_of DlS
  have mlS : mg "_law_some" = some (.ref (He.fAd K dlS.at_)) := He.glo_ok X G (cD.fact 25 (f := .glo "_law_some") rfl)
  obtain ⟨fdlC, DlC⟩ := cD.def_ 32 (d := dlC) rfl
  have blC := FunD.bindsN (ps := ["script", "most"]) DlC fun _ _ _ _ _ _ us hl => match us, hl with | [_, _], _ => rfl
  have FlC : Fun K "_law_cells" "_law_cells" sCells (He.fAd K dlC.at_) fdlC := fun_of DlC
  have mlC : mg "_law_cells" = some (.ref (He.fAd K dlC.at_)) := He.glo_ok X G (cD.fact 26 (f := .glo "_law_cells") rfl)
  obtain ⟨fdlN, DlN⟩ := cD.def_ 33 (d := dlN) rfl
  have blN := FunD.bindsN (ps := ["pot", "most"]) DlN fun _ _ _ _ _ _ us hl => match us, hl with | [_, _], _ => rfl
  have FlN : Fun K "_law_names" "_law_names" sNames (He.fAd K dlN.at_) fdlN := fun_of DlN
  have mlN : mg "_law_names" = some (.ref (He.fAd K dlN.at_)) := He.glo_ok X G (cD.fact 27 (f := .glo "_law_names") rfl)
  obtain ⟨fdlL, DlL⟩ := cD.def_ 34 (d := dlL) rfl
  have blL := FunD.bindsN (ps := ["pot"]) DlL fun _ _ _ _ _ _ us hl => match us, hl with | [_], _ => rfl
  have FlL : Fun K "_law_lore" "_law_lore" sLore (He.fAd K dlL.at_) fdlL := fun_of DlL
  have mlL : mg "_law_lore" = some (.ref (He.fAd K dlL.at_)) := He.glo_ok X G (cD.fact 28 (f := .glo "_law_lore") rfl)
  obtain ⟨fdlQ, DlQ⟩ := cD.def_ 35 (d := dlQ) rfl
  have blQ := FunD.bindsN (ps := ["pot", "parts", "wide"]) DlQ fun _ _ _ _ _ _ us hl => match us, hl with | [_, _, _], _ => rfl
  have FlQ : Fun K "_law_piece" "_law_piece" sPiece (He.fAd K dlQ.at_) fdlQ := fun_of DlQ
  have mlQ : mg "_law_piece" = some (.ref (He.fAd K dlQ.at_)) := He.glo_ok X G (cD.fact 29 (f := .glo "_law_piece") rfl)
  obtain ⟨fdlX, DlX⟩ := cD.def_ 36 (d := dlX) rfl
  have blX := FunD.bindsN (ps := ["lore"]) DlX fun _ _ _ _ _ _ us hl => match us, hl with | [_], _ => rfl
  have FlX : Fun K "_law_text" "_law_text" sText (He.fAd K dlX.at_) fdlX := fun_of DlX
  have mlX : mg "_law_text" = some (.ref (He.fAd K dlX.at_)) := He.glo_ok X G (cD.fact 30 (f := .glo "_law_text") rfl)
  obtain ⟨fdlH, DlH⟩ := cD.def_ 37 (d := dlH) rfl
  have blH := FunD.bindsN (ps := ["lore"]) DlH fun _ _ _ _ _ _ us hl => match us, hl with | [_], _ => rfl
  have FlH : Fun K "_law_shelf" "_law_shelf" sShelf (He.fAd K dlH.at_) fdlH := fun_of DlH
  have mlH : mg "_law_shelf" = some (.ref (He.fAd K dlH.at_)) := He.glo_ok X G (cD.fact 31 (f := .glo "_law_shelf") rfl)
  obtain ⟨fdlK, DlK⟩ := cD.def_ 38 (d := dlK) rfl
  have blK := FunD.bindsN (ps := ["lore"]) DlK fun _ _ _ _ _ _ us hl => match us, hl with | [_], _ => rfl
  have FlK : Fun K "_law_keepers" "_law_keepers" sKeepers (He.fAd K dlK.at_) fdlK := fun_of DlK
  have mlK : mg "_law_keepers" = some (.ref (He.fAd K dlK.at_)) := He.glo_ok X G (cD.fact 32 (f := .glo "_law_keepers") rfl)
  obtain ⟨fdlR, DlR⟩ := cD.def_ 39 (d := dlR) rfl
  have blR := FunD.bindsN (ps := ["lore"]) DlR fun _ _ _ _ _ _ us hl => match us, hl with | [_], _ => rfl
  have FlR : Fun K "_law_records" "_law_records" sRecords (He.fAd K dlR.at_) fdlR := fun_of DlR
  have mlR : mg "_law_records" = some (.ref (He.fAd K dlR.at_)) := He.glo_ok X G (cD.fact 33 (f := .glo "_law_records") rfl)
  obtain ⟨fdlV, DlV⟩ := cD.def_ 40 (d := dlV) rfl
  have blV := FunD.bindsN (ps := ["lore", "piece", "record"]) DlV fun _ _ _ _ _ _ us hl => match us, hl with | [_, _, _], _ => rfl
  have FlV : Fun K "_law_value" "_law_value" sValue (He.fAd K dlV.at_) fdlV := fun_of DlV
  have mlV : mg "_law_value" = some (.ref (He.fAd K dlV.at_)) := He.glo_ok X G (cD.fact 34 (f := .glo "_law_value") rfl)
  obtain ⟨fdlA, DlA⟩ := cD.def_ 41 (d := dlA) rfl
  have blA := FunD.bindsN (ps := ["lore", "keeper", "record"]) DlA fun _ _ _ _ _ _ us hl => match us, hl with | [_, _, _], _ => rfl
  have FlA : Fun K "_law_answer" "_law_answer" sLAnswer (He.fAd K dlA.at_) fdlA := fun_of DlA
  have mlA : mg "_law_answer" = some (.ref (He.fAd K dlA.at_)) := He.glo_ok X G (cD.fact 35 (f := .glo "_law_answer") rfl)
  obtain ⟨fdlZ, DlZ⟩ := cD.def_ 42 (d := dlZ) rfl
  have blZ := FunD.bindsN (ps := ["lore", "lot"]) DlZ fun _ _ _ _ _ _ us hl => match us, hl with | [_, _], _ => rfl
  have FlZ : Fun K "_law_spots" "_law_spots" sSpots (He.fAd K dlZ.at_) fdlZ := fun_of DlZ
  have mlZ : mg "_law_spots" = some (.ref (He.fAd K dlZ.at_)) := He.glo_ok X G (cD.fact 36 (f := .glo "_law_spots") rfl)
  obtain ⟨fdlD, DlD⟩ := cD.def_ 43 (d := dlD) rfl
  have blD := FunD.bindsN (ps := ["lore", "some"]) DlD fun _ _ _ _ _ _ us hl => match us, hl with | [_, _], _ => rfl
  have FlD : Fun K "_law_comes_to" "_law_comes_to" sLComes (He.fAd K dlD.at_) fdlD := fun_of DlD
  have mlD : mg "_law_comes_to" = some (.ref (He.fAd K dlD.at_)) := He.glo_ok X G (cD.fact 37 (f := .glo "_law_comes_to") rfl)
  obtain ⟨fdlE, DlE⟩ := cD.def_ 44 (d := dlE) rfl
  have blE := FunD.bindsN (ps := ["pot", "lore", "shelf"]) DlE fun _ _ _ _ _ _ us hl => match us, hl with | [_, _, _], _ => rfl
  have FlE : Fun K "_law_are_equal_right" "_law_are_equal_right" sEqRight (He.fAd K dlE.at_) fdlE := fun_of DlE
  have mlE : mg "_law_are_equal_right" = some (.ref (He.fAd K dlE.at_)) := He.glo_ok X G (cD.fact 38 (f := .glo "_law_are_equal_right") rfl)
  obtain ⟨fdlG, DlG⟩ := cD.def_ 45 (d := dlG) rfl
  have blG := FunD.bindsN (ps := ["pot"]) DlG fun _ _ _ _ _ _ us hl => match us, hl with | [_], _ => rfl
  have FlG : Fun K "_law_right" "_law_right" sRight (He.fAd K dlG.at_) fdlG := fun_of DlG
  have mlG : mg "_law_right" = some (.ref (He.fAd K dlG.at_)) := He.glo_ok X G (cD.fact 39 (f := .glo "_law_right") rfl)
  obtain ⟨fdlaw, Dlaw⟩ := cD.def_ 46 (d := dlaw) rfl
  have Flaw : Fun K "law" "law" sLaw (He.fAd K dlaw.at_) fdlaw := fun_of Dlaw
  have mlaw : mg "law" = some (.ref (He.fAd K dlaw.at_)) := He.glo_ok X G (cD.fact 40 (f := .glo "law") rfl)
  have mCi : mg "Circle" = some (.ref (gC K)) := He.glo_ok X G (cD.fact 41 (f := .glo "Circle") rfl)
  have mSh : mg "Shelf" = some (.ref (gS K)) := He.glo_ok X G (cD.fact 42 (f := .glo "Shelf") rfl)
  have T : Bl mg := ⟨He.free_ok X G (cD.fact 43 (f := .free "int") rfl), He.free_ok X G (cD.fact 44 (f := .free "abs") rfl), He.free_ok X G (cD.fact 45 (f := .free "len") rfl), He.free_ok X G (cD.fact 46 (f := .free "list") rfl), He.free_ok X G (cD.fact 47 (f := .free "range") rfl), He.free_ok X G (cD.fact 48 (f := .free "max") rfl), He.free_ok X G (cD.fact 49 (f := .free "min") rfl), He.free_ok X G (cD.fact 50 (f := .free "all") rfl), He.free_ok X G (cD.fact 51 (f := .free "any") rfl), He.free_ok X G (cD.fact 52 (f := .free "repr") rfl), He.free_ok X G (cD.fact 53 (f := .free "isinstance") rfl), He.free_ok X G (cD.fact 54 (f := .free "enumerate") rfl), He.free_ok X G (cD.fact 55 (f := .free "ValueError") rfl)⟩
  have Cc : Cn mg := ⟨He.free_ok X G (cD.fact 56 (f := .free "str") rfl), He.free_ok X G (cD.fact 57 (f := .free "tuple") rfl), He.free_ok X G (cD.fact 58 (f := .free "set") rfl), He.free_ok X G (cD.fact 59 (f := .free "sum") rfl), He.free_ok X G (cD.fact 60 (f := .free "sorted") rfl), He.free_ok X G (cD.fact 61 (f := .free "zip") rfl), He.free_ok X G (cD.fact 62 (f := .free "dict") rfl), He.str_ok X G (cD.fact 64 (f := .str "LETTERS" "abcdefghijklmnopqrstuvwxyz") rfl), He.int_ok X G (cD.fact 65 (f := .int "MOST_PARTS" 4) rfl), He.int_ok X G (cD.fact 66 (f := .int "LEAST_KEEPERS" 2) rfl), He.int_ok X G (cD.fact 67 (f := .int "MOST_KEEPERS" 6) rfl), He.int_ok X G (cD.fact 68 (f := .int "MOST_PIECES" 2) rfl)⟩
  have hB : mg "bool" = none := He.free_ok X G (cD.fact 63 (f := .free "bool") rfl)
  have clC : Cls K (gC K) := He.cls_ok (cD.fact 69 (f := .cls "Circle") rfl)
  have clS : Cls K (gS K) := He.cls_ok (cD.fact 70 (f := .cls "Shelf") rfl)
  have CC : CircC K (gC K) (He.fAd K dCi.at_) := ⟨clC, He.noat_ok (cD.fact 71 (f := .noat "Circle" "names") rfl), He.mkr_ok (cD.fact 78 (f := .mkr "Circle") rfl)⟩
  have SC : ShC K (gS K) (He.fAd K dSi.at_) := ⟨clS, He.noat_ok (cD.fact 72 (f := .noat "Shelf" "text") rfl), He.noat_ok (cD.fact 73 (f := .noat "Shelf" "parts") rfl), He.noat_ok (cD.fact 74 (f := .noat "Shelf" "circle") rfl), He.noat_ok (cD.fact 75 (f := .noat "Shelf" "pieces") rfl), He.noat_ok (cD.fact 76 (f := .noat "Shelf" "spots") rfl), He.noat_ok (cD.fact 77 (f := .noat "Shelf" "codes") rfl), He.mkr_ok (cD.fact 79 (f := .mkr "Shelf") rfl)⟩
  obtain ⟨pCc, rCc, _⟩ := ba3 (cD.fact 80 (f := .meth "Circle" "__contains__") rfl)
  have MCc : MethC K (gC K) "__contains__" (He.fAd K dCc.at_) := ⟨He.eqO_ok pCc, rCc⟩
  obtain ⟨pCe, rCe, _⟩ := ba3 (cD.fact 81 (f := .meth "Circle" "__eq__") rfl)
  have MCe : MethC K (gC K) "__eq__" (He.fAd K dCe.at_) := ⟨He.eqO_ok pCe, rCe⟩
  obtain ⟨pSl, rSl, _⟩ := ba3 (cD.fact 82 (f := .meth "Shelf" "__len__") rfl)
  have MSl : MethC K (gS K) "__len__" (He.fAd K dSl.at_) := ⟨He.eqO_ok pSl, rSl⟩
  obtain ⟨pSe, rSe, _⟩ := ba3 (cD.fact 83 (f := .meth "Shelf" "__eq__") rfl)
  have MSe : MethC K (gS K) "__eq__" (He.fAd K dSe.at_) := ⟨He.eqO_ok pSe, rSe⟩
  have IC : IsiC K (gC K) := isiB_ok clC x1 x2
  have IS : IsiC K (gS K) := isiB_ok clS x1 x3
  have NC : NeC K (gC K) (He.fAd K dCe.at_) := neB_ok x4 MCe.fn
  have NS : NeC K (gS K) (He.fAd K dSe.at_) := neB_ok x5 MSe.fn
  have SE : ShE K (gC K) (gS K) := shB_ok x6
  have e := hfa.symm.trans mlaw
  cases e
  have b := FunD.bindsA (ps := ["script"]) Dlaw fun _ _ _ _ _ _ us hl => match us, hl with | [_], _ => rfl
  refine ⟨fdlaw, fun s v => b s [v] rfl, fun base _ _ => ?_⟩
  have GT : FnOk P w K mg base CX0 1 _ fdlT ["pot", "upto"] spTake := ok_take FlT T
  have GSo : FnOk P w K mg base CX0 2 _ fdlS ["pot", "pool", "amount"] (spSome K) := ok_some FlS T FlT blT mlT
  have GQ : FnOk P w K mg base CX0 3 _ fdlQ ["pot", "parts", "wide"] (spPiece K) := ok_piece FlQ T Cc.tuple FlT blT mlT FlS blS mlS
  have GLo : FnOk P w K mg base CX0 4 _ fdlL ["pot"] spLore := ok_lore FlL T Cc.tuple FlT blT mlT FlS blS mlS FlO blO mlO FlN blN mlN FlQ blQ mlQ
  have GX : FnOk P w K mg base CX0 1 _ fdlX ["lore"] spText := ok_text FlX T
  have GSs : FnOk P w K mg base CX0 4 _ fdSs ["ahead", "line"] (spStands K) := ok_stands FSs T Cc FIn bIn mIn FAn bAn mAn FPl bPl mPl FPw bPw mPw
  have GIw : FnOk P w K mg base CX0 1 _ fdIw ["lines"] (spWhole K) := ok_whole FIw T Cc
  have GWl : FnOk P w K mg base CX0 5 _ fdWl ["text", "can_stand", "is_whole"] (spWrong _ _) := ok_wrong FWl T Cc GSs FSs.kp bSs GIw FIw.kp bIw
  have GCi : FnOk P w K mg base CX0 3 _ fdCi ["self", "names"] (spCircI K (gC K)) := ok_circI FCi T Cc CC FIn bIn mIn FAn bAn mAn
  have GRp : FnOk P w K mg base CX0 1 _ fdRp ["words"] (spReadPieces K) := ok_readPieces FRp T Cc
  have GAs : FnOk P w K mg base CX0 1 _ fdAs ["circle", "pieces"] (spAllSpots (gC K)) := ok_allSpots FAs T Cc CC
  have GPa : FnOk P w K mg base CX0 1 _ fdPa ["shelf", "spot"] (spPieceAt (gC K) (gS K)) := ok_pieceAt FPa CC SC
  have GPc : FnOk P w K mg base CX0 1 _ fdPc ["parts", "piece"] spPieceCode := ok_pieceCode FPc Cc
  have GSi : FnOk P w K mg base CX0 6 _ fdSi ["self", "text"] (spShelfI (gC K) (gS K)) := ok_shelfI (fN := 0) FSi T Cc CC SC GWl FWl.kp bWl mWl mSs mIw GCi bCi mCi GRp FRp.kp bRp mRp GAs FAs.kp bAs mAs GPa FPa.kp bPa mPa GPc FPc.kp bPc mPc
  have GH : FnOk P w K mg base CX0 8 _ fdlH ["lore"] (spShelf (gC K) (gS K)) := ok_shelf FlH T SC mSh FlX blX mlX GSi bSi
  have GK : FnOk P w K mg base CX0 1 _ fdlK ["lore"] spKeepers := ok_keepers FlK T Cc
  have GSe : FnOk P w K mg base CX0 1 _ fdSe ["self", "other"] (spShelfEq K (gS K)) := ok_shelfEq FSe T SC IS mSh
  have GE : FnOk P w K mg base CX0 9 _ fdlE ["pot", "lore", "shelf"] (spEqRight (gC K) (gS K)) := ok_eqRight (fL := 0) FlE T CC SC IC IS SE MSe NS GSe bSe GX FlX.kp blX mlX GK FlK.kp blK mlK GQ FlQ.kp blQ mlQ GH FlH.kp blH mlH
  have GRk : FnOk P w K mg base CX0 2 _ fdRk ["shelf", "value"] (spRefKeeper (gC K) (gS K)) := ok_refKeeper FRk CC SC MCc FCc bCc
  have GRr : FnOk P w K mg base CX0 3 _ fdRr ["shelf", "value"] (spRefRecord (gC K) (gS K)) := ok_refRecord FRr T Cc SC FAb bAb mAb FIc bIc mIc
  have GWo : FnOk P w K mg base CX0 1 _ fdWo ["shelf", "piece", "record"] (spWorth (gC K) (gS K)) := ok_worth FWo T Cc SC
  have GAw : FnOk P w K mg base CX0 4 _ fdAw ["shelf", "keeper", "record"] (spAnswer (gC K) (gS K)) := ok_answer FAw CC SC GRk FRk.kp bRk mRk GRr FRr.kp bRr mRr GWo FWo.kp bWo mWo
  have GLA : FnOk P w K mg base CX0 2 _ fdlA ["lore", "keeper", "record"] spLAnswer := ok_lanswer FlA T Cc FlV blV mlV
  have GZ : FnOk P w K mg base CX0 1 _ fdlZ ["lore", "lot"] (spSpots K) := ok_spots FlZ T
  have GIs : FnOk P w K mg base CX0 2 _ fdIs ["shelf", "value"] (spIsSum (gC K) (gS K)) := ok_isSum FIs T Cc hB SC FIi bIi mIi FIr bIr mIr
  have GOd : FnOk P w K mg base CX0 1 _ fdOd ["parts", "pieces"] (spOdd K) := ok_odd FOd T Cc
  have GCt : FnOk P w K mg base CX0 3 _ fdCt ["shelf", "spots"] (spComesTo (gC K) (gS K)) := ok_comesTo FCt CC SC GIs FIs.kp bIs mIs GOd FOd.kp bOd mOd GPa FPa.kp bPa mPa
  have GLD : FnOk P w K mg base CX0 1 _ fdlD ["lore", "some"] spLComes := ok_lcomes FlD T Cc
  have GCe : FnOk P w K mg base CX0 1 _ fdCe ["self", "other"] (spCircEq (gC K)) := ok_circEq FCe T CC IC mCi
  have GSl : FnOk P w K mg base CX0 1 _ fdSl ["self"] (spShelfLen (gC K) (gS K)) := ok_shelfLen FSl T SC
  have GRe : FnOk P w K mg base CX0 1 _ fdlR ["lore"] spRecords := ok_records FlR Cc
  have GR : FnG P w K mg base 10 _ fdlG ["pot"] spRight := ok_right (fCI := 0) FlG T Cc CC SC GLo ⟨FlL.kp, blL, mlL⟩ GH ⟨FlH.kp, blH, mlH⟩ GK ⟨FlK.kp, blK, mlK⟩ GX ⟨FlX.kp, blX, mlX⟩ GE ⟨FlE.kp, blE, mlE⟩ GSo ⟨FlS.kp, blS, mlS⟩ GRe ⟨FlR.kp, blR, mlR⟩
    GAw ⟨FAw.kp, bAw, mAw⟩ GLA ⟨FlA.kp, blA, mlA⟩ GZ ⟨FlZ.kp, blZ, mlZ⟩ GT ⟨FlT.kp, blT, mlT⟩ GCt ⟨FCt.kp, bCt, mCt⟩ GLD ⟨FlD.kp, blD, mlD⟩ GCi bCi mCi GCe bCe NC GSl bSl MSl
  exact ok_law Flaw T GR FlG.kp blG mlG FlC blC mlC FlP blP mlP
theorem walkY {l : PySem.W.OpenLaw} {n lev : Nat} {q : Program} {loose : List Str} {XP : (Str → Option Value) → Heap → Prop} {YP : World → Heap → Prop} {d : DefRec} {sp : PySem.W.Frag → Sp} {x : Str}
    (hn : l.most = some n) (hn2 : n ≤ sizeLine) (hdf : d.params.defaults = []) (room : Room lev callerA)
    (F : ∀ (w : World) (mg : Str → Option Value) (fa : Addr) (h : Heap), YP w h → h.Ns mainGlobals mg → mg d.name = some (.ref fa) →
      ∃ (K : PySem.W.Frag) (fD : FuncData), K.In h ∧ (∀ (s : Shared) (u : Value), BindsTo s fD ⟨[u], []⟩ [(x, u)]) ∧
        ∀ base : Heap, K.In base → base.Ns mainGlobals mg → FnG l.prog w K mg base lev fa fD [x] (sp K))
    (hsp : ∀ (K : PySem.W.Frag) (H : Hp) (a : Addr) (ns : List Int), ns.length ≤ n → Only H → SqL K H a (ns.map V.int) → sp K [.ref a] H (fun v _ => v = .bl true) E0) :
    PySem.W.WalkO q loose XP YP l.row.toRowW d [] (fun f vs => PySem.call f vs) := by
  refine Att.attach_call hn hdf ?_
  intro w s₀ s₁ mg mb fa o pm cd doc a vs ns G Y ho hd hcd hmg hobj hints hlen hg
  obtain ⟨K, fD, KX, hb, hF⟩ := F w mg fa _ Y G.T.g hmg
  exact gcall KX G.T.g G.T.b G.T.builtins G.T.nolimit hg hobj hints (Nat.le_trans hlen hn2) room hF hb fun H hO hS => hsp _ H a ns hlen hO hS
abbrev R0 : PySem.W.OpenRow := PySem.W.OpenLaw.row PySem.Challenge.rw_lotkeepers_k06_shelves_as_they_are_told
def ob (s : PySem.W.SharedT) : He.AlD × Bool := obK (HandSHeadRun.getT s)
theorem ob_eq (s : PySem.W.SharedT) : ob s = hk.obs s.abs := by
  have e : HandSHeadRun.getT s = s.abs.heap.get? := funext (HandSHeadRun.getT_eq s)
  show obK (HandSHeadRun.getT s) = obK s.abs.heap.get?
  rw [e]
def others0 : List Str := ["LotError", "BadNames", "BadLot", "BadShelf", "NoKeeper", "BadRecord", "BadSum", "LETTERS", "is_integer", "is_row", "is_name", "are_names", "are_bits", "wrong_line", "Circle", "is_lot", "refuse_lot", "less", "MOST_PARTS", "LEAST_KEEPERS", "MOST_KEEPERS", "MOST_PIECES", "Shelf", "answer", "comes_to", "stands_in_shelf", "is_parts_line", "is_piece_word", "is_whole_shelf", "read_pieces"]
def others1 : List Str := ["all_spots", "piece_at", "piece_code", "odd_parts", "worth", "is_record", "is_sum", "refuse_keeper", "refuse_record", "_law_pot", "_law_take", "_law_of", "_law_some", "_law_cells", "_law_names", "_law_lore", "_law_piece", "_law_text", "_law_shelf", "_law_keepers", "_law_records", "_law_value", "_law_answer", "_law_spots", "_law_comes_to", "_law_are_equal_right", "_law_right"]
def others : List Str := others0 ++ others1
end K6
set_option Elab.async false
set_option linter.all false
set_option maxRecDepth 100000
set_option maxHeartbeats 0
namespace K6
open PySem PySem.Spec PyProof.Rows L2 Lk
theorem run (w : World) : HandSHeadRun.RunEq R0 (PySem.W.view R0.prog [62]) hk ob 13200 others w := by
  intro os
  kernel_rfl
end K6
set_option Elab.async false
set_option linter.all false
set_option maxRecDepth 100000
set_option maxHeartbeats 0
open PySem PySem.W PySem.Calls PyProof.Rows in
theorem PySem.Challenge.cw_lotkeepers_k06_shelves_as_they_are_told_holds : PySem.Challenge.rw_lotkeepers_k06_shelves_as_they_are_told.Holds := by
  w_on; o_law
  refine HandSHeadRun.head_any (r := OpenLaw.row PySem.Challenge.rw_lotkeepers_k06_shelves_as_they_are_told) (q := view (OpenLaw.row PySem.Challenge.rw_lotkeepers_k06_shelves_as_they_are_told).prog [62]) (H := K6.hk) (ob := K6.ob) (M := 13200) (loose := K6.others) (d := HandSHeadRun.topDef (OpenLaw.row PySem.Challenge.rw_lotkeepers_k06_shelves_as_they_are_told).prog 62) (kwd := []) K6.ob_eq
    (by kernel_rfl) (fun s => by kernel_rfl) K6.run (by kernel_rfl) (by kernel_rfl) (by kernel_rfl) (by rfl) (by first | assumption | decide +kernel) (by decide +kernel) ⟨rfl, rfl, rfl, rfl, rfl, by decide +kernel⟩ ?hw ?hc
  case hw => w_witness2
  case hc =>
    refine K6.walkY (l := PySem.Challenge.rw_lotkeepers_k06_shelves_as_they_are_told) (n := 63) (lev := 11) (x := "script") (sp := K6.spLaw) rfl (by decide) (by kernel_rfl) ⟨rfl, by decide, by decide⟩ ?F fun K H a ns hl _ hS => ⟨a, ns, rfl, hS, hl, fun _ => rfl⟩
    intro w mg fa h Y G hmg0
    obtain ⟨K, KX, c⟩ := Y
    have hmg : mg ("law" : PySem.Str) = some (.ref fa) := by
      have e : (HandSHeadRun.topDef (OpenLaw.row PySem.Challenge.rw_lotkeepers_k06_shelves_as_they_are_told).prog 62).name = ("law" : PySem.Str) := by kernel_rfl
      rw [← e]
      exact hmg0
    obtain ⟨fd, hb, hF⟩ := K6.facts (P := (PySem.Challenge.rw_lotkeepers_k06_shelves_as_they_are_told).prog) (w := w) KX G hmg c
    exact ⟨K, fd, KX, hb, hF⟩
